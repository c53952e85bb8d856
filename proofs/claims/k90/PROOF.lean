import PyProof.Rows.All
import Wide.All
import OpenK.AllK
import Wide.FinOn
import Lean
import PyProof.EqAt
import PyProof.EqKinds
import PyProof.TupleCall
import PySem.Challenge.RW_twinstride_k90_stands_written_and_read
set_option Elab.async false
set_option linter.all false
set_option maxRecDepth 100000
set_option maxHeartbeats 4000000
set_option compiler.extract_closed false
set_option Elab.async false
set_option linter.all false
set_option maxRecDepth 100000
/-! THE HAND LAYER, for ints, bools, texts, own classes, LISTS and tuples (index, slices, in, append, pop ..), calls, loops. Paste it whole ahead of your own text; what your proof does not reach may be deleted. -/
namespace L2
open PySem PySem.Spec PyProof.Rows

/-- a key: an int or a str -/
noncomputable abbrev Key := Sum Int Str
noncomputable def keyIs : Key → Value → Bool
  | .inl k, v => Value.isInt k v
  | .inr x, v => Value.isStrOf x v
noncomputable def keyH (w : World) : Key → Int
  | .inl k => hashInt k
  | .inr x => hashStr w x
theorem keyIs_shape : ∀ {k : Key} {v : Value}, keyIs k v = true → (∃ i t, k = Sum.inl i ∧ v = Value.int i t) ∨ (∃ x t, k = Sum.inr x ∧ v = Value.str x t)
  | .inl i, v, h => by
    obtain ⟨t, e⟩ := Value.isInt_shape (k := i) (v := v) h
    exact .inl ⟨i, t, rfl, e⟩
  | .inr x, v, h => by
    obtain ⟨t, e⟩ := Value.isStrOf_shape (x := x) (v := v) h
    exact .inr ⟨x, t, rfl, e⟩
theorem keyIs_int (i : Int) (t : Tok) : keyIs (.inl i) (.int i t) = true := by simp [keyIs, Value.isInt]
theorem keyIs_str (x : Str) (t : Tok) : keyIs (.inr x) (.str x t) = true := by simp [keyIs, Value.isStrOf]
theorem key_ll (a b : Int) : decide ((Sum.inl a : Key) = Sum.inl b) = (a == b) := by
  by_cases e : a = b
  · subst e; simp
  · have h : ¬ (Sum.inl a : Key) = Sum.inl b := fun q => e (Sum.inl.inj q)
    rw [decide_eq_false h]
    exact (beq_eq_false_iff_ne.mpr e).symm
theorem key_rr (a b : Str) : decide ((Sum.inr a : Key) = Sum.inr b) = decide (a = b) := by
  by_cases e : a = b
  · subst e; simp
  · have h : ¬ (Sum.inr a : Key) = Sum.inr b := fun q => e (Sum.inr.inj q)
    rw [decide_eq_false h, decide_eq_false e]
theorem key_lr (a : Int) (b : Str) : decide ((Sum.inl a : Key) = Sum.inr b) = false := decide_eq_false (fun q => nomatch q)
theorem key_rl (a : Str) (b : Int) : decide ((Sum.inr a : Key) = Sum.inl b) = false := decide_eq_false (fun q => nomatch q)

noncomputable def mixKind (prog : Program) (w : World) : PySem.KeyKind prog w Key where
  is := keyIs
  hash := keyH w
  inj := fun v a b ha hb => by
    rcases keyIs_shape ha with ⟨i, t, rfl, rfl⟩ | ⟨x, t, rfl, rfl⟩
    · rcases keyIs_shape hb with ⟨j, u, rfl, e⟩ | ⟨y, u, rfl, e⟩
      · injection e with e1 _; rw [e1]
      · exact nomatch e
    · rcases keyIs_shape hb with ⟨j, u, rfl, e⟩ | ⟨y, u, rfl, e⟩
      · exact nomatch e
      · injection e with e1 _; rw [e1]
  byValue := fun k v h => by
    rcases keyIs_shape h with ⟨i, t, rfl, rfl⟩ | ⟨x, t, rfl, rfl⟩ <;> rfl
  pyHash := fun hv h => by
    rcases keyIs_shape hv with ⟨i, t, rfl, rfl⟩ | ⟨x, t, rfl, rfl⟩
    · exact wpAny_pyHash_int h
    · exact wpAny_pyHash_str h
  eqBool := fun hu hv h => by
    rcases keyIs_shape hu with ⟨i, t, rfl, rfl⟩ | ⟨x, t, rfl, rfl⟩
    · rcases keyIs_shape hv with ⟨j, u, rfl, rfl⟩ | ⟨y, u, rfl, rfl⟩
      · rw [key_ll] at h; exact wpAny_eqBool_int h
      · rw [key_lr] at h; exact SeqAt.EqAt.int_str i t y u _ _ _ _ h
    · rcases keyIs_shape hv with ⟨j, u, rfl, rfl⟩ | ⟨y, u, rfl, rfl⟩
      · rw [key_rl] at h; exact SeqAt.EqAt.str_int x t j u _ _ _ _ h
      · rw [key_rr] at h; exact wpAny_eqBool_str h
  «strs» := fun k x t v h => by
    rcases keyIs_shape h with ⟨i, u, rfl, e⟩ | ⟨y, u, rfl, e⟩
    · exact nomatch e
    · injection e with e1 _
      subst e1
      cases v <;> rfl

theorem mixKind_int (prog : Program) (w : World) (i : Int) (t : Tok) : (mixKind prog w).is (.inl i) (.int i t) = true := keyIs_int i t
theorem mixKind_str (prog : Program) (w : World) (x : Str) (t : Tok) : (mixKind prog w).is (.inr x) (.str x t) = true := keyIs_str x t
end L2

namespace L2
open PySem PySem.Spec PyProof.Rows

/-- a value, without the heap -/
inductive V where
  | non | bl (b : Bool) | int (i : Int) | str (x : Str) | byt (b : Array UInt8) | flt (b : UInt64) | ref (a : Addr) | ty (n : String)
  deriving DecidableEq

noncomputable def RelV : V → Value → Prop
  | .non, u => u = Value.none
  | .bl b, u => u = Value.bool b
  | .int i, u => ∃ t, u = Value.int i t
  | .str x, u => ∃ t, u = Value.str x t
  | .byt b, u => ∃ t, u = Value.bytes b t
  | .flt b, u => ∃ t, u = Value.float b t
  | .ref a, u => u = Value.ref a
  | .ty n, u => u = Value.type n

noncomputable abbrev Vals : List V → List Value → Prop := Paired RelV
theorem Vals.length {xs : List V} {us : List Value} (r : Vals xs us) : xs.length = us.length := Paired.length r
theorem Vals.get : ∀ {xs : List V} {us : List Value} {i : Nat} {x : V}, Vals xs us → xs[i]? = some x → ∃ u, us[i]? = some u ∧ RelV x u
  | _, _, _, _, .nil, e => by simp at e
  | _, _, 0, _, .cons r _, e => by simp at e; subst e; exact ⟨_, rfl, r⟩
  | _, _, i + 1, x, .cons _ t, e => by
    obtain ⟨u, h1, h2⟩ := Vals.get (i := i) (x := x) t (by simpa using e)
    exact ⟨u, by simpa using h1, h2⟩
theorem Vals.set {x : V} {u : Value} (r : RelV x u) : ∀ {xs : List V} {us : List Value} (i : Nat), Vals xs us → Vals (xs.set i x) (us.set i u)
  | _, _, _, .nil => .nil
  | _, _, 0, .cons _ t => .cons r t
  | _, _, i + 1, .cons q t => .cons q (Vals.set r i t)
theorem Vals.append : ∀ {xs ys : List V} {us ws : List Value}, Vals xs us → Vals ys ws → Vals (xs ++ ys) (us ++ ws)
  | _, _, _, _, .nil, s => s
  | _, _, _, _, .cons r t, s => .cons r (Vals.append t s)
theorem Vals.take : ∀ {xs : List V} {us : List Value} (n : Nat), Vals xs us → Vals (xs.take n) (us.take n)
  | _, _, 0, _ => .nil
  | _, _, _ + 1, .nil => .nil
  | _, _, n + 1, .cons r t => .cons r (Vals.take n t)
theorem Vals.drop : ∀ {xs : List V} {us : List Value} (n : Nat), Vals xs us → Vals (xs.drop n) (us.drop n)
  | _, _, 0, r => r
  | _, _, _ + 1, .nil => .nil
  | _, _, n + 1, .cons _ t => Vals.drop n t

noncomputable def RelO : Option V → Option Value → Prop
  | some v, some u => RelV v u
  | none, none => True
  | _, _ => False
noncomputable def KV {κ : Type} : List (κ × V) → List (κ × Value) → Prop := Paired fun (p : κ × V) (q : κ × Value) => p.1 = q.1 ∧ RelV p.2 q.2

/-- a key of a dict (00_mix): an int or a text -/
noncomputable def kV : Key → V
  | .inl i => .int i
  | .inr x => .str x

/-- what stands at a tracked address -/
inductive HO where
  /-- a list -/
  | lst (xs : List V)
  /-- a tuple (never changes) -/
  | tup (xs : List V)
  /-- a dict whose keys are ints and texts; one whose keys are tuples of ints and texts (the empty one is both) -/
  | dK (kvs : List (Key × V)) | dT (kvs : List (List Key × V))
  /-- a set of ints: its members, its size -/
  | set (S : Int → Bool) (n : Nat)
  /-- an instance of the class at C, its dict at dx, its attributes -/
  | ins (C dx : Addr) (fs : List (Str × V))
  /-- the dict of the instance at x -/
  | own (x : Addr)
  /-- the dict of an exception -/
  | xd (fs : List (Str × V))
  /-- a bound method, f of x -/
  | met (f x : Addr)
  /-- a range object lo, lo + 1, .. below hi -/
  | rng (lo hi : Int)
  /-- a thing that is known to the object (the script; a dict while a loop walks it): read, never written while it is so -/
  | frz (o : Obj) (u : HO)
  /-- a code object's table -/
  | tbl (ps : Array Value)
  /-- any other thing, by what is true of its one object (a def of one's own: SetO a S n := HO.ext fun h => ..) -/
  | ext (φ : Heap → Prop)

noncomputable abbrev Hp := Addr → Option HO
noncomputable def upd (H : Hp) (a : Addr) (o : HO) : Hp := fun b => if b = a then some o else H b
theorem upd_same {H : Hp} {a : Addr} {o : HO} : upd H a o a = some o := by unfold upd; rw [if_pos rfl]
theorem upd_ne {H : Hp} {a b : Addr} {o : HO} (h : b ≠ a) : upd H a o b = H b := by unfold upd; rw [if_neg h]
/-- two objects of different content stand apart -/
theorem ne_of {H : Hp} {a b : Addr} {o u : HO} (h : H a = some o) (h' : H b = some u) (d : o ≠ u) : a ≠ b := by
  intro e; subst e; rw [h] at h'; exact d (Option.some.inj h')
theorem ne_of_none {H : Hp} {a b : Addr} {o : HO} (h : H a = some o) (h' : H b = none) : a ≠ b := by
  intro e; subst e; rw [h] at h'; cases h'

section
variable (P : Program) (w : World)
noncomputable def ObjOk (H : Hp) (h : Heap) (a : Addr) : HO → Prop
  | .lst xs => xs.length ≤ sizeLine ∧ ∃ (its : List Value) (n : Nat), Vals xs its ∧ h.get? a = some { cls := .type "list", data := .seq its.toArray n }
  | .tup xs => xs.length ≤ sizeLine ∧ ∃ its : List Value, Vals xs its ∧ ∃ o, h.get? a = some o ∧ (o.cls = .type "tuple" ∧ ∃ n, o.data = .seq its.toArray n) ∧ o.dict = none
  | .dK kvs => kvs.length ≤ sizeLine ∧ (a == sysModules) = false ∧ ∃ vs, KV kvs vs ∧ h.DictOf (mixKind P w) a vs
  | .dT kvs => kvs.length ≤ sizeLine ∧ (a == sysModules) = false ∧ ∃ xs : List (List Key × Addr × Value),
      Paired (fun (p : List Key × V) (q : List Key × Addr × Value) => p.1 = q.1 ∧ H q.2.1 = some (.tup (p.1.map kV)) ∧ RelV p.2 q.2.2) kvs xs ∧
      ∃ o es ep, h.get? a = some o ∧ o.ExactDict ∧ o.data = .dict es ep ∧ es.toList = xs.map (entryOfKey (tupleKind (mixKind P w))) ∧ (xs.map (·.1)).Nodup
  | .set S n => h.SetOf (intKind P w) a S n
  | .ins C dx fs => H dx = some (.own a) ∧ fs.length ≤ 1000 ∧ dx ≠ a ∧ h.get? a = some (PySem.W.instObj C dx) ∧
      ∃ mA, h.Ns1 dx mA ∧ (∀ f, RelO (fs.lookup f) (mA f)) ∧ PySem.Within mA (fs.map (·.1))
  | .own _ => ∃ o, h.get? a = some o
  | .xd fs => ∃ mA, h.Ns1 a mA ∧ ∀ f, RelO (fs.lookup f) (mA f)
  | .rng lo hi => ∃ t u v, h.get? a = some { cls := .type "range", data := .fields #[.int lo t, .int hi u, .int 1 v] }
  | .frz o u => h.get? a = some o ∧ ObjOk H h a u
  | .tbl ps => h.get? a = some { cls := .none, data := .fields ps }
  | .met f x => h.get? a = some (PySem.W.methodObj (.ref f) (.ref x))
  | .ext φ => φ h ∧ (∃ o, h.get? a = some o) ∧ ∀ h1 h2 : Heap, φ h1 → (∀ o, h1.get? a = some o → h2.get? a = some o) → φ h2
/-- the abstract heap is held -/
noncomputable def HOk (H : Hp) (h : Heap) : Prop := ∀ a o, H a = some o → ObjOk P w H h a o
end

section
variable {P : Program} {w : World} {H H' : Hp} {h h' : Heap} {a : Addr} {o : HO}
theorem ObjOk.lt (x : ObjOk P w H h a o) : a < h.objs.size := by
  cases o with
  | lst xs => obtain ⟨_, _, _, _, e⟩ := x; exact Heap.lt_size e
  | tup xs => obtain ⟨_, _, _, _, e, _⟩ := x; exact Heap.lt_size e
  | dK kvs => obtain ⟨_, _, _, _, o, _, _, e, _⟩ := x; exact Heap.lt_size e
  | dT kvs => obtain ⟨_, _, _, _, o, _, _, e, _⟩ := x; exact Heap.lt_size e
  | set S n => obtain ⟨o, _, _, _, e, _⟩ := x; exact Heap.lt_size e
  | ins C dx fs => obtain ⟨_, _, _, e, _⟩ := x; exact Heap.lt_size e
  | own y => obtain ⟨_, e⟩ := x; exact Heap.lt_size e
  | xd fs => obtain ⟨_, ⟨_, _, _, e, _⟩, _⟩ := x; exact Heap.lt_size e
  | rng lo hi => obtain ⟨_, _, _, e⟩ := x; exact Heap.lt_size e
  | frz ob u => obtain ⟨e, _⟩ := x; exact Heap.lt_size e
  | tbl ps => exact Heap.lt_size (show h.get? a = some _ from x)
  | met f y => exact Heap.lt_size (show h.get? a = some _ from x)
  | ext φ => obtain ⟨_, ⟨_, e⟩, _⟩ := x; exact Heap.lt_size e
theorem Paired.mapP {α β : Type} {F G : α → β → Prop} : ∀ {l₁ : List α} {l₂ : List β}, Paired F l₁ l₂ → (∀ a b, F a b → G a b) → Paired G l₁ l₂
  | _, _, .nil, _ => .nil
  | _, _, .cons r t, f => .cons (f _ _ r) (Paired.mapP t f)
/-- what an object's description leans on: its own object, its own dict, the tuples -/
theorem ObjOk.stay (x : ObjOk P w H h a o) (k : ∀ b u, (b = a ∨ H b = some (.own a)) → h.get? b = some u → h'.get? b = some u)
    (ho : ∀ b, H b = some (.own a) → H' b = some (.own a)) (ht : ∀ b xs, H b = some (.tup xs) → H' b = some (.tup xs)) : ObjOk P w H' h' a o := by
  induction o with
  | lst xs => obtain ⟨z, its, n, r, e⟩ := x; exact ⟨z, its, n, r, k _ _ (.inl rfl) e⟩
  | tup xs => obtain ⟨z, its, r, ob, e, c⟩ := x; exact ⟨z, its, r, ob, k _ _ (.inl rfl) e, c⟩
  | dK kvs => obtain ⟨z, y, vs, r, ob, es, ep, e, c⟩ := x; exact ⟨z, y, vs, r, ob, es, ep, k _ _ (.inl rfl) e, c⟩
  | dT kvs =>
    obtain ⟨z, y, xs, r, ob, es, ep, e, c⟩ := x
    exact ⟨z, y, xs, Paired.mapP r fun p q z => ⟨z.1, ht _ _ z.2.1, z.2.2⟩, ob, es, ep, k _ _ (.inl rfl) e, c⟩
  | set S n => obtain ⟨ob, es, ep, t, e, c⟩ := x; exact ⟨ob, es, ep, t, k _ _ (.inl rfl) e, c⟩
  | ins C dx fs =>
    obtain ⟨d, z, ne, e, mA, ⟨od, es, ep, e2, c⟩, r⟩ := x
    exact ⟨ho _ d, z, ne, k _ _ (.inl rfl) e, mA, ⟨od, es, ep, k _ _ (.inr d) e2, c⟩, r⟩
  | own y => obtain ⟨ob, e⟩ := x; exact ⟨ob, k _ _ (.inl rfl) e⟩
  | xd fs => obtain ⟨mA, ⟨od, es, ep, e, c⟩, r⟩ := x; exact ⟨mA, ⟨od, es, ep, k _ _ (.inl rfl) e, c⟩, r⟩
  | rng lo hi => obtain ⟨t, u, v, e⟩ := x; exact ⟨t, u, v, k _ _ (.inl rfl) e⟩
  | frz ob u ih => obtain ⟨e, q⟩ := x; exact ⟨k _ _ (.inl rfl) e, ih q⟩
  | tbl ps =>
    have e : h.get? a = some { cls := .none, data := .fields ps } := x
    show h'.get? a = some { cls := .none, data := .fields ps }
    exact k a _ (.inl rfl) e
  | met f y =>
    have e : h.get? a = some (PySem.W.methodObj (.ref f) (.ref y)) := x
    show h'.get? a = some (PySem.W.methodObj (.ref f) (.ref y))
    exact k a _ (.inl rfl) e
  | ext φ => obtain ⟨p, ⟨o, e⟩, st⟩ := x; exact ⟨st _ _ p fun o q => k _ _ (.inl rfl) q, ⟨o, k _ _ (.inl rfl) e⟩, st⟩
theorem HOk.lt (x : HOk P w H h) (e : H a = some o) : a < h.objs.size := (x a o e).lt
theorem HOk.fresh (x : HOk P w H h) (e : h.objs.size ≤ a) : H a = none := by
  cases q : H a with
  | none => rfl
  | some u => exact absurd (Nat.lt_of_lt_of_le (x.lt q) e) (Nat.lt_irrefl _)
/-- every object of the heap is kept -/
theorem HOk.kept (x : HOk P w H h) (k : ∀ b u, h.get? b = some u → h'.get? b = some u) : HOk P w H h' := fun a o e =>
  (x a o e).stay (fun b u _ q => k b u q) (fun _ q => q) fun _ _ q => q
/-- a new object is laid and tracked -/
theorem HOk.laid (x : HOk P w H h) (k : ∀ b u, h.get? b = some u → h'.get? b = some u) (hp : h.objs.size ≤ a) (new : ObjOk P w (upd H a o) h' a o) : HOk P w (upd H a o) h' := fun b u e => by
  have hn := x.fresh hp
  by_cases hb : b = a
  · subst hb; rw [upd_same] at e; cases e; exact new
  · rw [upd_ne hb] at e
    exact (x b u e).stay (fun c v _ q => k c v q) (fun c q => by rw [upd_ne (ne_of_none q hn)]; exact q) fun c xs q => by rw [upd_ne (ne_of_none q hn)]; exact q
end

/-- what may be read as u: it is u, or a known u -/
noncomputable def Rd (H : Hp) (a : Addr) (u : HO) : Prop := H a = some u ∨ ∃ o, H a = some (.frz o u)
theorem Rd.ok {P : Program} {w : World} {H : Hp} {h : Heap} {a : Addr} {u : HO} (r : Rd H a u) (x : HOk P w H h) : ObjOk P w H h a u := by
  rcases r with r | ⟨o, r⟩
  · exact x a u r
  · obtain ⟨_, q⟩ := x a _ r
    exact q
/-- what may be written -/
noncomputable def Mut : Option HO → Prop
  | some (.lst _) => True
  | some (.dK _) => True
  | some (.dT _) => True
  | some (.set _ _) => True
  | some (.ins _ _ _) => True
  | some (.ext _) => True
  | _ => False
section
variable {P : Program} {w : World} {H : Hp} {h h' : Heap} {x e : Addr} {o' : HO}
/-- the object at e is changed: x itself, or the dict of the instance x -/
theorem HOk.write (ok : HOk P w H h) (mu : Mut (H x)) (he : e = x ∨ H e = some (.own x)) (k : ∀ b u, b ≠ e → h.get? b = some u → h'.get? b = some u) (heo : ∃ u, h'.get? e = some u)
    (new : ObjOk P w (upd H x o') h' x o') : HOk P w (upd H x o') h' := fun b u q => by
  have nown : ∀ c y, H c = some (.own y) → c ≠ x := fun c y r z => by subst z; rw [r] at mu; exact mu
  have ntup : ∀ c xs, H c = some (.tup xs) → c ≠ x := fun c xs r z => by subst z; rw [r] at mu; exact mu
  by_cases hb : b = x
  · subst hb; rw [upd_same] at q; cases q; exact new
  · rw [upd_ne hb] at q
    by_cases hbe : b = e
    · have q' : H b = some (.own x) := by
        rcases he with z | z
        · exact absurd (hbe.trans z) hb
        · rw [hbe]; exact z
      rw [q] at q'; cases q'
      obtain ⟨v, hv⟩ := heo
      exact ⟨v, by rw [hbe]; exact hv⟩
    · refine (ok b u q).stay (fun c v hc r => k c v ?_ r) (fun c r => by rw [upd_ne (nown c b r)]; exact r) fun c xs r => by rw [upd_ne (ntup c xs r)]; exact r
      rcases hc with rfl | hc
      · exact hbe
      · rintro rfl
        rcases he with z | z
        · exact nown c b hc z
        · rw [hc] at z; cases z; exact hb rfl
end

/-! ### kept unless tracked; of the frames at fs (the callers') the slots may change (an exception that passes writes there); of the records at ex (iterators) nothing is said -/
structure Un (fs ex : List Addr) (H H' : Hp) (h h' : Heap) : Prop where
  keep : ∀ b o, h.get? b = some o → H b = none → b ∉ fs → b ∉ ex → h'.get? b = some o
  slot : ∀ b o, h.get? b = some o → H b = none → b ∈ fs → b ∉ ex → ∃ sl, h'.get? b = some { o with slots := sl }
  free : ∀ b o, h.get? b = some o → H b = none → b ∉ ex → H' b = none
  there : ∀ b o, h.get? b = some o → b ∉ ex → ∃ o', h'.get? b = some o'
  tups : ∀ b xs, H b = some (.tup xs) → H' b = some (.tup xs)
  frzs : ∀ b o u, H b = some (.frz o u) → H' b = some (.frz o u)
  tbls : ∀ b ps, H b = some (.tbl ps) → ∃ more, H' b = some (.tbl (ps ++ more))
section
variable {fs fs' ex ex' : List Addr} {H H1 H2 : Hp} {h h1 h2 h' : Heap} {a x e : Addr} {o : HO}
theorem Un.any (u : Un fs ex H H1 h h1) {b : Addr} {ob : Obj} (q : h.get? b = some ob) (n : H b = none) (hx : b ∉ ex) : ∃ sl, h1.get? b = some { ob with slots := sl } := by
  by_cases hb : b ∈ fs
  · exact u.slot b ob q n hb hx
  · exact ⟨ob.slots, u.keep b ob q n hb hx⟩
theorem Un.kept (k : ∀ b u, h.get? b = some u → h'.get? b = some u) : Un fs ex H H h h' :=
  ⟨fun b ob q _ _ _ => k b ob q, fun b ob q _ _ _ => ⟨ob.slots, k b ob q⟩, fun _ _ _ n _ => n, fun b ob q _ => ⟨ob, k b ob q⟩, fun _ _ q => q, fun _ _ _ q => q, fun _ ps q => ⟨#[], by rw [q]; simp⟩⟩
theorem Un.refl : Un fs ex H H h h := Un.kept fun _ _ q => q
theorem Un.laid (k : ∀ b u, h.get? b = some u → h'.get? b = some u) (hp : h.objs.size ≤ a) (hn : H a = none) : Un fs ex H (upd H a o) h h' where
  keep := fun b u q _ _ _ => k b u q
  slot := fun b u q _ _ _ => ⟨u.slots, k b u q⟩
  free := fun b u q n _ => by rw [upd_ne (Nat.ne_of_lt (Nat.lt_of_lt_of_le (Heap.lt_size q) hp))]; exact n
  there := fun b u q _ => ⟨u, k b u q⟩
  tups := fun b xs q => by rw [upd_ne (ne_of_none q hn)]; exact q
  frzs := fun b u xs q => by rw [upd_ne (ne_of_none q hn)]; exact q
  tbls := fun b ps q => ⟨#[], by rw [upd_ne (ne_of_none q hn), q]; simp⟩
theorem Un.write (mu : Mut (H x)) (he : e = x ∨ H e = some (.own x)) (k : ∀ b u, b ≠ e → h.get? b = some u → h'.get? b = some u) (heo : ∃ u, h'.get? e = some u) : Un fs ex H (upd H x o) h h' := by
  have hx : ∀ b, H b = none → b ≠ x := fun b n z => by subst z; rw [n] at mu; exact mu
  have hb : ∀ b, H b = none → b ≠ e := fun b n z => by
    subst z
    rcases he with r | r
    · exact hx b n r
    · rw [n] at r; cases r
  have hm : ∀ b u, H b = some u → ¬ Mut (some u) → b ≠ x := fun b u q nm z => by subst z; rw [q] at mu; exact nm mu
  refine ⟨fun b u q n _ _ => k b u (hb b n) q, fun b u q n _ _ => ⟨u.slots, k b u (hb b n) q⟩, fun b u q n _ => by rw [upd_ne (hx b n)]; exact n, fun b u q _ => ?_,
    fun b xs q => by rw [upd_ne (hm b _ q fun z => z)]; exact q, fun b u xs q => by rw [upd_ne (hm b _ q fun z => z)]; exact q, fun b ps q => ⟨#[], by rw [upd_ne (hm b _ q fun z => z), q]; simp⟩⟩
  by_cases hbe : b = e
  · subst hbe; exact heo
  · exact ⟨u, k b u hbe q⟩
end

/-! ### the heap without what is tracked -/
noncomputable def trk (h : Heap) (H : Hp) : List Addr := (List.range h.objs.size).filter fun a => (H a).isSome
noncomputable def hidT (h : Heap) (H : Hp) : Heap := PySem.W.hideAll h (trk h H)
theorem hidT_size (h : Heap) (H : Hp) : (hidT h H).objs.size = h.objs.size := PySem.W.hideAll_size _ _
theorem hidT_get {h : Heap} {H : Hp} {b : Addr} {o : Obj} (e : h.get? b = some o) (n : H b = none) : (hidT h H).get? b = some o :=
  PySem.W.hideAll_get _ e fun hm => by
    have q : (H b).isSome = true := (List.mem_filter.mp hm).2
    rw [n] at q; simp at q
theorem of_hidT {h : Heap} {H : Hp} {b : Addr} {o : Obj} (e : (hidT h H).get? b = some o) : h.get? b = some o ∧ H b = none := by
  have e' : h.get? b = some o := PySem.W.of_hideAll (trk h H) e
  refine ⟨e', ?_⟩
  cases q : H b with
  | none => rfl
  | some x =>
    have hm : b ∈ trk h H := List.mem_filter.mpr ⟨List.mem_range.mpr (Heap.lt_size e'), by simp [q]⟩
    have z : (hidT h H).get? b = none := PySem.W.hideAll_none (trk h H) hm
    rw [z] at e; cases e

/-! ### OpenK's ledger, filled with every new object but one -/
end L2

namespace L2
open PySem PySem.Spec PyProof.Rows

/-- the module's facts, over the base: the heap at the law's entry without what is tracked there -/
structure Mod (K : PySem.W.Frag) (mg : Str → Option Value) (base : Heap) : Prop where
  kin : K.In base
  glob : base.Ns mainGlobals mg
  blt : ∃ mb, base.Ns builtinsNs mb ∧ ∀ x : Str, x ≠ "__name__" → mb x = bootBuiltins x
  nolimit : base.NoLimit

/-- the context: a def's body (or a comprehension's block) running. base: fixed through the whole law; s₀, H₀: the entry; outer: the frames whose slots others may change (a def's callers); stack: all frames that run;
   ex: iterators that were made ahead of the entry and are walked here (a comprehension's); fn: the names whose cells were made at the entry (a def: all; a comprehension's block: its own); calm: not within an except suite; pn: pins that every state bears; xe: what is wanted of an exception that leaves the code -/
structure Cx where
  prog : Program
  w : World
  K : PySem.W.Frag
  mg : Str → Option Value
  base : Heap
  A : Around
  N : List Str
  s₀ : Shared
  H₀ : Hp
  env : Env
  outer : List Env
  stack : List Env
  ex : List Addr
  fn : Str → Bool
  calm : Bool
  pn : List (Addr × Obj)
  xe : Value → Shared → Prop
/-- the callers' frames -/
noncomputable def frs (l : List Env) : List Addr := l.filterMap (·.frame)
noncomputable abbrev Cx.fs (X : Cx) : List Addr := frs X.outer

noncomputable def Vis (sc : Scope) (x : Str) : Prop := sc.names.lookup x = some .local ∨ sc.names.lookup x = some .cell ∨ sc.names.lookup x = some .free
noncomputable def Loc (sc : Scope) (x : Str) : Prop := sc.names.lookup x = some .local ∨ sc.names.lookup x = some .cell
noncomputable def Look (env : Env) (h : Heap) (m : Str → Option Value) (x : Str) (u : Value) : Prop :=
  (env.kindOf x = some .local ∧ m x = some u) ∨ ((env.kindOf x = some .cell ∨ env.kindOf x = some .free) ∧ ∃ c, env.cells.lookup x = some c ∧ h.IsCell c (some u))

structure Cx.Ok (X : Cx) : Prop where
  mod : Mod X.K X.mg X.base
  kind : X.env.scope.kind = .function
  glob : X.env.globals = mainGlobals
  blt : X.env.builtins = builtinsNs
  above : X.s₀.heap.objs.size ≤ X.env.locals
  inj : ∀ x y c, X.env.cells.lookup x = some c → X.env.cells.lookup y = some c → x = y
  has : ∀ x, (X.env.kindOf x = some .cell ∨ X.env.kindOf x = some .free) → ∃ c, X.env.cells.lookup x = some c
  cab : ∀ x c, X.fn x = true → X.env.cells.lookup x = some c → X.s₀.heap.objs.size ≤ c
  hd : X.calm = true → X.A.handled = none
  frames : X.A.frames = some X.stack
  stk : X.stack = X.outer ∨ (X.stack = X.env :: X.outer ∧ X.env.frame = some X.env.locals)
  exf : ∀ b ∈ X.ex, b ≠ X.env.locals ∧ ∀ x c, X.env.cells.lookup x = some c → c ≠ b
  bs : ∀ b o, X.base.get? b = some o → X.s₀.heap.get? b = some o ∧ X.H₀ b = none
  bsz : X.base.objs.size ≤ X.s₀.heap.objs.size
  noex : ∀ b o, X.base.get? b = some o → b ∉ X.ex
  exfs : ∀ b ∈ X.ex, b ∉ X.fs
  funs : X.s₀.heap.FunFrames X.base X.outer
  frf : ∀ b ∈ X.fs, X.H₀ b = none

structure Inv (X : Cx) (pins : List (Addr × Obj)) (σ : List (Option V)) (H : Hp) (s : Shared) : Prop where
  ok : X.Ok
  os : s.os = X.s₀.os
  bare : AllBare s.gens
  base : Un X.fs X.ex X.H₀ H X.s₀.heap s.heap
  loc : ∃ m, s.heap.Ns X.env.locals m ∧ ∀ (i : Nat) (x : Str) (v : V), X.N[i]? = some x → σ[i]? = some (some v) → Vis X.env.scope x → ∃ u, RelV v u ∧ Look X.env s.heap m x u
  cell : ∀ x c, X.env.cells.lookup x = some c → ∃ v, s.heap.IsCell c v
  free : H X.env.locals = none
  freeC : ∀ x c, X.env.cells.lookup x = some c → H c = none
  pin : ∀ p ∈ X.pn ++ pins, s.heap.get? p.1 = some p.2 ∧ H p.1 = none ∧ p.1 ≠ X.env.locals ∧ p.1 ∉ X.fs ∧ ∀ v, p.2.data ≠ .cell v
  hok : HOk X.prog X.w H s.heap
  len : σ.length = X.N.length

section
variable {X : Cx} {pins : List (Addr × Obj)} {σ : List (Option V)} {H H' : Hp} {s : Shared} {h' : Heap}

theorem Cx.Ok.nofr (ok : X.Ok) {b : Addr} {o : Obj} (e : X.base.get? b = some o) : b ∉ X.fs := fun hb => by
  have := (ok.funs.mem hb).1
  rw [e] at this; cases this
theorem Inv.bs (I : Inv X pins σ H s) : ∀ b o, X.base.get? b = some o → s.heap.get? b = some o ∧ H b = none := fun b o e =>
  ⟨I.base.keep b o (I.ok.bs b o e).1 (I.ok.bs b o e).2 (I.ok.nofr e) (I.ok.noex b o e), I.base.free b o (I.ok.bs b o e).1 (I.ok.bs b o e).2 (I.ok.noex b o e)⟩
theorem Inv.bk (I : Inv X pins σ H s) : ∀ b o, X.base.get? b = some o → s.heap.get? b = some o := fun b o e => (I.bs b o e).1
theorem Inv.mod (I : Inv X pins σ H s) : Mod X.K X.mg X.base := I.ok.mod
theorem Inv.kIn (I : Inv X pins σ H s) : X.K.In s.heap := I.ok.mod.kin.keeps I.bk
theorem Inv.lt (I : Inv X pins σ H s) : X.env.locals < s.heap.objs.size := let ⟨_, hn, _⟩ := I.loc; hn.lt
theorem Inv.sz (I : Inv X pins σ H s) : X.s₀.heap.objs.size ≤ s.heap.objs.size := Nat.le_trans I.ok.above (Nat.le_of_lt I.lt)
theorem Inv.nofs (I : Inv X pins σ H s) {a : Addr} (h : s.heap.objs.size ≤ a) : a ∉ X.fs := fun hb => by
  obtain ⟨_, o, ho, _⟩ := I.ok.funs.mem hb
  exact absurd (Nat.lt_of_lt_of_le (Heap.lt_size ho) (Nat.le_trans I.sz h)) (Nat.lt_irrefl _)
theorem Inv.cne (I : Inv X pins σ H s) : ∀ x c, X.env.cells.lookup x = some c → c ≠ X.env.locals := fun x c e z => by
  obtain ⟨v, o, ho, hd⟩ := I.cell x c e
  obtain ⟨m, ⟨o', es, ep, ho', hd', _⟩, _⟩ := I.loc
  rw [z, ho'] at ho; cases ho; rw [hd'] at hd; cases hd
theorem Inv.funs (I : Inv X pins σ H s) : s.heap.FunFrames X.base X.outer := by
  have all : ∀ (l : List Env), (∀ b ∈ frs l, b ∈ X.fs) → X.s₀.heap.FunFrames X.base l → s.heap.FunFrames X.base l := by
    intro l
    induction l with
    | nil => intro _ _; trivial
    | cons env r ih =>
      intro hs hl
      obtain ⟨hk, ⟨L, o, hf, hn, ho, hd⟩, hr⟩ := hl
      have hL : L ∈ X.fs := hs L (by unfold frs; rw [List.filterMap_cons, hf]; exact List.mem_cons_self)
      obtain ⟨sl, e⟩ := I.base.slot L o ho (I.ok.frf L hL) hL fun z => I.ok.exfs L z hL
      exact ⟨hk, ⟨L, _, hf, hn, e, hd⟩, ih (fun b hb => hs b (by unfold frs; rw [List.filterMap_cons, hf]; exact List.mem_cons_of_mem _ hb)) hr⟩
  exact all X.outer (fun _ hb => hb) I.ok.funs

/-- the frames that run, for a call -/
theorem Inv.stack (I : Inv X pins σ H s) : s.heap.FunFrames X.base X.stack := by
  rcases I.ok.stk with e | ⟨e, hf⟩
  · rw [e]; exact I.funs
  · rw [e]
    obtain ⟨m, hn, _⟩ := I.loc
    refine .cons (by rw [I.ok.kind]; decide) hf hn ?_ I.funs
    exact Heap.get?_none_of_le (Nat.le_trans I.ok.bsz I.ok.above)
theorem Inv.stkSub (I : Inv X pins σ H s) : ∀ b ∈ frs X.stack, b ∈ X.env.locals :: X.fs := fun b hb => by
  rcases I.ok.stk with e | ⟨e, hf⟩
  · rw [e] at hb; exact List.mem_cons_of_mem _ hb
  · rw [e] at hb
    unfold frs at hb
    rw [List.filterMap_cons, hf] at hb
    exact hb
theorem Inv.stkFree (I : Inv X pins σ H s) : ∀ b ∈ frs X.stack, H b = none := fun b hb => by
  rcases List.mem_cons.mp (I.stkSub b hb) with e | hb
  · rw [e]; exact I.free
  · obtain ⟨_, o, ho, _⟩ := I.ok.funs.mem hb
    exact I.base.free b o ho (I.ok.frf b hb) fun z => I.ok.exfs b z hb

/-- THE STEP: the untracked objects but the frame and the records at ch are kept (the callers' frames up to slots), the frame's map is kept, the new abstract heap is held -/
theorem Inv.step {g' : Array GenState} {t' : Nat} {d' : Drawn} {ch : List Addr} (I : Inv X pins σ H s)
    (hch : ∀ b ∈ ch, (b ∈ X.ex ∨ X.s₀.heap.objs.size ≤ b) ∧ b ≠ X.env.locals ∧ (∀ x c, X.env.cells.lookup x = some c → c ≠ b) ∧ ∀ p ∈ X.pn ++ pins, p.1 ≠ b)
    (keep : ∀ b o, b ≠ X.env.locals → b ∉ X.fs → b ∉ ch → s.heap.get? b = some o → H b = none → h'.get? b = some o)
    (slot : ∀ b o, b ≠ X.env.locals → b ∈ X.fs → b ∉ ch → s.heap.get? b = some o → H b = none → ∃ sl, h'.get? b = some { o with slots := sl }) (free : ∀ b o, b ∉ ch → s.heap.get? b = some o → H b = none → H' b = none)
    (there : ∀ b o, b ∉ ch → s.heap.get? b = some o → ∃ o', h'.get? b = some o')
    (tups : ∀ b xs, H b = some (.tup xs) → H' b = some (.tup xs)) (frzs : ∀ b o u, H b = some (.frz o u) → H' b = some (.frz o u)) (tbls : ∀ b ps, H b = some (.tbl ps) → ∃ more, H' b = some (.tbl (ps ++ more)))
    (ns : ∀ m, s.heap.Ns X.env.locals m → h'.Ns X.env.locals m) (hok : HOk X.prog X.w H' h') (hg : AllBare g') :
    Inv X pins σ H' { s with heap := h', gens := g', drawn := d', toks := t' } := by
  have neL : ∀ b o, X.s₀.heap.get? b = some o → b ≠ X.env.locals := fun b o e => Nat.ne_of_lt (Nat.lt_of_lt_of_le (Heap.lt_size e) I.ok.above)
  have neC : ∀ b o, X.s₀.heap.get? b = some o → b ∉ X.ex → b ∉ ch := fun b o e hx hb => by
    rcases (hch b hb).1 with z | z
    · exact hx z
    · exact absurd (Nat.lt_of_lt_of_le (Heap.lt_size e) z) (Nat.lt_irrefl _)
  have cellK : ∀ x c, X.env.cells.lookup x = some c → ∀ v, s.heap.IsCell c v → h'.IsCell c v := fun x c e v ⟨o, ho, hd⟩ => by
    have nch : c ∉ ch := fun z => (hch c z).2.2.1 x c e rfl
    by_cases hc : c ∈ X.fs
    · obtain ⟨sl, q⟩ := slot c o (I.cne x c e) hc nch ho (I.freeC x c e)
      exact ⟨_, q, hd⟩
    · exact ⟨o, keep c o (I.cne x c e) hc nch ho (I.freeC x c e), hd⟩
  refine ⟨I.ok, I.os, hg, ⟨fun b o e n hb hx => ?_, fun b o e n hb hx => ?_, fun b o e n hx => ?_, fun b o e hx => ?_, fun b xs e => tups b xs (I.base.tups b xs e), fun b o xs e => frzs b o xs (I.base.frzs b o xs e), fun b ps e => ?_⟩, ?_, fun x c e => ?_, ?_, fun x c e => ?_, fun p hp => ?_, hok, I.len⟩
  · exact keep b o (neL b o e) hb (neC b o e hx) (I.base.keep b o e n hb hx) (I.base.free b o e n hx)
  · obtain ⟨sl, e1⟩ := I.base.slot b o e n hb hx
    obtain ⟨sl', e2⟩ := slot b _ (neL b o e) hb (neC b o e hx) e1 (I.base.free b o e n hx)
    exact ⟨sl', e2⟩
  · obtain ⟨o', e1⟩ := I.base.there b o e hx
    exact free b o' (neC b o e hx) e1 (I.base.free b o e n hx)
  · obtain ⟨o', e1⟩ := I.base.there b o e hx
    exact there b o' (neC b o e hx) e1
  · obtain ⟨m1, e1⟩ := I.base.tbls b ps e
    obtain ⟨m2, e2⟩ := tbls b _ e1
    exact ⟨m1 ++ m2, by rw [e2, Array.append_assoc]⟩
  · obtain ⟨m, hn, hl⟩ := I.loc
    refine ⟨m, ns m hn, fun i x v e1 e2 e3 => ?_⟩
    obtain ⟨u, r, l⟩ := hl i x v e1 e2 e3
    refine ⟨u, r, ?_⟩
    rcases l with l | ⟨k, c, e, z⟩
    · exact .inl l
    · exact .inr ⟨k, c, e, cellK x c e _ z⟩
  · obtain ⟨v, z⟩ := I.cell x c e
    exact ⟨v, cellK x c e v z⟩
  · obtain ⟨m, ⟨o, _, _, ho, _⟩, _⟩ := I.loc
    exact free _ o (fun z => (hch _ z).2.1 rfl) ho I.free
  · obtain ⟨v, o, ho, hd⟩ := I.cell x c e
    exact free c o (fun z => (hch c z).2.2.1 x c e rfl) ho (I.freeC x c e)
  · obtain ⟨e, n, ne, nf, d⟩ := I.pin p hp
    have nch : p.1 ∉ ch := fun z => (hch p.1 z).2.2.2 p hp rfl
    exact ⟨keep p.1 p.2 ne nf nch e n, free p.1 p.2 nch e n, ne, nf, d⟩
/-- .. where the frame's own object is kept too -/
theorem Inv.un {t' : Nat} (I : Inv X pins σ H s) (u : Un X.fs [] H H' s.heap h') (hok : HOk X.prog X.w H' h') : Inv X pins σ H' { s with heap := h', toks := t' } := by
  obtain ⟨m, ⟨o, es, ep, ho, r⟩, _⟩ := id I.loc
  obtain ⟨sl, hL⟩ := u.any ho I.free (by simp)
  exact I.step (g' := s.gens) (d' := s.drawn) (ch := []) (fun _ z => nomatch z) (fun b o _ hb _ e n => u.keep b o e n hb (by simp)) (fun b o _ hb _ e n => u.slot b o e n hb (by simp)) (fun b o _ e n => u.free b o e n (by simp)) (fun b o _ e => u.there b o e (by simp)) u.tups u.frzs u.tbls (fun m' hm => by
    obtain ⟨o', es', ep', ho', r'⟩ := hm
    rw [ho] at ho'; cases ho'
    exact ⟨_, es', ep', hL, r'⟩) hok I.bare
/-- behind a call (or a comprehension's block): the slots of this frame may have changed too, the records at ch may have turned -/
theorem Inv.call {g' : Array GenState} {t' : Nat} {d' : Drawn} {ch : List Addr} (I : Inv X pins σ H s) (u : Un (frs X.stack) ch H H' s.heap h') (hok : HOk X.prog X.w H' h') (hg : AllBare g')
    (hch : ∀ b ∈ ch, (b ∈ X.ex ∨ X.s₀.heap.objs.size ≤ b) ∧ b ≠ X.env.locals ∧ (∀ x c, X.env.cells.lookup x = some c → c ≠ b) ∧ ∀ p ∈ X.pn ++ pins, p.1 ≠ b) :
    Inv X pins σ H' { s with heap := h', gens := g', drawn := d', toks := t' } := by
  obtain ⟨m, ⟨o, es, ep, ho, r⟩, _⟩ := id I.loc
  obtain ⟨sl, hL⟩ := u.any ho I.free fun z => (hch _ z).2.1 rfl
  exact I.step (ch := ch) hch (fun b o hL hb hc e n => u.keep b o e n (fun z => (List.mem_cons.mp (I.stkSub b z)).elim hL hb) hc) (fun b o _ _ hc e n => u.any e n hc) (fun b o hc e n => u.free b o e n hc) (fun b o hc e => u.there b o e hc) u.tups u.frzs u.tbls (fun m' hm => by
    obtain ⟨o', es', ep', ho', r'⟩ := hm
    rw [ho] at ho'; cases ho'
    exact ⟨_, es', ep', hL, r'⟩) hok hg
/-- an untracked record of ours (an iterator) has turned -/
theorem Inv.turned {t' : Nat} {it : Addr} (I : Inv X pins σ H s) (k : ∀ b o, b ≠ it → s.heap.get? b = some o → h'.get? b = some o) (hn : H it = none) (hL : it ≠ X.env.locals)
    (h1 : it ∈ X.ex ∨ X.s₀.heap.objs.size ≤ it) (h2 : ∀ x c, X.env.cells.lookup x = some c → c ≠ it) (h3 : ∀ p ∈ X.pn ++ pins, p.1 ≠ it) : Inv X pins σ H { s with heap := h', toks := t' } := by
  have nit : ∀ b u, H b = some u → b ≠ it := fun b u e z => by rw [z, hn] at e; cases e
  refine I.step (g' := s.gens) (d' := s.drawn) (ch := [it]) (fun b hb => ?_) (fun b o _ _ hc e _ => k b o (fun z => hc (by simp [z])) e) (fun b o _ _ hc e _ => ⟨o.slots, k b o (fun z => hc (by simp [z])) e⟩) (fun _ _ _ _ n => n)
    (fun b o hc e => ⟨o, k b o (fun z => hc (by simp [z])) e⟩) (fun _ _ e => e) (fun _ _ _ e => e) (fun b ps e => ⟨#[], by rw [e]; simp⟩) (fun m hm => ?_) (fun b u e => ?_) I.bare
  · have e : b = it := by simpa using hb
    subst e
    exact ⟨h1, hL, h2, h3⟩
  · obtain ⟨o, es, ep, ho, r⟩ := hm
    exact ⟨o, es, ep, k _ o (Ne.symm hL) ho, r⟩
  · refine (I.hok b u e).stay (fun c v hc q => k c v ?_ q) (fun _ q => q) fun _ _ q => q
    rcases hc with z | z
    · rw [z]; exact nit b u e
    · exact nit c _ z
theorem Inv.tok (I : Inv X pins σ H s) (t : Nat) : Inv X pins σ H { s with toks := t } := I.un (h' := s.heap) (t' := t) Un.refl I.hok
/-- all objects kept -/
theorem Inv.kept {t' : Nat} (I : Inv X pins σ H s) (k : ∀ b u, s.heap.get? b = some u → h'.get? b = some u) : Inv X pins σ H { s with heap := h', toks := t' } := I.un (Un.kept k) (I.hok.kept k)
/-- a new object laid and tracked -/
theorem Inv.laid {a : Addr} {o : HO} {t' : Nat} (I : Inv X pins σ H s) (k : ∀ b u, s.heap.get? b = some u → h'.get? b = some u) (hp : s.heap.objs.size ≤ a) (new : ObjOk X.prog X.w (upd H a o) h' a o) :
    Inv X pins σ (upd H a o) { s with heap := h', toks := t' } := I.un (Un.laid k hp (I.hok.fresh hp)) (I.hok.laid k hp new)
/-- an object written -/
theorem Inv.write {x e : Addr} {o : HO} {t' : Nat} (I : Inv X pins σ H s) (mu : Mut (H x)) (he : e = x ∨ H e = some (.own x)) (k : ∀ b u, b ≠ e → s.heap.get? b = some u → h'.get? b = some u) (heo : ∃ u, h'.get? e = some u)
    (new : ObjOk X.prog X.w (upd H x o) h' x o) : Inv X pins σ (upd H x o) { s with heap := h', toks := t' } := I.un (Un.write mu he k heo) (I.hok.write mu he k heo new)
theorem Inv.pins_of {pins' : List (Addr × Obj)} (I : Inv X pins σ H s) (h : ∀ p ∈ pins', s.heap.get? p.1 = some p.2 ∧ H p.1 = none ∧ p.1 ≠ X.env.locals ∧ p.1 ∉ X.fs ∧ ∀ v, p.2.data ≠ .cell v) : Inv X pins' σ H s :=
  ⟨I.ok, I.os, I.bare, I.base, I.loc, I.cell, I.free, I.freeC, fun p hp => (List.mem_append.mp hp).elim (fun z => I.pin p (List.mem_append_left _ z)) (h p), I.hok, I.len⟩

theorem nodup_ix {N : List Str} (hN : N.Nodup) {i j : Nat} {x : Str} (a : N[i]? = some x) (b : N[j]? = some x) : i = j := by
  obtain ⟨h1, e1⟩ := List.getElem?_eq_some_iff.mp a
  obtain ⟨h2, e2⟩ := List.getElem?_eq_some_iff.mp b
  exact (List.getElem_inj hN).mp (e1.trans e2.symm)

/-- a name is stored; what changed -/
theorem store_ok2 {M : Model} {A : Around} {E : Value → Shared → Prop} {i : Nat} {x : Str} {v : V} {u : Value} {Q : Unit → Shared → Prop} (I : Inv X pins σ H s) (hN : X.N.Nodup) (hi : X.N[i]? = some x) (hx : Loc X.env.scope x) (r : RelV v u)
    (h : ∀ s', Inv X pins (σ.set i (some v)) H s' → (∃ a, Heap.SameBut a s.heap s'.heap ∧ (a = X.env.locals ∨ X.env.cells.lookup x = some a)) → Q () s') (hf : X.fn x = true ∨ X.env.scope.names.lookup x = some .local := by first | exact .inl rfl | exact .inr rfl | assumption) : wpAny M A (storeName X.env x u) Q E s := by
  obtain ⟨m, hn, hl⟩ := id I.loc
  have hcls : (X.env.scope.kind == .class || (X.env.scope.kind == .module && X.env.locals != X.env.globals)) = false := by rw [I.ok.kind]; rfl
  have hiσ : i < σ.length := by rw [I.len]; exact (List.getElem?_eq_some_iff.mp hi).1
  have cne := I.cne
  have tracked : ∀ {a : Addr} {h' : Heap}, (∃ o, s.heap.get? a = some o ∧ H a = none) → Heap.SameBut a s.heap h' → HOk X.prog X.w H h' := fun {a h'} ha hs b ob e => by
    obtain ⟨_, _, hfree⟩ := ha
    refine (I.hok b ob e).stay (fun c w' hc q => (hs.2 c ?_).trans q) (fun _ q => q) fun _ _ q => q
    rintro rfl
    rcases hc with rfl | hc
    · rw [hfree] at e; cases e
    · rw [hfree] at hc; cases hc
  rcases hx with hk | hk
  · refine wpAny_storeName_local hk hn (fun h' hn' hs => ?_) hcls
    obtain ⟨oL, _, _, hoL, _⟩ := id hn
    refine h _ ⟨I.ok, I.os, I.bare, ⟨fun b o e n hb hx => ?_, fun b o e n hb hx => ?_, I.base.free, fun b o e hx => ?_, I.base.tups, I.base.frzs, I.base.tbls⟩, ⟨_, hn', fun j y v' e1 e2 e3 => ?_⟩, fun y c e => ?_, I.free, I.freeC, fun p hp => ?_, tracked ⟨oL, hoL, I.free⟩ hs, by simpa using I.len⟩ ⟨_, hs, .inl rfl⟩
    · exact (hs.2 b (Nat.ne_of_lt (Nat.lt_of_lt_of_le (Heap.lt_size e) I.ok.above))).trans (I.base.keep b o e n hb hx)
    · obtain ⟨sl, e1⟩ := I.base.slot b o e n hb hx
      exact ⟨sl, (hs.2 b (Nat.ne_of_lt (Nat.lt_of_lt_of_le (Heap.lt_size e) I.ok.above))).trans e1⟩
    · obtain ⟨o', e1⟩ := I.base.there b o e hx
      exact ⟨o', (hs.2 b (Nat.ne_of_lt (Nat.lt_of_lt_of_le (Heap.lt_size e) I.ok.above))).trans e1⟩
    · by_cases hj : j = i
      · subst hj
        rw [hi] at e1; cases e1
        rw [List.getElem?_set_self hiσ] at e2
        cases e2
        exact ⟨u, r, .inl ⟨hk, by simp⟩⟩
      · rw [List.getElem?_set_ne (Ne.symm hj)] at e2
        obtain ⟨u', r', q⟩ := hl j y v' e1 e2 e3
        refine ⟨u', r', ?_⟩
        rcases q with ⟨k, e⟩ | ⟨k, c, e, z⟩
        · refine .inl ⟨k, ?_⟩
          have : y ≠ x := fun e => hj (nodup_ix hN e1 (e ▸ hi))
          simp [this, e]
        · exact .inr ⟨k, c, e, z.sameBut hs (cne y c e)⟩
    · obtain ⟨w', z⟩ := I.cell y c e
      exact ⟨w', z.sameBut hs (cne y c e)⟩
    · obtain ⟨e, n, ne, nf, d⟩ := I.pin p hp
      exact ⟨(hs.2 p.1 ne).trans e, n, ne, nf, d⟩
  · have hfn : X.fn x = true := by
      rcases hf with z | z
      · exact z
      · rw [z] at hk; cases hk
    obtain ⟨c, hc⟩ := I.ok.has x (.inl hk)
    obtain ⟨w', z⟩ := I.cell x c hc
    refine wpAny_storeName_cell I.ok.kind hk hc z (fun h' hc' hs => ?_)
    obtain ⟨oc, hoc, hocd⟩ := id z
    refine h { s with heap := h' } ⟨I.ok, I.os, I.bare, ⟨fun b o e n hb hx => ?_, fun b o e n hb hx => ?_, I.base.free, fun b o e hx => ?_, I.base.tups, I.base.frzs, I.base.tbls⟩, ⟨m, hn.sameBut hs (Ne.symm (cne x c hc)), fun j y v' e1 e2 e3 => ?_⟩, fun y c' e => ?_, I.free, I.freeC, fun p hp => ?_, tracked ⟨oc, hoc, I.freeC x c hc⟩ hs, by simpa using I.len⟩ ⟨c, hs, .inr hc⟩
    · exact (hs.2 b (Nat.ne_of_lt (Nat.lt_of_lt_of_le (Heap.lt_size e) (I.ok.cab x c hfn hc)))).trans (I.base.keep b o e n hb hx)
    · obtain ⟨sl, e1⟩ := I.base.slot b o e n hb hx
      exact ⟨sl, (hs.2 b (Nat.ne_of_lt (Nat.lt_of_lt_of_le (Heap.lt_size e) (I.ok.cab x c hfn hc)))).trans e1⟩
    · obtain ⟨o', e1⟩ := I.base.there b o e hx
      exact ⟨o', (hs.2 b (Nat.ne_of_lt (Nat.lt_of_lt_of_le (Heap.lt_size e) (I.ok.cab x c hfn hc)))).trans e1⟩
    · by_cases hj : j = i
      · subst hj
        rw [hi] at e1; cases e1
        rw [List.getElem?_set_self hiσ] at e2
        cases e2
        exact ⟨u, r, .inr ⟨.inl hk, c, hc, hc'⟩⟩
      · rw [List.getElem?_set_ne (Ne.symm hj)] at e2
        obtain ⟨u', r', q⟩ := hl j y v' e1 e2 e3
        refine ⟨u', r', ?_⟩
        rcases q with q | ⟨k, c', e, z'⟩
        · exact .inl q
        · refine .inr ⟨k, c', e, z'.sameBut hs ?_⟩
          rintro rfl
          exact hj (nodup_ix hN e1 (I.ok.inj _ _ _ e hc ▸ hi))
    · by_cases hcc : c' = c
      · subst hcc; exact ⟨_, hc'⟩
      · obtain ⟨w2, z2⟩ := I.cell y c' e
        exact ⟨w2, z2.sameBut hs hcc⟩
    · obtain ⟨e, n, ne, nf, d⟩ := I.pin p hp
      refine ⟨(hs.2 p.1 ?_).trans e, n, ne, nf, d⟩
      intro q
      rw [q, hoc] at e
      have q' : oc = p.2 := Option.some.inj e
      exact d w' (by rw [← q']; exact hocd)
theorem store_ok {M : Model} {A : Around} {E : Value → Shared → Prop} {i : Nat} {x : Str} {v : V} {u : Value} {Q : Unit → Shared → Prop} (I : Inv X pins σ H s) (hN : X.N.Nodup) (hi : X.N[i]? = some x) (hx : Loc X.env.scope x) (r : RelV v u)
    (h : ∀ s', Inv X pins (σ.set i (some v)) H s' → Q () s') (hf : X.fn x = true ∨ X.env.scope.names.lookup x = some .local := by first | exact .inl rfl | exact .inr rfl | assumption) : wpAny M A (storeName X.env x u) Q E s :=
  store_ok2 I hN hi hx r (fun s' I' _ => h s' I') hf
/-- behind a call or a block, the state as it is -/
theorem Inv.call' {s' : Shared} {ch : List Addr} (I : Inv X pins σ H s) (ho : s'.os = s.os) (u : Un (frs X.stack) ch H H' s.heap s'.heap) (hok : HOk X.prog X.w H' s'.heap) (hg : AllBare s'.gens)
    (hch : ∀ b ∈ ch, (b ∈ X.ex ∨ X.s₀.heap.objs.size ≤ b) ∧ b ≠ X.env.locals ∧ (∀ x c, X.env.cells.lookup x = some c → c ≠ b) ∧ ∀ p ∈ X.pn ++ pins, p.1 ≠ b) : Inv X pins σ H' s' := by
  obtain ⟨h', g', d', t', o'⟩ := s'
  have e : o' = s.os := ho
  subst e
  exact I.call (g' := g') (t' := t') (d' := d') u hok hg hch
end

/-! ### the judgements -/
/-- an exception: its class, its own dict's address (where it has one), the abstract heap behind it -/
noncomputable abbrev XK := Value → Option Addr → Hp → Prop
noncomputable abbrev St := List (Option V)
noncomputable abbrev VK := V → Hp → Prop
/-- an expression's reading; a test's; an argument list's -/
noncomputable abbrev TE := St → Hp → VK → Prop
noncomputable abbrev TT := St → Hp → (Bool → Hp → Prop) → Prop
noncomputable abbrev TA := St → Hp → (List V → Hp → Prop) → Prop
/-- what is wanted behind a statement -/
structure Ends where
  nx : St → Hp → Prop
  rt : VK
  bk : St → Hp → Prop := fun _ _ => False
  ct : St → Hp → Prop := fun _ _ => False
noncomputable abbrev TS := Ends → St → Hp → Prop

noncomputable def EP (X : Cx) (pins : List (Addr × Obj)) (σ : St) (Q : VK) (u : Value) (s' : Shared) : Prop := ∃ v H', Inv X pins σ H' s' ∧ RelV v u ∧ Q v H'
noncomputable def TP (X : Cx) (pins : List (Addr × Obj)) (σ : St) (Q : Bool → Hp → Prop) (b : Bool) (s' : Shared) : Prop := ∃ H', Inv X pins σ H' s' ∧ Q b H'
noncomputable def AP (X : Cx) (pins : List (Addr × Obj)) (σ : St) (Q : List V → Hp → Prop) (us : List Value) (s' : Shared) : Prop := ∃ vs H', Inv X pins σ H' s' ∧ Vals vs us ∧ Q vs H'
noncomputable def SP (X : Cx) (pins : List (Addr × Obj)) (D : Ends) (f : Flow) (s' : Shared) : Prop :=
  match f with
  | .next => ∃ σ' H', Inv X pins σ' H' s' ∧ D.nx σ' H'
  | .brk => ∃ σ' H', Inv X pins σ' H' s' ∧ D.bk σ' H'
  | .cont => ∃ σ' H', Inv X pins σ' H' s' ∧ D.ct σ' H'
  | .ret u => ∃ v σ' H', Inv X pins σ' H' s' ∧ RelV v u ∧ D.rt v H'

noncomputable def PE (X : Cx) (e : Expr) (t : TE) : Prop :=
  ∀ (pins : List (Addr × Obj)) (s : Shared) (σ : St) (H : Hp) (Q : VK), Inv X pins σ H s → t σ H Q → wpAny (model X.prog X.w) X.A (eval e X.env) (EP X pins σ Q) X.xe s
noncomputable def PT (X : Cx) (e : Expr) (t : TT) : Prop :=
  ∀ (pins : List (Addr × Obj)) (s : Shared) (σ : St) (H : Hp) (Q : Bool → Hp → Prop), Inv X pins σ H s → t σ H Q → wpAny (model X.prog X.w) X.A (isTrue e X.env (eval e X.env)) (TP X pins σ Q) X.xe s
/-- a test whatever its 'whole' is (and, or) -/
noncomputable def PW (X : Cx) (e : Expr) (t : TT) : Prop :=
  ∀ (whole : Sem Value) (pins : List (Addr × Obj)) (s : Shared) (σ : St) (H : Hp) (Q : Bool → Hp → Prop), Inv X pins σ H s → t σ H Q → wpAny (model X.prog X.w) X.A (isTrue e X.env whole) (TP X pins σ Q) X.xe s
theorem PW.pt {X : Cx} {e : Expr} {t : TT} (h : PW X e t) : PT X e t := h _
/-- an argument list (no star), from the left -/
noncomputable def PA (X : Cx) (es : List Expr) (t : TA) : Prop :=
  ∀ (pos : Pos) (pins : List (Addr × Obj)) (s : Shared) (σ : St) (H : Hp) (Q : List V → Hp → Prop), Inv X pins σ H s → t σ H Q → wpAny (model X.prog X.w) X.A (spliced (backTo pos (starEach es X.env))) (AP X pins σ Q) X.xe s
noncomputable def PS (X : Cx) (st : Stmt) (t : TS) : Prop :=
  ∀ (pins : List (Addr × Obj)) (s : Shared) (σ : St) (H : Hp) (D : Ends), Inv X pins σ H s → t D σ H → wpAny (model X.prog X.w) X.A (exec st X.env) (SP X pins D) X.xe s
noncomputable def PSs (X : Cx) (st : List Stmt) (t : TS) : Prop :=
  ∀ (pins : List (Addr × Obj)) (s : Shared) (σ : St) (H : Hp) (D : Ends), Inv X pins σ H s → t D σ H → wpAny (model X.prog X.w) X.A (execs st X.env) (SP X pins D) X.xe s
/-- weaken the end -/
theorem thn {α : Type} {t : Sem α} {Q Q' : α → Shared → Prop} {M : Model} {A : Around} {E : Value → Shared → Prop} {s : Shared} (h : wpAny M A t Q E s) (hQ : ∀ a s, Q a s → Q' a s) : wpAny M A t Q' E s := wpAny_mono h hQ fun _ _ x => x
end L2

namespace L2
open PySem PySem.Spec PyProof.Rows
section
variable {X : Cx}

/-- two expressions in a row -/
theorem bin {a b : Expr} {ta tb : TE} (ha : PE X a ta) (hb : PE X b tb) {pins : List (Addr × Obj)} {s : Shared} {σ : St} {H : Hp} {R : V → V → Hp → Prop} (I : Inv X pins σ H s) (h : ta σ H fun x H1 => tb σ H1 fun y H2 => R x y H2)
    {α : Type} {Q : α → Shared → Prop} {f : Value → Value → Sem α}
    (hf : ∀ v u s2 x y H2, Inv X pins σ H2 s2 → RelV x v → RelV y u → R x y H2 → wpAny (model X.prog X.w) X.A (f v u) Q X.xe s2) :
    wpAny (model X.prog X.w) X.A (eval a X.env) (fun v s₁ => wpAny (model X.prog X.w) X.A (eval b X.env) (fun u s₂ => wpAny (model X.prog X.w) X.A (f v u) Q X.xe s₂) X.xe s₁) X.xe s := by
  refine thn (ha pins s σ H _ I h) fun v s1 ⟨x, H1, I1, r1, q1⟩ => ?_
  refine thn (hb pins s1 σ H1 _ I1 q1) fun u s2 ⟨y, H2, I2, r2, q2⟩ => ?_
  exact hf v u s2 x y H2 I2 r1 r2 q2

/-! ### names and constants -/
noncomputable def tVar (i : Nat) : TE := fun σ H Q => ∃ v, σ[i]? = some (some v) ∧ Q v H
noncomputable def tC (v : V) : TE := fun _ H Q => Q v H
theorem pe_var {i : Nat} {x : Str} {pos : Pos} (hN : X.N[i]? = some x) (hv : Vis X.env.scope x) (hd : (x == ("__debug__" : Str)) = false := by decide) (hcd : (x == ("__classdict__" : Str)) = false := by decide) : PE X (.Name x pos) (tVar i) := by
  intro pins s σ H Q I h
  obtain ⟨v, e, h⟩ := h
  obtain ⟨m, hn, hl⟩ := I.loc
  obtain ⟨u, r, l⟩ := hl i x v hN e hv
  have fin : EP X pins σ Q u s := ⟨v, H, I, r, h⟩
  rcases l with ⟨hk, hm⟩ | ⟨hk, c, hc, hcell⟩
  · exact wpAny_Name (wpAny_loadName_local I.ok.kind hk hn hm fin) hd
  · rcases hk with hk | hk
    · exact wpAny_Name (wpAny_loadName_cell I.ok.kind hk hc hcell fin) hd
    · exact wpAny_Name (wpAny_loadName_free I.ok.kind hk hc hcell fin hcd) hd
theorem pe_int {i j pos} : PE X (.Constant (.int i) j pos) (tC (.int i)) := fun _ _ _ H _ I h => wpAny_Constant_int ⟨.int i, H, I.tok _, ⟨_, rfl⟩, h⟩
theorem pe_bl {b j pos} : PE X (.Constant (.bool b) j pos) (tC (.bl b)) := fun _ _ _ H _ I h => Constant_bool ⟨.bl b, H, I, rfl, h⟩
theorem pe_non {j pos} : PE X (.Constant .none j pos) (tC .non) := fun _ _ _ H _ I h => Constant_none ⟨.non, H, I, rfl, h⟩
theorem pe_str {x j pos} : PE X (.Constant (.str x) j pos) (tC (.str x)) := fun _ _ _ H _ I h => Calls.Constant_str ⟨.str x, H, I.tok _, ⟨_, rfl⟩, h⟩

/-- a global name of the def -/
noncomputable def Gl (X : Cx) (x : Str) : Prop := X.env.kindOf x = some .globalImplicit
theorem ld_glob {E : Value → Shared → Prop} {pins : List (Addr × Obj)} {s : Shared} {σ : St} {H : Hp} {x : Str} {u : Value} {pos : Pos} {Q : Value → Shared → Prop} (I : Inv X pins σ H s) (hg : Gl X x) (hm : X.mg x = some u) (h : Q u s)
    (hd : (x == ("__debug__" : Str)) = false := by decide) : wpAny (model X.prog X.w) X.A (eval (.Name x pos) X.env) Q E s :=
  Calls.Name_function_global I.ok.kind hg (Calls.loadGlobal_global (by rw [I.ok.glob]; exact I.mod.glob.keeps I.bk) hm h) hd
theorem ld_blt {E : Value → Shared → Prop} {pins : List (Addr × Obj)} {s : Shared} {σ : St} {H : Hp} {x : Str} {u : Value} {pos : Pos} {Q : Value → Shared → Prop} (I : Inv X pins σ H s) (hg : Gl X x) (hm : X.mg x = none) (hv : bootBuiltins x = some u) (h : Q u s)
    (hn : x ≠ "__name__" := by decide) (hd : (x == ("__debug__" : Str)) = false := by decide) : wpAny (model X.prog X.w) X.A (eval (.Name x pos) X.env) Q E s := by
  obtain ⟨mb, h1, h2⟩ := I.mod.blt
  exact Calls.Name_function_global I.ok.kind hg (Calls.loadGlobal_builtin (by rw [I.ok.glob]; exact I.mod.glob.keeps I.bk) hm (by rw [I.ok.blt]; exact h1.keeps I.bk) ((h2 x hn).trans hv) h) hd
/-- a module's constant, a class, a function, as a value -/
theorem pe_glob {x : Str} {v : V} {u : Value} {pos : Pos} (hg : Gl X x) (hm : X.mg x = some u) (r : RelV v u) (hd : (x == ("__debug__" : Str)) = false := by decide) : PE X (.Name x pos) (tC v) :=
  fun _ _ _ H _ I h => ld_glob I hg hm ⟨v, H, I, r, h⟩ hd
theorem pe_bltn {x : Str} {v : V} {u : Value} {pos : Pos} (hg : Gl X x) (hm : X.mg x = none) (hv : bootBuiltins x = some u) (r : RelV v u) (hn : x ≠ "__name__" := by decide) (hd : (x == ("__debug__" : Str)) = false := by decide) : PE X (.Name x pos) (tC v) :=
  fun _ _ _ H _ I h => ld_blt I hg hm hv ⟨v, H, I, r, h⟩ hn hd

/-! ### arithmetic -/
variable {a b : Expr} {ta tb : TE} {pos : Pos}

/-! ### comparisons -/

/-! ### and, or, not -/
variable {tA tB' : TT} {rest : List Expr}
noncomputable def tAnd (t u : TT) : TT := fun σ H Q => t σ H fun c H1 => if c = true then u σ H1 Q else Q false H1
noncomputable def tOr (t u : TT) : TT := fun σ H Q => t σ H fun c H1 => if c = true then Q true H1 else u σ H1 Q
noncomputable def tNot (t : TT) : TT := fun σ H Q => t σ H fun c H1 => Q (!c) H1
theorem pw_and1 (ha : PT X a tA) : PW X (.BoolOp .And [a] pos) tA := by
  intro wh pins s σ H Q I h
  refine isTrue_and (thn (ha pins s σ H Q I h) fun c s1 e => ?_)
  cases c with
  | true => exact isTrue_and_nil e
  | false => exact e
theorem pw_or1 (ha : PT X a tA) : PW X (.BoolOp .Or [a] pos) tA := by
  intro wh pins s σ H Q I h
  refine isTrue_or (thn (ha pins s σ H Q I h) fun c s1 e => ?_)
  cases c with
  | false => exact isTrue_or_nil e
  | true => exact e
theorem pw_and (ha : PT X a tA) (hb : PW X (.BoolOp .And (b :: rest) pos) tB') : PW X (.BoolOp .And (a :: b :: rest) pos) (tAnd tA tB') := by
  intro wh pins s σ H Q I h
  refine isTrue_and (thn (ha pins s σ H _ I h) fun c s1 ⟨H1, I1, q1⟩ => ?_)
  cases c with
  | true => exact hb wh pins s1 σ H1 Q I1 q1
  | false => exact ⟨H1, I1, q1⟩
theorem pw_or (ha : PT X a tA) (hb : PW X (.BoolOp .Or (b :: rest) pos) tB') : PW X (.BoolOp .Or (a :: b :: rest) pos) (tOr tA tB') := by
  intro wh pins s σ H Q I h
  refine isTrue_or (thn (ha pins s σ H _ I h) fun c s1 ⟨H1, I1, q1⟩ => ?_)
  cases c with
  | true => exact ⟨H1, I1, q1⟩
  | false => exact hb wh pins s1 σ H1 Q I1 q1
theorem pt_not (ha : PT X a tA) : PT X (.UnaryOp .Not a pos) (tNot tA) := by
  intro pins s σ H Q I h
  exact isTrue_not (ha pins s σ H (fun c H1 => Q (!c) H1) I h)
/-- .. as values (bools) -/
noncomputable def tAndV (ta tb : TE) : TE := fun σ H Q => ta σ H fun x H1 => ∃ c, x = .bl c ∧ if c = true then tb σ H1 Q else Q (.bl false) H1
noncomputable def tOrV (ta tb : TE) : TE := fun σ H Q => ta σ H fun x H1 => ∃ c, x = .bl c ∧ if c = true then Q (.bl true) H1 else tb σ H1 Q
noncomputable def tNotV (ta : TE) : TE := fun σ H Q => ta σ H fun x H1 => ∃ c, x = .bl c ∧ Q (.bl (!c)) H1
theorem pe_one {op} {t : TE} (h : PE X a t) : PE X (.BoolOp op [a] pos) t := fun pins s σ H Q I hw => BoolOp_one (h pins s σ H Q I hw)
theorem pe_and (ha : PE X a ta) (hb : PE X (.BoolOp .And (b :: rest) pos) tb) : PE X (.BoolOp .And (a :: b :: rest) pos) (tAndV ta tb) := by
  intro pins s σ H Q I h
  refine BoolOp_and (thn (ha pins s σ H _ I h) fun v s1 ⟨x, H1, I1, r1, q1⟩ => ?_)
  obtain ⟨c, rfl, q1⟩ := q1
  cases r1
  refine wpAny_truthy_bool ?_
  cases c with
  | true => exact hb pins s1 σ H1 Q I1 q1
  | false => exact ⟨.bl false, H1, I1, rfl, q1⟩
theorem pe_or (ha : PE X a ta) (hb : PE X (.BoolOp .Or (b :: rest) pos) tb) : PE X (.BoolOp .Or (a :: b :: rest) pos) (tOrV ta tb) := by
  intro pins s σ H Q I h
  refine BoolOp_or (thn (ha pins s σ H _ I h) fun v s1 ⟨x, H1, I1, r1, q1⟩ => ?_)
  obtain ⟨c, rfl, q1⟩ := q1
  cases r1
  refine wpAny_truthy_bool ?_
  cases c with
  | false => exact hb pins s1 σ H1 Q I1 q1
  | true => exact ⟨.bl true, H1, I1, rfl, q1⟩
theorem pe_not (ha : PE X a ta) : PE X (.UnaryOp .Not a pos) (tNotV ta) := by
  intro pins s σ H Q I h
  refine UnaryOp_ (thn (ha pins s σ H _ I h) fun v s1 ⟨x, H1, I1, r1, q1⟩ => ?_)
  obtain ⟨c, rfl, q1⟩ := q1
  cases r1
  exact not_of (wpAny_truthy_bool ⟨.bl (!c), H1, I1, rfl, q1⟩)
/-- a if t else b -/
noncomputable def tIf (t : TT) (ta tb : TE) : TE := fun σ H Q => t σ H fun c H1 => if c = true then ta σ H1 Q else tb σ H1 Q
theorem pe_ifExp {c : Expr} (hc : PT X c tA) (ha : PE X a ta) (hb : PE X b tb) : PE X (.IfExp c a b pos) (tIf tA ta tb) := by
  intro pins s σ H Q I h
  refine wpAny_IfExp (thn (hc pins s σ H _ I h) fun d s1 ⟨H1, I1, q1⟩ => ?_)
  cases d with
  | true => exact ha pins s1 σ H1 Q I1 q1
  | false => exact hb pins s1 σ H1 Q I1 q1
end
end L2

namespace L2
open PySem PySem.Spec PyProof.Rows

/-! ### a list, a tuple that is read: tracked, frozen, or an object of the module -/
noncomputable def SqL (K : PySem.W.Frag) (H : Hp) (a : Addr) (xs : List V) : Prop :=
  Rd H a (.lst xs) ∨
    ∃ (o : Obj) (its : Array Value) (n : Nat), K.lookup a = some o ∧ o.cls = .type "list" ∧ o.dict = none ∧ o.data = .seq its n ∧ its.size ≤ sizeLine ∧ Vals xs its.toList
noncomputable def SqT (K : PySem.W.Frag) (H : Hp) (a : Addr) (xs : List V) : Prop :=
  Rd H a (.tup xs) ∨
    ∃ (o : Obj) (its : Array Value) (n : Nat), K.lookup a = some o ∧ o.cls = .type "tuple" ∧ o.data = .seq its n ∧ its.size ≤ sizeLine ∧ Vals xs its.toList
noncomputable def absV : Value → Option V
  | .none => some .non
  | .bool b => some (.bl b)
  | .int i _ => some (.int i)
  | .str x _ => some (.str x)
  | .bytes b _ => some (.byt b)
  | .float b _ => some (.flt b)
  | .ref a => some (.ref a)
  | .type n => some (.ty n)
  | _ => none
theorem RelV.abs {x : V} {u : Value} (r : RelV x u) : absV u = some x := by
  cases x with
  | non => cases r; rfl
  | bl _ => cases r; rfl
  | int _ => obtain ⟨t, rfl⟩ := r; rfl
  | str _ => obtain ⟨t, rfl⟩ := r; rfl
  | byt _ => obtain ⟨t, rfl⟩ := r; rfl
  | flt _ => obtain ⟨t, rfl⟩ := r; rfl
  | ref _ => cases r; rfl
  | ty _ => cases r; rfl
theorem RelV.inj {x y : V} {u : Value} (r : RelV x u) (q : RelV y u) : x = y := Option.some.inj (r.abs.symm.trans q.abs)
theorem Vals.inj : ∀ {xs ys : List V} {us : List Value}, Vals xs us → Vals ys us → xs = ys
  | _, _, _, .nil, .nil => rfl
  | _, _, _, .cons r t, .cons r' t' => by rw [r.inj r', Vals.inj t t']
section
variable {X : Cx} {pins : List (Addr × Obj)} {σ : St} {H : Hp} {s : Shared} {a : Addr} {xs ys : List V}
theorem SqL.of {K : PySem.W.Frag} (h : H a = some (.lst xs)) : SqL K H a xs := .inl (.inl h)
theorem Inv.list (I : Inv X pins σ H s) (h : SqL X.K H a xs) : ∃ its : List Value, Vals xs its ∧ PlainL s.heap a its.toArray ∧ xs.length ≤ sizeLine := by
  rcases h with h | ⟨o, its, n, hk, hc, hd, hs, hz, r⟩
  · obtain ⟨z, its, n, r, e⟩ := h.ok I.hok
    exact ⟨its, r, ⟨_, n, e, rfl, rfl, rfl⟩, z⟩
  · refine ⟨its.toList, r, ⟨o, n, I.kIn a o hk, hc, hd, by simpa using hs⟩, ?_⟩
    have e := r.length
    simp only [Array.length_toList] at e
    lia
theorem Inv.tuple (I : Inv X pins σ H s) (h : SqT X.K H a xs) : ∃ its : List Value, Vals xs its ∧ IsTup s.heap a its.toArray ∧ xs.length ≤ sizeLine := by
  rcases h with h | ⟨o, its, n, hk, hc, hs, hz, r⟩
  · obtain ⟨z, its, r, ob, e, c, _⟩ := h.ok I.hok
    exact ⟨its, r, ⟨ob, e, c⟩, z⟩
  · refine ⟨its.toList, r, ⟨o, I.kIn a o hk, hc, n, by simpa using hs⟩, ?_⟩
    have e := r.length
    simp only [Array.length_toList] at e
    lia
theorem Inv.list_inj (I : Inv X pins σ H s) (h : SqL X.K H a xs) (h' : SqL X.K H a ys) : xs = ys := by
  obtain ⟨its, r, ⟨o, n, e, _, _, d⟩, _⟩ := I.list h
  obtain ⟨its', r', ⟨o', n', e', _, _, d'⟩, _⟩ := I.list h'
  rw [e] at e'; cases e'
  rw [d] at d'
  injection d' with d1 _
  have : its = its' := by simpa using congrArg Array.toList d1
  subst this
  exact r.inj r'
theorem Inv.tuple_inj (I : Inv X pins σ H s) (h : SqT X.K H a xs) (h' : SqT X.K H a ys) : xs = ys := by
  obtain ⟨its, r, ⟨o, e, _, n, d⟩, _⟩ := I.tuple h
  obtain ⟨its', r', ⟨o', e', _, n', d'⟩, _⟩ := I.tuple h'
  rw [e] at e'; cases e'
  rw [d] at d'
  injection d' with d1 _
  have : its = its' := by simpa using congrArg Array.toList d1
  subst this
  exact r.inj r'
end

/-! ### another wish about exceptions -/
noncomputable abbrev Cx.wish (X : Cx) (E : Value → Shared → Prop) : Cx := { X with xe := E }
/-- no exception leaves -/
noncomputable abbrev Cx.nox (X : Cx) : Cx := X.wish fun _ _ => False
theorem Cx.Ok.wish {X : Cx} (ok : X.Ok) (E : Value → Shared → Prop) : (X.wish E).Ok :=
  ⟨ok.mod, ok.kind, ok.glob, ok.blt, ok.above, ok.inj, ok.has, ok.cab, ok.hd, ok.frames, ok.stk, ok.exf, ok.bs, ok.bsz, ok.noex, ok.exfs, ok.funs, ok.frf⟩
theorem Cx.Ok.unwish {X : Cx} {E : Value → Shared → Prop} (ok : (X.wish E).Ok) : X.Ok :=
  ⟨ok.mod, ok.kind, ok.glob, ok.blt, ok.above, ok.inj, ok.has, ok.cab, ok.hd, ok.frames, ok.stk, ok.exf, ok.bs, ok.bsz, ok.noex, ok.exfs, ok.funs, ok.frf⟩
section
variable {X : Cx} {pins : List (Addr × Obj)} {σ : St} {H : Hp} {s : Shared} {E : Value → Shared → Prop}
theorem Inv.wish (I : Inv X pins σ H s) (E : Value → Shared → Prop) : Inv (X.wish E) pins σ H s := ⟨I.ok.wish E, I.os, I.bare, I.base, I.loc, I.cell, I.free, I.freeC, I.pin, I.hok, I.len⟩
theorem Inv.unwish (I : Inv (X.wish E) pins σ H s) : Inv X pins σ H s := ⟨I.ok.unwish, I.os, I.bare, I.base, I.loc, I.cell, I.free, I.freeC, I.pin, I.hok, I.len⟩
end

/-! ### blocks and small statements -/
section
variable {X : Cx} {st : Stmt} {rest : List Stmt} {t u : TS} {e : Expr} {te : TE} {pos : Pos}
noncomputable def tNext : TS := fun D σ H => D.nx σ H
noncomputable def tSeq (t u : TS) : TS := fun D σ H => t { D with nx := u D } σ H
theorem pss_nil : PSs X [] tNext := fun _ _ σ H _ I h => wpAny_execs_nil ⟨σ, H, I, h⟩
theorem pss_cons (h1 : PS X st t) (h2 : PSs X rest u) : PSs X (st :: rest) (tSeq t u) := by
  intro pins s σ H D I h
  refine wpAny_execs_cons (thn (h1 pins s σ H { D with nx := u D } I h) fun f s1 q => ?_)
  cases f with
  | next =>
    obtain ⟨σ', H', I', q⟩ := q
    exact h2 pins s1 σ' H' D I' q
  | ret v => exact q
  | brk => exact q
  | cont => exact q
theorem pss_one (h1 : PS X st t) : PSs X [st] t := by
  intro pins s σ H D I h
  refine wpAny_execs_cons (thn (h1 pins s σ H D I h) fun f s1 q => ?_)
  cases f with
  | next => exact wpAny_execs_nil q
  | ret v => exact q
  | brk => exact q
  | cont => exact q
/-- in a def's body nothing is shown -/
theorem Inv.quiet {pins : List (Addr × Obj)} {σ : St} {H : Hp} {s : Shared} (I : Inv X pins σ H s) : interactive X.env = false := by simp [interactive, I.ok.kind]
/-- an expression whose value is dropped -/
noncomputable def tDrop (te : TE) : TS := fun D σ H => te σ H fun _ H1 => D.nx σ H1
theorem ps_expr (he : PE X e te) (hs : swapsWith e none pos.line X.env = pure false := by rfl) : PS X (.Expr e pos) (tDrop te) := by
  intro pins s σ H D I h
  exact wpAny_Expr_any (thn (he pins s σ H _ I h) fun v s1 ⟨x, H1, I1, r1, q1⟩ => ⟨σ, H1, I1, q1⟩) I.quiet hs
noncomputable def tRet (te : TE) : TS := fun D σ H => te σ H D.rt
theorem ps_ret (he : PE X e te) : PS X (.Return (some e) pos) (tRet te) := by
  intro pins s σ H D I h
  exact wpAny_Return_some (thn (he pins s σ H _ I h) fun v s1 ⟨x, H1, I1, r1, q1⟩ => ⟨x, σ, H1, I1, r1, q1⟩)
noncomputable def tIfS (c : TT) (t u : TS) : TS := fun D σ H => c σ H fun b H1 => if b = true then t D σ H1 else u D σ H1
theorem ps_if {c : Expr} {a b : List Stmt} {tc : TT} (hc : PT X c tc) (ha : PSs X a t) (hb : PSs X b u) : PS X (.If c a b pos) (tIfS tc t u) := by
  intro pins s σ H D I h
  refine wpAny_If (thn (hc pins s σ H _ I h) fun d s1 ⟨H1, I1, q1⟩ => ?_)
  cases d with
  | true => exact ha pins s1 σ H1 D I1 q1
  | false => exact hb pins s1 σ H1 D I1 q1
end

/-! ### targets -/
noncomputable abbrev TG := V → St → Hp → (St → Hp → Prop) → Prop
noncomputable abbrev TGs := List V → St → Hp → (St → Hp → Prop) → Prop
noncomputable def PG (X : Cx) (target : Expr) (t : TG) : Prop :=
  ∀ (pins : List (Addr × Obj)) (s : Shared) (σ : St) (H : Hp) (v : V) (u : Value) (Q : St → Hp → Prop), Inv X pins σ H s → RelV v u → t v σ H Q →
    wpAny (model X.prog X.w) X.A (assign target X.env u) (fun _ s' => ∃ σ' H', Inv X pins σ' H' s' ∧ Q σ' H') X.xe s
/-- several targets, one after another -/
noncomputable def PGs (X : Cx) (ts : List Expr) (t : TGs) : Prop :=
  ∀ (pins : List (Addr × Obj)) (s : Shared) (σ : St) (H : Hp) (vs : List V) (us : List Value) (Q : St → Hp → Prop), Inv X pins σ H s → Vals vs us → t vs σ H Q →
    wpAny (model X.prog X.w) X.A (assignInOrder ((assignEach ts X.env).map (·.2)) us) (fun _ s' => ∃ σ' H', Inv X pins σ' H' s' ∧ Q σ' H') X.xe s
/-- o[i] = v, by values -/
noncomputable abbrev TSet := V → V → V → Hp → (Hp → Prop) → Prop
noncomputable def PSet (X : Cx) (t : TSet) : Prop :=
  ∀ (pins : List (Addr × Obj)) (s : Shared) (σ : St) (H : Hp) (o i v : V) (ov iv u : Value) (Q : Hp → Prop), Inv X pins σ H s → RelV o ov → RelV i iv → RelV v u → t o i v H Q →
    wpAny (model X.prog X.w) X.A (setItem ov iv u) (fun _ s' => ∃ H', Inv X pins σ H' s' ∧ Q H') X.xe s
section
variable {X : Cx} {pos : Pos}
noncomputable def gName (i : Nat) : TG := fun v σ H Q => Q (σ.set i (some v)) H
theorem pg_name {i : Nat} {x : Str} (hN : X.N.Nodup) (hi : X.N[i]? = some x) (hx : Loc X.env.scope x) (hf : X.fn x = true ∨ X.env.scope.names.lookup x = some .local := by first | exact .inl rfl | exact .inr rfl | assumption) : PG X (.Name x pos) (gName i) := by
  intro pins s σ H v u Q I r h
  exact wpAny_assign_Name (store_ok I hN hi hx r (fun s' I' => ⟨_, H, I', h⟩) hf)
noncomputable def gNil : TGs := fun vs σ H Q => vs = [] ∧ Q σ H
noncomputable def gCons (t : TG) (u : TGs) : TGs := fun vs σ H Q => ∃ v r, vs = v :: r ∧ t v σ H fun σ' H' => u r σ' H' Q
theorem pgs_nil : PGs X [] gNil := by
  intro pins s σ H vs us Q I r h
  obtain ⟨e, h⟩ := h
  subst e
  cases r
  exact assignInOrder_nil ⟨σ, H, I, h⟩
theorem pgs_cons {e : Expr} {es : List Expr} {t : TG} {u : TGs} (h1 : PG X e t) (h2 : PGs X es u)
    (hs : (assignEach (e :: es) X.env).map (·.2) = assign e X.env :: (assignEach es X.env).map (·.2) := by rfl) : PGs X (e :: es) (gCons t u) := by
  intro pins s σ H vs us Q I r h
  obtain ⟨v, vr, e1, h⟩ := h
  subst e1
  cases r with
  | cons r rr =>
    rw [hs]
    refine assignInOrder_cons (thn (h1 pins s σ H _ _ _ I r h) fun _ s1 ⟨σ1, H1, I1, q1⟩ => ?_)
    exact h2 pins s1 σ1 H1 _ _ Q I1 rr q1
/-- (a, b, ..) = a tuple of that length -/
noncomputable def gTup (K : PySem.W.Frag) (n : Nat) (t : TGs) : TG := fun v σ H Q => ∃ a xs, v = .ref a ∧ SqT K H a xs ∧ xs.length = n ∧ t xs σ H Q
theorem pg_tup {es : List Expr} {k : Nat} {t : TGs} {n : Nat} (hc : X.calm = true) (h : PGs X es t)
    (hn : (assignEach es X.env).length = n := by rfl) (hst : (assignEach es X.env).findIdx? (·.1) = none := by rfl) : PG X (.Tuple es k pos) (gTup X.K n t) := by
  intro pins s σ H v u Q I r hw
  obtain ⟨a, xs, e1, hq, hl, hw⟩ := hw
  subst e1
  cases r
  obtain ⟨its, rv, ht, hz⟩ := I.tuple hq
  refine assign_Tuple_tuple (I.ok.hd hc) ht (by simp [hn, ← hl, rv.length]) hst fun h' hx => ?_
  have I1 : Inv X pins σ H { s with heap := h' } := I.kept (t' := s.toks) fun b o e => hx b o (Nat.ne_of_lt (Heap.lt_size e)) e
  exact h pins _ σ H xs _ Q I1 (by simpa using rv) hw
/-- o[i] = .. -/
noncomputable def gSub (to ti : TE) (t : TSet) : TG := fun v σ H Q => to σ H fun o H1 => ti σ H1 fun i H2 => t o i v H2 fun H3 => Q σ H3
theorem pg_sub {o i : Expr} {to ti : TE} {t : TSet} (ho : PE X o to) (hi : PE X i ti) (hs : PSet X t)
    (ha : ∀ v, assign (.Subscript o i pos) X.env v = (do
      let ov ← holding [v] (eval o X.env)
      let iv ← holding [v, ov] (eval i X.env)
      standAt pos
      holding [v, ov, iv] (setItem ov iv v)
      release [v, ov, iv] []) := by intro _; rfl) : PG X (.Subscript o i pos) (gSub to ti t) := by
  intro pins s σ H v u Q I r h
  rw [ha]
  refine wpAny_bind (wpAny_holding (thn (ho pins s σ H _ I h) fun ov s1 ⟨x, H1, I1, r1, q1⟩ => ?_))
  refine wpAny_bind (wpAny_holding (thn (hi pins s1 σ H1 _ I1 q1) fun iv s2 ⟨y, H2, I2, r2, q2⟩ => ?_))
  refine wpAny_bind (wpAny_standAt (wpAny_bind (wpAny_holding (thn (hs pins s2 σ H2 x y v ov iv u _ I2 r1 r2 r q2) fun _ s3 ⟨H3, I3, q3⟩ => ?_))))
  exact wpAny_release ⟨σ, H3, I3, q3⟩
/-- target = value -/
noncomputable def tAsg (te : TE) (g : TG) : TS := fun D σ H => te σ H fun x H1 => g x σ H1 D.nx
theorem ps_asg {tg e : Expr} {te : TE} {g : TG} (he : PE X e te) (hg : PG X tg g) (hs : swapsWithSole [tg] e pos.line X.env = pure false := by rfl) (hw : swappedStores [tg] e X.env = pure none := by rfl)
    (h1 : (assignEach [tg] X.env).map (·.2) = [assign tg X.env] := by rfl) : PS X (.Assign [tg] e pos) (tAsg te g) := by
  intro pins s σ H D I h
  refine wpAny_Assign_stores (thn (he pins s σ H _ I h) fun v s1 ⟨x, H1, I1, r1, q1⟩ => ?_) hs hw
  rw [h1]
  exact thn (hg pins s1 σ H1 x v _ I1 r1 q1) fun _ s2 q => q
/-- name = value -/
theorem ps_set {i : Nat} {x : Str} {e : Expr} {te : TE} {pos' : Pos} (hN : X.N.Nodup) (hi : X.N[i]? = some x) (hx : Loc X.env.scope x) (he : PE X e te) (hs : swapsWith e (some (.Name x pos')) pos.line X.env = pure false := by rfl) (hf : X.fn x = true ∨ X.env.scope.names.lookup x = some .local := by first | exact .inl rfl | exact .inr rfl | assumption) :
    PS X (.Assign [.Name x pos'] e pos) (tAsg te (gName i)) := by
  intro pins s σ H D I h
  refine wpAny_Assign_Name (thn (he pins s σ H _ I h) fun v s1 ⟨y, H1, I1, r1, q1⟩ => ?_) hs
  exact store_ok I1 hN hi hx r1 (fun s2 I2 => ⟨_, H1, I2, q1⟩) hf
end

/-! ### while -/
section
variable {X : Cx} {pos : Pos}
end

/-! ### what a loop or a comprehension walks -/
/-- at turn i: it yields x (the heap may grow), or it stops -/
structure It where
  go : Nat → Hp → Prop
  yld : Nat → Hp → V → Hp → Prop
  stop : Nat → Hp → Prop
/-- the iterator's own objects may turn: they are not the frame's, not pinned, younger than the entry (or a comprehension's own) -/
noncomputable def FpOk (X : Cx) (pins : List (Addr × Obj)) (H : Hp) (b : Addr) : Prop :=
  H b = none ∧ b ≠ X.env.locals ∧ b ∉ X.fs ∧ (b ∈ X.ex ∨ X.s₀.heap.objs.size ≤ b) ∧ (∀ x c, X.env.cells.lookup x = some c → c ≠ b) ∧ ∀ p ∈ X.pn ++ pins, p.1 ≠ b
theorem Inv.fpOk {X : Cx} {pins : List (Addr × Obj)} {σ : St} {H H' : Hp} {s : Shared} {b : Addr} (I : Inv X pins σ H s) (hb : s.heap.objs.size ≤ b) (hn : H' b = none) : FpOk X pins H' b := by
  refine ⟨hn, Nat.ne_of_gt (Nat.lt_of_lt_of_le I.lt hb), I.nofs hb, .inr (Nat.le_trans I.sz hb), fun x c e z => ?_, fun p hp z => ?_⟩
  · obtain ⟨v, q⟩ := I.cell x c e
    exact absurd (Nat.lt_of_lt_of_le q.lt (by rw [z]; exact hb)) (Nat.lt_irrefl _)
  · exact absurd (Nat.lt_of_lt_of_le (Heap.lt_size (I.pin p hp).1) (by rw [z]; exact hb)) (Nat.lt_irrefl _)
structure Turn (P : Program) (w : World) (K : PySem.W.Frag) (tg : Expr) (J : It) (fp : List Addr) (it : Addr) (tn : Nat → Heap → Prop) : Prop where
  mem : it ∈ fp
  obj : ∀ i h, tn i h → ∀ b ∈ fp, ∃ o, h.get? b = some o ∧ ∀ v, o.data ≠ .cell v
  keep : ∀ i h h', tn i h → (∀ b ∈ fp, ∀ o, h.get? b = some o → h'.get? b = some o) → tn i h'
  item : ∀ (X : Cx), X.prog = P → X.w = w → X.K = K → X.calm = true → ∀ (i : Nat) (pins : List (Addr × Obj)) (s : Shared) (σ : St) (H : Hp) (E : Value → Shared → Prop), Inv X pins σ H s → (∀ b ∈ fp, FpOk X pins H b) → tn i s.heap → J.go i H →
    wpAny (model P w) X.A (pyNext (.ref it)) (fun r s1 => ∃ u, r = some u ∧
      wpAny (model P w) X.A (letOwnedTupleGo tg (.ref it) u) (fun _ s2 => ∃ x H', Inv X pins σ H' s2 ∧ RelV x u ∧ J.yld i H x H' ∧ tn (i + 1) s2.heap ∧ ∀ b ∈ fp, H' b = none) E s1) E s
  done : ∀ (X : Cx), X.prog = P → X.w = w → X.K = K → X.calm = true → ∀ (i : Nat) (pins : List (Addr × Obj)) (s : Shared) (σ : St) (H : Hp) (E : Value → Shared → Prop), Inv X pins σ H s → (∀ b ∈ fp, FpOk X pins H b) → tn i s.heap → J.stop i H →
    wpAny (model P w) X.A (pyNext (.ref it)) (fun r s1 => r = none ∧ Inv X pins σ H s1) E s
  self : ∀ (A : Around) (i : Nat) (s : Shared) (Q : Value → Shared → Prop) (E : Value → Shared → Prop), tn i s.heap → Q (.ref it) s → wpAny (model P w) A (pyIter (.ref it)) Q E s
noncomputable abbrev TI := St → Hp → (It → Hp → Prop) → Prop
/-- an iterator has come -/
noncomputable def PIE (X : Cx) (pins : List (Addr × Obj)) (σ : St) (tg : Expr) (R : It → Hp → Prop) (itv : Value) (s2 : Shared) : Prop :=
  ∃ (it : Addr) (fp : List Addr) (tn : Nat → Heap → Prop) (J : It) (H' : Hp), itv = .ref it ∧ Inv X pins σ H' s2 ∧ Turn X.prog X.w X.K tg J fp it tn ∧ tn 0 s2.heap ∧ (∀ b ∈ fp, FpOk X pins H' b) ∧ R J H'
noncomputable def PI (X : Cx) (tg iter : Expr) (wi : TI) : Prop :=
  ∀ (pins : List (Addr × Obj)) (s : Shared) (σ : St) (H : Hp) (R : It → Hp → Prop), Inv X pins σ H s → wi σ H R →
    wpAny (model X.prog X.w) X.A (eval iter X.env) (fun v s1 => wpAny (model X.prog X.w) X.A (pyIter v) (PIE X pins σ tg R) X.xe s1) X.xe s

/-- the step ahead of the store is nothing for an iterator that keeps no tuple -/
theorem go_of {M : Model} {A : Around} {E : Value → Shared → Prop} {s : Shared} {tg : Expr} {it : Addr} {u : Value} {o : Obj} {n : String} {vs : Array Value} {Q : Unit → Shared → Prop} (ho : s.heap.get? it = some o) (hc : o.cls = .type n) (hd : o.data = .fields vs)
    (hn : ["enumerate", "zip", "dict_itemiterator", "dict_reverseitemiterator", "odict_iterator", "itertools.zip_longest", "itertools.pairwise"].contains n = false) (hQ : Q () s) : wpAny M A (letOwnedTupleGo tg (.ref it) u) Q E s := by
  unfold letOwnedTupleGo
  cases tg <;> first
    | exact wpAny_pure hQ
    | (cases u <;> first
        | exact wpAny_pure hQ
        | (refine wpAny_bind (wpAny_load ho ?_)
           rw [hc, hd]
           show wpAny M A (if (["enumerate", "zip", "dict_itemiterator", "dict_reverseitemiterator", "odict_iterator", "itertools.zip_longest", "itertools.pairwise"].contains n && vs[0]? == some (rawInt _)) = true then _ else _) Q E s
           rw [if_neg (by intro h; rw [hn, Bool.false_and] at h; cases h)]
           exact wpAny_pure hQ))

/-- the list at a, as it stands at each turn (a loop may append to it) -/
noncomputable def Itl (K : PySem.W.Frag) (a : Addr) : It :=
  ⟨fun i H => ∃ xs x, SqL K H a xs ∧ xs[i]? = some x, fun i H x H' => H' = H ∧ ∀ xs, SqL K H a xs → xs[i]? = some x, fun i H => ∃ xs, SqL K H a xs ∧ xs.length ≤ i⟩
noncomputable def Itt (K : PySem.W.Frag) (a : Addr) : It :=
  ⟨fun i H => ∃ xs x, SqT K H a xs ∧ xs[i]? = some x, fun i H x H' => H' = H ∧ ∀ xs, SqT K H a xs → xs[i]? = some x, fun i H => ∃ xs, SqT K H a xs ∧ xs.length ≤ i⟩
/-- lo, lo + 1, .. (n of them) -/
noncomputable def Itr (lo : Int) (n : Nat) : It := ⟨fun i _ => i < n, fun i H x H' => H' = H ∧ x = .int (lo + i), fun i _ => n ≤ i⟩
theorem turn_list {P : Program} {w : World} {K : PySem.W.Frag} {tg : Expr} (a it : Addr) : Turn P w K tg (Itl K a) [it] it (fun i h => h.IsListIter it a i) where
  mem := by simp
  obj := fun i h st b hb => by
    have e : b = it := by simpa using hb
    subst e
    obtain ⟨o, e, c, d⟩ := st
    exact ⟨o, e, fun v z => by rw [d] at z; cases z⟩
  keep := fun i h h' st k => st.at fun o e => k it (by simp) o e
  item := by
    intro X hP hw hK hc i pins s σ H E I hf st hg
    subst hP hw hK
    obtain ⟨xs, x, hq, hx⟩ := hg
    obtain ⟨its, rv, p, hz⟩ := I.list hq
    obtain ⟨u, hu, ru⟩ := rv.get hx
    obtain ⟨f0, f1, f2, f3, f4, f5⟩ := hf it (by simp)
    refine wpAny_pyNext_list_item st p.isList (x := u) (by simpa using hu) fun h' st' sb => ?_
    have I1 : Inv X pins σ H { s with heap := h' } := I.turned (t' := s.toks) (fun b o hb e => (sb.2 b hb).trans e) f0 f1 f3 f4 f5
    obtain ⟨o, e, c, d⟩ := id st'
    exact ⟨u, rfl, go_of (s := { s with heap := h' }) e c d (by decide) ⟨x, H, I1, ru, ⟨rfl, fun ys hy => by rw [I.list_inj hy hq]; exact hx⟩, st', fun b hb => (hf b hb).1⟩⟩
  done := by
    intro X hP hw hK hc i pins s σ H E I hf st hg
    subst hP hw hK
    obtain ⟨xs, hq, hx⟩ := hg
    obtain ⟨its, rv, p, hz⟩ := I.list hq
    obtain ⟨f0, f1, f2, f3, f4, f5⟩ := hf it (by simp)
    have hl := rv.length
    exact wpAny_pyNext_list_end (I.ok.hd hc) st p.isList (by simp; lia) fun h' eb => ⟨rfl, I.turned (t' := s.toks) (fun b o hb e => eb b o hb e) f0 f1 f3 f4 f5⟩
  self := fun _ _ _ _ _ st h => wpAny_pyIter_listiter st h
theorem turn_tuple {P : Program} {w : World} {K : PySem.W.Frag} {tg : Expr} (a it : Addr) : Turn P w K tg (Itt K a) [it] it (fun i h => h.IsTupleIter it a i) where
  mem := by simp
  obj := fun i h st b hb => by
    have e : b = it := by simpa using hb
    subst e
    obtain ⟨o, e, c, d⟩ := st
    exact ⟨o, e, fun v z => by rw [d] at z; cases z⟩
  keep := fun i h h' st k => st.at fun o e => k it (by simp) o e
  item := by
    intro X hP hw hK hc i pins s σ H E I hf st hg
    subst hP hw hK
    obtain ⟨xs, x, hq, hx⟩ := hg
    obtain ⟨its, rv, p, hz⟩ := I.tuple hq
    obtain ⟨u, hu, ru⟩ := rv.get hx
    obtain ⟨f0, f1, f2, f3, f4, f5⟩ := hf it (by simp)
    refine wpAny_pyNext_tuple_item st (show s.heap.IsTuple a its.toArray from p) (x := u) (by simpa using hu) fun h' st' sb => ?_
    have I1 : Inv X pins σ H { s with heap := h' } := I.turned (t' := s.toks) (fun b o hb e => (sb.2 b hb).trans e) f0 f1 f3 f4 f5
    obtain ⟨o, e, c, d⟩ := id st'
    exact ⟨u, rfl, go_of (s := { s with heap := h' }) e c d (by decide) ⟨x, H, I1, ru, ⟨rfl, fun ys hy => by rw [I.tuple_inj hy hq]; exact hx⟩, st', fun b hb => (hf b hb).1⟩⟩
  done := by
    intro X hP hw hK hc i pins s σ H E I hf st hg
    subst hP hw hK
    obtain ⟨xs, hq, hx⟩ := hg
    obtain ⟨its, rv, p, hz⟩ := I.tuple hq
    obtain ⟨f0, f1, f2, f3, f4, f5⟩ := hf it (by simp)
    have hl := rv.length
    exact wpAny_pyNext_tuple_end (I.ok.hd hc) st (show s.heap.IsTuple a its.toArray from p) (by simp; lia) fun h' eb => ⟨rfl, I.turned (t' := s.toks) (fun b o hb e => eb b o hb e) f0 f1 f3 f4 f5⟩
  self := fun _ _ _ _ _ st h => wpAny_pyIter_tupleiter st h
theorem turn_range {P : Program} {w : World} {K : PySem.W.Frag} {tg : Expr} (it : Addr) (lo : Int) (n : Nat) : Turn P w K tg (Itr lo n) [it] it (fun i h => IsRangeIter h it (lo + (i : Nat) * 1) ((n : Int) - (i : Nat)) 1) where
  mem := by simp
  obj := fun i h st b hb => by
    have e : b = it := by simpa using hb
    subst e
    exact ⟨_, st, fun v z => by
      have z' : Data.fields _ = Data.cell v := z
      cases z'⟩
  keep := fun i h h' st k => k it (by simp) _ st
  item := by
    intro X hP hw hK hc i pins s σ H E I hf st hg
    subst hP hw hK
    obtain ⟨f0, f1, f2, f3, f4, f5⟩ := hf it (by simp)
    have W := Walks.range (prog := X.prog) (w := X.w) (I.ok.hd hc) it lo 1 n
    refine W.item i s _ _ hg st fun v h' tk hv st' kk => ?_
    obtain ⟨t, rfl⟩ := hv
    have I1 : Inv X pins σ H { s with heap := h', toks := tk } := I.turned (fun b o hb e => kk b o (by simpa using hb) e) f0 f1 f3 f4 f5
    refine ⟨_, rfl, go_of (s := { s with heap := h', toks := tk }) (n := "range_iterator") st' rfl rfl (by decide) ⟨.int (lo + i), H, I1, ⟨t, ?_⟩, ⟨rfl, rfl⟩, st', fun b hb => (hf b hb).1⟩⟩
    rw [Int.mul_one]
  done := by
    intro X hP hw hK hc i pins s σ H E I hf st hg
    subst hP hw hK
    obtain ⟨f0, f1, f2, f3, f4, f5⟩ := hf it (by simp)
    exact wpAny_pyNext_range_end (I.ok.hd hc) st (by have : n ≤ i := hg; lia) fun h' eb => ⟨rfl, I.turned (t' := s.toks) (fun b o hb e => eb b o hb e) f0 f1 f3 f4 f5⟩
  self := fun _ _ _ _ _ st h => wpAny_pyIter_rangeiter st h
end L2

namespace L2
open PySem PySem.Spec PyProof.Rows
section
variable {X : Cx} {tg : Expr}
/-- a range object just made, walked -/
theorem range_it {pins : List (Addr × Obj)} {σ : St} {H : Hp} {s : Shared} {R : It → Hp → Prop} {E : Value → Shared → Prop} {lo hi : Int} {t u v : Tok} {tk : Nat} (I : Inv X pins σ H s) (h1 : -(2 ^ 62) ≤ lo) (h2 : lo < 2 ^ 62) (h3 : -(2 ^ 62) ≤ hi) (h4 : hi < 2 ^ 62)
    (q : R (Itr lo (hi - lo).toNat) H) : wpAny (model X.prog X.w) X.A (pyIter (.ref s.heap.objs.size)) (PIE X pins σ tg R) E { s with heap := s.heap.push { cls := .type "range", data := .fields #[.int lo t, .int hi u, .int 1 v] }, toks := tk } := by
  refine wpAny_pyIter_range (IsRange.new ..) (small_one h1 h2 h3 h4) ?_
  have I1 : Inv X pins σ H { s with heap := s.heap.push { cls := .type "range", data := .fields #[.int lo t, .int hi u, .int 1 v] }, toks := tk } := I.kept fun b o e => Heap.get?_push_of_some _ e
  refine ⟨(s.heap.push { cls := .type "range", data := .fields #[.int lo t, .int hi u, .int 1 v] }).objs.size, [(s.heap.push { cls := .type "range", data := .fields #[.int lo t, .int hi u, .int 1 v] }).objs.size], _, _, H, rfl,
    I1.kept (t' := tk) fun b o e => Heap.get?_push_of_some _ e, turn_range _ lo (hi - lo).toNat, ?_, fun b hb => ?_, q⟩
  · have e1 : lo + ((0 : Nat) : Int) * 1 = lo := by simp
    have e2 : (((hi - lo).toNat : Nat) : Int) - ((0 : Nat) : Int) = Builtin.Range.rangeSize lo hi 1 := by rw [rangeSize_one]; split <;> lia
    show IsRangeIter _ _ (lo + ((0 : Nat) : Int) * 1) ((((hi - lo).toNat : Nat) : Int) - ((0 : Nat) : Int)) 1
    rw [e1, e2]
    exact Heap.get?_push_size _ rfl
  · have e : b = (s.heap.push { cls := .type "range", data := .fields #[.int lo t, .int hi u, .int 1 v] }).objs.size := by simpa using hb
    subst e
    exact I1.fpOk (Nat.le_refl _) (I1.hok.fresh (Nat.le_refl _))
noncomputable def iRng1 (ta : TA) : TI := fun σ H R => ta σ H fun vs H1 => ∃ j : Int, vs = [.int j] ∧ -(2 ^ 62) ≤ j ∧ j < 2 ^ 62 ∧ R (Itr 0 j.toNat) H1
theorem pi_range1 {a : Expr} {ta : TA} {p pos : Pos} (hg : Gl X "range") (hm : X.mg "range" = none) (ha : PA X [a] ta) (hs : starEach [a] X.env = [(false, eval a X.env)] := by rfl) : PI X tg (.Call (.Name "range" p) [a] [] pos) (iRng1 ta) := by
  intro pins s σ H R I h
  refine Call_ (ld_blt I hg hm boot_range (PyProof.Rows.callWith_type1 (thn (ha pos pins s σ H _ I h) fun us s1 ⟨vs, H1, I1, r1, q1⟩ => ?_) hs rfl))
  obtain ⟨j, e, q1, q2, q⟩ := q1
  subst e
  cases r1 with
  | cons r rr =>
    cases rr
    obtain ⟨t, rfl⟩ := r
    exact call_range_1 (range_it I1 (by lia) (by lia) q1 q2 (by simpa using q))

/-! ### for -/
/-- W: the invariant by the turn and a measure; N: what the body is to reach -/
noncomputable def tFor (wi : TI) (g : TG) (tb : TS) : TS := fun D σ H => wi σ H fun J H1 => ∃ W : Nat → Nat → St → Hp → Prop, (∃ m, W 0 m σ H1) ∧ ∀ i m σ H, W i m σ H →
  (J.stop i H ∧ D.nx σ H) ∨ (J.go i H ∧ ∃ N : St → Hp → Prop, (∀ σ' H', N σ' H' → ∃ m', m' < m ∧ W (i + 1) m' σ' H') ∧ ∀ x H', J.yld i H x H' → g x σ H' fun σ2 H2 => tb { D with nx := N, ct := N, bk := D.nx } σ2 H2)
/-- the records at fp as they stand -/
noncomputable def pinsAt (fp : List Addr) (h : Heap) : List (Addr × Obj) := fp.filterMap fun b => (h.get? b).map fun o => (b, o)
theorem mem_pinsAt {fp : List Addr} {h : Heap} {b : Addr} {o : Obj} (hb : b ∈ fp) (e : h.get? b = some o) : (b, o) ∈ pinsAt fp h := List.mem_filterMap.mpr ⟨b, hb, by rw [e]; rfl⟩
theorem of_pinsAt {fp : List Addr} {h : Heap} {p : Addr × Obj} (hp : p ∈ pinsAt fp h) : p.1 ∈ fp ∧ h.get? p.1 = some p.2 := by
  obtain ⟨b, hb, e⟩ := List.mem_filterMap.mp hp
  cases q : h.get? b with
  | none => rw [q] at e; cases e
  | some o =>
    rw [q] at e
    have e' : (b, o) = p := Option.some.inj e
    subst e'
    exact ⟨hb, q⟩
theorem Inv.pinned {pins : List (Addr × Obj)} {σ : St} {H : Hp} {s : Shared} {fp : List Addr} (I : Inv X pins σ H s) (hf : ∀ b ∈ fp, FpOk X pins H b) (ho : ∀ b ∈ fp, ∃ o, s.heap.get? b = some o ∧ ∀ v, o.data ≠ .cell v) : Inv X (pins ++ pinsAt fp s.heap) σ H s :=
  I.pins_of fun p hp => (List.mem_append.mp hp).elim (fun z => I.pin p (List.mem_append_right _ z)) fun z => by
    obtain ⟨hb, e⟩ := of_pinsAt z
    obtain ⟨f0, f1, f2, _⟩ := hf p.1 hb
    obtain ⟨o, e', d⟩ := ho p.1 hb
    rw [e] at e'; cases e'
    exact ⟨e, f0, f1, f2, d⟩
theorem Inv.unpinned {pins pl : List (Addr × Obj)} {σ : St} {H : Hp} {s : Shared} (I : Inv X (pins ++ pl) σ H s) : Inv X pins σ H s := I.pins_of fun p hp => I.pin p (List.mem_append_right _ (List.mem_append_left _ hp))
theorem ps_for {iter : Expr} {body : List Stmt} {wi : TI} {g : TG} {tb : TS} {pos : Pos} (hp : PassesOwn (model X.prog X.w) X.A X.env X.xe) (hc : X.calm = true) (hi : PI X tg iter wi) (hg : PG X tg g) (hb : PSs X body tb)
    (hs : ∀ x, foldedSetIterable iter X.env x = pure x := by intro _; rfl) : PS X (.For tg iter body [] pos) (tFor wi g tb) := by
  intro pins s σ H D I h
  refine wpAny_For (thn (hi pins s σ H _ I h) fun v s1 h1 => thn h1 fun itv s2 h2 => ?_) hs
  obtain ⟨it, fp, tn, J, H2, e, I2, T, st2, f2, W, ⟨m0, w0⟩, turn⟩ := h2
  subst e
  -- what stays true of the iterator's objects through the loop
  have stat : ∀ {H' : Hp}, (∀ b ∈ fp, H' b = none) → ∀ b ∈ fp, FpOk X pins H' b := fun hn b hb => ⟨hn b hb, (f2 b hb).2⟩
  refine codeAny_forLoop_any (fun n s' => ∃ i σ' H', Inv X pins σ' H' s' ∧ tn i s'.heap ∧ (∀ b ∈ fp, H' b = none) ∧ W i n σ' H') ?_ m0 ⟨0, σ, H2, I2, st2, fun b hb => (f2 b hb).1, w0⟩
  rintro n s3 ⟨i, σ3, H3, I3, st3, fr3, w3⟩
  rcases turn i n σ3 H3 w3 with ⟨stop, qn⟩ | ⟨go, N, hN, step⟩
  · refine wpAny_passesOwn hp (thn (T.done X rfl rfl rfl hc i pins s3 σ3 H3 X.xe I3 (stat fr3) st3 stop) fun r s4 ⟨hr, I4⟩ => ?_)
    subst hr
    exact wpAny_execs_nil ⟨σ3, H3, I4, qn⟩
  · refine wpAny_passesOwn hp (thn (T.item X rfl rfl rfl hc i pins s3 σ3 H3 X.xe I3 (stat fr3) st3 go) fun r s4 ⟨u, hr, h4⟩ => ?_)
    subst hr
    refine wpAny_passesOwn hp (thn h4 fun _ s5 ⟨x, H5, I5, r5, y5, st5, fr5⟩ => ?_)
    have I5' := I5.pinned (stat fr5) (T.obj _ _ st5)
    refine wpAny_passesOwn hp (thn (hg _ s5 σ3 H5 x u _ I5' r5 (step x H5 y5)) fun _ s6 ⟨σ6, H6, I6, q6⟩ => ?_)
    refine wpAny_passesOwn hp (thn (hb _ s6 σ6 H6 _ I6 q6) fun f s7 q7 => ?_)
    have again : ∀ {σ7 : St} {H7 : Hp}, Inv X (pins ++ pinsAt fp s5.heap) σ7 H7 s7 → N σ7 H7 → ∃ m, m < n ∧ ∃ i σ' H', Inv X pins σ' H' s7 ∧ tn i s7.heap ∧ (∀ b ∈ fp, H' b = none) ∧ W i m σ' H' := fun {σ7 H7} I7 n7 => by
      obtain ⟨m', hm, w7⟩ := hN σ7 H7 n7
      refine ⟨m', hm, i + 1, σ7, H7, I7.unpinned, T.keep _ _ _ st5 fun b hb o e => (I7.pin (b, o) (List.mem_append_right _ (List.mem_append_right _ (mem_pinsAt hb e)))).1, fun b hb => ?_, w7⟩
      obtain ⟨o, e, d⟩ := T.obj _ _ st5 b hb
      exact (I7.pin (b, o) (List.mem_append_right _ (List.mem_append_right _ (mem_pinsAt hb e)))).2.1
    cases f with
    | next => obtain ⟨σ7, H7, I7, n7⟩ := q7; exact again I7 n7
    | cont => obtain ⟨σ7, H7, I7, n7⟩ := q7; exact again I7 n7
    | brk => obtain ⟨σ7, H7, I7, q7⟩ := q7; exact ⟨σ7, H7, I7.unpinned, q7⟩
    | ret v => obtain ⟨x7, σ7, H7, I7, r7, q7⟩ := q7; exact ⟨x7, σ7, H7, I7.unpinned, r7, q7⟩
end

/-! ### the forms one uses -/
end L2

namespace L2
open PySem PySem.Spec PyProof.Rows

noncomputable abbrev R2 := V → V → Hp → VK → Prop
/-- a two-place operation on values: f is binaryOp op, inplaceOp op or compareOp op -/
noncomputable def OpR (X : Cx) (f : Value → Value → Sem Value) (r : R2) : Prop :=
  ∀ (pins : List (Addr × Obj)) (s : Shared) (σ : St) (H : Hp) (x y : V) (v u : Value) (Q : VK), Inv X pins σ H s → RelV x v → RelV y u → r x y H Q →
    wpAny (model X.prog X.w) X.A (f v u) (EP X pins σ Q) X.xe s
/-- a call of a value that is known (a builtin, a type) with values -/
noncomputable def CallR (X : Cx) (f : Value) (r : List V → Hp → VK → Prop) : Prop :=
  ∀ (pins : List (Addr × Obj)) (s : Shared) (σ : St) (H : Hp) (xs : List V) (us : List Value) (Q : VK), Inv X pins σ H s → Vals xs us → r xs H Q →
    wpAny (model X.prog X.w) X.A (call f us) (EP X pins σ Q) X.xe s
/-- a value's truth -/
noncomputable def TruR (X : Cx) (r : V → Hp → (Bool → Hp → Prop) → Prop) : Prop :=
  ∀ (pins : List (Addr × Obj)) (s : Shared) (σ : St) (H : Hp) (x : V) (v : Value) (Q : Bool → Hp → Prop), Inv X pins σ H s → RelV x v → r x H Q →
    wpAny (model X.prog X.w) X.A (truthy v) (TP X pins σ Q) X.xe s

noncomputable def tOp (r : R2) (ta tb : TE) : TE := fun σ H Q => ta σ H fun x H1 => tb σ H1 fun y H2 => r x y H2 Q
/-- ints in, under C, and a value out -/
noncomputable def rI (C : Int → Int → Prop) (g : Int → Int → V) : R2 := fun x y H Q => ∃ i j, x = .int i ∧ y = .int j ∧ C i j ∧ Q (g i j) H
noncomputable def rI0 (g : Int → Int → V) : R2 := fun x y H Q => ∃ i j, x = .int i ∧ y = .int j ∧ Q (g i j) H

section
variable {X : Cx} {a b c : Expr} {ta tb tc : TE} {pos : Pos}

theorem binT (ha : PE X a ta) (hb : PE X b tb) {pins : List (Addr × Obj)} {s : Shared} {σ : St} {H : Hp} {R : V → V → Hp → Prop} (I : Inv X pins σ H s)
    (h : ta σ H fun x H1 => tb σ H1 fun y H2 => R x y H2) {Q : Value → Shared → Prop} {f : Value → Value → Sem Value}
    (hf : ∀ v u s2 x y H2, Inv X pins σ H2 s2 → RelV x v → RelV y u → R x y H2 → wpAny (model X.prog X.w) X.A (f v u) Q X.xe s2) :
    wpAny (model X.prog X.w) X.A (eval a X.env) (fun v s₁ => wpAny (model X.prog X.w) X.A (eval b X.env) (fun u s₂ => wpAny (model X.prog X.w) X.A (f v u) Q X.xe s₂) X.xe s₁) X.xe s := by
  refine thn (ha pins s σ H _ I h) fun v s1 ⟨x, H1, I1, r1, q1⟩ => ?_
  refine thn (hb pins s1 σ H1 _ I1 q1) fun u s2 ⟨y, H2, I2, r2, q2⟩ => ?_
  exact hf v u s2 x y H2 I2 r1 r2 q2

theorem pe_op {op : Operator} {r : R2} (ho : OpR X (binaryOp op) r) (ha : PE X a ta) (hb : PE X b tb) : PE X (.BinOp a op b pos) (tOp r ta tb) := by
  intro pins s σ H Q I h
  exact wpAny_BinOp (binT ha hb I h fun v u s2 x y H2 I2 rx ry q => ho pins s2 σ H2 x y v u Q I2 rx ry q)

/-! ### ints -/
theorem opI {f : Value → Value → Sem Value} {C : Int → Int → Prop} {g : Int → Int → Int}
    (rule : ∀ (i j : Int) (t u : Tok) (s : Shared) (Q : Value → Shared → Prop) (E : Value → Shared → Prop), C i j → Q (.int (g i j) s.toks) { s with toks := s.toks + 1 } → wpAny (model X.prog X.w) X.A (f (.int i t) (.int j u)) Q E s) :
    OpR X f (rI C fun i j => .int (g i j)) := by
  intro pins s σ H x y v u Q I rx ry h
  obtain ⟨i, j, rfl, rfl, hc, q⟩ := h
  obtain ⟨t, rfl⟩ := rx
  obtain ⟨t', rfl⟩ := ry
  exact rule i j t t' s _ _ hc ⟨.int (g i j), H, I.tok _, ⟨_, rfl⟩, q⟩
theorem opI0 {f : Value → Value → Sem Value} {g : Int → Int → Int}
    (rule : ∀ (i j : Int) (t u : Tok) (s : Shared) (Q : Value → Shared → Prop) (E : Value → Shared → Prop), Q (.int (g i j) s.toks) { s with toks := s.toks + 1 } → wpAny (model X.prog X.w) X.A (f (.int i t) (.int j u)) Q E s) :
    OpR X f (rI0 fun i j => .int (g i j)) := by
  intro pins s σ H x y v u Q I rx ry h
  obtain ⟨i, j, rfl, rfl, q⟩ := h
  obtain ⟨t, rfl⟩ := rx
  obtain ⟨t', rfl⟩ := ry
  exact rule i j t t' s _ _ ⟨.int (g i j), H, I.tok _, ⟨_, rfl⟩, q⟩
theorem opB0 {f : Value → Value → Sem Value} {g : Int → Int → Bool}
    (rule : ∀ (i j : Int) (t u : Tok) (s : Shared) (Q : Value → Shared → Prop) (E : Value → Shared → Prop), Q (.bool (g i j)) s → wpAny (model X.prog X.w) X.A (f (.int i t) (.int j u)) Q E s) :
    OpR X f (rI0 fun i j => .bl (g i j)) := by
  intro pins s σ H x y v u Q I rx ry h
  obtain ⟨i, j, rfl, rfl, q⟩ := h
  obtain ⟨t, rfl⟩ := rx
  obtain ⟨t', rfl⟩ := ry
  exact rule i j t t' s _ _ ⟨.bl (g i j), H, I, rfl, q⟩

noncomputable def CPow (i j : Int) : Prop := 0 ≤ j ∧ j ≤ 1000000 ∧ i.natAbs < 2 ^ 64
noncomputable def CMul (i j : Int) : Prop := (-(2 ^ 64) < i ∧ i < 2 ^ 64) ∨ (-(2 ^ 64) < j ∧ j < 2 ^ 64)
theorem CMul.ok {i j : Int} (h : CMul i j) : IntMulOk i j := by
  rcases h with ⟨h1, h2⟩ | ⟨h1, h2⟩
  · exact .of_left (intBits_le_64 h1 h2)
  · exact .of_right (intBits_le_64 h1 h2)

theorem op_add : OpR X (binaryOp .Add) (rI0 fun i j => .int (i + j)) := opI0 fun _ _ _ _ _ _ _ q => add_int q
theorem op_sub : OpR X (binaryOp .Sub) (rI0 fun i j => .int (i - j)) := opI0 fun _ _ _ _ _ _ _ q => sub_int q
theorem op_mul : OpR X (binaryOp .Mult) (rI CMul fun i j => .int (i * j)) := opI fun _ _ _ _ _ _ _ hc q => mul_int q hc.ok
/-- % by a positive divisor of any size -/
theorem op_mod : OpR X (binaryOp .Mod) (rI (fun _ j => 0 < j) fun i j => .int (i % j)) := opI fun i j _ _ _ _ _ hc q => by
  have h1 : (0 : Int) < j := hc
  exact mod_int' (by lia) (by rw [Int.fmod_eq_emod_of_nonneg i (by lia)]; exact q)
theorem op_pow : OpR X (binaryOp .Pow) (rI CPow fun i j => .int (i ^ j.toNat)) := opI fun _ _ _ _ _ _ _ hc q => pow_int_small hc.1 hc.2.1 hc.2.2 q
theorem op_xor : OpR X (binaryOp .BitXor) (rI0 fun i j => .int (Builtin.bitXor i j)) := opI0 fun _ _ _ _ _ _ _ q => xor_int q



/-! ### bools among ints: n += (a < b) -/
end

/-! ### comparisons -/


section
variable {X : Cx} {a b c : Expr} {ta tb tc : TE} {pos : Pos}
theorem fin_bl {pins : List (Addr × Obj)} {σ : St} {H : Hp} {s : Shared} {Q : VK} {k k' : Bool} (I : Inv X pins σ H s) (q : Q (.bl k) H) (e : k = k') : EP X pins σ Q (.bool k') s := by
  subst e
  exact ⟨.bl k, H, I, rfl, q⟩

theorem op_lt : OpR X (compareOp .Lt) (rI0 fun i j => .bl (decide (i < j))) := opB0 fun _ _ _ _ _ _ _ q => lt_int q
theorem op_le : OpR X (compareOp .LtE) (rI0 fun i j => .bl (decide (i ≤ j))) := opB0 fun _ _ _ _ _ _ _ q => le_int q
theorem op_gt : OpR X (compareOp .Gt) (rI0 fun i j => .bl (decide (j < i))) := opB0 fun _ _ _ _ _ _ _ q => gt_int q
theorem op_ge : OpR X (compareOp .GtE) (rI0 fun i j => .bl (decide (j ≤ i))) := opB0 fun _ _ _ _ _ _ _ q => ge_int q

/-- is None, is not None: the right side a value none -/
theorem op_isN : OpR X (compareOp .Is) (fun x y H Q => y = .non ∧ Q (.bl (decide (x = .non))) H) := by
  intro pins s σ H x y v u Q I rx ry h
  obtain ⟨rfl, q⟩ := h
  cases ry
  refine is_none_gen (fin_bl I q ?_)
  cases x <;> first
    | (cases rx; rfl)
    | (obtain ⟨t, rfl⟩ := rx; rfl)
theorem op_notN : OpR X (compareOp .IsNot) (fun x y H Q => y = .non ∧ Q (.bl (!decide (x = .non))) H) := by
  intro pins s σ H x y v u Q I rx ry h
  obtain ⟨rfl, q⟩ := h
  cases ry
  refine isnot_none_gen (fin_bl I q ?_)
  cases x <;> first
    | (cases rx; rfl)
    | (obtain ⟨t, rfl⟩ := rx; rfl)



theorem nomark (b : Expr) {op : CmpOp} (h : op ≠ .In := by decide) (h2 : op ≠ .NotIn := by decide) : behindInMarks op b = false := by
  have e1 : (op == CmpOp.In) = false := by cases op <;> first | rfl | exact absurd rfl h
  have e2 : (op == CmpOp.NotIn) = false := by cases op <;> first | rfl | exact absurd rfl h2
  cases b <;> simp [behindInMarks, e1, e2]
/-- a comparison as a value; hm: nomark b, or (for in, not in) by with_unfolding_all rfl -/
theorem pe_cmpR {op : CmpOp} {r : R2} (ho : OpR X (compareOp op) r) (ha : PE X a ta) (hb : PE X b tb) (hm : behindInMarks op b = false) : PE X (.Compare a [op] [b] pos) (tOp r ta tb) := by
  intro pins s σ H Q I h
  exact wpAny_Compare1 (binT ha hb I h fun v u s2 x y H2 I2 rx ry q => ho pins s2 σ H2 x y v u Q I2 rx ry q) hm
/-- a reading of a value as a test -/
noncomputable def tTest (t : TE) : TT := fun σ H Q => t σ H fun x H' => ∃ k, x = .bl k ∧ Q k H'
theorem pt_cmpR {op : CmpOp} {r : R2} (ho : OpR X (compareOp op) r) (ha : PE X a ta) (hb : PE X b tb) (hm : behindInMarks op b = false) : PT X (.Compare a [op] [b] pos) (tTest (tOp r ta tb)) := by
  intro pins s σ H Q I h
  refine wpAny_isTrue_Compare1 (thn (ha pins s σ H _ I h) fun v s1 ⟨x, H1, I1, r1, q1⟩ => thn (hb pins s1 σ H1 _ I1 q1) fun u s2 ⟨y, H2, I2, r2, q2⟩ =>
    thn (ho pins s2 σ H2 x y v u _ I2 r1 r2 q2) fun c s3 ⟨z, H3, I3, r3, k, e, q3⟩ => ?_) hm
  subst e
  cases r3
  exact wpAny_truthy_bool ⟨H3, I3, q3⟩
/-- a op1 b op2 c -/
noncomputable def tChain (r r' : R2) (ta tb tc : TE) : TE := fun σ H Q => ta σ H fun x H1 => tb σ H1 fun y H2 => r x y H2 fun z H3 => ∃ k, z = .bl k ∧
  (if k = true then tc σ H3 fun w' H4 => r' y w' H4 Q else Q (.bl false) H3)
theorem pe_chain {op op' : CmpOp} {r r' : R2} (ho : OpR X (compareOp op) r) (ho' : OpR X (compareOp op') r') (ha : PE X a ta) (hb : PE X b tb) (hc : PE X c tc)
    (hm : lastMarks [op, op'] [b, c] = false := by with_unfolding_all rfl) : PE X (.Compare a [op, op'] [b, c] pos) (tChain r r' ta tb tc) := by
  intro pins s σ H Q I h
  refine Compare_chain (thn (ha pins s σ H _ I h) fun v s1 ⟨x, H1, I1, r1, q1⟩ => chain_link (thn (hb pins s1 σ H1 _ I1 q1) fun u s2 ⟨y, H2, I2, r2, q2⟩ =>
    thn (ho pins s2 σ H2 x y v u _ I2 r1 r2 q2) fun d s3 ⟨z, H3, I3, r3, k, e, q3⟩ => ?_)) hm
  subst e
  cases r3
  refine wpAny_truthy_bool ?_
  cases k with
  | false => exact ite_ff ⟨.bl false, H3, I3, rfl, q3⟩
  | true => exact ite_tt (chain_last (thn (hc pins s3 σ H3 _ I3 q3) fun w' s4 ⟨z', H4, I4, r4, q4⟩ => ho' pins s4 σ H4 y z' u w' Q I4 r2 r4 q4))
theorem pt_chain {op op' : CmpOp} {r r' : R2} (ho : OpR X (compareOp op) r) (ho' : OpR X (compareOp op') r') (ha : PE X a ta) (hb : PE X b tb) (hc : PE X c tc)
    (hm : lastMarks [op, op'] [b, c] = false := by with_unfolding_all rfl) : PT X (.Compare a [op, op'] [b, c] pos) (tTest (tChain r r' ta tb tc)) := by
  intro pins s σ H Q I h
  refine isTrue_chain (thn (ha pins s σ H _ I h) fun v s1 ⟨x, H1, I1, r1, q1⟩ => test_link (thn (hb pins s1 σ H1 _ I1 q1) fun u s2 ⟨y, H2, I2, r2, q2⟩ =>
    thn (ho pins s2 σ H2 x y v u _ I2 r1 r2 q2) fun d s3 ⟨z, H3, I3, r3, k, e, q3⟩ => ?_)) hm
  subst e
  cases r3
  refine wpAny_truthy_bool ?_
  cases k with
  | false =>
    obtain ⟨k', e', q'⟩ := q3
    cases e'
    exact ite_ff ⟨H3, I3, q'⟩
  | true =>
    refine ite_tt (test_last (thn (hc pins s3 σ H3 _ I3 q3) fun w' s4 ⟨z', H4, I4, r4, q4⟩ => thn (ho' pins s4 σ H4 y z' u w' _ I4 r2 r4 q4) fun d' s5 ⟨z2, H5, I5, r5, k2, e2, q5⟩ => ?_))
    subst e2
    cases r5
    exact wpAny_truthy_bool ⟨H5, I5, q5⟩

/-! ### truth -/
/-- a value's truth by the abstract heap -/
noncomputable def TruV (K : PySem.W.Frag) (x : V) (H : Hp) (k : Bool) : Prop :=
  match x with
  | .non => k = false
  | .bl b => k = b
  | .int i => k = (i != 0)
  | .str y => y.length ≤ sizeLine ∧ k = ((y.length : Int) != 0)
  | .byt y => y.size ≤ sizeLine ∧ k = ((y.size : Int) != 0)
  | .ref p => (∃ xs, SqL K H p xs ∧ k = !xs.isEmpty) ∨ (∃ xs, SqT K H p xs ∧ k = !xs.isEmpty) ∨ ∃ kvs, H p = some (.dK kvs) ∧ k = !kvs.isEmpty
  | _ => False
theorem isEmpty_kv {κ : Type} {kvs : List (κ × V)} {vs : List (κ × Value)} (r : KV kvs vs) : (!vs.isEmpty) = !kvs.isEmpty := by
  cases r <;> rfl
theorem isEmpty_of {xs : List V} {its : List Value} (r : Vals xs its) : (!its.toArray.isEmpty) = !xs.isEmpty := by
  cases r <;> simp
theorem line63 : (sizeLine : Nat) < 2 ^ 63 := by rw [sizeLine_eq]; decide
theorem tru_ok : TruR X (fun x H Q => ∃ k, TruV X.K x H k ∧ Q k H) := by
  intro pins s σ H x v Q I rx h
  obtain ⟨k, e, q⟩ := h
  have hl := line63
  have hs : sizeLine = 16777216 := sizeLine_eq
  cases x with
  | non =>
    cases rx
    have e' : k = false := e
    subst e'
    exact truthy_none ⟨H, I, q⟩
  | bl b =>
    cases rx
    have e' : k = b := e
    subst e'
    exact wpAny_truthy_bool ⟨H, I, q⟩
  | int i =>
    obtain ⟨t, rfl⟩ := rx
    have e' : k = (i != 0) := e
    subst e'
    exact PySem.P.truthy_int ⟨H, I, q⟩
  | str y =>
    obtain ⟨t, rfl⟩ := rx
    obtain ⟨hy, e'⟩ : y.length ≤ sizeLine ∧ k = ((y.length : Int) != 0) := e
    subst e'
    exact PySem.P.truthy_str (by lia) ⟨H, I.tok _, q⟩
  | byt y =>
    obtain ⟨t, rfl⟩ := rx
    obtain ⟨hy, e'⟩ : y.size ≤ sizeLine ∧ k = ((y.size : Int) != 0) := e
    subst e'
    exact PySem.W.truthy_bytes (by lia) ⟨H, I.tok _, q⟩
  | ref p =>
    cases rx
    have e' : (∃ xs, SqL X.K H p xs ∧ k = !xs.isEmpty) ∨ (∃ xs, SqT X.K H p xs ∧ k = !xs.isEmpty) ∨ ∃ kvs, H p = some (.dK kvs) ∧ k = !kvs.isEmpty := e
    rcases e' with ⟨xs, hx, e'⟩ | ⟨xs, hx, e'⟩ | ⟨kvs, hx, e'⟩
    · subst e'
      obtain ⟨its, r, pl, hz⟩ := I.list hx
      have hlen := r.length
      exact wpAny_truthy_list pl.isList (by simp only [List.size_toArray]; lia) ⟨H, I.tok _, by rw [isEmpty_of r]; exact q⟩
    · subst e'
      obtain ⟨its, r, pl, hz⟩ := I.tuple hx
      have hlen := r.length
      exact truthy_tuple pl (by simp only [List.size_toArray]; lia) ⟨H, I.tok _, by rw [isEmpty_of r]; exact q⟩
    · subst e'
      obtain ⟨hz, hS, vs, r, m⟩ : kvs.length ≤ sizeLine ∧ (p == sysModules) = false ∧ ∃ vs, KV kvs vs ∧ s.heap.DictOf (mixKind X.prog X.w) p vs := I.hok p _ hx
      have hlen : kvs.length = vs.length := Paired.length r
      exact wpAny_truthy_dict hS m (by lia) ⟨H, I.tok _, by rw [isEmpty_kv r]; exact q⟩
  | _ => exact (show False from e).elim
/-- any expression whose test is its value's truth (a name, a call, a subscript, a field ..: he by fun _ => rfl) -/
theorem pt_truth (ha : PE X a ta) (he : ∀ whole, isTrue a X.env whole = (do let v ← whole; standAt a.pos; holding [v] (truthy v))) :
    PT X a (fun σ H Q => ta σ H fun x H' => ∃ k, TruV X.K x H' k ∧ Q k H') := by
  intro pins s σ H Q I h
  exact isTrue_plain (thn (ha pins s σ H _ I h) fun v s1 ⟨x, H1, I1, r1, q1⟩ => tru_ok pins s1 σ H1 x v Q I1 r1 q1) (he _)

/-! ### strs and bytes -/
theorem op_add_str : OpR X (binaryOp .Add) (fun x y H Q => ∃ i j, x = .str i ∧ y = .str j ∧ i.length + j.length ≤ sizeLine ∧ Q (.str (i ++ j)) H) := by
  intro pins s σ H x y v u Q I rx ry h
  obtain ⟨i, j, rfl, rfl, hz, q⟩ := h
  obtain ⟨t, rfl⟩ := rx
  obtain ⟨t', rfl⟩ := ry
  exact add_str (fun t' tk => ⟨.str (i ++ j), H, I.tok _, ⟨_, rfl⟩, q⟩) hz


/-! ### scalar builtins, by CallR -/
theorem vals1 {x : V} {us : List Value} (r : Vals [x] us) : ∃ u, us = [u] ∧ RelV x u := by
  cases r with
  | cons r1 r2 => cases r2; exact ⟨_, rfl, r1⟩
theorem vals2 {x y : V} {us : List Value} (r : Vals [x, y] us) : ∃ u w', us = [u, w'] ∧ RelV x u ∧ RelV y w' := by
  cases r with
  | cons r1 r2 =>
    cases r2 with
    | cons r3 r4 => cases r4; exact ⟨_, _, rfl, r1, r3⟩
theorem call_min2 (hc : X.calm = true) : CallR X (.builtin "min") (fun xs H Q => ∃ i j, xs = [.int i, .int j] ∧ Q (.int (if j < i then j else i)) H) := by
  intro pins s σ H xs us Q I r h
  obtain ⟨i, j, rfl, q⟩ := h
  obtain ⟨u, w', rfl, ⟨t, rfl⟩, ⟨t', rfl⟩⟩ := vals2 r
  refine min_two_ints (I.ok.hd hc) fun h' tk k => ⟨_, H, I.kept k, ?_, q⟩
  by_cases hj : j < i
  · rw [if_pos hj, if_pos hj]; exact ⟨_, rfl⟩
  · rw [if_neg hj, if_neg hj]; exact ⟨_, rfl⟩
end
end L2

namespace L2
open PySem PySem.Spec PyProof.Rows

/-! ### an instance, its attributes a map -/
structure ObjM (h : Heap) (x dx C : Addr) (mA : Str → Option Value) : Prop where
  obj : h.get? x = some (PySem.W.instObj C dx)
  ns : h.Ns1 dx mA
  ne : dx ≠ x

theorem lookIn_ns {h : Heap} {dx : Addr} {mA : Str → Option Value} (n : h.Ns1 dx mA) : ∃ od, h.get? dx = some od ∧ ∀ name, PySem.W.lookIn name od = some (mA name) := by
  obtain ⟨o, es, ep, ho, hd, hk, _, hm⟩ := n
  refine ⟨o, ho, fun name => ?_⟩
  have e := hm name
  unfold nsFind findBy at e
  rw [← Array.find?_toList] at e
  unfold PySem.W.lookIn
  rw [hd]
  dsimp only
  split
  · rename_i y q
    rw [q] at e
    exact congrArg some e
  · rename_i q
    rw [q] at e
    have a : es.toList.any (·.refKey) = false := by
      rw [List.any_eq_false]
      intro y hy
      obtain ⟨z, t, hkey⟩ := hk y (Array.mem_toList_iff.mp hy)
      simp [DictEntry.refKey, hkey]
    have a' : ¬ es.toList.any (·.refKey) = true := by rw [a]; exact Bool.false_ne_true
    rw [if_neg a']
    exact congrArg some e

theorem ObjM.look {h : Heap} {x dx C : Addr} {mA : Str → Option Value} (I : ObjM h x dx C mA) : ∃ od, PySem.W.InstAt h x (PySem.W.instObj C dx) C (some od) ∧ ∀ name, PySem.W.lookIn name od = some (mA name) :=
  let ⟨od, ho, hl⟩ := lookIn_ns I.ns
  ⟨od, ⟨I.obj, rfl, rfl, ho⟩, hl⟩

section
variable {prog : Program} {w : World} {A : Around} {E : Value → Shared → Prop} {s : Shared} {K : PySem.W.Frag} {x dx C f : Addr} {mA : Str → Option Value} {name : Str} {v : Value}





end

/-! ### the attributes as a list of pairs -/

theorem RelO.some_of {v : V} {o : Option Value} (r : RelO (some v) o) : ∃ u, o = some u ∧ RelV v u := by
  cases o with
  | none => exact (show False from r).elim
  | some u => exact ⟨u, rfl, r⟩

section
variable {P : Program} {w : World} {H H' : Hp} {h h' : Heap} {a C dx : Addr} {fs fs' : List (Str × V)}
theorem ins_get (hok : HOk P w H h) (e : H a = some (.ins C dx fs)) : ∃ mA, ObjM h a dx C mA ∧ (∀ f, RelO (fs.lookup f) (mA f)) ∧ PySem.Within mA (fs.map (·.1)) ∧ fs.length ≤ 1000 ∧ H dx = some (.own a) := by
  obtain ⟨d, z, ne, ob, mA, n, r, q⟩ := (show ObjOk P w H h a (.ins C dx fs) from hok a _ e)
  exact ⟨mA, ⟨ob, n, ne⟩, r, q, z, d⟩
end

/-! ### what of the text a class must have -/
structure Cls (K : PySem.W.Frag) (C : Addr) : Prop where
  pg : PySem.W.plainGet K C Str.empty = true
  hd : PySem.W.hasDictIn K C = true
  po : PySem.W.plainOver K C = true
  sa : PySem.W.findIn K (.ref C) "__setattr__" = some (some (.builtin "object.__setattr__"))
theorem Cls.get {K : PySem.W.Frag} {C : Addr} (c : Cls K C) (f : Str) : PySem.W.plainGet K C f = true := c.pg

section
variable {X : Cx} {pins : List (Addr × Obj)} {σ : St} {H : Hp} {s : Shared} {a C dx : Addr} {fs : List (Str × V)} {f : Str} {v : V} {A : Around} {E : Value → Shared → Prop}






end

/-! ### readings and rules -/

section
variable {X : Cx} {o e value : Expr} {f : Str} {pos pos' tpos : Pos} {ta tv : TE}

end

/-! ### isinstance -/
section
variable {X : Cx} {pins : List (Addr × Obj)} {σ : St} {H : Hp} {s : Shared} {A : Around} {E : Value → Shared → Prop} {Q : Value → Shared → Prop} {c : Value} {b : Bool}
/-- the type of a value, as the fragment's deciders take it; for an instance its class -/
inductive TyOf (K : PySem.W.Frag) (H : Hp) : V → Value → Prop where
  | non : TyOf K H .non (.type "NoneType")
  | bl (x : Bool) : TyOf K H (.bl x) (.type "bool")
  | int (i : Int) : TyOf K H (.int i) (.type "int")
  | str (x : Str) : TyOf K H (.str x) (.type "str")
  | flt (x : UInt64) : TyOf K H (.flt x) (.type "float")
  | lst {a : Addr} {xs : List V} (e : H a = some (.lst xs)) : TyOf K H (.ref a) (.type "list")
  | frz {a : Addr} {o : Obj} {xs : List V} (e : H a = some (.frz o (.lst xs))) : TyOf K H (.ref a) (.type "list")
  | tup {a : Addr} {xs : List V} (e : H a = some (.tup xs)) : TyOf K H (.ref a) (.type "tuple")
  | dK {a : Addr} {kvs : List (Key × V)} (e : H a = some (.dK kvs)) : TyOf K H (.ref a) (.type "dict")
  | dT {a : Addr} {kvs : List (List Key × V)} (e : H a = some (.dT kvs)) : TyOf K H (.ref a) (.type "dict")
  | ins {a C dx : Addr} {fs : List (Str × V)} (e : H a = some (.ins C dx fs)) (cl : Cls K C) (ha : PySem.W.findIn K (.ref C) "__class__" = some (some (.builtin "object.__class__")))
      (hn : PySem.W.specialIn K (.builtin "object.__class__") "__get__" = some (some (.builtin "getset_descriptor.__get__"))) (htk : PySem.W.takesIn K (.builtin "object.__class__") = some true)
      (hm : PySem.W.mroIn K C (.type "object") = some true) : TyOf K H (.ref a) (.ref C)
/-- isinstance(x, c) for one class c, a built-in or an own one: kitOne's answer -/
theorem isinst_ok {x : V} {u t : Value} (I : Inv X pins σ H s) (rx : RelV x u) (ty : TyOf X.K H x t) (e : PySem.W.kitOne X.K t c = some b) (h : ∀ tk, Q (.bool b) { s with toks := tk }) :
    wpAny (model X.prog X.w) A (call (.builtin "isinstance") [u, c]) Q E s := by
  cases ty with
  | non => cases (show u = Value.none from rx); exact PySem.W.kia_one PySem.W.kitx_none I.kIn True.intro e (fun z => nomatch z) h
  | bl y => cases (show u = Value.bool y from rx); exact PySem.W.kia_one PySem.W.kitx_bool I.kIn True.intro e (fun z => nomatch z) h
  | int i => obtain ⟨t, q⟩ := (show ∃ t, u = Value.int i t from rx); cases q; exact PySem.W.kia_one PySem.W.kitx_int I.kIn True.intro e (fun z => nomatch z) h
  | str y => obtain ⟨t, q⟩ := (show ∃ t, u = Value.str y t from rx); cases q; exact PySem.W.kia_one PySem.W.kitx_str I.kIn True.intro e (fun z => nomatch z) h
  | flt y => obtain ⟨t, q⟩ := (show ∃ t, u = Value.float y t from rx); cases q; exact PySem.W.kia_one PySem.W.kitx_float I.kIn True.intro e (fun z => nomatch z) h
  | @lst a xs ea =>
    cases (show u = Value.ref a from rx)
    obtain ⟨_, _, n, _, h1⟩ := (show ObjOk X.prog X.w H s.heap a (.lst xs) from I.hok a _ ea)
    exact PySem.W.kia_one PySem.W.kitx_list I.kIn ⟨_, h1, rfl⟩ e (fun z => nomatch z) h
  | @frz a ob xs ea =>
    cases (show u = Value.ref a from rx)
    obtain ⟨_, _, _, n, _, h1⟩ := (show ObjOk X.prog X.w H s.heap a (.frz ob (.lst xs)) from I.hok a _ ea)
    exact PySem.W.kia_one PySem.W.kitx_list I.kIn ⟨_, h1, rfl⟩ e (fun z => nomatch z) h
  | @tup a xs ea =>
    cases (show u = Value.ref a from rx)
    obtain ⟨_, _, _, p⟩ := (show ObjOk X.prog X.w H s.heap a (.tup xs) from I.hok a _ ea)
    obtain ⟨o, h1, ⟨h2, _⟩, _⟩ := p
    exact PySem.W.kia_one PySem.W.kitx_tuple I.kIn ⟨o, h1, h2⟩ e (fun z => nomatch z) h
  | @dK a kvs ea =>
    cases (show u = Value.ref a from rx)
    obtain ⟨_, _, vs, _, p⟩ := (show ObjOk X.prog X.w H s.heap a (.dK kvs) from I.hok a _ ea)
    obtain ⟨o, es, ep, h1, h2, _⟩ := p
    exact PySem.W.kia_one PySem.W.kitx_dict I.kIn ⟨o, h1, h2.1⟩ e (fun z => nomatch z) h
  | @dT a kvs ea =>
    cases (show u = Value.ref a from rx)
    obtain ⟨_, _, xs, _, o, es, ep, h1, h2, _⟩ := (show ObjOk X.prog X.w H s.heap a (.dT kvs) from I.hok a _ ea)
    exact PySem.W.kia_one PySem.W.kitx_dict I.kIn ⟨o, h1, h2.1⟩ e (fun z => nomatch z) h
  | @ins a C dx fs ea cl ha hn htk hm =>
    cases (show u = Value.ref a from rx)
    obtain ⟨mA, O, _⟩ := ins_get I.hok ea
    obtain ⟨od, J, _⟩ := O.look
    exact PySem.W.kia_one (PySem.W.kitx_own (cl.get _) cl.hd ha hn htk hm) I.kIn J e (fun z => nomatch z) h
end
end L2

namespace L2
open PySem PySem.Spec PyProof.Rows

/-! ### room -/
structure Room (k : Nat) (A : Around) : Prop where
  hd : A.handled = none
  dp : A.depth + 3 * k + 5 < recursionLimit
  un : A.units + 16 * k + 200 < cLine
  gd : A.guards = some []
theorem Room.mono {j k : Nat} {A : Around} (r : Room k A) (h : j ≤ k) : Room j A := ⟨r.hd, by have := r.dp; lia, by have := r.un; lia, r.gd⟩
theorem Room.deeper {k : Nat} {A : Around} (r : Room (k + 1) A) (env : Env) : Room k (A.deeper env) :=
  ⟨r.hd, by have := r.dp; show A.depth + 1 + 3 * k + 5 < _; lia, by have := r.un; show A.units + 3 + 16 * k + 200 < _; lia, r.gd⟩
theorem Room.depth {k : Nat} {A : Around} (r : Room k A) : A.depth < recursionLimit := by have := r.dp; lia
theorem Room.units {k : Nat} {A : Around} (r : Room k A) : A.units + 64 < cLine := by have := r.un; lia

/-! ### argument lists and displays -/
noncomputable def tNil : TA := fun _ H Q => Q [] H
noncomputable def tCons (ta : TE) (tr : TA) : TA := fun σ H Q => ta σ H fun x H1 => tr σ H1 fun xs H2 => Q (x :: xs) H2
section
variable {X : Cx} {e : Expr} {es : List Expr} {te : TE} {t : TA} {pos : Pos}
theorem pa_nil : PA X [] tNil := fun _ _ _ _ H Q I h => Calls.spliced_nil ⟨[], H, I, .nil, h⟩
theorem pa_cons (ha : PE X e te) (hr : PA X es t) (hs : starEach (e :: es) X.env = (false, eval e X.env) :: starEach es X.env := by rfl) : PA X (e :: es) (tCons te t) := by
  intro pos pins s σ H Q I h
  rw [hs]
  show wpAny _ _ (spliced ((false, eval e X.env) :: backTo pos (starEach es X.env))) _ _ s
  refine Calls.spliced_cons (thn (ha pins s σ H _ I h) fun u s1 ⟨x, H1, I1, r1, q1⟩ => ?_)
  exact thn (hr pos pins s1 σ H1 _ I1 q1) fun us s2 ⟨xs, H2, I2, r2, q2⟩ => ⟨x :: xs, H2, I2, .cons r1 r2, q2⟩

/-- a tuple, a list of written items -/
noncomputable def tTup (t : TA) : TE := fun σ H Q => t σ H fun xs H1 => xs.length ≤ sizeLine ∧ ∀ p, H1 p = none → Q (.ref p) (upd H1 p (.tup xs))
noncomputable def tLst (t : TA) : TE := fun σ H Q => t σ H fun xs H1 => xs.length ≤ sizeLine ∧ ∀ p, H1 p = none → Q (.ref p) (upd H1 p (.lst xs))
theorem pe_tup {x1} (h : PA X es t) : PE X (.Tuple es x1 pos) (tTup t) := by
  intro pins s σ H Q I hq
  refine wpAny_Tuple_spliced (thn (h pos pins s σ H _ I hq) fun us s1 ⟨xs, H1, I1, r, z, q⟩ => ⟨by rw [← r.length]; exact z, ?_⟩)
  have hf : H1 s1.heap.objs.size = none := I1.hok.fresh (Nat.le_refl _)
  refine ⟨.ref s1.heap.objs.size, upd H1 s1.heap.objs.size (.tup xs), I1.laid (t' := s1.toks) (fun b u e => Heap.get?_push_of_some _ e) (Nat.le_refl _) ?_, rfl, q _ hf⟩
  exact ⟨z, us, r, ⟨_, Heap.get?_push_size _ rfl, ⟨rfl, _, rfl⟩, rfl⟩⟩
theorem pe_lst (h : PA X es t) : PE X (.List es pos) (tLst t) := by
  intro pins s σ H Q I hq
  refine wpAny_List_spliced (thn (h pos pins s σ H _ I hq) fun us s1 ⟨xs, H1, I1, r, z, q⟩ => ⟨by rw [← r.length]; exact z, ?_⟩)
  have hf : H1 s1.heap.objs.size = none := I1.hok.fresh (Nat.le_refl _)
  refine ⟨.ref s1.heap.objs.size, upd H1 s1.heap.objs.size (.lst xs), I1.laid (t' := s1.toks) (fun b u e => Heap.get?_push_of_some _ e) (Nat.le_refl _) ?_, rfl, q _ hf⟩
  exact ⟨z, us, 0, r, Heap.get?_push_size _ rfl⟩
end

/-! ### what a def promises -/
/-- a def's promise: the bound arguments in the parameters' order, the heap, the wanted end, the wanted exception -/
noncomputable abbrev Sp := List V → Hp → VK → XK → Prop
/-- how an exception lies behind a call (file 08 gives it): the callers' frames, abstract heap and state ahead of the call, the wish, the exception, the state -/
noncomputable abbrev CXT := List Env → Hp → Shared → XK → Value → Shared → Prop

/-- the state at a call -/
structure Env0 (P : Program) (w : World) (K : PySem.W.Frag) (mg : Str → Option Value) (base : Heap) (A : Around) (outer : List Env) (s : Shared) (H : Hp) : Prop where
  frames : A.frames = some outer
  mod : Mod K mg base
  bs : ∀ b o, base.get? b = some o → s.heap.get? b = some o ∧ H b = none
  bsz : base.objs.size ≤ s.heap.objs.size
  funs : s.heap.FunFrames base outer
  frf : ∀ b ∈ frs outer, H b = none
  hok : HOk P w H s.heap
  bare : AllBare s.gens
/-- a call's end -/
noncomputable def CE (outer : List Env) (P : Program) (w : World) (H : Hp) (s : Shared) (Q : VK) (u : Value) (s' : Shared) : Prop :=
  ∃ v H', s'.os = s.os ∧ AllBare s'.gens ∧ Un (frs outer) [] H H' s.heap s'.heap ∧ HOk P w H' s'.heap ∧ RelV v u ∧ Q v H'
noncomputable def CR (CX : CXT) (outer : List Env) (P : Program) (w : World) (H : Hp) (s : Shared) (Q : VK) (E : XK) (r : Result) (s' : Shared) : Prop :=
  match r with
  | .ok (.ret u) => CE outer P w H s Q u s'
  | .ok _ => False
  | .error e => CX outer H s E e s'
structure FnOk (P : Program) (w : World) (K : PySem.W.Frag) (mg : Str → Option Value) (base : Heap) (CX : CXT) (k : Nat) (f : Addr) (fd : FuncData) (ps : List Str) (sp : Sp) : Prop where
  len : ∀ vs H Q E, sp vs H Q E → vs.length = ps.length
  run : ∀ (A : Around) (outer : List Env) (s : Shared) (H : Hp) (args : Args) (us : List Value) (vs : List V) (Q : VK) (E : XK), Room k A → Env0 P w K mg base A outer s H → BindsTo s fd args (ps.zip us) → Vals vs us → sp vs H Q E →
    codeAny (model P w) A (.call (.ref f) args) (CR CX outer P w H s Q E) s
/-- a weaker promise -/
theorem FnOk.imp {P : Program} {w : World} {K : PySem.W.Frag} {mg : Str → Option Value} {base : Heap} {CX : CXT} {k : Nat} {f : Addr} {fd : FuncData} {ps : List Str} {sp sp' : Sp} (F : FnOk P w K mg base CX k f fd ps sp)
    (h : ∀ vs H Q E, sp' vs H Q E → sp vs H Q E) : FnOk P w K mg base CX k f fd ps sp' :=
  ⟨fun vs H Q E q => F.len vs H Q E (h _ _ _ _ q), fun A outer s H args us vs Q E hr he hb hv hs => F.run A outer s H args us vs Q E hr he hb hv (h _ _ _ _ hs)⟩


section
variable {X : Cx} {pins : List (Addr × Obj)} {σ : St} {H : Hp} {s s' : Shared}
/-- from a body: what a callee wants -/
theorem Inv.env0 (I : Inv X pins σ H s) : Env0 X.prog X.w X.K X.mg X.base X.A X.stack s H :=
  ⟨I.ok.frames, I.ok.mod, I.bs, Nat.le_trans I.ok.bsz I.sz, I.stack, I.stkFree, I.hok, I.bare⟩
/-- behind a call -/
theorem Inv.after {Q : VK} {u : Value} (I : Inv X pins σ H s) (h : CE X.stack X.prog X.w H s Q u s') : EP X pins σ Q u s' := by
  obtain ⟨v, H', os, bare, un, hok, r, q⟩ := h
  obtain ⟨hh, g, d, t, os'⟩ := s'
  obtain rfl : os' = s.os := os
  exact ⟨v, H', I.call (h' := hh) (g' := g) (d' := d) (t' := t) (ch := []) un hok bare (fun b z => absurd z (by simp)), r, q⟩
end

/-! ### calls -/
/-- f(..): the written arguments, then the defaults dvs; E: what is wanted of an exception -/
noncomputable def tCall (sp : Sp) (dvs : List V) (E : XK) (t : TA) : TE := fun σ H Q => t σ H fun vs H1 => sp (vs ++ dvs) H1 Q E

/-- how the parameters are bound: us the positional arguments, kw the keywords' values by name, ds the defaults that fill up -/
noncomputable def Binds (K : PySem.W.Frag) (fd : FuncData) (ps : List Str) (ds : List Value) : Prop :=
  ∀ (s : Shared) (us : List Value), K.In s.heap → (us ++ ds).length = ps.length → BindsTo s fd ⟨us, []⟩ (ps.zip (us ++ ds))
/-- every parameter is given -/
theorem Binds.all {K : PySem.W.Frag} {fd : FuncData} {ps : List Str} (h : ∀ us : List Value, us.length = ps.length → bindArgs fd ⟨us, []⟩ = pure (ps.zip us)) : Binds K fd ps [] := fun s us _ hl => by
  rw [List.append_nil] at hl ⊢
  exact .of_eq (h us hl)

/-- an exception of a callee reaches what this body wants of exceptions -/
noncomputable def Passes (CX : CXT) (X : Cx) (E : XK) : Prop := ∀ (pins : List (Addr × Obj)) (σ : St) (H : Hp) (s : Shared) (e : Value) (s' : Shared), Inv X pins σ H s → CX X.stack H s E e s' → X.xe e s'

section
variable {X : Cx} {CX : CXT} {k : Nat} {f C : Addr} {fd : FuncData} {ps : List Str} {sp : Sp} {dvs : List V} {ds : List Value} {E : XK} {x m : Str} {p pos apos : Pos} {e o : Expr} {es : List Expr} {ta : TE} {t : TA}

/-- the callee runs -/
theorem run_fn {pins : List (Addr × Obj)} {σ : St} {H : Hp} {s : Shared} {Q : VK} {us : List Value} {vs : List V} (F : FnOk X.prog X.w X.K X.mg X.base CX k f fd ps sp) (hr : Room k X.A) (hb : Binds X.K fd ps ds) (hd : Vals dvs ds) (hx : Passes CX X E)
    (I : Inv X pins σ H s) (r : Vals vs us) (h : sp (vs ++ dvs) H Q E) : wpAny (model X.prog X.w) X.A (call (.ref f) us) (EP X pins σ Q) X.xe s := by
  have r2 : Vals (vs ++ dvs) (us ++ ds) := r.append hd
  have hl : (us ++ ds).length = ps.length := by rw [← r2.length]; exact F.len _ _ _ _ h
  refine wpAny_call (codeAny_mono (F.run X.A X.stack s H ⟨us, []⟩ (us ++ ds) (vs ++ dvs) Q E hr I.env0 (hb s us I.kIn hl) r2 h) fun r s' hq => ?_)
  cases r with
  | error e => exact hx pins σ H s e s' I hq
  | ok fl =>
    cases fl with
    | ret u => exact I.after hq
    | next => exact False.elim hq
    | brk => exact False.elim hq
    | cont => exact False.elim hq

theorem pe_call (F : FnOk X.prog X.w X.K X.mg X.base CX k f fd ps sp) (hr : Room k X.A) (hg : Gl X x) (hm : X.mg x = some (.ref f)) (hk : PySem.W.keepIn X.K (.ref f) = true) (hb : Binds X.K fd ps ds) (hd : Vals dvs ds) (hx : Passes CX X E)
    (ha : PA X (e :: es) t) (hdb : (x == ("__debug__" : Str)) = false := by decide) (he : starEach (e :: es) X.env = (false, eval e X.env) :: starEach es X.env := by rfl) (hpl : (backTo pos (starEach es X.env)).any (·.1) = false := by rfl) :
    PE X (.Call (.Name x p) (e :: es) [] pos) (tCall sp dvs E t) := by
  intro pins s σ H Q I h
  refine wpAny_Call_Name_kw (ld_glob I hg hm ?_ hdb)
  refine PySem.W.callWith_K (h₀ := X.base) I.ok.mod.kin hk (thn (ha pos pins s σ H _ I h) fun us s1 ⟨vs, H1, I1, r, q⟩ => ⟨I1.kIn, ?_⟩) he hpl
  exact run_fn F hr hb hd hx I1 r q



end

/-! ### keywords -/
section
variable {X : Cx} {CX : CXT} {k : Nat} {f C : Addr} {fd : FuncData} {ps ks : List Str} {sp : Sp} {E : XK} {x m : Str} {p pos apos kpos : Pos} {e o : Expr} {es : List Expr} {kws : List Keyword} {te ta : TE} {t tk : TA} {nm : Option Str}

variable {g : List Value → List Value → List Value} {gV : List V → List V → List V}
end

/-! ### a def's body keeps its promise -/
/-- names: the parameters first -/
structure FnScope (N P : List Str) (sc : Scope) : Prop where
  kind : sc.kind = .function
  co : sc.isCoroutine = false
  gen : sc.isGenerator = false
  nd : N.Nodup
  pre : N.take P.length = P
  par : ∀ x ∈ P, sc.names.lookup x = some .local ∨ sc.names.lookup x = some .cell
  nofree : ∀ y ∈ sc.names, y.2 ≠ .free

theorem bindL_out {kindOf : Str → Option NameKind} {x : Str} : ∀ {binds : List (Str × Value)} {m : Str → Option Value}, (∀ v, (x, v) ∉ binds) → bindL kindOf binds m x = m x
  | [], _, _ => rfl
  | (n, v) :: r, m, h => by
    unfold bindL
    rw [bindL_out fun w hw => h w (List.mem_cons_of_mem _ hw)]
    split
    · have : x ≠ n := by rintro rfl; exact h v List.mem_cons_self
      simp [this]
    · rfl
theorem bindC_out {kindOf : Str → Option NameKind} {x : Str} : ∀ {binds : List (Str × Value)} {m : Str → Option Value}, (∀ v, (x, v) ∉ binds) → bindC kindOf binds m x = m x
  | [], _, _ => rfl
  | (n, v) :: r, m, h => by
    unfold bindC
    rw [bindC_out fun w hw => h w (List.mem_cons_of_mem _ hw)]
    split
    · rfl
    · have : x ≠ n := by rintro rfl; exact h v List.mem_cons_self
      simp [this]
theorem bindL_get {kindOf : Str → Option NameKind} {x : Str} {v : Value} : ∀ {P : List Str} {vs : List Value} {i : Nat} {m : Str → Option Value}, P.Nodup → P[i]? = some x → vs[i]? = some v → kindOf x = some .local →
    bindL kindOf (P.zip vs) m x = some v
  | [], _, _, _, _, h, _, _ => by simp at h
  | _ :: _, [], _, _, _, _, h, _ => by simp at h
  | p :: P, w :: vs, 0, m, nd, h1, h2, hk => by
    simp at h1 h2; subst h1; subst h2
    show bindL kindOf ((p, w) :: P.zip vs) m p = _
    unfold bindL
    rw [bindL_out fun v hv => (List.nodup_cons.mp nd).1 (List.of_mem_zip hv).1, if_pos hk]
    simp
  | p :: P, w :: vs, i + 1, m, nd, h1, h2, hk => by
    show bindL kindOf ((p, w) :: P.zip vs) m x = _
    unfold bindL
    exact bindL_get (i := i) (List.nodup_cons.mp nd).2 (by simpa using h1) (by simpa using h2) hk
theorem bindC_get {kindOf : Str → Option NameKind} {x : Str} {v : Value} : ∀ {P : List Str} {vs : List Value} {i : Nat} {m : Str → Option Value}, P.Nodup → P[i]? = some x → vs[i]? = some v → kindOf x ≠ some .local →
    bindC kindOf (P.zip vs) m x = some v
  | [], _, _, _, _, h, _, _ => by simp at h
  | _ :: _, [], _, _, _, _, h, _ => by simp at h
  | p :: P, w :: vs, 0, m, nd, h1, h2, hk => by
    simp at h1 h2; subst h1; subst h2
    show bindC kindOf ((p, w) :: P.zip vs) m p = _
    unfold bindC
    rw [bindC_out fun v hv => (List.nodup_cons.mp nd).1 (List.of_mem_zip hv).1, if_neg hk]
    simp
  | p :: P, w :: vs, i + 1, m, nd, h1, h2, hk => by
    show bindC kindOf ((p, w) :: P.zip vs) m x = _
    unfold bindC
    exact bindC_get (i := i) (List.nodup_cons.mp nd).2 (by simpa using h1) (by simpa using h2) hk

/-- the names' values at the entry -/
noncomputable def start (N : List Str) (vs : List V) : St := vs.map some ++ List.replicate (N.length - vs.length) none

/-- the context of a def's body, at its entry; an exception leaves the frame, then lies as CX says -/
noncomputable def cxOf (CX : CXT) (P : Program) (w : World) (K : PySem.W.Frag) (mg : Str → Option Value) (base : Heap) (N : List Str) (qual : Str) (scope : Scope) (f : Addr) (cd : Value) (A : Around) (outer : List Env) (s : Shared) (H : Hp) (E : XK) : Cx where
  prog := P
  w := w
  K := K
  mg := mg
  base := base
  A := A.deeper (envOfC qual scope s.heap.objs.size f cd)
  N := N
  s₀ := s
  H₀ := H
  env := envOfC qual scope s.heap.objs.size f cd
  outer := outer
  stack := envOfC qual scope s.heap.objs.size f cd :: outer
  ex := []
  calm := true
  fn := fun _ => true
  pn := []
  xe := fun e s' => wpAny (model P w) (A.deeper (envOfC qual scope s.heap.objs.size f cd)) (leaving (envOfC qual scope s.heap.objs.size f cd) e) (fun _ s'' => CX outer H s E e s'') (fun e' s'' => CX outer H s E e' s'') s'

theorem cell_has {sc : Scope} {n : Nat} {x : Str} (h : sc.names.lookup x = some .cell) : ∃ c, (cellsFrom n sc.names []).lookup x = some c := by
  have q := PySem.W.cellsFrom_some sc.names n [] (.inl h)
  exact Option.isSome_iff_exists.mp q

theorem inv_start {CX : CXT} {P : Program} {w : World} {K : PySem.W.Frag} {mg : Str → Option Value} {base : Heap} {N ps : List Str} {qual : Str} {scope : Scope} {f : Addr} {cd : Value} {A : Around} {outer : List Env} {s s1 : Shared} {H : Hp} {E : XK} {us : List Value} {vs : List V}
    (S : FnScope N ps scope) (hd : A.handled = none) (e0 : Env0 P w K mg base A outer s H) (hl : vs.length = ps.length) (r : Vals vs us)
    (x : InCallC s s.heap.objs.size (bindL (envOfC qual scope s.heap.objs.size f cd).kindOf (ps.zip us) fun _ => none) (cellsFrom (s.heap.objs.size + 1) scope.names []) (bindC (envOfC qual scope s.heap.objs.size f cd).kindOf (ps.zip us) fun _ => none) s1) :
    Inv (cxOf CX P w K mg base N qual scope f cd A outer s H E) [] (start N vs) H s1 := by
  have hpl : ps.length ≤ N.length := by have := congrArg List.length S.pre; rw [List.length_take] at this; lia
  obtain ⟨h1, tk, rfl, hk⟩ := x.done
  have noA : ∀ b : Addr, b ∉ (cxOf CX P w K mg base N qual scope f cd A outer s H E).ex := fun b z => absurd (show b ∈ ([] : List Addr) from z) (by simp)
  refine ⟨⟨e0.mod, S.kind, rfl, rfl, Nat.le_refl _, fun y z c h1 h2 => ?_, fun y hy => ?_, fun y c _ h => ?_, fun _ => hd, Around.frames_deeper e0.frames, .inr ⟨rfl, rfl⟩, fun b z => absurd z (noA b), e0.bs, e0.bsz, fun b _ _ => noA b, fun b z => absurd z (noA b), e0.funs, e0.frf⟩,
    rfl, e0.bare, Un.kept hk, ⟨_, x.toInCall.ns, fun i y v h1 h2 h3 => ?_⟩, fun y c h => ⟨_, x.cell y c h⟩, e0.hok.fresh (Nat.le_refl _), fun y c h => ?_, fun p hp => absurd (show p ∈ ([] : List (Addr × Obj)) from hp) (by simp), e0.hok.kept hk, ?_⟩
  · exact name_of_addr x.apart (PySem.mem_of_lookup h1) (PySem.mem_of_lookup h2)
  · have hy : scope.names.lookup y = some .cell ∨ scope.names.lookup y = some .free := hy
    rcases hy with hy | hy
    · exact cell_has hy
    · exact absurd rfl (S.nofree _ (PySem.mem_of_lookup hy))
  · exact Nat.le_of_lt (x.above y c (PySem.mem_of_lookup h))
  · have hi : i < vs.length := by
      unfold start at h2
      by_cases hi : i < vs.length
      · exact hi
      · rw [List.getElem?_append_right (by simpa using hi)] at h2
        rw [List.getElem?_replicate] at h2
        split at h2 <;> cases h2
    have ha : vs[i]? = some v := by
      unfold start at h2
      rw [List.getElem?_append_left (by simpa using hi), List.getElem?_map] at h2
      cases e : vs[i]? with
      | none => rw [e] at h2; cases h2
      | some a => rw [e] at h2; cases h2; rfl
    obtain ⟨u, hu, rv⟩ := r.get ha
    have hp : ps[i]? = some y := by
      rw [← S.pre, List.getElem?_take_of_lt (by lia)]; exact h1
    have ndP : ps.Nodup := by rw [← S.pre]; exact S.nd.sublist (List.take_sublist _ _)
    refine ⟨u, rv, ?_⟩
    rcases S.par y (List.mem_of_getElem? hp) with k | k
    · exact .inl ⟨k, bindL_get ndP hp hu k⟩
    · obtain ⟨c, e⟩ := cell_has (n := s.heap.objs.size + 1) k
      refine .inr ⟨.inl k, c, e, ?_⟩
      have q := x.cell y c e
      rw [bindC_get ndP hp hu (by show scope.names.lookup y ≠ _; rw [k]; decide)] at q
      exact q
  · exact e0.hok.fresh (Nat.le_of_lt (x.above y c (PySem.mem_of_lookup h)))
  · unfold start
    show _ = N.length
    rw [List.length_append, List.length_map, List.length_replicate]
    lia

/-- THE RULE: a def (or a method) of the text, by its body. The body's reading t is chosen for each entry; it is run at the parameters' values -/
theorem fn_of {CX : CXT} {P : Program} {w : World} {K : PySem.W.Frag} {mg : Str → Option Value} {base : Heap} {k : Nat} {f : Addr} {name qual : Str} {params : Arguments} {body : List Stmt} {scope : Scope} {dV kV doc pm cdv ct oc : Value} {an od : Option Addr}
    {osl : Array (Option Value)} {N ps : List Str} {sp : Sp} (lk : K.lookup f = some ⟨oc, od, .func (PySem.W.fnOf name qual params body scope dV kV doc pm an cdv ct), osl⟩) (hcd : PySem.W.codeIn K cdv qual = true) (S : FnScope N ps scope)
    (len : ∀ vs H Q E, sp vs H Q E → vs.length = ps.length)
    (hbody : ∀ (A : Around) (outer : List Env) (s : Shared) (H : Hp) (vs : List V) (Q : VK) (E : XK), Room k (A.deeper (envOfC qual scope s.heap.objs.size f cdv)) → sp vs H Q E →
      ∃ t, PSs (cxOf CX P w K mg base N qual scope f cdv A outer s H E) body t ∧ t { nx := fun _ H' => Q .non H', rt := Q } (start N vs) H) :
    FnOk P w K mg base CX (k + 1) f (PySem.W.fnOf name qual params body scope dV kV doc pm an cdv ct) ps sp := by
  refine ⟨len, fun A outer s H args us vs Q E hr e0 hb r hsp => ?_⟩
  have hl := len _ _ _ _ hsp
  have KX : K.In s.heap := e0.mod.kin.keeps fun b o e => (e0.bs b o e).1
  have lim : s.heap.NoLimit := e0.mod.nolimit.keeps fun b o e => (e0.bs b o e).1
  have hkind : ∀ y ∈ ps.zip us, scope.names.lookup y.1 = some .local ∨ (scope.names.lookup y.1 = some .cell ∧ ((cellsFrom (s.heap.objs.size + 1) scope.names []).lookup y.1).isSome = true) := fun ⟨n, v⟩ hy => by
    rcases S.par n (List.of_mem_zip hy).1 with q | q
    · exact .inl q
    · exact .inr ⟨q, PySem.W.cellsFrom_some _ _ _ (.inl q)⟩
  refine codeAny_call_function hr.depth (KX _ _ lk) rfl S.co S.gen rfl (PySem.W.codeRec_of KX hcd) (hb _ _ _ _ ?_)
  refine wpAny_newFunctionEnv_cells S.kind hkind fun env he s1 x => ?_
  subst he
  refine ⟨lim.keeps x.toInCall.keep, codeAny_func ?_⟩
  obtain ⟨t, ht, hq⟩ := hbody A outer s H vs Q E (hr.deeper _) hsp
  have I : Inv (cxOf CX P w K mg base N qual scope f cdv A outer s H E) [] (start N vs) H s1 := inv_start S hr.hd e0 hl r x
  refine wpAny_mono (ht [] s1 (start N vs) H _ I hq) (fun fl s' hs => ?_) fun e s' hs => hs
  have fin : ∀ {σ' : St} {H' : Hp} {v : V} {u : Value}, Inv (cxOf CX P w K mg base N qual scope f cdv A outer s H E) [] σ' H' s' → RelV v u → Q v H' → CE outer P w H s Q u s' :=
    fun {σ' H' v u} J rv q => ⟨v, H', J.os, J.bare, J.base, J.hok, rv, q⟩
  cases fl with
  | ret u =>
    obtain ⟨v, σ', H', J, rv, q⟩ := hs
    exact fin J rv q
  | next =>
    obtain ⟨σ', H', J, q⟩ := hs
    exact fin (v := V.non) (u := Value.none) J rfl q
  | brk =>
    obtain ⟨_, _, _, q⟩ := hs
    exact False.elim q
  | cont =>
    obtain ⟨_, _, _, q⟩ := hs
    exact False.elim q
end L2

namespace L2
open PySem PySem.Spec PyProof.Rows
section
variable {X : Cx} {x : Str} {p pos : Pos} {e : Expr} {es : List Expr} {t : TA} {id T : String} {r : List V → Hp → VK → Prop}

noncomputable def tCB (r : List V → Hp → VK → Prop) (t : TA) : TE := fun σ H Q => t σ H fun vs H1 => r vs H1 Q
/-- f(e, ..), f a built-in function -/
theorem pe_callB (hc : CallR X (.builtin id) r) (hg : Gl X x) (hm : X.mg x = none) (hv : bootBuiltins x = some (.builtin id)) (ha : PA X (e :: es) t) (hn : x ≠ "__name__" := by decide) (hdb : (x == ("__debug__" : Str)) = false := by decide)
    (he : starEach (e :: es) X.env = (false, eval e X.env) :: starEach es X.env := by rfl) (hpl : (backTo pos (starEach es X.env)).any (·.1) = false := by rfl) : PE X (.Call (.Name x p) (e :: es) [] pos) (tCB r t) := by
  intro pins s σ H Q I h
  refine wpAny_Call_Name_kw (ld_blt I hg hm hv ?_ hn hdb)
  exact PyProof.Rows.callWith_builtin1 (thn (ha pos pins s σ H _ I h) fun us s1 ⟨vs, H1, I1, r1, q1⟩ => hc pins s1 σ H1 vs us Q I1 r1 q1) he hpl
/-- T(e, ..), T a built-in type -/
theorem pe_callTy (hc : CallR X (.type T) r) (hg : Gl X x) (hm : X.mg x = none) (hv : bootBuiltins x = some (.type T)) (ha : PA X (e :: es) t) (hn : x ≠ "__name__" := by decide) (hdb : (x == ("__debug__" : Str)) = false := by decide)
    (he : starEach (e :: es) X.env = (false, eval e X.env) :: starEach es X.env := by rfl) (hpl : (backTo pos (starEach es X.env)).any (·.1) = false := by rfl) : PE X (.Call (.Name x p) (e :: es) [] pos) (tCB r t) := by
  intro pins s σ H Q I h
  refine wpAny_Call_Name_kw (ld_blt I hg hm hv ?_ hn hdb)
  exact PyProof.Rows.callWith_type1 (thn (ha pos pins s σ H _ I h) fun us s1 ⟨vs, H1, I1, r1, q1⟩ => hc pins s1 σ H1 vs us Q I1 r1 q1) he hpl
end
end L2

namespace HT
open PySem PyProof.Rows



section
open PySem.SeqAt
open PySem.AutoSeq1 (wpAny_loadPart')
open PySem.MeetsSeq PySem.MeetsSeq2 PySem.MeetsSeq3

end

section
variable {prog : Program} {w : World} {A : Around} {E : Value → Shared → Prop} {s : Shared}


/-- t + u, t not empty -/
theorem cat_tup {t b : Addr} {vs ws : List Value} {Q : Value → Shared → Prop} (ht : IsTup s.heap t vs.toArray) (hb : IsTup s.heap b ws.toArray) (hv : vs ≠ [])
    (h1 : ws = [] → Q (.ref t) s) (h2 : ws ≠ [] → Q (.ref s.heap.objs.size) { s with heap := s.heap.push { cls := .type "tuple", data := .seq (vs ++ ws).toArray } })
    (hsz : vs.length + ws.length ≤ sizeLine) : wpAny (model prog w) A (binaryOp .Add (.ref t) (.ref b)) Q E s := by
  obtain ⟨⟨cls, dd, data, sl⟩, ho, hc, n, hd⟩ := id ht
  obtain ⟨⟨cls2, dd2, data2, sl2⟩, ho2, hc2, n2, hd2⟩ := id hb
  simp only at hc hd hc2 hd2
  subst hc hd hc2 hd2
  have e : vs.toArray ++ ws.toArray = (vs ++ ws).toArray := by simp
  by_cases hw : ws = []
  · exact concat_meets ⟨_, ho, rfl⟩ ⟨_, ho2, rfl⟩ noFill_tuple_add seq_tuple_add PySem.F.slot_tuple_add PySem.F.entry_tuple_add (PySem.F.args_tuple_add_2 _ _)
      (tuple_addW1 t b vs.toArray ws.toArray n n2 dd dd2 sl sl2 (by simpa using hv) (by simp [hw])) ⟨ho, ho2, h1 hw⟩
  · refine concat_meets ⟨_, ho, rfl⟩ ⟨_, ho2, rfl⟩ noFill_tuple_add seq_tuple_add PySem.F.slot_tuple_add PySem.F.entry_tuple_add (PySem.F.args_tuple_add_2 _ _)
      (tuple_addW2 t b vs.toArray ws.toArray n n2 dd dd2 sl sl2 (by simpa using hv) (by simpa using hw) (by rw [List.size_toArray, List.size_toArray]; exact hsz)) ⟨ho, ho2, ?_⟩
    rw [e]
    exact h2 hw

/-! ### t[a:b], not the whole -/
/-- a slice's bound as a place among n (d where it is left out) -/
noncomputable def sIx (n d : Nat) : Option Int → Nat
  | none => d
  | some v => if v < 0 then (v + (n : Int)).toNat else min v.toNat n
theorem sIx_none (n d : Nat) : sIx n d none = d := rfl
theorem sIx_nat (n d k : Nat) : sIx n d (some (k : Int)) = min k n := by
  show (if (k : Int) < 0 then ((k : Int) + (n : Int)).toNat else min (k : Int).toNat n) = min k n
  rw [if_neg (by lia), Int.toNat_natCast]
theorem sIx_le (n d : Nat) (hd : d ≤ n) (o : Option Int) : sIx n d o ≤ n := by
  cases o with
  | none => exact hd
  | some v =>
    show (if v < 0 then (v + (n : Int)).toNat else min v.toNat n) ≤ n
    by_cases hv : v < 0
    · rw [if_pos hv]; lia
    · rw [if_neg hv]; exact Nat.min_le_right _ _
theorem clip_eq (v : Int) (n d : Nat) : (if v < 0 then max (v + (n : Int)) 0 else min v (n : Int)) = ((sIx n d (some v) : Nat) : Int) := by
  show (if v < 0 then max (v + (n : Int)) 0 else min v (n : Int)) = (((if v < 0 then (v + (n : Int)).toNat else min v.toNat n) : Nat) : Int)
  by_cases hv : v < 0
  · simp only [if_pos hv]; lia
  · simp only [if_neg hv]; lia
theorem adjust_gen (lo hi : Option Int) (n : Nat) : Builtin.Slice.sliceAdjust lo hi 1 (n : Int) = (((sIx n 0 lo : Nat) : Int), ((sIx n n hi : Nat) : Int)) := by
  have h1 : ¬ ((1 : Int) < 0) := by lia
  unfold Builtin.Slice.sliceAdjust
  simp only [h1, if_false]
  refine Prod.ext ?_ ?_
  · cases lo with
    | none => rfl
    | some v => exact clip_eq v n 0
  · cases hi with
    | none => rfl
    | some v => exact clip_eq v n n
theorem places_gen (i j : Nat) : Builtin.Slice.slicePlaces (i : Int) (j : Int) 1 = j - i := by
  unfold Builtin.Slice.slicePlaces
  have h1 : (1 : Int) > 0 := by lia
  simp only [h1, if_true, Int.ediv_one]
  split <;> lia
theorem slicePart_ {v : Value} {o : Option Int} {Q : Option Int → Shared → Prop} (p : IsPart v o) (h : Q o s) : wpAny (model prog w) A (Builtin.Slice.slicePartIndex v) Q E s := by
  cases p with
  | none => exact slicePart_none h
  | int i t => exact slicePart_int h
theorem sliceApplied_gen {sl : Addr} {vl vu : Value} {lo hi : Option Int} {n : Nat} {Q : Int × Int × Nat → Shared → Prop} (hs : s.heap.IsSliceOf sl vl vu .none) (pl : IsPart vl lo) (pu : IsPart vu hi)
    (h : Q (((sIx n 0 lo : Nat) : Int), 1, sIx n n hi - sIx n 0 lo) s) : wpAny (model prog w) A (Builtin.Slice.sliceApplied (.ref sl) (pure (n : Int))) Q E s := by
  obtain ⟨os, hos, hcs, hds⟩ := id hs
  unfold Builtin.Slice.sliceApplied Builtin.Slice.sliceFields
  refine wpAny_bind (wpAny_bind (wpAny_field hos hds (x := vl) rfl (wpAny_bind (wpAny_field hos hds (x := vu) rfl (wpAny_bind (wpAny_field hos hds (x := .none) rfl (wpAny_pure ?_)))))))
  refine wpAny_bind (slicePart_none ?_)
  show wpAny _ _ (if ((1 : Int) == 0) = true then _ else _) _ _ s
  rw [if_neg (by decide)]
  refine wpAny_bind (slicePart_ pl (wpAny_bind (slicePart_ pu (wpAny_bind (wpAny_pure ?_)))))
  show wpAny _ _ (match Builtin.Slice.sliceAdjust lo hi 1 (n : Int) with | (lo, hi) => pure (lo, (1 : Int), Builtin.Slice.slicePlaces lo hi 1)) _ _ s
  rw [adjust_gen lo hi n]
  show wpAny _ _ (pure (((sIx n 0 lo : Nat) : Int), (1 : Int), Builtin.Slice.slicePlaces ((sIx n 0 lo : Nat) : Int) ((sIx n n hi : Nat) : Int) 1)) _ _ s
  rw [places_gen]
  exact wpAny_pure h
theorem pick_gen (xs : Array Value) (i k : Nat) : ((List.range k).filterMap fun (m : Nat) => xs[((i : Int) + (m : Int) * 1).toNat]?).toArray = ((xs.toList.drop i).take k).toArray := by
  have e : (fun (m : Nat) => xs[((i : Int) + (m : Int) * 1).toNat]?) = fun m => xs[i + m]? := by
    funext m
    have : ((i : Int) + (m : Int) * 1).toNat = i + m := by lia
    rw [this]
  rw [e]
  have := pick_run xs i k
  rw [List.filterMap_map] at this
  have e2 : ((fun x => xs[x]?) ∘ fun x => i + x) = fun m => xs[i + m]? := rfl
  rw [e2] at this
  rw [this]

theorem getItem_tuple_cut {t sl : Addr} {items : Array Value} {vl vu : Value} {lo hi : Option Int} {Q : Value → Shared → Prop} (ht : IsTup s.heap t items) (hs : s.heap.IsSliceOf sl vl vu .none) (pl : IsPart vl lo) (pu : IsPart vu hi)
    (hw : ¬ (sIx items.size 0 lo = 0 ∧ sIx items.size items.size hi = items.size))
    (h : Q (.ref s.heap.objs.size) { s with heap := s.heap.push { cls := .type "tuple", data := .seq ((items.toList.drop (sIx items.size 0 lo)).take (sIx items.size items.size hi - sIx items.size 0 lo)).toArray } })
    (hsz : items.size ≤ sizeLine) : wpAny (model prog w) A (getItem (.ref t) (.ref sl)) Q E s := by
  have htake : sizeOk (.seq ((items.toList.drop (sIx items.size 0 lo)).take (sIx items.size items.size hi - sIx items.size 0 lo)).toArray) := by
    show ((items.toList.drop (sIx items.size 0 lo)).take (sIx items.size items.size hi - sIx items.size 0 lo)).toArray.size ≤ sizeLine
    rw [List.size_toArray, List.length_take, List.length_drop, Array.length_toList]
    lia
  have hj : sIx items.size items.size hi ≤ items.size := sIx_le _ _ (Nat.le_refl _) hi
  obtain ⟨os, hos, hcs, hds⟩ := id hs
  have hTs : s.TypeIs (.ref sl) "slice" := ⟨os, hos, hcs⟩
  unfold getItem
  try with_reducible refine wpAny_holding ?_
  first | refine wpAny_bind (wpAny_pure ?_) | skip
  refine wpAny_bind (wpAny_sequenceKey ht.typeIs (by decide) ?_)
  refine wpAny_bind (wpAny_callSpecial?_slot (name := Str.ofString "__getitem__") ht.typeIs PyProof.Rows.slot_tuple_getitem
    (wpAny_call_entry PyProof.Rows.slot_tuple_getitem ht.typeIs entry_tuple_getitem ?_ (args_tuple_getitem _ _)))
  show wpAny _ _ (Builtin.Tuple.tupleItemsOf (.ref t) >>= _) _ _ s
  refine wpAny_bind (tupleItemsOf_ ht ?_)
  refine wpAny_bind (wpAny_typeOf hTs ?_)
  rw [if_pos (by decide)]
  refine wpAny_bind (sliceApplied_gen hs pl pu ?_)
  have hno : ¬ ((((sIx items.size 0 lo : Nat) : Int) == 0 && (1 : Int) == 1 && (sIx items.size items.size hi - sIx items.size 0 lo) == items.size) = true) := by
    intro q
    rw [Bool.and_eq_true, Bool.and_eq_true] at q
    have q1 : ((sIx items.size 0 lo : Nat) : Int) = 0 := eq_of_beq q.1.1
    have q2 : sIx items.size items.size hi - sIx items.size 0 lo = items.size := eq_of_beq q.2
    exact hw ⟨by lia, by lia⟩
  show wpAny _ _ (if (((sIx items.size 0 lo : Nat) : Int) == 0 && (1 : Int) == 1 && (sIx items.size items.size hi - sIx items.size 0 lo) == items.size) = true then _ else _) _ _ s
  rw [if_neg hno, pick_gen]
  first
    | exact wpAny_bind (m := Builtin.Tuple.tupleExact _) (wpAny_newObj_type (wpAny_pure ⟨_, rfl, wpAny_pure h⟩) htake)
    | exact wpAny_bind (m := Builtin.Tuple.tupleExact _) (wpAny_newObj_type (wpAny_bind (wpAny_pure (wpAny_pure ⟨_, rfl, wpAny_pure h⟩))) htake)
    | exact wpAny_bind (wpAny_bind (m := Builtin.Tuple.tupleExact _) (wpAny_newObj_type (wpAny_pure (wpAny_pure ⟨_, rfl, wpAny_pure h⟩)) htake))
    | exact wpAny_bind (wpAny_bind (m := Builtin.Tuple.tupleExact _) (wpAny_newObj_type (wpAny_pure ⟨_, rfl, wpAny_pure h⟩) htake))
end
end HT

namespace L2
open PySem PySem.Spec PyProof.Rows

/-! ### the parts of a slice -/
noncomputable abbrev TO := St → Hp → (Option Int → Hp → Prop) → Prop
/-- a slice's part (left out, or an int) -/
noncomputable def PO (X : Cx) (e : Option Expr) (t : TO) : Prop :=
  ∀ (pins : List (Addr × Obj)) (s : Shared) (σ : St) (H : Hp) (Q : Option Int → Hp → Prop), Inv X pins σ H s → t σ H Q →
    wpAny (model X.prog X.w) X.A (evalPart e X.env) (fun u s' => ∃ o H', Inv X pins σ H' s' ∧ IsPart u o ∧ Q o H') X.xe s
noncomputable def tNoPart : TO := fun _ H Q => Q none H
noncomputable def tPart (t : TE) : TO := fun σ H Q => t σ H fun x H1 => ∃ i, x = .int i ∧ Q (some i) H1


section
variable {X : Cx} {e : Expr} {te : TE} {lo hi : Option Expr} {tl th : TO} {pos p2 : Pos}

theorem po_none : PO X none tNoPart := by
  intro pins s σ H Q I h
  rw [evalPart_none]
  exact wpAny_pure ⟨none, H, I, .none, h⟩
theorem po_some (h : PE X e te) : PO X (some e) (tPart te) := by
  intro pins s σ H Q I hw
  rw [evalPart_some]
  refine thn (h pins s σ H _ I hw) fun u s1 ⟨x, H1, I1, r1, q1⟩ => ?_
  obtain ⟨i, rfl, q⟩ := q1
  obtain ⟨t, rfl⟩ := r1
  exact ⟨some i, H1, I1, .int i t, q⟩

/-- what a slice of a value is, by values: the slice object stands at sl -/
noncomputable def SlR (X : Cx) (r : V → Option Int → Option Int → Hp → VK → Prop) : Prop :=
  ∀ (pins : List (Addr × Obj)) (s : Shared) (σ : St) (H : Hp) (x : V) (v vl vu : Value) (lo hi : Option Int) (sl : Addr) (Q : VK), Inv X pins σ H s → RelV x v → s.heap.IsSliceOf sl vl vu .none → IsPart vl lo → IsPart vu hi → r x lo hi H Q →
    ∃ T id, typeLookup (.type T) "__getitem__" = pure (some (.builtin id)) ∧ s.TypeIs v T ∧ wpAny (model X.prog X.w) X.A (getItem v (.ref sl)) (EP X pins σ Q) X.xe s
noncomputable def tSl (r : V → Option Int → Option Int → Hp → VK → Prop) (te : TE) (tl th : TO) : TE := fun σ H Q => te σ H fun x H1 => tl σ H1 fun l H2 => th σ H2 fun u H3 => r x l u H3 Q
/-- a[lo:hi], any a -/
theorem pe_slice {r : V → Option Int → Option Int → Hp → VK → Prop} (hr : SlR X r) (he : PE X e te) (hl : PO X lo tl) (hu : PO X hi th) : PE X (.Subscript e (.Slice lo hi none p2) pos) (tSl r te tl th) := by
  intro pins s σ H Q I h
  refine Subscript_ (thn (he pins s σ H _ I h) fun v s1 ⟨x, H1, I1, r1, q1⟩ => ?_)
  refine wpAny_Slice (thn (hl pins s1 σ H1 _ I1 q1) fun vl s2 ⟨l, H2, I2, pl, q2⟩ => thn (hu pins s2 σ H2 _ I2 q2) fun vu s3 ⟨u, H3, I3, pu, q3⟩ => ?_)
  rw [evalPart_none]
  refine wpAny_pure ?_
  have I4 : Inv X pins σ H3 { s3 with heap := s3.heap.push { cls := .type "slice", data := .fields #[vl, vu, .none] } } := I3.kept (t' := s3.toks) fun b ob q => Heap.get?_push_of_some _ q
  obtain ⟨T, id, hT, ht, hg⟩ := hr pins { s3 with heap := s3.heap.push { cls := .type "slice", data := .fields #[vl, vu, .none] } } σ H3 x v vl vu l u s3.heap.objs.size Q I4 r1 (Heap.IsSliceOf.new ..) pl pu q3
  show wpAny (model X.prog X.w) X.A (subscriptTail e (.Slice lo hi none p2) v (.ref s3.heap.objs.size)) (EP X pins σ Q) X.xe { s3 with heap := s3.heap.push { cls := .type "slice", data := .fields #[vl, vu, .none] } }
  exact tail_any (ops := [.ref s3.heap.objs.size, v]) ht hT hg (by with_unfolding_all rfl)

/-- the items of xs[lo:hi] -/
noncomputable def cutV (xs : List V) (lo hi : Option Int) : List V := (xs.drop (HT.sIx xs.length 0 lo)).take (HT.sIx xs.length xs.length hi - HT.sIx xs.length 0 lo)
theorem cutV_length (xs : List V) (lo hi : Option Int) : (cutV xs lo hi).length ≤ xs.length := by
  unfold cutV
  rw [List.length_take, List.length_drop]
  lia
/-- t[lo:hi], not the whole of it (the whole would be t itself) -/
noncomputable def rSlT (K : PySem.W.Frag) : V → Option Int → Option Int → Hp → VK → Prop := fun x lo hi H Q => ∃ a xs, x = .ref a ∧ SqT K H a xs ∧
  ¬ (HT.sIx xs.length 0 lo = 0 ∧ HT.sIx xs.length xs.length hi = xs.length) ∧ ∀ p, H p = none → Q (.ref p) (upd H p (.tup (cutV xs lo hi)))
theorem sl_tup : SlR X (rSlT X.K) := by
  intro pins s σ H x v vl vu lo hi sl Q I rx hs pl pu h
  obtain ⟨a, xs, rfl, hx, hw, q⟩ := h
  cases rx
  obtain ⟨its, r, ht, hz⟩ := I.tuple hx
  have hlen : its.toArray.size = xs.length := by rw [List.size_toArray]; exact r.length.symm
  refine ⟨"tuple", _, PyProof.Rows.slot_tuple_getitem.lookup, ht.typeIs, ?_⟩
  refine HT.getItem_tuple_cut ht hs pl pu (by rw [hlen]; exact hw) ?_ (by rw [hlen]; exact hz)
  rw [hlen]
  refine ⟨.ref s.heap.objs.size, _, I.laid (t' := s.toks) (o := .tup (cutV xs lo hi)) (fun b ob q => Heap.get?_push_of_some _ q) (Nat.le_refl _) ?_, rfl, q _ (I.hok.fresh (Nat.le_refl _))⟩
  exact ⟨Nat.le_trans (cutV_length xs lo hi) hz, _, (r.drop (HT.sIx xs.length 0 lo)).take (HT.sIx xs.length xs.length hi - HT.sIx xs.length 0 lo), ⟨_, Heap.get?_push_size _ rfl, ⟨rfl, _, rfl⟩, rfl⟩⟩

/-! ### t < u, t + u -/
/-- t + u, t not empty: u empty gives t itself -/
noncomputable def rCatT (K : PySem.W.Frag) : R2 := fun x y H Q => ∃ a b xs ys, x = .ref a ∧ y = .ref b ∧ SqT K H a xs ∧ SqT K H b ys ∧ xs ≠ [] ∧ xs.length + ys.length ≤ sizeLine ∧
  (ys = [] → Q (.ref a) H) ∧ (ys ≠ [] → ∀ p, H p = none → Q (.ref p) (upd H p (.tup (xs ++ ys))))
theorem Vals.nil_iff {xs : List V} {us : List Value} (r : Vals xs us) : us = [] ↔ xs = [] := by
  cases r with
  | nil => simp
  | cons _ _ => simp
theorem op_catT : OpR X (binaryOp .Add) (rCatT X.K) := by
  intro pins s σ H x y v u Q I rx ry h
  obtain ⟨a, b, xs, ys, rfl, rfl, ha, hb, hx, hz, q1, q2⟩ := h
  cases rx
  cases ry
  obtain ⟨its, r1, p1, _⟩ := I.tuple ha
  obtain ⟨its2, r2, p2, _⟩ := I.tuple hb
  refine HT.cat_tup p1 p2 (fun z => hx (r1.nil_iff.mp z)) (fun z => ⟨.ref a, H, I, rfl, q1 (r2.nil_iff.mp z)⟩) (fun z => ?_) (by rw [← r1.length, ← r2.length]; exact hz)
  refine ⟨.ref s.heap.objs.size, _, I.laid (t' := s.toks) (o := .tup (xs ++ ys)) (fun b ob q => Heap.get?_push_of_some _ q) (Nat.le_refl _) ?_, rfl, q2 (fun w => z (r2.nil_iff.mpr w)) _ (I.hok.fresh (Nat.le_refl _))⟩
  exact ⟨by rw [List.length_append]; exact hz, _, r1.append r2, ⟨_, Heap.get?_push_size _ rfl, ⟨rfl, _, rfl⟩, rfl⟩⟩
end
end L2

namespace L2
open PySem PySem.Spec PyProof.Rows

/-! ### places -/
/-- the place that an index of any sign means -/
noncomputable def ixN (n : Nat) (i : Int) : Option Nat := if 0 ≤ i then (if i < n then some i.toNat else none) else if -(n : Int) ≤ i then some (i + n).toNat else none
noncomputable def atI {α : Type} (xs : List α) (i : Int) : Option α := (ixN xs.length i).bind fun j => xs[j]?
theorem ixN_seq {n : Nat} {i : Int} {j : Nat} (h : ixN n i = some j) : seqIndex? i n = some j ∧ j < n ∧ -(n : Int) ≤ i ∧ i < n := by
  unfold ixN at h
  by_cases h0 : 0 ≤ i
  · rw [if_pos h0] at h
    by_cases h1 : i < n
    · rw [if_pos h1] at h
      have e : i.toNat = j := Option.some.inj h
      exact ⟨by rw [seqIndex_of h0 h1, e], by lia, by lia, h1⟩
    · rw [if_neg h1] at h; cases h
  · rw [if_neg h0] at h
    by_cases h1 : -(n : Int) ≤ i
    · rw [if_pos h1] at h
      have e : (i + n).toNat = j := Option.some.inj h
      exact ⟨by rw [seqIndex_neg (by lia) h1, e], by lia, h1, by lia⟩
    · rw [if_neg h1] at h; cases h
theorem atI_get {α : Type} {xs : List α} {i : Int} {v : α} (h : atI xs i = some v) : ∃ j, seqIndex? i xs.length = some j ∧ xs[j]? = some v ∧ j < xs.length ∧ -(xs.length : Int) ≤ i ∧ i < xs.length := by
  unfold atI at h
  cases e : ixN xs.length i with
  | none => rw [e] at h; cases h
  | some j =>
    rw [e] at h
    obtain ⟨h1, h2, h3, h4⟩ := ixN_seq e
    exact ⟨j, h1, h, h2, h3, h4⟩

/-! ### what may be subscripted -/
/-- what stands as an index of a plain subscript -/
noncomputable def PlainIx (b : Expr) : Prop := ∀ o i, subscripted b false o i = operate [o, i] (getItem o i)
/-- a subscript by values -/
noncomputable def IxR (X : Cx) (r : R2) : Prop :=
  ∀ (value slice : Expr) (pins : List (Addr × Obj)) (s : Shared) (σ : St) (H : Hp) (x y : V) (v u : Value) (Q : VK), Inv X pins σ H s → RelV x v → RelV y u → r x y H Q →
    subscripted slice false v u = operate [v, u] (getItem v u) → wpAny (model X.prog X.w) X.A (subscriptTail value slice v u) (EP X pins σ Q) X.xe s
/-- a call of a builtin's method by values: the receiver, the arguments -/
noncomputable def MtR (X : Cx) (id : String) (r : V → List V → Hp → VK → Prop) : Prop :=
  ∀ (pins : List (Addr × Obj)) (s : Shared) (σ : St) (H : Hp) (x : V) (xs : List V) (v : Value) (us : List Value) (Q : VK), Inv X pins σ H s → RelV x v → Vals xs us → r x xs H Q →
    wpAny (model X.prog X.w) X.A (call (.builtin id) (v :: us)) (EP X pins σ Q) X.xe s
section
variable {X : Cx} {a b : Expr} {ta tb : TE} {pos : Pos}
theorem IxR.or {r r' : R2} (h : IxR X r) (h' : IxR X r') : IxR X (fun x y H Q => r x y H Q ∨ r' x y H Q) := by
  intro value slice pins s σ H x y v u Q I rx ry q hs
  rcases q with q | q
  · exact h value slice pins s σ H x y v u Q I rx ry q hs
  · exact h' value slice pins s σ H x y v u Q I rx ry q hs
/-- a[b] -/
theorem pe_ix {r : R2} (hr : IxR X r) (ha : PE X a ta) (hb : PE X b tb) (hs : PlainIx b) : PE X (.Subscript a b pos) (tOp r ta tb) := by
  intro pins s σ H Q I h
  exact Subscript_ (binT ha hb I h fun v u s2 x y H2 I2 rx ry q => hr a b pins s2 σ H2 x y v u Q I2 rx ry q (hs _ _))

noncomputable def rIxL (K : PySem.W.Frag) : R2 := fun x y H Q => ∃ p xs i v, x = .ref p ∧ y = .int i ∧ SqL K H p xs ∧ atI xs i = some v ∧ Q v H
noncomputable def rIxT (K : PySem.W.Frag) : R2 := fun x y H Q => ∃ p xs i v, x = .ref p ∧ y = .int i ∧ SqT K H p xs ∧ atI xs i = some v ∧ Q v H
noncomputable def rIxS : R2 := fun x y H Q => ∃ z i c, x = .str z ∧ y = .int i ∧ z.length ≤ sizeLine ∧ atI z.cps.toList i = some c ∧ Q (.str ⟨#[c]⟩) H
theorem ix_list : IxR X (rIxL X.K) := by
  intro value slice pins s σ H x y v u Q I rx ry h hs
  obtain ⟨p, xs, i, z, rfl, rfl, hq, he, q⟩ := h
  cases rx
  obtain ⟨t, rfl⟩ := ry
  obtain ⟨its, r, pl, hz⟩ := I.list hq
  obtain ⟨j, h1, h2, h3, h4, h5⟩ := atI_get he
  obtain ⟨w, ew, rw'⟩ := r.get h2
  have hl := r.length
  have hn := line63
  have fin : EP X pins σ Q w s := ⟨z, H, I, rw', q⟩
  by_cases h0 : 0 ≤ i
  · have hj : i.toNat = j := by
      rw [seqIndex_of h0 h5] at h1
      exact Option.some.inj h1
    exact item_listR pl.isList h0 (by lia) (by rw [hj]; simpa using ew) fin hs
  · have hj : (i + (its.toArray.size : Int)).toNat = j := by
      rw [seqIndex_neg (by lia) h4] at h1
      rw [List.size_toArray, ← hl]
      exact Option.some.inj h1
    exact subscriptTail_builtinR (x := w) pl.isList.typeIs slot_list_getitem.lookup
      (wpAny_getItem_list_neg (Q := fun r s' => r = w ∧ EP X pins σ Q r s') pl.isList (by lia) (by rw [List.size_toArray] <;> lia) (by lia) (by rw [hj]; simpa using ew) ⟨rfl, fin⟩) hs
theorem ix_tup : IxR X (rIxT X.K) := by
  intro value slice pins s σ H x y v u Q I rx ry h hs
  obtain ⟨p, xs, i, z, rfl, rfl, hq, he, q⟩ := h
  cases rx
  obtain ⟨t, rfl⟩ := ry
  obtain ⟨its, r, pl, hz⟩ := I.tuple hq
  obtain ⟨j, h1, h2, h3, h4, h5⟩ := atI_get he
  obtain ⟨w, ew, rw'⟩ := r.get h2
  have hl := r.length
  have hn := line63
  have fin : EP X pins σ Q w s := ⟨z, H, I, rw', q⟩
  exact subscriptTail_builtinR (x := w) pl.typeIs slot_tuple_getitem.lookup
    (getItem_tuple (j := j) (Q := fun r s' => r = w ∧ EP X pins σ Q r s') pl (by lia) (by lia) (by rw [List.size_toArray, ← hl]; exact h1) (by simpa using ew) ⟨rfl, fin⟩) hs
theorem ix_str : IxR X rIxS := by
  intro value slice pins s σ H x y v u Q I rx ry h hs
  obtain ⟨z, i, c, rfl, rfl, hz, he, q⟩ := h
  obtain ⟨t, rfl⟩ := rx
  obtain ⟨t', rfl⟩ := ry
  obtain ⟨j, h1, h2, h3, h4, h5⟩ := atI_get he
  have hl : z.cps.toList.length = z.length := by simp [Str.length]
  rw [hl] at h1 h4 h5
  have hn := line63
  exact tail_any (typeIs_str s z t) slot_str_getitem.lookup (getItem_str (c := c) (by
    have e1 : decide (i < -(2 ^ 63 : Int)) = false := decide_eq_false (by lia)
    have e2 : decide (i ≥ 2 ^ 63) = false := decide_eq_false (by lia)
    rw [e1, e2, Bool.or_false]) (by rw [h1]; simpa using h2) ⟨.str ⟨#[c]⟩, H, I.tok _, ⟨_, rfl⟩, q⟩) hs
/-- list, tuple or str -/
noncomputable def rIx (K : PySem.W.Frag) : R2 := fun x y H Q => rIxL K x y H Q ∨ rIxT K x y H Q ∨ rIxS x y H Q
theorem ix_seq : IxR X (rIx X.K) := ix_list.or (ix_tup.or ix_str)

/-! ### xs[i] = v, any sign -/
/-- the list's object behind a store -/
theorem mapSeq_set (its : List Value) (n j : Nat) (u : Value) : Obj.mapSeq (·.setIfInBounds j u) { cls := .type "list", data := .seq its.toArray n } = { cls := .type "list", data := .seq (its.set j u).toArray n } := by
  simp [Obj.mapSeq]
theorem Inv.lst {pins : List (Addr × Obj)} {σ : St} {H : Hp} {s : Shared} {p : Addr} {xs : List V} (I : Inv X pins σ H s) (h : H p = some (.lst xs)) :
    ∃ (its : List Value) (n : Nat), Vals xs its ∧ s.heap.get? p = some { cls := .type "list", data := .seq its.toArray n } ∧ xs.length ≤ sizeLine := by
  obtain ⟨z, its, n, r, e⟩ := I.hok p _ h
  exact ⟨its, n, r, e, z⟩
/-- the list at p is written by an update of its object -/
theorem Inv.lstUpd {pins : List (Addr × Obj)} {σ : St} {H : Hp} {s : Shared} {p : Addr} {xs ys : List V} {its its' : List Value} {n n' : Nat} {f : Obj → Obj} (I : Inv X pins σ H s) (h : H p = some (.lst xs))
    (ho : s.heap.get? p = some { cls := .type "list", data := .seq its.toArray n }) (hf : f { cls := .type "list", data := .seq its.toArray n } = { cls := .type "list", data := .seq its'.toArray n' }) (r : Vals ys its') (hz : ys.length ≤ sizeLine) (t : Nat) :
    Inv X pins σ (upd H p (.lst ys)) { s with heap := s.heap.update p f, toks := t } := by
  have e : (s.heap.update p f).get? p = some { cls := .type "list", data := .seq its'.toArray n' } := by
    rw [Heap.get?_update_self f ho (by rw [hf] <;> rfl), hf]
  refine I.write (x := p) (e := p) (by rw [h]; trivial) (.inl rfl) (fun b u hb q => (Heap.get?_update_other _ _ (Ne.symm hb)).trans q) ⟨_, e⟩ ?_
  exact ⟨hz, its', n', r, e⟩
noncomputable def rSetL : V → V → V → Hp → (Hp → Prop) → Prop := fun o i v H Q => ∃ p xs k j, o = .ref p ∧ i = .int k ∧ H p = some (.lst xs) ∧ ixN xs.length k = some j ∧ Q (upd H p (.lst (xs.set j v)))
theorem set_list : PSet X rSetL := by
  intro pins s σ H o i v ov iv u Q I ro ri rv h
  obtain ⟨p, xs, k, j, rfl, rfl, hp, hj, q⟩ := h
  cases ro
  obtain ⟨t, rfl⟩ := ri
  obtain ⟨its, n, r, ho, hz⟩ := I.lst hp
  obtain ⟨h1, h2, h3, h4⟩ := ixN_seq hj
  have hl := r.length
  have hn := line63
  have I' : Inv X pins σ (upd H p (.lst (xs.set j v))) { s with heap := s.heap.update p (Obj.mapSeq (·.setIfInBounds j u)) } :=
    I.lstUpd hp ho (mapSeq_set its n j u) (r.set rv j) (by rw [List.length_set]; exact hz) s.toks
  by_cases h0 : 0 ≤ k
  · have hk : k.toNat = j := by
      rw [seqIndex_of h0 h4] at h1
      exact Option.some.inj h1
    exact PySem.W.ki_setAt ho h0 (by lia) (by rw [List.size_toArray, ← hl]; exact h4) (by rw [hk]; exact ⟨_, I', q⟩)
  · have hk : (k + (its.toArray.size : Int)).toNat = j := by
      rw [seqIndex_neg (by lia) h3] at h1
      rw [List.size_toArray, ← hl]
      exact Option.some.inj h1
    exact PySem.W.ki_setBack ho (by lia) (by rw [List.size_toArray, ← hl]; exact h3) (by lia) (by rw [hk]; exact ⟨_, I', q⟩)

/-! ### slices -/
theorem slice_bounds (lo hi : Option Int) (n : Nat) : (sliceBounds lo hi none n).1 = ((HT.sIx n 0 lo : Nat) : Int) ∧ (sliceBounds lo hi none n).2.1 = ((HT.sIx n n hi : Nat) : Int) ∧ (sliceBounds lo hi none n).2.2 = 1 := by
  refine ⟨?_, ?_, rfl⟩
  · cases lo with
    | none => simp [sliceBounds, HT.sIx]
    | some i =>
      simp only [sliceBounds, HT.sIx, Option.getD_none, show (1 : Int) > 0 by decide, if_true]
      by_cases h : i < 0
      · simp only [h, if_true] <;> lia
      · simp only [h, if_false] <;> lia
  · cases hi with
    | none => simp [sliceBounds, HT.sIx]
    | some i =>
      simp only [sliceBounds, HT.sIx, Option.getD_none, show (1 : Int) > 0 by decide, if_true]
      by_cases h : i < 0
      · simp only [h, if_true] <;> lia
      · simp only [h, if_false] <;> lia
theorem slicePick_cut (its : List Value) (lo hi : Option Int) : slicePick its.toArray lo hi none = ((its.drop (HT.sIx its.length 0 lo)).take (HT.sIx its.length its.length hi - HT.sIx its.length 0 lo)).toArray := by
  obtain ⟨h1, h2, h3⟩ := slice_bounds lo hi its.toArray.size
  unfold slicePick
  rw [h1, h2, h3]
  simp only [sliceRange_one, pick_run, List.size_toArray] <;> rfl
/-- xs[lo:hi] of a list: a new list -/
noncomputable def rSlL (K : PySem.W.Frag) : V → Option Int → Option Int → Hp → VK → Prop := fun x lo hi H Q => ∃ a xs, x = .ref a ∧ SqL K H a xs ∧ ∀ p, H p = none → Q (.ref p) (upd H p (.lst (cutV xs lo hi)))
theorem sl_list : SlR X (rSlL X.K) := by
  intro pins s σ H x v vl vu lo hi sl Q I rx hs pl pu h
  obtain ⟨a, xs, rfl, hx, q⟩ := h
  cases rx
  obtain ⟨its, r, ht, hz⟩ := I.list hx
  have hlen := r.length
  refine ⟨"list", _, slot_list_getitem.lookup, ht.isList.typeIs, ?_⟩
  refine wpAny_getItem_list_slice ht.isList hs pl pu .none (by simp) ?_ (by rw [List.size_toArray] <;> lia)
  rw [slicePick_cut, ← hlen]
  refine ⟨.ref s.heap.objs.size, _, I.laid (t' := s.toks) (o := .lst (cutV xs lo hi)) (fun b ob q => Heap.get?_push_of_some _ q) (Nat.le_refl _) ?_, rfl, q _ (I.hok.fresh (Nat.le_refl _))⟩
  exact ⟨Nat.le_trans (cutV_length xs lo hi) hz, _, 0, (r.drop (HT.sIx xs.length 0 lo)).take (HT.sIx xs.length xs.length hi - HT.sIx xs.length 0 lo), Heap.get?_push_size _ rfl⟩

/-! ### in, not in: flat items -/
noncomputable def flatV : V → Bool
  | .non => true
  | .bl _ => true
  | .int _ => true
  | .str _ => true
  | _ => false
/-- == of flat values -/
noncomputable def eqV : V → V → Bool
  | .non, .non => true
  | .bl a, .bl b => a == b
  | .bl a, .int b => (if a then 1 else 0) == b
  | .int a, .bl b => a == (if b then 1 else 0)
  | .int a, .int b => a == b
  | .str a, .str b => a == b
  | _, _ => false
theorem eqAt_V {A : Around} {s : Shared} {y x : V} {u v : Value} (ry : RelV y u) (rx : RelV x v) (fy : flatV y = true) (fx : flatV x = true) : SeqAt.EqAt A s u v (eqV y x) := by
  cases y with
  | non =>
    cases ry
    cases x with
    | non => cases rx; exact SeqAt.EqAt.same _
    | bl b => cases rx; exact SeqAt.EqAt.none_bool b
    | int b => obtain ⟨t, rfl⟩ := rx; exact SeqAt.EqAt.none_int b t
    | str b => obtain ⟨t, rfl⟩ := rx; exact SeqAt.EqAt.none_str b t
    | _ => exact absurd (show false = true from fx) Bool.false_ne_true
  | bl a =>
    cases ry
    cases x with
    | non => cases rx; exact SeqAt.EqAt.bool_none a
    | bl b => cases rx; exact SeqAt.EqAt.bool_bool a b
    | int b => obtain ⟨t, rfl⟩ := rx; exact SeqAt.EqAt.bool_int a b t
    | str b => obtain ⟨t, rfl⟩ := rx; exact SeqAt.EqAt.bool_str a b t
    | _ => exact absurd (show false = true from fx) Bool.false_ne_true
  | int a =>
    obtain ⟨t', rfl⟩ := ry
    cases x with
    | non => cases rx; exact SeqAt.EqAt.int_none a t'
    | bl b => cases rx; exact SeqAt.EqAt.int_bool a t' b
    | int b => obtain ⟨t, rfl⟩ := rx; exact SeqAt.EqAt.int_int a t' b t
    | str b => obtain ⟨t, rfl⟩ := rx; exact SeqAt.EqAt.int_str a t' b t
    | _ => exact absurd (show false = true from fx) Bool.false_ne_true
  | str a =>
    obtain ⟨t', rfl⟩ := ry
    cases x with
    | non => cases rx; exact SeqAt.EqAt.str_none a t'
    | bl b => cases rx; exact SeqAt.EqAt.str_bool a t' b
    | int b => obtain ⟨t, rfl⟩ := rx; exact SeqAt.EqAt.str_int a t' b t
    | str b => obtain ⟨t, rfl⟩ := rx; exact SeqAt.EqAt.str_str a t' b t
    | _ => exact absurd (show false = true from fx) Bool.false_ne_true
  | _ => exact absurd (show false = true from fy) Bool.false_ne_true

/-! ### len, list(x), tuple(x) of any list or tuple that is read -/
theorem call_len_seq : CallR X (.builtin "len") (fun xs H Q => ∃ p ys, xs = [.ref p] ∧ (SqL X.K H p ys ∨ SqT X.K H p ys) ∧ Q (.int ys.length) H) := by
  intro pins s σ H xs us Q I r h
  obtain ⟨p, ys, rfl, hq, q⟩ := h
  obtain ⟨u, rfl, rx⟩ := vals1 r
  cases rx
  have hn := line63
  rcases hq with hq | hq
  · obtain ⟨its, r', pl, hz⟩ := I.list hq
    have hlen := r'.length
    exact Calls.call_len_list pl.isList (by simp only [List.size_toArray] <;> lia) ⟨.int ys.length, H, I.tok _, ⟨s.toks + 1, by rw [List.size_toArray, hlen]⟩, q⟩
  · obtain ⟨its, r', pl, hz⟩ := I.tuple hq
    have hlen := r'.length
    exact len_tuple pl (by simp only [List.size_toArray] <;> lia) ⟨.int ys.length, H, I.tok _, ⟨s.toks + 1, by rw [List.size_toArray, hlen]⟩, q⟩
theorem call_len_str : CallR X (.builtin "len") (fun xs H Q => ∃ z, xs = [.str z] ∧ z.length ≤ sizeLine ∧ Q (.int z.length) H) := by
  intro pins s σ H xs us Q I r h
  obtain ⟨z, rfl, hz, q⟩ := h
  obtain ⟨u, rfl, t, rfl⟩ := vals1 r
  have hn := line63
  exact len_str (by lia) ⟨.int z.length, H, I.tok _, ⟨_, rfl⟩, q⟩
theorem call_list_of : CallR X (.type "list") (fun xs H Q => ∃ p ys, xs = [.ref p] ∧ (SqL X.K H p ys ∨ SqT X.K H p ys) ∧ ∀ l, H l = none → Q (.ref l) (upd H l (.lst ys))) := by
  intro pins s σ H xs us Q I r h
  obtain ⟨p, ys, rfl, hq, q⟩ := h
  obtain ⟨u, rfl, rx⟩ := vals1 r
  cases rx
  have fin : ∀ (its : List Value), Vals ys its → ys.length ≤ sizeLine → ∀ (h' : Heap) (c' : Nat), (∀ b o', s.heap.get? b = some o' → h'.get? b = some o') →
      h'.get? s.heap.objs.size = some { cls := .type "list", dict := none, data := .seq its.toArray c', slots := #[] } → EP X pins σ Q (.ref s.heap.objs.size) { s with heap := h' } := fun its r' hz h' c' kp e =>
    ⟨.ref s.heap.objs.size, _, I.laid (t' := s.toks) kp (Nat.le_refl _) (show ObjOk X.prog X.w _ h' _ (.lst ys) from ⟨hz, its, c', r', e⟩), rfl, q _ (I.hok.fresh (Nat.le_refl _))⟩
  rcases hq with hq | hq
  · obtain ⟨its, r', pl, hz⟩ := I.list hq
    have hlen := r'.length
    obtain ⟨o, ho, hc, n, hd⟩ := pl.isList
    exact call_list_seq p (.inl rfl) ho hc hd (fun h' c' kp e => fin its r' hz h' c' kp e) (by simp only [List.size_toArray] <;> lia)
  · obtain ⟨its, r', pl, hz⟩ := I.tuple hq
    have hlen := r'.length
    obtain ⟨o, ho, hc, n, hd⟩ := pl
    exact call_list_seq p (.inr rfl) ho hc hd (fun h' c' kp e => fin its r' hz h' c' kp e) (by simp only [List.size_toArray] <;> lia)
theorem call_tuple_of : CallR X (.type "tuple") (fun xs H Q => ∃ p ys, xs = [.ref p] ∧ ((SqL X.K H p ys ∧ ∀ l, H l = none → Q (.ref l) (upd H l (.tup ys))) ∨ (SqT X.K H p ys ∧ Q (.ref p) H))) := by
  intro pins s σ H xs us Q I r h
  obtain ⟨p, ys, rfl, h⟩ := h
  obtain ⟨u, rfl, rx⟩ := vals1 r
  cases rx
  rcases h with ⟨hq, q⟩ | ⟨hq, q⟩
  · obtain ⟨its, r', pl, hz⟩ := I.list hq
    have hlen := r'.length
    refine call_tuple_list pl.isList (fun h' kp => ?_) (by simp only [List.size_toArray] <;> lia)
    have I1 : Inv X pins σ H { s with heap := h' } := I.kept (t' := s.toks) kp
    have I2 : Inv X pins σ (upd H h'.objs.size (.tup ys)) { s with heap := h'.push { cls := .type "tuple", data := .seq its.toArray } } :=
      I1.laid (t' := s.toks) (fun b o e => Heap.get?_push_of_some _ e) (Nat.le_refl _) (show ObjOk X.prog X.w _ _ _ (.tup ys) from ⟨hz, its, r', ⟨_, Heap.get?_push_size _ rfl, ⟨rfl, _, rfl⟩, rfl⟩⟩)
    exact ⟨.ref h'.objs.size, _, I2, rfl, q _ (I1.hok.fresh (Nat.le_refl _))⟩
  · obtain ⟨its, r', pl, hz⟩ := I.tuple hq
    exact call_tuple_same pl ⟨.ref p, H, I, rfl, q⟩

/-! ### the call of a builtin's method: o.m(..) -/
/-- the value is of that builtin type -/
noncomputable def tyV (K : PySem.W.Frag) (T : String) (x : V) (H : Hp) : Prop := match x with
  | .str _ => T = "str"
  | .int _ => T = "int"
  | .ref p => (T = "list" ∧ ∃ xs, SqL K H p xs) ∨ (T = "tuple" ∧ ∃ o, K.lookup p = some o ∧ o.cls = .type "tuple" ∧ o.dict = none) ∨
      (T = "dict" ∧ ((∃ kvs, H p = some (.dK kvs)) ∨ ∃ kvs, H p = some (.dT kvs))) ∨ (T = "set" ∧ ∃ S n, H p = some (.set S n))
  | _ => False
theorem tyV_is {pins : List (Addr × Obj)} {σ : St} {H : Hp} {s : Shared} {T : String} {x : V} {v : Value} (I : Inv X pins σ H s) (r : RelV x v) (ty : tyV X.K T x H) :
    s.TypeIs v T ∧ ∀ a, v = .ref a → ∃ ob, s.heap.get? a = some ob ∧ ob.dict = none := by
  cases x with
  | str z =>
    obtain ⟨t, rfl⟩ := r
    cases (show T = "str" from ty)
    exact ⟨typeIs_str s z t, fun _ e => nomatch e⟩
  | int i =>
    obtain ⟨t, rfl⟩ := r
    cases (show T = "int" from ty)
    exact ⟨typeIs_int s i t, fun _ e => nomatch e⟩
  | ref p =>
    cases r
    rcases ty with ⟨rfl, xs, hq⟩ | ⟨rfl, o, hk, hc, hd⟩ | ⟨rfl, hk⟩ | ⟨rfl, S, n, hk⟩
    · obtain ⟨its, _, pl, _⟩ := I.list hq
      refine ⟨pl.isList.typeIs, fun a e => ?_⟩
      cases e
      obtain ⟨o, n, e, c, hd, _⟩ := pl
      exact ⟨o, e, hd⟩
    · refine ⟨⟨o, I.kIn p o hk, hc⟩, fun a e => ?_⟩
      cases e
      exact ⟨o, I.kIn _ o hk, hd⟩
    · have z : ∃ o, s.heap.get? p = some o ∧ o.ExactDict := by
        rcases hk with ⟨kvs, hk⟩ | ⟨kvs, hk⟩
        · obtain ⟨_, _, _, _, o, _, _, e, ex, _⟩ := I.hok p _ hk
          exact ⟨o, e, ex⟩
        · obtain ⟨_, _, _, _, o, _, _, e, ex, _⟩ := I.hok p _ hk
          exact ⟨o, e, ex⟩
      obtain ⟨o, e, ex⟩ := z
      refine ⟨⟨o, e, ex.1⟩, fun a e2 => ?_⟩
      cases e2
      exact ⟨o, e, ex.2.1⟩
    · obtain ⟨o, _, _, _, e, ex, _⟩ := I.hok p _ hk
      refine ⟨⟨o, e, ex.1⟩, fun a e2 => ?_⟩
      cases e2
      exact ⟨o, e, ex.2.1⟩
  | _ => exact False.elim ty
noncomputable def tBM (K : PySem.W.Frag) (T : String) (r : V → List V → Hp → VK → Prop) (to : TE) (t : TA) : TE := fun σ H Q => to σ H fun x H1 => tyV K T x H1 ∧ t σ H1 fun xs H2 => r x xs H2 Q
variable {o e : Expr} {es : List Expr} {to : TE} {t : TA} {name : Str} {apos cpos : Pos} {T id : String} {r : V → List V → Hp → VK → Prop}
theorem pe_bm (pa : PlainAttrs T) (slot : Slot T name id) (hty : typeOf (.builtin id) = pure (.type "method_descriptor")) (hm : MtR X id r) (ho : PE X o to) (ha : PA X (e :: es) t)
    (hbase : attributeBase o name X.env (eval o X.env) = eval o X.env := by rfl)
    (hfew : ((backTo cpos (starEach (e :: es) X.env)).all (fun x => !x.1) && (backToKw cpos (keywordEach [] X.env)).all (fun x => x.1.isSome)
      && decide ((e :: es).length + ([] : List Keyword).length + (if ([] : List Keyword).isEmpty then 0 else 1) < 30)) = true := by rfl)
    (hline : (apos.endLine == cpos.line) = true := by rfl) (hs : starEach (e :: es) X.env = (false, eval e X.env) :: starEach es X.env := by rfl) (hplain : (backTo cpos (starEach es X.env)).any (·.1) = false := by rfl) :
    PE X (.Call (.Attribute o name apos) (e :: es) [] cpos) (tBM X.K T r to t) := by
  intro pins s σ H Q I h
  refine wpAny_Call_method_late hbase hfew hline rfl (thn (ho pins s σ H _ I h) fun v s1 ⟨x, H1, I1, r1, ty, q1⟩ => ?_)
  obtain ⟨h1, h2⟩ := tyV_is I1 r1 ty
  refine ⟨T, id, pa, slot, hty, h1, h2, ?_⟩
  have hA := ha cpos pins s1 σ H1 _ I1 q1
  rw [hs] at hA ⊢
  refine Calls.callWith_builtin (by show (false || (backTo cpos (starEach es X.env)).any (·.1)) = false; rw [hplain] <;> rfl) (Calls.evalArgs_plain ?_)
  exact thn hA fun us s2 ⟨vs, H2, I2, r2, q2⟩ => hm pins s2 σ H2 x vs v us Q I2 r1 r2 q2
/- xs.append(e), list.index on a module's tuple .. are MtR facts of 06m -/
end
end L2

namespace L2
open PySem PySem.Spec PyProof.Rows

noncomputable def MtM (X : Cx) (id : String) (r : V → List V → Hp → VK → Prop) : Prop :=
  ∀ (pins : List (Addr × Obj)) (s : Shared) (σ : St) (H : Hp) (x : V) (xs : List V) (v : Value) (us : List Value) (Q : VK), Inv X pins σ H s → RelV x v → Vals xs us → r x xs H Q →
    wpAny (model X.prog X.w) X.A (call (.builtin id) (v :: us)) (EP X pins σ Q) X.xe s

/-! ### lists of values -/
theorem Vals.one : ∀ {x : V} {us : List Value}, Vals [x] us → ∃ u, us = [u] ∧ RelV x u
  | _, _, h => by cases h with | cons r q => cases q; exact ⟨_, rfl, r⟩
theorem Vals.two : ∀ {x y : V} {us : List Value}, Vals [x, y] us → ∃ u v, us = [u, v] ∧ RelV x u ∧ RelV y v
  | _, _, _, h => by cases h with | cons r q => cases q with | cons q z => cases z; exact ⟨_, _, rfl, r, q⟩
theorem Vals.zero : ∀ {us : List Value}, Vals [] us → us = []
  | _, .nil => rfl
theorem Vals.dropLast {xs : List V} {us : List Value} (h : Vals xs us) : Vals xs.dropLast us.dropLast := by
  induction h with
  | nil => exact .nil
  | cons r t ih =>
    cases t with
    | nil => exact .nil
    | cons q t' => exact .cons r ih
theorem Vals.eraseIdx : ∀ {xs : List V} {us : List Value} (i : Nat), Vals xs us → Vals (xs.eraseIdx i) (us.eraseIdx i)
  | _, _, _, .nil => .nil
  | _, _, 0, .cons _ t => t
  | _, _, i + 1, .cons r t => .cons r (Vals.eraseIdx i t)
theorem Vals.rep {xs : List V} {us : List Value} (h : Vals xs us) : ∀ k : Nat, Vals (List.replicate k xs).flatten (List.replicate k us).flatten
  | 0 => .nil
  | k + 1 => by
    rw [List.replicate_succ, List.replicate_succ, List.flatten_cons, List.flatten_cons]
    exact Vals.append h (Vals.rep h k)
theorem erase_last {α : Type} (l : List α) : l.eraseIdx (l.length - 1) = l.dropLast := by
  induction l with
  | nil => rfl
  | cons a r ih =>
    cases r with
    | nil => rfl
    | cons b r =>
      have e : (a :: b :: r).length - 1 = ((b :: r).length - 1) + 1 := by
        have h1 : (a :: b :: r).length = r.length + 2 := rfl
        have h2 : (b :: r).length = r.length + 1 := rfl
        lia
      rw [e, List.eraseIdx_cons_succ, ih]
      all_goals rfl
theorem len_erase {α : Type} : ∀ (l : List α) (i : Nat), (l.eraseIdx i).length ≤ l.length
  | [], _ => Nat.le_refl _
  | _ :: _, 0 => Nat.le_succ _
  | _ :: r, i + 1 => Nat.succ_le_succ (len_erase r i)

section
variable {X : Cx} {pins : List (Addr × Obj)} {σ : St} {H : Hp} {s : Shared} {l b : Addr} {xs ys zs : List V}

/-! ### the two steps: a tracked list is rewritten, a new list is laid -/
theorem Inv.lset {its its' : List Value} {n : Nat} {f : Array Value → Array Value} {t' : Nat} (I : Inv X pins σ H s) (hH : H l = some (.lst xs))
    (e : s.heap.get? l = some { cls := .type "list", data := .seq its.toArray n }) (hf : f its.toArray = its'.toArray) (hv : Vals ys its') (hz : ys.length ≤ sizeLine) :
    Inv X pins σ (upd H l (.lst ys)) { s with heap := s.heap.update l (Obj.mapSeq f), toks := t' } := by
  have q := PySem.IsL.update e f
  rw [hf] at q
  refine I.write (x := l) (e := l) (by rw [hH]; exact trivial) (.inl rfl) (fun b' u hb hu => (Heap.get?_update_other s.heap (Obj.mapSeq f) (Ne.symm hb)).trans hu) ⟨_, q⟩ ?_
  exact ⟨hz, its', _, hv, q⟩
theorem Inv.lnew {its : List Value} {t' : Nat} (I : Inv X pins σ H s) (hv : Vals ys its) (hz : ys.length ≤ sizeLine) :
    Inv X pins σ (upd H s.heap.objs.size (.lst ys)) { s with heap := s.heap.push { cls := .type "list", data := .seq its.toArray }, toks := t' } :=
  I.laid (fun _ _ q => Heap.get?_push_of_some _ q) (Nat.le_refl _) ⟨hz, its, 0, hv, Heap.get?_push_size _ rfl⟩
theorem Inv.fresh (I : Inv X pins σ H s) : H s.heap.objs.size = none := I.hok.fresh (Nat.le_refl _)
theorem Inv.lstM (I : Inv X pins σ H s) (hH : H l = some (.lst xs)) : xs.length ≤ sizeLine ∧ ∃ (its : List Value) (n : Nat), Vals xs its ∧ xs.length = its.length ∧ s.heap.get? l = some { cls := .type "list", data := .seq its.toArray n } := by
  obtain ⟨z, its, n, r, e⟩ := I.hok l _ hH
  exact ⟨z, its, n, r, r.length, e⟩

end

section
variable {X : Cx}

/-! ### methods -/
noncomputable def rAppend : V → List V → Hp → VK → Prop := fun x vs H Q => ∃ l xs y, x = .ref l ∧ vs = [y] ∧ H l = some (.lst xs) ∧ xs.length < sizeLine ∧ Q .non (upd H l (.lst (xs ++ [y])))
theorem mt_append : MtM X "list.append" rAppend := by
  intro pins s σ H x vs v us Q I rx rv h
  obtain ⟨l, xs, y, rfl, rfl, hH, hz, q⟩ := h
  cases rx
  obtain ⟨u, rfl, ru⟩ := rv.one
  obtain ⟨z, its, n, r, hl, e⟩ := I.lstM hH
  refine call_meets F.slot_list_append ⟨_, e, rfl⟩ F.entry_list_append (F.args_list_append_2 _ _) (PySem.list_append l its.toArray n u (by rw [List.size_toArray]; lia)) ⟨e, ?_⟩
  refine ⟨.non, _, I.lset (its' := its ++ [u]) hH e (by simp) (r.append (.cons ru .nil)) ?_, rfl, q⟩
  rw [List.length_append, List.length_singleton]
  lia


noncomputable def rPop : V → List V → Hp → VK → Prop := fun x vs H Q => ∃ l xs y, x = .ref l ∧ vs = [] ∧ H l = some (.lst xs) ∧ xs[xs.length - 1]? = some y ∧ Q y (upd H l (.lst xs.dropLast))
theorem mt_pop : MtM X "list.pop" rPop := by
  intro pins s σ H x vs v us Q I rx rv h
  obtain ⟨l, xs, y, rfl, rfl, hH, hy, q⟩ := h
  cases rx
  have hus := rv.zero
  subst hus
  obtain ⟨z, its, n, r, hl, e⟩ := I.lstM hH
  obtain ⟨u, hu, ru⟩ := r.get hy
  have hy' : its.toArray[its.toArray.size - 1]? = some u := by
    show its.toArray[its.length - 1]? = some u
    rw [← Array.getElem?_toList, ← hl]
    exact hu
  refine call_meets F.slot_list_pop ⟨_, e, rfl⟩ F.entry_list_pop (F.args_list_pop_1 _) (MeetsSeq.list_pop_last l its.toArray n u hy' (by rw [List.size_toArray]; lia)) ⟨e, ?_⟩
  refine ⟨y, _, I.lset (its' := its.dropLast) hH e ?_ r.dropLast ?_, ru, q⟩
  · show its.toArray.eraseIdxIfInBounds (its.toArray.size - 1) = its.dropLast.toArray
    rw [List.size_toArray, List.eraseIdxIfInBounds_toArray, erase_last]
  · rw [List.length_dropLast]
    lia

noncomputable def rPopAt : V → List V → Hp → VK → Prop := fun x vs H Q => ∃ l xs i k y, x = .ref l ∧ vs = [.int i] ∧ H l = some (.lst xs) ∧ -(2 ^ 63) ≤ i ∧ i < 2 ^ 63 ∧ seqIndex? i xs.length = some k ∧ xs[k]? = some y ∧ Q y (upd H l (.lst (xs.eraseIdx k)))
theorem mt_popAt : MtM X "list.pop" rPopAt := by
  intro pins s σ H x vs v us Q I rx rv h
  obtain ⟨l, xs, i, k, y, rfl, rfl, hH, h1, h2, hk, hy, q⟩ := h
  cases rx
  obtain ⟨u, rfl, ru⟩ := rv.one
  obtain ⟨t, rfl⟩ := ru
  obtain ⟨z, its, n, r, hl, e⟩ := I.lstM hH
  obtain ⟨w, hw, rw'⟩ := r.get hy
  refine call_meets F.slot_list_pop ⟨_, e, rfl⟩ F.entry_list_pop (F.args_list_pop_2 _ _)
    (MeetsSeq.list_pop_at l its.toArray n i t k w (fitsIndex_both h1 h2) (by rw [List.size_toArray, ← hl]; exact hk) (by rw [← Array.getElem?_toList]; exact hw) (by rw [List.size_toArray]; lia)) ⟨e, ?_⟩
  refine ⟨y, _, I.lset (its' := its.eraseIdx k) hH e ?_ (r.eraseIdx k) ?_, rw', q⟩
  · show its.toArray.eraseIdxIfInBounds k = (its.eraseIdx k).toArray
    rw [List.eraseIdxIfInBounds_toArray]
  · have := len_erase xs k
    lia



/-! ### list + list, list += list, list * int -/
theorem len_rep {α : Type} (xs : List α) (k : Nat) : (List.replicate k xs).flatten.length = k * xs.length := by
  induction k with
  | zero => simp
  | succ k ih => rw [List.replicate_succ, List.flatten_cons, List.length_append, ih, Nat.succ_mul, Nat.add_comm]

/-! ### del xs[i] -/
end

/-! ### xs[a:b] = ys -/
section
variable {prog : Program} {w : World} {A : Around} {E : Value → Shared → Prop} {s : Shared}
set_option maxRecDepth 100000 in
end

section
variable {X : Cx}
end
end L2

namespace L2
open PySem PySem.Spec PyProof.Rows

/-! ### lists of pairs as tables -/
section
variable {κ : Type} [DecidableEq κ]
noncomputable def valV (kvs : List (κ × V)) (k : κ) : Option V := (kvs.find? fun kv => decide (kv.1 = k)).map (·.2)
/-- in its place, or at the end -/
noncomputable def putK (kvs : List (κ × V)) (k : κ) (v : V) : List (κ × V) :=
  if (kvs.any fun kv => decide (kv.1 = k)) = true then kvs.map (fun kv => if kv.1 = k then (kv.1, v) else kv) else kvs ++ [(k, v)]

theorem valV_pos {p : κ × V} {r : List (κ × V)} {k : κ} (e : p.1 = k) : valV (p :: r) k = some p.2 := by simp [valV, List.find?_cons, e]
theorem valV_neg {p : κ × V} {r : List (κ × V)} {k : κ} (e : ¬ p.1 = k) : valV (p :: r) k = valV r k := by simp [valV, List.find?_cons, e]
theorem valV_any (k : κ) : ∀ kvs : List (κ × V), (kvs.any fun kv => decide (kv.1 = k)) = (valV kvs k).isSome
  | [] => rfl
  | p :: r => by
    rw [List.any_cons]
    by_cases e : p.1 = k
    · simp only [valV_pos e, decide_eq_true e, Bool.true_or, Option.isSome_some]
    · rw [valV_neg e, decide_eq_false e, Bool.false_or]; exact valV_any k r
theorem length_putK (kvs : List (κ × V)) (k : κ) (v : V) : (putK kvs k v).length ≤ kvs.length + 1 := by
  unfold putK
  split
  · rw [List.length_map]; lia
  · rw [List.length_append, List.length_cons, List.length_nil]; lia

theorem RelO.isSome_eq {o : Option V} {u : Option Value} (r : RelO o u) : o.isSome = u.isSome := by
  cases o with
  | none => cases u with
    | none => rfl
    | some _ => exact (show False from r).elim
  | some _ => cases u with
    | none => exact (show False from r).elim
    | some _ => rfl

/-- raw tables of the same keys -/
theorem KV.val {kvs : List (κ × V)} {vs : List (κ × Value)} (r : KV kvs vs) (k : κ) : RelO (valV kvs k) (valueAt vs k) := by
  unfold KV at r
  induction r with
  | nil => exact True.intro
  | @cons p q ps qs h t ih =>
    obtain ⟨h1, h2⟩ := h
    by_cases e : p.1 = k
    · have e' : q.1 = k := h1.symm.trans e
      have b : valueAt (q :: qs) k = some q.2 := by simp [valueAt, List.find?_cons, e']
      rw [valV_pos e, b]; exact h2
    · have e' : ¬ q.1 = k := fun z => e (h1.trans z)
      have b : valueAt (q :: qs) k = valueAt qs k := by simp [valueAt, List.find?_cons, e']
      rw [valV_neg e, b]; exact ih
theorem KV.any {kvs : List (κ × V)} {vs : List (κ × Value)} (r : KV kvs vs) (k : κ) : (kvs.any fun kv => decide (kv.1 = k)) = vs.any fun kv => decide (kv.1 = k) := by
  unfold KV at r
  induction r with
  | nil => rfl
  | cons h t ih => rw [List.any_cons, List.any_cons, ih, h.1]
theorem KV.repl {kvs : List (κ × V)} {vs : List (κ × Value)} (r : KV kvs vs) (k : κ) {y : V} {u : Value} (ry : RelV y u) :
    KV (kvs.map fun kv => if kv.1 = k then (kv.1, y) else kv) (vs.map fun kv => if kv.1 = k then (kv.1, u) else kv) := by
  unfold KV at r ⊢
  induction r with
  | nil => exact .nil
  | @cons p q ps qs h t ih =>
    rw [List.map_cons, List.map_cons]
    refine .cons ?_ ih
    obtain ⟨h1, h2⟩ := h
    by_cases e : p.1 = k
    · rw [if_pos e, if_pos (h1.symm.trans e)]; exact ⟨h1, ry⟩
    · rw [if_neg e, if_neg (fun z => e (h1.trans z))]; exact ⟨h1, h2⟩
theorem KV.put {kvs : List (κ × V)} {vs : List (κ × Value)} (r : KV kvs vs) (k : κ) {y : V} {u : Value} (ry : RelV y u) : KV (putK kvs k y) (stored vs k u) := by
  unfold putK stored
  rw [r.any k]
  by_cases e : (vs.any fun kv => decide (kv.1 = k)) = true
  · rw [if_pos e, if_pos e]; exact r.repl k ry
  · rw [if_neg e, if_neg e]; exact Paired.snoc r ⟨rfl, ry⟩
theorem KV.length {kvs : List (κ × V)} {vs : List (κ × Value)} (r : KV kvs vs) : kvs.length = vs.length := Paired.length r
end


/-! ### a tracked dict, its keys ints and texts or tuples of these -/
theorem kV_is {P : Program} {w : World} {k : Key} {u : Value} (r : RelV (kV k) u) : (mixKind P w).is k u = true := by
  cases k with
  | inl i => obtain ⟨t, e⟩ := (show ∃ t, u = Value.int i t from r); subst e; exact mixKind_int P w i t
  | inr x => obtain ⟨t, e⟩ := (show ∃ t, u = Value.str x t from r); subst e; exact mixKind_str P w x t
theorem items_are {P : Program} {w : World} : ∀ {ks : List Key} {us : List Value}, Vals (ks.map kV) us → ItemsAre (mixKind P w) ks us
  | [], _, r => by rw [List.map_nil] at r; cases r; exact .nil
  | k :: ks, _, r => by
    rw [List.map_cons] at r
    cases r with
    | cons h t => exact .cons (kV_is h) (items_are t)

/-- raw entries of a dict with tuple keys -/
noncomputable abbrev KT (H : Hp) : List (List Key × V) → List (List Key × Addr × Value) → Prop := Paired fun p q => p.1 = q.1 ∧ H q.2.1 = some (.tup (p.1.map kV)) ∧ RelV p.2 q.2.2
theorem KT.val {H : Hp} {kvs : List (List Key × V)} {xs : List (List Key × Addr × Value)} (r : KT H kvs xs) (k : List Key) : RelO (valV kvs k) ((atKey xs k).map (·.2)) := by
  induction r with
  | nil => exact True.intro
  | @cons p q ps qs h t ih =>
    obtain ⟨h1, _, h2⟩ := h
    by_cases e : p.1 = k
    · have e' : q.1 = k := h1.symm.trans e
      have b : atKey (q :: qs) k = some q.2 := by simp [atKey, List.find?_cons, e']
      rw [valV_pos e, b]; exact h2
    · have e' : ¬ q.1 = k := fun z => e (h1.trans z)
      have b : atKey (q :: qs) k = atKey qs k := by simp [atKey, List.find?_cons, e']
      rw [valV_neg e, b]; exact ih
theorem KT.repl {H : Hp} {kvs : List (List Key × V)} {xs : List (List Key × Addr × Value)} (r : KT H kvs xs) (k : List Key) {y : V} {u : Value} (ry : RelV y u) :
    KT H (kvs.map fun kv => if kv.1 = k then (kv.1, y) else kv) (xs.map (putAt k u)) := by
  induction r with
  | nil => exact .nil
  | @cons p q ps qs h t ih =>
    rw [List.map_cons, List.map_cons]
    refine .cons ?_ ih
    obtain ⟨h1, h2, h3⟩ := h
    unfold putAt
    by_cases e : p.1 = k
    · rw [if_pos e, if_pos (h1.symm.trans e)]; exact ⟨h1, h2, ry⟩
    · rw [if_neg e, if_neg (fun z => e (h1.trans z))]; exact ⟨h1, h2, h3⟩
theorem KT.put {H : Hp} {kvs : List (List Key × V)} {xs : List (List Key × Addr × Value)} (r : KT H kvs xs) (k : List Key) {b : Addr} {y : V} {u : Value} (hb : H b = some (.tup (k.map kV))) (ry : RelV y u) :
    KT H (putK kvs k y) (storedH xs k b u) := by
  have e : (kvs.any fun kv => decide (kv.1 = k)) = (atKey xs k).isSome := by
    rw [valV_any, (r.val k).isSome_eq, Option.isSome_map]
  unfold putK storedH
  rw [e]
  by_cases q : (atKey xs k).isSome = true
  · rw [if_pos q, if_pos q]; exact r.repl k ry
  · rw [if_neg q, if_neg q]; exact Paired.snoc r ⟨rfl, hb, ry⟩
theorem KT.keeps {H H' : Hp} {kvs : List (List Key × V)} {xs : List (List Key × Addr × Value)} (r : KT H kvs xs) (ht : ∀ b ys, H b = some (.tup ys) → H' b = some (.tup ys)) : KT H' kvs xs :=
  Paired.mapP r fun _ _ z => ⟨z.1, ht _ _ z.2.1, z.2.2⟩

section
variable {P : Program} {w : World} {H : Hp} {h : Heap} {a : Addr}
theorem rd_of {u : HO} (ok : HOk P w H h) (e : Rd H a u) : ObjOk P w H h a u := e.ok ok
theorem dk_rd {kvs : List (Key × V)} (ok : HOk P w H h) (e : Rd H a (.dK kvs)) : kvs.length ≤ sizeLine ∧ (a == sysModules) = false ∧ ∃ vs, KV kvs vs ∧ h.DictOf (mixKind P w) a vs :=
  show ObjOk P w H h a (.dK kvs) from rd_of ok e
theorem dk_of {kvs : List (Key × V)} (ok : HOk P w H h) (e : H a = some (.dK kvs)) : kvs.length ≤ sizeLine ∧ (a == sysModules) = false ∧ ∃ vs, KV kvs vs ∧ h.DictOf (mixKind P w) a vs := dk_rd ok (.inl e)
/-- a tracked tuple of ints and texts is a key -/
theorem key_of {ks : List Key} (ok : HOk P w H h) (e : H a = some (.tup (ks.map kV))) : (tupleKind (mixKind P w)).is h ks a := by
  obtain ⟨_, its, r, o, h1, ⟨h2, n, h3⟩, _⟩ := (show ObjOk P w H h a (.tup (ks.map kV)) from ok a _ e)
  exact ⟨o, its.toArray, n, h1, h2, h3, by simpa using items_are r⟩
theorem dt_rd {kvs : List (List Key × V)} (ok : HOk P w H h) (e : Rd H a (.dT kvs)) : kvs.length ≤ sizeLine ∧ (a == sysModules) = false ∧
    ∃ xs, KT H kvs xs ∧ h.DictOfH (tupleKind (mixKind P w)) a xs := by
  obtain ⟨z, y, xs, r, o, es, ep, h1, h2, h3, h4, h5⟩ := (show ObjOk P w H h a (.dT kvs) from rd_of ok e)
  refine ⟨z, y, xs, r, o, es, ep, h1, h2, h3, h4, fun x hx => ?_, h5⟩
  have all : ∀ {l : List (List Key × V)} {m : List (List Key × Addr × Value)}, KT H l m → ∀ x ∈ m, (tupleKind (mixKind P w)).is h x.1 x.2.1 := by
    intro l m q
    induction q with
    | nil => intro x hx; exact nomatch hx
    | @cons p q ps qs hq t ih =>
      intro x hx
      rcases List.mem_cons.mp hx with e | hx
      · subst e
        exact key_of ok (by rw [← hq.1]; exact hq.2.1)
      · exact ih x hx
  exact all r x hx
theorem dt_of {kvs : List (List Key × V)} (ok : HOk P w H h) (e : H a = some (.dT kvs)) : kvs.length ≤ sizeLine ∧ (a == sysModules) = false ∧
    ∃ xs, KT H kvs xs ∧ h.DictOfH (tupleKind (mixKind P w)) a xs := dt_rd ok (.inl e)
end

/-- what the dict at a holds at the key y -/
noncomputable def DGet (H : Hp) (a : Addr) (y : V) (r : Option V) : Prop :=
  (∃ kvs k, Rd H a (.dK kvs) ∧ y = kV k ∧ r = valV kvs k) ∨ ∃ kvs k b, Rd H a (.dT kvs) ∧ y = .ref b ∧ H b = some (.tup (k.map kV)) ∧ r = valV kvs k
/-- the heap behind a[y] = v -/
noncomputable def DPut (H : Hp) (a : Addr) (y v : V) (H' : Hp) : Prop :=
  (∃ kvs k, H a = some (.dK kvs) ∧ y = kV k ∧ kvs.length < sizeLine ∧ H' = upd H a (.dK (putK kvs k v))) ∨
  ∃ kvs k b, H a = some (.dT kvs) ∧ y = .ref b ∧ H b = some (.tup (k.map kV)) ∧ kvs.length < sizeLine ∧ H' = upd H a (.dT (putK kvs k v))
theorem DGet.k {H : Hp} {a : Addr} {kvs : List (Key × V)} {k : Key} (e : H a = some (.dK kvs)) : DGet H a (kV k) (valV kvs k) := .inl ⟨kvs, k, .inl e, rfl, rfl⟩
theorem DGet.t {H : Hp} {a b : Addr} {kvs : List (List Key × V)} {k : List Key} (e : H a = some (.dT kvs)) (eb : H b = some (.tup (k.map kV))) : DGet H a (.ref b) (valV kvs k) := .inr ⟨kvs, k, b, .inl e, rfl, eb, rfl⟩
theorem DPut.k {H : Hp} {a : Addr} {kvs : List (Key × V)} {k : Key} {v : V} (e : H a = some (.dK kvs)) (hl : kvs.length < sizeLine) : DPut H a (kV k) v (upd H a (.dK (putK kvs k v))) := .inl ⟨kvs, k, e, rfl, hl, rfl⟩
theorem DPut.t {H : Hp} {a b : Addr} {kvs : List (List Key × V)} {k : List Key} {v : V} (e : H a = some (.dT kvs)) (eb : H b = some (.tup (k.map kV))) (hl : kvs.length < sizeLine) :
    DPut H a (.ref b) v (upd H a (.dT (putK kvs k v))) := .inr ⟨kvs, k, b, e, rfl, eb, hl, rfl⟩


section
variable {X : Cx} {pins : List (Addr × Obj)} {σ : St} {H : Hp} {s : Shared} {a : Addr} {y v : V} {u r : Value} {o : Option V} {A : Around} {E : Value → Shared → Prop}


/-- d[y], there -/
theorem d_getItem {Q : Value → Shared → Prop} (hu : A.units + 1 < cLine) (I : Inv X pins σ H s) (g : DGet H a y (some v)) (ry : RelV y u) (h : ∀ w' s', Inv X pins σ H s' → RelV v w' → Q w' s') :
    wpAny (model X.prog X.w) A (getItem (.ref a) u) Q E s := by
  rcases g with ⟨kvs, k, e, ey, l⟩ | ⟨kvs, k, b, e, ey, eb, l⟩
  · subst ey
    obtain ⟨z, hd, vs, rel, dd⟩ := dk_rd I.hok e
    obtain ⟨w', hw, rw'⟩ := RelO.some_of (v := v) (o := valueAt vs k) (by rw [l]; exact rel.val k)
    exact wpAny_getItem_of (kV_is ry) dd.mapOf hw (h w' _ (I.tok _) rw')
  · subst ey
    cases (show u = Value.ref b from ry)
    obtain ⟨z, hd, xs, rel, dd⟩ := dt_rd I.hok e
    obtain ⟨w', hw, rw'⟩ := RelO.some_of (v := v) (o := (atKey xs k).map (·.2)) (by rw [l]; exact rel.val k)
    obtain ⟨p, hp, hp2⟩ := Option.map_eq_some_iff.mp hw
    refine wpAny_getItem_heap (tupleKind_room_in1 hu) (key_of I.hok eb) dd hp ?_
    rw [hp2]
    exact h w' _ (I.tok _) rw'
/-- y in d -/
theorem d_in {Q : Value → Shared → Prop} (hu : A.units + 1 < cLine) (I : Inv X pins σ H s) (g : DGet H a y o) (ry : RelV y u) (h : ∀ s', Inv X pins σ H s' → Q (.bool o.isSome) s') :
    wpAny (model X.prog X.w) A (compareOp .In u (.ref a)) Q E s := by
  rcases g with ⟨kvs, k, e, ey, l⟩ | ⟨kvs, k, b, e, ey, eb, l⟩
  · subst ey
    obtain ⟨z, hd, vs, rel, dd⟩ := dk_rd I.hok e
    refine wpAny_in_of (kV_is ry) hd dd.mapOf ?_
    rw [← (rel.val k).isSome_eq, ← l]
    exact h _ (I.tok _)
  · subst ey
    cases (show u = Value.ref b from ry)
    obtain ⟨z, hd, xs, rel, dd⟩ := dt_rd I.hok e
    refine wpAny_in_heap (tupleKind_room_in1 hu) (key_of I.hok eb) hd dd ?_
    have q := (rel.val k).isSome_eq
    rw [Option.isSome_map] at q
    rw [← q, ← l]
    exact h _ (I.tok _)
/-- a dict's object is replaced -/
theorem d_write {h' : Heap} {t' : Nat} {ob : HO} (I : Inv X pins σ H s) (mu : Mut (H a)) (hs : Heap.SameBut a s.heap h') (he : ∃ q, h'.get? a = some q) (new : ObjOk X.prog X.w (upd H a ob) h' a ob) :
    Inv X pins σ (upd H a ob) { s with heap := h', toks := t' } :=
  I.write (x := a) (e := a) mu (.inl rfl) (fun b q hb z => (hs.2 b hb).trans z) he new
theorem dk_new {P : Program} {w : World} {H' : Hp} {h' : Heap} {kvs : List (Key × V)} {vs : List (Key × Value)} (z : kvs.length ≤ sizeLine) (hd : (a == sysModules) = false) (rel : KV kvs vs) (dd : h'.DictOf (mixKind P w) a vs) :
    ObjOk P w H' h' a (.dK kvs) := ⟨z, hd, vs, rel, dd⟩
/-- d[y] = v -/
theorem d_setItem {H' : Hp} {Q : Unit → Shared → Prop} (hu : A.units + 1 < cLine) (I : Inv X pins σ H s) (g : DPut H a y v H') (ry : RelV y u) (rv : RelV v r) (h : ∀ s', Inv X pins σ H' s' → Q () s') :
    wpAny (model X.prog X.w) A (setItem (.ref a) u r) Q E s := by
  rcases g with ⟨kvs, k, e, ey, l, eH⟩ | ⟨kvs, k, b, e, ey, eb, l, eH⟩
  · subst ey eH
    obtain ⟨z, hd, vs, rel, dd⟩ := dk_of I.hok e
    have hz : vs.length ≤ sizeLine := by rw [← rel.length]; exact z
    have hl : (putK kvs k v).length ≤ sizeLine := by have := length_putK kvs k v; lia
    refine wpAny_setItem_pairs (hsz := hz) (kV_is ry) dd fun h' dd' hs => h _ ?_
    have he : ∃ q, h'.get? a = some q := let ⟨q, _, _, hq, _⟩ := dd'; ⟨q, hq⟩
    exact d_write I (by rw [e]; exact True.intro) hs he (dk_new hl hd (rel.put k rv) dd')
  · subst ey eH
    cases (show u = Value.ref b from ry)
    obtain ⟨z, hd, xs, rel, dd⟩ := dt_of I.hok e
    have hz : xs.length ≤ sizeLine := by rw [← Paired.length rel]; exact z
    have hl : (putK kvs k v).length ≤ sizeLine := by have := length_putK kvs k v; lia
    refine wpAny_setItem_heap (hsz := hz) (tupleKind_room_in1 hu) (key_of I.hok eb) dd fun h' dd' hs => h _ ?_
    obtain ⟨q, es, ep, hq, h2, h3, h4, _, h5⟩ := dd'
    refine d_write I (by rw [e]; exact True.intro) hs ⟨q, hq⟩ ⟨hl, hd, _, (rel.put k eb rv).keeps fun c ys ec => ?_, q, es, ep, hq, h2, h3, h4, h5⟩
    rw [upd_ne (ne_of ec e (fun z => nomatch z))]
    exact ec
end

section
variable {X : Cx} {pins : List (Addr × Obj)} {σ : St} {H : Hp} {s : Shared} {a : Addr} {kvs : List (Key × V)} {k : Key} {u : Value} {A : Around} {E : Value → Shared → Prop}
/-- len(d) -/
theorem d_len {Q : Value → Shared → Prop} (I : Inv X pins σ H s) (e : Rd H a (.dK kvs)) (h : ∀ t s', Inv X pins σ H s' → Q (.int kvs.length t) s') : wpAny (model X.prog X.w) A (call (.builtin "len") [.ref a]) Q E s := by
  obtain ⟨z, hd, vs, rel, dd⟩ := dk_rd I.hok e
  refine call_len_dict hd dd (by rw [← rel.length]; rw [sizeLine_eq] at z; lia) ?_
  rw [← rel.length]
  exact h _ _ (I.tok _)
end


/-! ### readings and rules -/

theorem dict_typeIs {X : Cx} {pins : List (Addr × Obj)} {σ : St} {H : Hp} {s : Shared} {a : Addr} {y : V} {o : Option V} (I : Inv X pins σ H s) (g : DGet H a y o) : s.TypeIs (.ref a) "dict" := by
  rcases g with ⟨kvs, k, e, _, _⟩ | ⟨kvs, k, b, e, _, _, _⟩
  · obtain ⟨_, _, vs, _, dd⟩ := dk_rd I.hok e
    exact dd.typeIs
  · obtain ⟨_, _, xs, _, dd⟩ := dt_rd I.hok e
    exact dd.typeIs


section
variable {X : Cx} {o i e value : Expr} {pos pos' tpos : Pos} {td ty tv : TE}
end


/-! ### displays -/
section
variable {X : Cx} {pos : Pos}
end




/-! ### methods -/


section
variable {X : Cx} {pins : List (Addr × Obj)} {σ : St} {H : Hp} {s : Shared} {a : Addr} {y d : V} {u r : Value} {o : Option V} {A : Around} {E : Value → Shared → Prop}
end

section
variable {X : Cx} {o e f : Expr} {apos cpos : Pos} {td ty tx : TE}
end

/-! ### dict(d): a copy -/
section
variable {X : Cx} {pins : List (Addr × Obj)} {σ : St} {H : Hp} {s : Shared} {a : Addr} {kvs : List (Key × V)} {A : Around} {E : Value → Shared → Prop}
end


section
variable {X : Cx} {pins : List (Addr × Obj)} {σ : St} {H : Hp} {s : Shared} {a : Addr} {y : V} {u : Value} {A : Around} {E : Value → Shared → Prop}
end
end L2

namespace Att
open PySem PySem.W PySem.Calls PyProof.Rows

/-! ### the script -/
theorem ints_of_wellAll {P : Params} {h : Heap} : ∀ (ns : List Int) (vs : List Value), WellAll P h vs (ns.map WData.int) → IntsAre vs ns := by
  intro ns
  induction ns with
  | nil =>
    intro vs w
    rw [List.map_nil] at w
    cases w
    exact .nil
  | cons n ns ih =>
    intro vs w
    rw [List.map_cons] at w
    cases w with
    | cons a b =>
      cases a
      exact .cons _ _ (ih _ b)

theorem script_of {l : OpenLaw} {n : Nat} (hn : l.most = some n) {P : Params} {h : Heap} {args : List WData} {vals : List Value}
    (hpre : l.row.toRowW.claim.pre args = true) (hwl : WellAll P h vals args) :
    ∃ a vs ns, vals = [Value.ref a] ∧ args = [WData.list (ns.map WData.int)] ∧ h.get? a = some { cls := .type "list", data := .seq vs.toArray } ∧ IntsAre vs ns ∧ ns.length ≤ n := by
  have hsh : WShape.hasAll [] args [.list .int] = true := (pre_splitW hpre).1
  have hc : l.pre.holds [] { args := args } = true := (pre_splitW hpre).2
  obtain ⟨d, r, rfl, h1, h2⟩ := hasAllW_cons hsh
  obtain rfl := hasAllW_nil h2
  obtain ⟨xs, rfl, h3⟩ := hasW_list h1
  obtain ⟨ns, rfl⟩ := items_int h3
  have hlen : ns.length ≤ n := by
    unfold OpenLaw.pre at hc
    have h4 : (WTm.not (.lt (.lit (.int (n : Int))) (.len (.arg 0)))).holds [] { args := [.list (ns.map .int)] } = true := by
      have h4 := (holds_andW hc).1
      rw [hn] at h4
      exact h4
    have h5 := condW_of h4 (w_not (w_lt w_lit (w_len_list (w_arg rfl))))
    rw [List.length_map] at h5
    refine Nat.le_of_not_lt fun q => ?_
    have q' : (n : Int) < ((ns.length : Nat) : Int) := by lia
    first
      | (rw [decide_eq_true q'] at h5; exact absurd h5 (by decide))
      | (simp at h5; lia)
  cases hwl with
  | cons w1 w2 =>
    cases w2
    cases w1 with
    | list ho hall => exact ⟨_, _, ns, rfl, rfl, ho, ints_of_wellAll ns _ hall, hlen⟩

theorem post_true (l : OpenLaw) (args : List WData) : l.row.toRowW.claim.post args (.bool true) args = true :=
  postW_of (r := l.row.toRowW) (X := (true == true))
    (show WShape.has [] (.bool true) .bool = true by first | rfl | decide | simp [WShape.has, WShape.arms, WShape.armsAll])
    (show (WTm.eq .res (.lit (.bool true))).value [] { args := args, res := some (.bool true), after := args } = some (.bool (true == true)) from w_eq_bool (w_res rfl) w_lit) rfl

/-! ### the attachment: holds_open's last premise (the goal 'hc' behind k_head) from a wpAny of the law's body -/

/-- the same from a codeAny of the CALL (for a layer whose function contracts speak of calls) -/
theorem attach_call {l : OpenLaw} {n : Nat} {q : Program} {loose : List Str} {XP : (Str → Option Value) → Heap → Prop} {YP : World → Heap → Prop} {d : DefRec}
    (hn : l.most = some n) (hdf : d.params.defaults = [])
    (call : ∀ (w : World) (s₀ s₁ : Shared) (mg mb : Str → Option Value) (fa : Addr) (o : Obj) (pm cd doc : Value) (a : Addr) (vs : List Value) (ns : List Int),
      Ground q loose [] XP w s₀ mg mb s₁.heap → YP w s₁.heap →
      s₁.heap.get? fa = some o → o.data = .func (docDef d.name d.params d.body d.scope pm cd doc) → s₁.heap.CodeRec cd d.name → mg d.name = some (.ref fa) →
      s₁.heap.get? a = some { cls := .type "list", data := .seq vs.toArray } → IntsAre vs ns → ns.length ≤ n → s₁.gens = #[] →
      codeAny (model l.prog w) callerA (.call (.ref fa) ⟨[.ref a], []⟩) (fun r s' => r = .ok (.ret (.bool true)) ∧ OldK s₁.heap s'.heap ∧ s'.os = s₁.os ∧ AllBare s'.gens) s₁) :
    WalkO q loose XP YP l.row.toRowW d [] (fun f vs => PySem.call f vs) := by
  intro w s₀ s₁ mg mb G Y fa o pm cd doc dV kV ho hd hcd hD hmg hg args vals as hpre hlay hrd hwl hlo
  obtain rfl : dV = .none := Dflts.none hD hdf
  obtain rfl : kV = .none := Dflts.noKw hD
  obtain ⟨a, vs, ns, rfl, rfl, hobj, hints, hlen⟩ := script_of hn hpre hwl
  refine enter_call (codeAny_mono (call w s₀ s₁ mg mb fa o pm cd doc a vs ns G Y ho (fd_plain hd) hcd hmg hobj hints hlen hg) fun r s' hq => ?_)
  obtain ⟨rfl, h2, h3, h4⟩ := hq
  exact ⟨.inl ⟨.bool true, .bool true, [], rfl, fun _ => rfl, .bool true, post_true l _, fun _ => ⟨List.Pairwise.nil, fun _ hm => (nomatch hm)⟩⟩, h2, h3, h4⟩


/-! ### rules over ANY heap (no ledger) from facts about the written part K: the library's own take a ledger (News) for what they write -/
section
variable {prog : Program} {w : World} {A : Around} {E : Value → Shared → Prop} {s : Shared} {K : Frag}





/-! the whole heap as the ledger: makes every rule that writes through a ledger a rule over any heap -/

end
end Att

namespace L2
open PySem PySem.Spec PyProof.Rows

theorem vals_ints : ∀ {vs : List Value} {ns : List Int}, IntsAre vs ns → Vals (ns.map V.int) vs
  | _, _, .nil => .nil
  | _, _, .cons n t h => .cons ⟨t, rfl⟩ (vals_ints h)

/-- nothing is tracked but the script, known to the object (or it is an object of the module) -/
noncomputable def Only (H : Hp) : Prop := ∀ b, H b = none ∨ ∃ o xs, H b = some (.frz o (.lst xs))

/-- THE HEAD: the law's promise, at the heap behind the top. F, the promise of the law's def, may use that base is part of the heap (so K.In base, base.Ns mainGlobals mg stand in Mod) -/
theorem law_call {P : Program} {w : World} {K : PySem.W.Frag} {mg mb : Str → Option Value} {CX : CXT} {k : Nat} {fa a : Addr} {fd : FuncData} {x : Str} {sp : Sp} {s₁ : Shared} {vs : List Value} {ns : List Int}
    (KX : K.In s₁.heap) (hns : s₁.heap.Ns mainGlobals mg) (hb : s₁.heap.Ns builtinsNs mb) (hbb : ∀ x : Str, x ≠ "__name__" → mb x = bootBuiltins x) (hlim : s₁.heap.NoLimit) (hg : s₁.gens = #[])
    (ha : s₁.heap.get? a = some { cls := .type "list", data := .seq vs.toArray }) (hi : IntsAre vs ns) (hl : ns.length ≤ sizeLine) (hr : Room k callerA)
    (F : ∀ base : Heap, K.In base → base.Ns mainGlobals mg → FnOk P w K mg base CX k fa fd [x] sp) (hbind : ∀ (s : Shared) (u : Value), BindsTo s fd ⟨[u], []⟩ [(x, u)])
    (hsp : ∀ H : Hp, Only H → SqL K H a (ns.map V.int) → sp [.ref a] H (fun v _ => v = .bl true) fun _ _ _ => False)
    (hCX : ∀ H e s', CX [] H s₁ (fun _ _ _ => False) e s' → False) :
    codeAny (model P w) callerA (.call (.ref fa) ⟨[.ref a], []⟩) (fun r s' => r = .ok (.ret (.bool true)) ∧ OldK s₁.heap s'.heap ∧ s'.os = s₁.os ∧ AllBare s'.gens) s₁ := by
  have rv := vals_ints hi
  have lenV := hi.length
  -- from an abstract heap in which nothing but the script may be tracked
  have core : ∀ H : Hp, Only H → SqL K H a (ns.map V.int) → HOk P w H s₁.heap → (∀ b, H b ≠ none → b = a) → (H a ≠ none → K.lookup a = none) →
      codeAny (model P w) callerA (.call (.ref fa) ⟨[.ref a], []⟩) (fun r s' => r = .ok (.ret (.bool true)) ∧ OldK s₁.heap s'.heap ∧ s'.os = s₁.os ∧ AllBare s'.gens) s₁ := by
    intro H hO hS hok hA hK
    have base_of : ∀ {b : Addr} {o : Obj}, s₁.heap.get? b = some o → H b = none → (hidT s₁.heap H).get? b = some o := fun e n => hidT_get e n
    have noA : ∀ {b : Addr} {o : Obj} {es : Array DictEntry} {ep : Nat}, s₁.heap.get? b = some o → o.data = .dict es ep → H b = none := fun {b o es ep} e d => by
      cases q : H b with
      | none => rfl
      | some u =>
        have e' : b = a := hA b (by rw [q]; simp)
        subst e'
        rw [ha] at e; cases e
        have d' : Data.seq vs.toArray _ = Data.dict es ep := d
        cases d'
    have nsK : ∀ {b : Addr} {m : Str → Option Value}, s₁.heap.Ns b m → (hidT s₁.heap H).Ns b m := fun {b m} ⟨o, es, ep, e, d, r⟩ => ⟨o, es, ep, base_of e (noA e d), d, r⟩
    have hKb : K.In (hidT s₁.heap H) := fun b o e => base_of (KX b o e) (by
      cases q : H b with
      | none => rfl
      | some u =>
        have e' : b = a := hA b (by rw [q]; simp)
        subst e'
        rw [hK (by rw [q]; simp)] at e; cases e)
    have hM : Mod K mg (hidT s₁.heap H) := ⟨hKb, nsK hns, ⟨mb, nsK hb, hbb⟩, let ⟨mc, h1, h2⟩ := hlim; ⟨mc, nsK h1, h2⟩⟩
    have e0 : Env0 P w K mg (hidT s₁.heap H) callerA [] s₁ H := ⟨rfl, hM, fun b o e => of_hidT e, Nat.le_of_eq (hidT_size _ _), trivial, fun b hb => absurd (show b ∈ ([] : List Addr) from hb) (by simp), hok, .of_eq hg⟩
    refine codeAny_mono ((F _ hKb (nsK hns)).run callerA [] s₁ H ⟨[.ref a], []⟩ [.ref a] [.ref a] _ _ hr e0 (hbind s₁ (.ref a)) (.cons rfl .nil) (hsp H hO hS)) fun r s' h => ?_
    cases r with
    | error e => exact (hCX H e s' h).elim
    | ok fl =>
      cases fl with
      | next => exact False.elim h
      | brk => exact False.elim h
      | cont => exact False.elim h
      | ret u =>
        obtain ⟨v, H', os, bare, un, hok', r', q⟩ := h
        have q' : v = .bl true := q
        subst q'
        obtain rfl : u = Value.bool true := r'
        refine ⟨rfl, OldK.of_keep fun b o e => ?_, os, bare⟩
        cases q : H b with
        | none => exact un.keep b o e q (by intro z; exact absurd (show b ∈ ([] : List Addr) from z) (by simp)) (by simp)
        | some u =>
          rcases hO b with z | ⟨ob, xs, z⟩
          · rw [q] at z; cases z
          · have z2 := un.frzs b ob _ z
            obtain ⟨e1, _⟩ := hok b _ z
            obtain ⟨e2, _⟩ := hok' b _ z2
            rw [e] at e1; cases e1
            exact e2
  cases hk : K.lookup a with
  | some o =>
    -- the script is one of the module's own objects
    have e := KX a o hk
    rw [ha] at e
    cases e
    refine core (fun _ => none) (fun _ => .inl rfl) (.inr ⟨_, vs.toArray, _, hk, rfl, rfl, rfl, by rw [List.size_toArray, lenV]; exact hl, by simpa using rv⟩) (fun b u z => by have z' : (none : Option HO) = some u := z; cases z') (fun b z => absurd rfl z) fun z => absurd rfl z
  | none =>
    refine core (fun b => if b = a then some (.frz { cls := .type "list", data := .seq vs.toArray } (.lst (ns.map V.int))) else none) (fun b => ?_) (.inl (.inr ⟨{ cls := .type "list", data := .seq vs.toArray }, if_pos rfl⟩)) (fun b u z => ?_) (fun b z => ?_) fun _ => hk
    · by_cases hb : b = a
      · exact .inr ⟨_, _, if_pos hb⟩
      · exact .inl (if_neg hb)
    · by_cases hb : b = a
      · have z' := (if_pos hb).symm.trans z
        cases z'
        subst hb
        exact ⟨ha, by rw [List.length_map]; exact hl, vs, _, rv, ha⟩
      · have z' := (if_neg hb).symm.trans z
        cases z'
    · by_cases hb : b = a
      · exact hb
      · exact absurd (if_neg hb) z
end L2

namespace L2
open PySem PySem.Spec PyProof.Rows


/-- the goal that k_head leaves (case hc), from the law's promise. F gives the function object fd (K's own) once, then the promise over every base -/
theorem walk_of {l : PySem.W.OpenLaw} {n k : Nat} {q : Program} {loose : List Str} {XP : (Str → Option Value) → Heap → Prop} {YP : World → Heap → Prop} {d : DefRec} {K : Params → PySem.W.Frag} {CX : World → CXT} {sp : World → Sp} {x : Str}
    (hn : l.most = some n) (hn2 : n ≤ sizeLine) (hdf : d.params.defaults = []) (hr : Room k callerA)
    (hY : ∀ (w : World) (h : Heap), YP w h → (K w.params).In h)
    (F : ∀ (w : World) (mg : Str → Option Value) (fa : Addr) (h : Heap), (K w.params).In h → h.Ns mainGlobals mg → mg d.name = some (.ref fa) →
      ∃ fd : FuncData, (∀ (s : Shared) (u : Value), BindsTo s fd ⟨[u], []⟩ [(x, u)]) ∧
        ∀ base : Heap, (K w.params).In base → base.Ns mainGlobals mg → FnOk l.prog w (K w.params) mg base (CX w) k fa fd [x] (sp w))
    (hsp : ∀ (w : World) (H : Hp) (a : Addr) (ns : List Int), ns.length ≤ n → Only H → SqL (K w.params) H a (ns.map V.int) → sp w [.ref a] H (fun v _ => v = .bl true) fun _ _ _ => False)
    (hCX : ∀ (w : World) (H : Hp) (s : Shared) (e : Value) (s' : Shared), CX w [] H s (fun _ _ _ => False) e s' → False) :
    PySem.W.WalkO q loose XP YP l.row.toRowW d [] (fun f vs => PySem.call f vs) := by
  refine Att.attach_call hn hdf fun w s₀ s₁ mg mb fa o pm cd doc a vs ns G Y ho hd hcd hmg hobj hints hlen hg => ?_
  have KX := hY w _ Y
  obtain ⟨fd, hb, hF⟩ := F w mg fa _ KX G.T.g hmg
  exact law_call KX G.T.g G.T.b G.T.builtins G.T.nolimit hg hobj hints (Nat.le_trans hlen hn2) hr hF hb (fun H hO hS => hsp w H a ns hlen hO hS) fun H e s' => hCX w H s₁ e s'
end L2

/- THE LAST THEOREM (shape; LID, My.* are yours):
   My.Adr: a structure of the addresses that your layer names (classes, functions); My.Txt K t: a structure (Prop) of the equations over K;
   My.txt_mk : {K} {implicit addresses ..} (e1 : nsIn K mainGlobals "law" = some (some (.ref f))) (e2 : K.lookup f = some ⟨oc, od, .func (fnOf "law" "law" params body scope dV kV doc pm an cdv ct), sl⟩) (e3 : codeIn K cdv "law" = true) .. : ∃ t, My.Txt K t

set_option maxRecDepth 100000 in
set_option maxHeartbeats 0 in
theorem PySem.Challenge.cw_LID_holds : PySem.Challenge.rw_LID.Holds := by
  w_on; o_law; k_head; (case hw => w_witness2)
  k_fill
  refine L2.walk_of (l := PySem.Challenge.rw_LID) (n := 63) (k := 40) (x := "script") (CX := fun w => ..) (sp := fun _ => My.sp_law) rfl (by decide) rfl ⟨rfl, by decide, by decide⟩ (fun w h Y => PySem.W.kIn_of Y) ?F ?S ?C
  case F =>
    intro w mg fa h KX G hmg
    have T : ∃ t, My.Txt (L2.KOf KX) t := by
      dsimp only [L2.KOf]                          -- K must stand as «<heap const> w.params» for k_is
      refine' My.txt_mk ?e1 ?e2 ?e3 ..
      (case e1 => PySem.W.k_is)                    -- in the order: a name -> its address -> its object -> its parts
      (case e2 => PySem.W.k_is)
      ..
    obtain ⟨t, T⟩ := T
    have e0 := hmg.symm.trans (PySem.W.mg_of KX G T.law)
    cases e0                                       -- fa is the law's own address
    exact ⟨_, fun s u => .of_eq rfl, fun base kb nb => My.law_fn T kb nb⟩     -- if «.of_eq rfl» comes too early: refine' ⟨_, ?b, fun base kb nb => My.law_fn T kb nb⟩; exact fun s u => .of_eq rfl
  case S => exact fun w H a ns hl hO hS => ..
  case C => exact ..
(the tactic k_is has no namespace: write k_is) -/

/-! SHORT WORDS over the layer: a def of the text, its body, what a loop and a test want. -/
namespace L2
open PySem PySem.Spec PyProof.Rows

/-! ### the text by places -/
noncomputable def defArgs (s : Stmt) : Arguments := match s with
  | .FunctionDef _ a _ _ _ _ _ _ _ _ => a
  | _ => { posonlyargs := [], args := [], vararg := none, kwonlyargs := [], kw_defaults := [], kwarg := none, defaults := [] }
noncomputable def defBody (s : Stmt) : List Stmt := match s with
  | .FunctionDef _ _ b _ _ _ _ _ _ _ => b
  | _ => []
noncomputable def defScope (s : Stmt) : Scope := match s with
  | .FunctionDef _ _ _ _ _ _ sc _ _ _ => sc
  | _ => { kind := .function, names := [], isGenerator := false, isCoroutine := false }

/-! ### no exception leaves a def -/
noncomputable abbrev CX0 : CXT := fun _ _ _ _ _ _ => False
noncomputable abbrev E0 : XK := fun _ _ _ => False

/-! ### a def (or method) of the text as it stands behind the top -/
structure Fun (K : PySem.W.Frag) (x qual : Str) (st : Stmt) (f : Addr) (fd : FuncData) : Prop where
  ex : ∃ (oc : Value) (od : Option Addr) (kV doc pm : Value) (an : Option Addr) (cdv ct : Value) (osl : Array (Option Value)),
    fd = PySem.W.fnOf x qual (defArgs st) (defBody st) (defScope st) .none kV doc pm an cdv ct ∧ K.lookup f = some ⟨oc, od, .func fd, osl⟩ ∧ PySem.W.codeIn K cdv qual = true
  kp : PySem.W.keepIn K (.ref f) = true
section
variable {P : Program} {w : World} {K : PySem.W.Frag} {mg : Str → Option Value} {base : Heap}
/-- how its arguments bind (no defaults): h is «fun _ _ _ _ _ _ us hl => match us, hl with | [_, _], _ => rfl», one _ a parameter -/
theorem Fun.binds {x qual : Str} {st : Stmt} {f : Addr} {fd : FuncData} {ps : List Str} (F : Fun K x qual st f fd)
    (h : ∀ (kV doc pm : Value) (an : Option Addr) (cdv ct : Value) (us : List Value), us.length = ps.length → bindArgs (PySem.W.fnOf x qual (defArgs st) (defBody st) (defScope st) .none kV doc pm an cdv ct) ⟨us, []⟩ = pure (ps.zip us)) : Binds K fd ps [] := by
  obtain ⟨oc, od, kV, doc, pm, an, cdv, ct, osl, rfl, lk, hcd⟩ := F.ex
  exact .all (h kV doc pm an cdv ct)
theorem fun_mk {x qual : Str} {st : Stmt} {f : Addr} {oc : Value} {od an : Option Addr} {osl : Array (Option Value)} {kV doc pm cdv ct : Value} (l : K.lookup f = some ⟨oc, od, .func (PySem.W.fnOf x qual (defArgs st) (defBody st) (defScope st) .none kV doc pm an cdv ct), osl⟩)
    (c : PySem.W.codeIn K cdv qual = true) (k : PySem.W.keepIn K (.ref f) = true) : Fun K x qual st f (PySem.W.fnOf x qual (defArgs st) (defBody st) (defScope st) .none kV doc pm an cdv ct) := ⟨⟨oc, od, kV, doc, pm, an, cdv, ct, osl, rfl, l, c⟩, k⟩
end
theorem hu_of {A : Around} {k : Nat} (hr : Room k A) : A.units + 1 < cLine := Nat.lt_of_le_of_lt (Nat.add_le_add_left (by decide : 1 ≤ 64) _) hr.units

/-! ### expressions in short: the name that stands in the i-th slot -/
section
variable {X : Cx}
/-- len of a dict -/
theorem call_lenD : CallR X (.builtin "len") (fun xs H Q => ∃ a kvs, xs = [V.ref a] ∧ H a = some (.dK kvs) ∧ Q (.int kvs.length) H) := by
  intro pins s σ H xs us Q I r h
  obtain ⟨a, kvs, rfl, ha, q⟩ := h
  obtain ⟨u, rfl, ru⟩ := vals1 r
  cases ru
  exact d_len I (.inl ha) fun t s' I' => ⟨.int kvs.length, H, I', ⟨t, rfl⟩, q⟩
end

/-! ### tests -/

/-! ### heaps -/

/-! ### a dict's pairs: keys that differ -/
section
variable {κ : Type} [DecidableEq κ]
end
end L2

namespace L2
open PySem PySem.Spec PyProof.Rows
section
variable {prog : Program} {w : World} {A : Around} {R : Result → Shared → Prop} {s : Shared}
theorem compLoop_any {elt target iter : Expr} {ifs : List Expr} {scope : Scope} {pos : Pos} {it acc : Value} {env : Env} (I : Nat → Shared → Prop)
    (turn : ∀ n s, I n s → wpAny (model prog w) A (pyNext it) (fun r s₁ => match r with
      | none => R (.ok .next) s₁
      | some v => wpAny (model prog w) A (letOwnedTupleGo target it v) (fun _ s₂ => wpAny (model prog w) A (assign target env v) (fun _ s₃ =>
          wpAny (model prog w) A (forIn ifs true fun c r => if r = true then do let ok ← isTrue c env (eval c env); pure (ForInStep.yield ok) else pure (ForInStep.yield r)) (fun ok s₄ =>
            if ok = true then wpAny (model prog w) A (eval elt env) (fun x s₅ =>
              wpAny (model prog w) A (call (.builtin "list.append") [acc, x]) (fun _ s₆ => ∃ m, m < n ∧ I m s₆) (fun _ _ => False) s₅) (fun _ _ => False) s₄
            else ∃ m, m < n ∧ I m s₄) (fun _ _ => False) s₃) (fun _ _ => False) s₂) (fun _ _ => False) s₁) (fun _ _ => False) s)
    (n : Nat) (h : I n s) :
    codeAny (model prog w) A (.compLoop (.ListComp elt [⟨target, iter, ifs, 0⟩] scope pos) 0 it acc env) R s := by
  refine codeAny_loop rfl I (fun n s hI => ?_) n h
  show wpAny _ A ((compTurn (.ListComp elt [⟨target, iter, ifs, 0⟩] scope pos) 0 it acc env).onRaise (fun x => do noteFrame x env; theTreesLotGoes x)) _ _ s
  refine wpAny_noted ?_
  rw [compTurn_list]
  refine wpAny_bind (wpAny_standAt (wpAny_bind (wpAny_mono (turn n s hI) (fun r s₁ h₁ => ?_) fun _ _ z => z.elim)))
  cases r with
  | none => exact wpAny_pure h₁
  | some v =>
    refine wpAny_bind (wpAny_mono h₁ (fun _ s₂ h₂ => wpAny_bind (wpAny_mono h₂ (fun _ s₃ h₃ => wpAny_bind (wpAny_mono h₃ (fun ok s₄ h₄ => ?_) fun _ _ z => z.elim)) fun _ _ z => z.elim)) fun _ _ z => z.elim)
    cases ok with
    | false => exact wpAny_pure ⟨rfl, h₄⟩
    | true =>
      exact wpAny_bind (wpAny_bind (wpAny_mono h₄ (fun x s₅ h₅ => wpAny_bind (wpAny_mono h₅ (fun _ s₆ h₆ => wpAny_pure (wpAny_pure ⟨rfl, h₆⟩)) fun _ _ z => z.elim)) fun _ _ z => z.elim))
end

noncomputable def cxComp (X : Cx) (N : List Str) (scope : Scope) (cl : List (Str × Addr)) (C : Addr) (s₀ : Shared) (H₀ : Hp) (fp : List Addr) (pl : List (Addr × Obj)) : Cx where
  prog := X.prog
  w := X.w
  K := X.K
  mg := X.mg
  base := X.base
  A := X.A
  N := N
  s₀ := s₀
  H₀ := H₀
  env := compEnvC scope cl C X.env
  outer := X.stack
  stack := X.stack
  ex := fp
  fn := fun _ => false
  calm := X.calm
  pn := X.pn ++ pl
  xe := fun _ _ => False

inductive Frees (X : Cx) (scope : Scope) : List Str → List Nat → Prop where
  | nil : Frees X scope [] []
  | cons {x : Str} {j : Nat} {xs : List Str} {js : List Nat} : X.N[j]? = some x → (X.env.kindOf x = some .cell ∨ X.env.kindOf x = some .free) →
      ((relabel scope X.env).names.lookup x = some .cell ∨ (relabel scope X.env).names.lookup x = some .free) → Frees X scope xs js → Frees X scope (x :: xs) (j :: js)
theorem Frees.length {X : Cx} {scope : Scope} : ∀ {xs : List Str} {js : List Nat}, Frees X scope xs js → xs.length = js.length
  | _, _, .nil => rfl
  | _, _, .cons _ _ _ t => congrArg (· + 1) t.length
theorem Frees.get {X : Cx} {scope : Scope} : ∀ {xs : List Str} {js : List Nat}, Frees X scope xs js → ∀ {i : Nat} {x : Str}, xs[i]? = some x → ∃ j, js[i]? = some j ∧ X.N[j]? = some x ∧ (X.env.kindOf x = some .cell ∨ X.env.kindOf x = some .free) ∧
      ((relabel scope X.env).names.lookup x = some .cell ∨ (relabel scope X.env).names.lookup x = some .free)
  | _, _, .nil, i, x, h => by simp at h
  | _, _, .cons a b c _, 0, x, h => by simp at h; subst h; exact ⟨_, rfl, a, b, c⟩
  | _, _, .cons _ _ _ t, i + 1, x, h => by
    obtain ⟨j, h1, h2⟩ := t.get (i := i) (x := x) (by simpa using h)
    exact ⟨j, by simpa using h1, h2⟩
noncomputable def start0 (ls : List Str) (js : List Nat) (σ : St) : St := ls.map (fun _ => none) ++ js.map fun j => (σ[j]?).join

structure CompOk (X : Cx) (scope : Scope) (cl : List (Str × Addr)) (ls fs : List Str) (js : List Nat) : Prop where
  kind : scope.kind = .function
  nocell : ∀ y ∈ scope.names, y.2 ≠ .cell
  locs : ∀ x ∈ scope.names, x.2 = .local → scope.names.lookup x.1 = some .local
  clos : closureFor scope X.env = pure cl
  cells : ∀ x c, cl.lookup x = some c → X.env.cells.lookup x = some c
  has : ∀ x, ((relabel scope X.env).names.lookup x = some .cell ∨ (relabel scope X.env).names.lookup x = some .free) → ∃ c, cl.lookup x = some c
  frees : Frees X scope fs js

theorem inv_comp {X : Cx} {pins : List (Addr × Obj)} {σ : St} {H : Hp} {s : Shared} {scope : Scope} {cl : List (Str × Addr)} {ls fs : List Str} {js : List Nat} {fp : List Addr} {h₁ : Heap} {m : Str → Option Value} {t' : Nat}
    (I : Inv X pins σ H s) (co : CompOk X scope cl ls fs js) (hfp : ∀ b ∈ fp, FpOk X pins H b ∧ b < s.heap.objs.size) (hns : h₁.Ns s.heap.objs.size m) (hk : ∀ b o, s.heap.get? b = some o → h₁.get? b = some o) :
    Inv (cxComp X (ls ++ fs) scope cl s.heap.objs.size s H fp pins) [] (start0 ls js σ) H { s with heap := h₁, toks := t' } := by
  have lk : ∀ b o, s.heap.get? b = some o → b ≠ s.heap.objs.size := fun b o e => Nat.ne_of_lt (Heap.lt_size e)
  refine ⟨⟨I.ok.mod, co.kind, I.ok.glob, I.ok.blt, Nat.le_refl _, fun x y c h1 h2 => ?_, fun x hx => co.has x hx, fun x c h _ => absurd (show false = true from h) Bool.false_ne_true, I.ok.hd, I.ok.frames, .inl rfl, fun b hb => ⟨Nat.ne_of_lt (hfp b hb).2, fun x c e => ?_⟩,
      fun b o e => I.bs b o e, Nat.le_trans I.ok.bsz I.sz, fun b o e hb => ?_, fun b hb hf => ?_, I.stack, fun b hb => I.stkFree b hb⟩,
    rfl, I.bare, Un.kept hk, ⟨m, hns, fun i x v h1 h2 h3 => ?_⟩, fun x c e => ?_, I.hok.fresh (Nat.le_refl _), fun x c e => I.freeC x c (co.cells x c e), fun p hp => ?_, I.hok.kept hk, ?_⟩
  · exact I.ok.inj x y c (co.cells x c h1) (co.cells y c h2)
  · exact (hfp b hb).1.2.2.2.2.1 x c (co.cells x c e)
  · obtain ⟨f0, f1, f2, f3, _⟩ := (hfp b hb).1
    rcases f3 with z | z
    · exact I.ok.noex b o e z
    · exact absurd (Nat.lt_of_lt_of_le (Heap.lt_size (I.ok.bs b o e).1) z) (Nat.lt_irrefl _)
  · obtain ⟨f0, f1, f2, f3, _⟩ := (hfp b hb).1
    rcases List.mem_cons.mp (I.stkSub b hf) with z | z
    · exact f1 z
    · exact f2 z
  · have hi : ¬ i < ls.length := fun hi => by
      have h2' : (start0 ls js σ)[i]? = some (some v) := h2
      unfold start0 at h2'
      rw [List.getElem?_append_left (by simpa using hi), List.getElem?_map, List.getElem?_eq_getElem hi] at h2'
      cases h2'
    have hN : fs[i - ls.length]? = some x := by
      have h1' : (ls ++ fs)[i]? = some x := h1
      rwa [List.getElem?_append_right (by lia)] at h1'
    obtain ⟨j, hj, hx, hc, hl⟩ := co.frees.get hN
    have hσ : σ[j]? = some (some v) := by
      have h2' : (start0 ls js σ)[i]? = some (some v) := h2
      unfold start0 at h2'
      rw [List.getElem?_append_right (by simpa using hi), List.length_map, List.getElem?_map, hj] at h2'
      have q : (σ[j]?).join = some v := by simpa using h2'
      cases e : σ[j]? with
      | none => rw [e] at q; cases q
      | some o => rw [e] at q; have q' : o = some v := q; rw [q']
    obtain ⟨mX, _, hlX⟩ := I.loc
    have vis : Vis X.env.scope x := by
      rcases hc with z | z
      · exact .inr (.inl z)
      · exact .inr (.inr z)
    obtain ⟨u, ru, lo⟩ := hlX j x v hx hσ vis
    refine ⟨u, ru, .inr ⟨hl, ?_⟩⟩
    obtain ⟨c, ec⟩ := co.has x hl
    refine ⟨c, ec, ?_⟩
    rcases lo with ⟨kl, _⟩ | ⟨_, c', e', z⟩
    · rcases hc with q | q <;> (rw [q] at kl; cases kl)
    · rw [co.cells x c ec] at e'
      cases e'
      obtain ⟨o, ho, hd⟩ := z
      exact ⟨o, hk _ _ ho, hd⟩
  · obtain ⟨v, o, ho, hd⟩ := I.cell x c (co.cells x c e)
    exact ⟨v, o, hk _ _ ho, hd⟩
  · have hp' : p ∈ X.pn ++ pins := by
      have q : p ∈ (X.pn ++ pins) ++ [] := hp
      simpa using q
    obtain ⟨e, n, ne, nf, d⟩ := I.pin p hp'
    refine ⟨hk _ _ e, n, lk _ _ e, fun hb => ?_, d⟩
    rcases List.mem_cons.mp (I.stkSub p.1 hb) with z | z
    · exact ne z
    · exact nf z
  · show (start0 ls js σ).length = (ls ++ fs).length
    unfold start0
    rw [List.length_append, List.length_map, List.length_map, List.length_append, co.frees.length]

noncomputable def PTs (X : Cx) (ifs : List Expr) (t : TT) : Prop :=
  ∀ (pins : List (Addr × Obj)) (s : Shared) (σ : St) (H : Hp) (Q : Bool → Hp → Prop), Inv X pins σ H s → t σ H Q →
    wpAny (model X.prog X.w) X.A (forIn ifs true fun c r => if r = true then do let ok ← isTrue c X.env (eval c X.env); pure (ForInStep.yield ok) else pure (ForInStep.yield r)) (TP X pins σ Q) X.xe s
noncomputable def tAll : TT := fun _ H Q => Q true H
theorem pts_nil {X : Cx} : PTs X [] tAll := fun _ _ _ H _ I h => wpAny_tests_nil ⟨H, I, h⟩
theorem pts_one {X : Cx} {c : Expr} {t : TT} (h : PT X c t) : PTs X [c] t := fun pins s σ H Q I q => wpAny_tests_one (h pins s σ H Q I q)

noncomputable def tComp (wi : TI) (ls : List Str) (js : List Nat) (g : TG) (tt : TT) (te : TE) : TE := fun σ H Q => wi σ H fun J H1 => ∀ p, H1 p = none → ∃ W : Nat → Nat → St → Hp → Prop, (∃ m, W 0 m (start0 ls js σ) (upd H1 p (.lst []))) ∧ ∀ i m σ' H', W i m σ' H' →
  (J.stop i H' ∧ Q (.ref p) H') ∨ (J.go i H' ∧ ∃ N : St → Hp → Prop, (∀ σ2 H2, N σ2 H2 → ∃ m', m' < m ∧ W (i + 1) m' σ2 H2) ∧ ∀ x H2, J.yld i H' x H2 → g x σ' H2 fun σ3 H3 => tt σ3 H3 fun c H4 =>
    if c = true then te σ3 H4 fun y H5 => ∃ ys, H5 p = some (.lst ys) ∧ ys.length < sizeLine ∧ N σ3 (upd H5 p (.lst (ys ++ [y]))) else N σ3 H4)

section
variable {X : Cx} {tg iter elt : Expr} {ifs : List Expr} {scope : Scope} {cl : List (Str × Addr)} {pos : Pos} {ls fs : List Str} {js : List Nat} {wi : TI} {g : TG} {tt : TT} {te : TE}

theorem comp_run {pins : List (Addr × Obj)} {σ : St} {s2 : Shared} {it : Addr} {fp : List Addr} {tn : Nat → Heap → Prop} {J : It} {H1 : Hp} {R : Value → Addr → Result → Shared → Prop} {Q : VK} {E : Value → Shared → Prop} (hc : X.calm = true) (co : CompOk X scope cl ls fs js)
    (hY : ∀ (C : Addr) (s₀ : Shared) (H₀ : Hp) (fp : List Addr) (pl : List (Addr × Obj)), PG (cxComp X (ls ++ fs) scope cl C s₀ H₀ fp pl) tg g ∧ PTs (cxComp X (ls ++ fs) scope cl C s₀ H₀ fp pl) ifs tt ∧ PE (cxComp X (ls ++ fs) scope cl C s₀ H₀ fp pl) elt te)
    (I : Inv X pins σ H1 s2) (T : Turn X.prog X.w X.K tg J fp it tn) (st : tn 0 s2.heap) (hf : ∀ b ∈ fp, FpOk X pins H1 b)
    (q : ∀ p, H1 p = none → ∃ W : Nat → Nat → St → Hp → Prop, (∃ m, W 0 m (start0 ls js σ) (upd H1 p (.lst []))) ∧ ∀ i m σ' H', W i m σ' H' →
      (J.stop i H' ∧ Q (.ref p) H') ∨ (J.go i H' ∧ ∃ N : St → Hp → Prop, (∀ σ2 H2, N σ2 H2 → ∃ m', m' < m ∧ W (i + 1) m' σ2 H2) ∧ ∀ x H2, J.yld i H' x H2 → g x σ' H2 fun σ3 H3 => tt σ3 H3 fun c H4 =>
        if c = true then te σ3 H4 fun y H5 => ∃ ys, H5 p = some (.lst ys) ∧ ys.length < sizeLine ∧ N σ3 (upd H5 p (.lst (ys ++ [y]))) else N σ3 H4))
    (hR : ∀ (p C : Addr) (H' : Hp) (s' : Shared) (m : Str → Option Value), s'.heap.Ns C m → Inv X pins σ H' s' → H' C = none → C ≠ X.env.locals → X.s₀.heap.objs.size ≤ C → (∀ x c, X.env.cells.lookup x = some c → c ≠ C) → (∀ pp ∈ X.pn ++ pins, pp.1 ≠ C) → Q (.ref p) H' → R (.ref p) C (.ok .next) s') :
    wpAny (model X.prog X.w) X.A (newList []) (fun acc s₃ => wpAny (model X.prog X.w) X.A (newFunctionEnv scope X.env.globals cl [] X.env.qual none .none (some X.env)) (fun cenv s₄ =>
      codeAny (model X.prog X.w) X.A (.compStart (.ListComp elt [⟨tg, iter, ifs, 0⟩] scope pos) 0 (.ref it) acc { cenv with scope := relabel scope X.env }) (R acc cenv.locals) s₄) E s₃) E s2 := by
  have hp0 : H1 s2.heap.objs.size = none := I.hok.fresh (Nat.le_refl _)
  obtain ⟨W, ⟨m0, w0⟩, turn⟩ := q s2.heap.objs.size hp0
  refine wpAny_newObj_type (wpAny_newFunctionEnv co.nocell (by intro y hy; simp at hy) (fun h₁ hns₁ hsb₁ => ?_) co.kind)
  dsimp only at hns₁ hsb₁ ⊢
  have I3 : Inv X pins σ (upd H1 s2.heap.objs.size (.lst [])) { s2 with heap := s2.heap.push { cls := .type "list", dict := none, data := .seq ([] : List Value).toArray } } :=
    I.lnew (its := []) (t' := s2.toks) .nil (Nat.zero_le _)
  generalize hs3 : ({ s2 with heap := s2.heap.push { cls := .type "list", dict := none, data := .seq ([] : List Value).toArray } } : Shared) = s3 at I3
  have hh3 : s2.heap.push { cls := .type "list", dict := none, data := .seq ([] : List Value).toArray } = s3.heap := by rw [← hs3]
  rw [hh3] at hns₁ hsb₁ ⊢
  have hsz3 : s3.heap.objs.size = s2.heap.objs.size + 1 := by rw [← hh3, Heap.size_push]
  have hk3 : ∀ b o, s2.heap.get? b = some o → s3.heap.get? b = some o := fun b o e => by rw [← hh3]; exact Heap.get?_push_of_some _ e
  have hlt : ∀ b ∈ fp, b < s2.heap.objs.size := fun b hb => by
    obtain ⟨o, e, _⟩ := T.obj _ _ st b hb
    exact Heap.lt_size e
  have hnp : ∀ b ∈ fp, upd H1 s2.heap.objs.size (.lst []) b = none := fun b hb => by
    rw [upd_ne (Nat.ne_of_lt (hlt b hb))]
    exact (hf b hb).1
  have hf3 : ∀ b ∈ fp, FpOk X pins (upd H1 s2.heap.objs.size (.lst [])) b ∧ b < s3.heap.objs.size := fun b hb => ⟨⟨hnp b hb, (hf b hb).2⟩, by rw [hsz3]; exact Nat.lt_succ_of_lt (hlt b hb)⟩
  have hk4 : ∀ b o, s3.heap.get? b = some o → h₁.get? b = some o := fun b o e => hsb₁.extBut b o (Nat.ne_of_lt (Heap.lt_size e)) (Heap.get?_push_of_some _ e)
  have st4 : tn 0 h₁ := T.keep _ _ _ st fun b hb o e => hk4 b o (hk3 b o e)
  have I4 := inv_comp (t' := s3.toks) I3 co hf3 hns₁ hk4
  obtain ⟨hg, ht, he⟩ := hY s3.heap.objs.size s3 (upd H1 s2.heap.objs.size (.lst [])) fp pins
  have stat : ∀ {H' : Hp}, (∀ b ∈ fp, H' b = none) → ∀ b ∈ fp, FpOk (cxComp X (ls ++ fs) scope cl s3.heap.objs.size s3 (upd H1 s2.heap.objs.size (.lst [])) fp pins) [] H' b := fun {H'} hn b hb => by
    obtain ⟨f0, f1, f2, f3, f4, f5⟩ := hf b hb
    refine ⟨hn b hb, Nat.ne_of_lt (hf3 b hb).2, fun z => ?_, .inl hb, fun x c e => f4 x c (co.cells x c e), fun pp hp => f5 pp ?_⟩
    · rcases List.mem_cons.mp (I3.stkSub b z) with y | y
      · exact f1 y
      · exact f2 y
    · have q : pp ∈ (X.pn ++ pins) ++ [] := hp
      simpa using q
  have loop : ∀ s₄ : Shared, s₄ = { s3 with heap := h₁, toks := s3.toks } →
      codeAny (model X.prog X.w) X.A (.compLoop (.ListComp elt [⟨tg, iter, ifs, 0⟩] scope pos) 0 (.ref it) (.ref s2.heap.objs.size) (compEnvC scope cl s3.heap.objs.size X.env)) (R (.ref s2.heap.objs.size) s3.heap.objs.size) s₄ := by
    rintro s₄ rfl
    refine compLoop_any (fun n s' => ∃ i σ' H', Inv (cxComp X (ls ++ fs) scope cl s3.heap.objs.size s3 (upd H1 s2.heap.objs.size (.lst [])) fp pins) [] σ' H' s' ∧ tn i s'.heap ∧ (∀ b ∈ fp, H' b = none) ∧ W i n σ' H') ?_ m0 ⟨0, _, _, I4, st4, hnp, w0⟩
    rintro n s5 ⟨i, σ5, H5, I5, st5, fr5, w5⟩
    rcases turn i n σ5 H5 w5 with ⟨stop, qn⟩ | ⟨go, N, hN, step⟩
    · refine thn (T.done (cxComp X (ls ++ fs) scope cl s3.heap.objs.size s3 (upd H1 s2.heap.objs.size (.lst [])) fp pins) rfl rfl rfl hc i [] s5 σ5 H5 _ I5 (stat fr5) st5 stop) fun r s6 ⟨hr, I6⟩ => ?_
      subst hr
      obtain ⟨m6, hn6, _⟩ := I6.loc
      have IX : Inv X pins σ H5 s6 := I3.call' I6.os I6.base I6.hok I6.bare fun b hb => ⟨(hf b hb).2.2.2.1, (hf b hb).2.1, (hf b hb).2.2.2.2.1, (hf b hb).2.2.2.2.2⟩
      refine hR _ _ H5 s6 m6 hn6 IX I6.free (Nat.ne_of_gt I3.lt) I3.sz (fun x c e z => ?_) (fun pp hp z => ?_) qn
      · obtain ⟨v, zz⟩ := I3.cell x c e
        have zl := zz.lt
        rw [z] at zl
        exact Nat.lt_irrefl _ zl
      · have zl := Heap.lt_size (I3.pin pp hp).1
        rw [z] at zl
        exact Nat.lt_irrefl _ zl
    · refine thn (T.item (cxComp X (ls ++ fs) scope cl s3.heap.objs.size s3 (upd H1 s2.heap.objs.size (.lst [])) fp pins) rfl rfl rfl hc i [] s5 σ5 H5 _ I5 (stat fr5) st5 go) fun r s6 ⟨u, hr, h6⟩ => ?_
      subst hr
      refine thn h6 fun _ s7 ⟨x, H7, I7, r7, y7, st7, fr7⟩ => ?_
      have I7' := I7.pinned (stat fr7) (T.obj _ _ st7)
      refine thn (hg _ s7 σ5 H7 x u _ I7' r7 (step x H7 y7)) fun _ s8 ⟨σ8, H8, I8, q8⟩ => ?_
      have again : ∀ {σ9 : St} {H9 : Hp} {s9 : Shared}, Inv (cxComp X (ls ++ fs) scope cl s3.heap.objs.size s3 (upd H1 s2.heap.objs.size (.lst [])) fp pins) ([] ++ pinsAt fp s7.heap) σ9 H9 s9 → N σ9 H9 →
          ∃ m, m < n ∧ ∃ i σ' H', Inv (cxComp X (ls ++ fs) scope cl s3.heap.objs.size s3 (upd H1 s2.heap.objs.size (.lst [])) fp pins) [] σ' H' s9 ∧ tn i s9.heap ∧ (∀ b ∈ fp, H' b = none) ∧ W i m σ' H' := fun {σ9 H9 s9} I9 n9 => by
        obtain ⟨m', hm, w9⟩ := hN σ9 H9 n9
        refine ⟨m', hm, i + 1, σ9, H9, I9.unpinned, T.keep _ _ _ st7 fun b hb o e => (I9.pin (b, o) (List.mem_append_right _ (List.mem_append_right _ (mem_pinsAt hb e)))).1, fun b hb => ?_, w9⟩
        obtain ⟨o, e, d⟩ := T.obj _ _ st7 b hb
        exact (I9.pin (b, o) (List.mem_append_right _ (List.mem_append_right _ (mem_pinsAt hb e)))).2.1
      refine thn (ht _ s8 σ8 H8 _ I8 q8) fun ok s9 ⟨H9, I9, q9⟩ => ?_
      cases ok with
      | false => exact again I9 q9
      | true =>
        refine thn (he _ s9 σ8 H9 _ I9 q9) fun xv s10 ⟨y, H10, I10, r10, ys, hp, hl, n10⟩ => ?_
        obtain ⟨z, its, n', r, hl', e⟩ := I10.lstM hp
        refine call_meets F.slot_list_append ⟨_, e, rfl⟩ F.entry_list_append (F.args_list_append_2 _ _) (PySem.list_append s2.heap.objs.size its.toArray n' xv (by rw [List.size_toArray]; lia)) ⟨e, ?_⟩
        refine again (I10.lset (its' := its ++ [xv]) hp e (by simp) (r.append (.cons r10 .nil)) ?_) n10
        rw [List.length_append, List.length_singleton]
        lia
  have se : ({ s2 with heap := h₁, toks := s2.toks + ([] : List (Str × Value)).length } : Shared) = { s3 with heap := h₁, toks := s3.toks } := by rw [← hs3]; rfl
  exact codeAny_compStart_list (loop _ se) (T.self _ 0 _ _ _ st4 (loop _ se))

theorem pe_comp (hc : X.calm = true) (co : CompOk X scope cl ls fs js) (hi : PI X tg iter wi)
    (hY : ∀ (C : Addr) (s₀ : Shared) (H₀ : Hp) (fp : List Addr) (pl : List (Addr × Obj)), PG (cxComp X (ls ++ fs) scope cl C s₀ H₀ fp pl) tg g ∧ PTs (cxComp X (ls ++ fs) scope cl C s₀ H₀ fp pl) ifs tt ∧ PE (cxComp X (ls ++ fs) scope cl C s₀ H₀ fp pl) elt te)
    (hs : ∀ x, foldedSetIterable iter X.env x = pure x := by intro _; rfl) : PE X (.ListComp elt [⟨tg, iter, ifs, 0⟩] scope pos) (tComp wi ls js g tt te) := by
  intro pins s σ H Q I h
  rw [eval_ListComp]
  refine wpAny_comprehension_free (use := none) rfl hs co.clos co.kind co.locs (thn (hi pins s σ H _ I h) fun xv s1 h1 => thn h1 fun itv s2 h2 => ?_)
  obtain ⟨it, fp, tn, J, H2, e, I2, T, st2, f2, q⟩ := h2
  subst e
  refine comp_run (R := fun acc C => compPost (model X.prog X.w) X.A X.xe none (EP X pins σ Q) acc C) (Q := Q) hc co hY I2 T st2 f2 q ?_
  intro p C H' s' m hn IX hC hL hge hcell hpin hq
  exact ⟨m, hn, fun h' sb => ⟨.ref p, H', IX.turned (t' := s'.toks) (fun b o hb e => sb.extBut b o hb e) hC hL (.inr hge) hcell hpin, rfl, hq⟩⟩

noncomputable def tCompS (i : Nat) (t : TE) : TS := fun D σ H => t σ H fun v H1 => D.nx (σ.set i (some v)) H1
theorem ps_comp {i : Nat} {x : Str} {px spos : Pos} (hN : X.N.Nodup) (hix : X.N[i]? = some x) (hx : Loc X.env.scope x) (hc : X.calm = true) (co : CompOk X scope cl ls fs js) (hi : PI X tg iter wi)
    (hY : ∀ (C : Addr) (s₀ : Shared) (H₀ : Hp) (fp : List Addr) (pl : List (Addr × Obj)), PG (cxComp X (ls ++ fs) scope cl C s₀ H₀ fp pl) tg g ∧ PTs (cxComp X (ls ++ fs) scope cl C s₀ H₀ fp pl) ifs tt ∧ PE (cxComp X (ls ++ fs) scope cl C s₀ H₀ fp pl) elt te)
    (hsw : swapsWith (.ListComp elt [⟨tg, iter, ifs, 0⟩] scope pos) (some (.Name x px)) spos.line X.env = pure true := by rfl)
    (hs : ∀ x, foldedSetIterable iter X.env x = pure x := by intro _; rfl) (hf : X.fn x = true ∨ X.env.scope.names.lookup x = some .local := by first | exact .inl rfl | exact .inr rfl | assumption) :
    PS X (.Assign [.Name x px] (.ListComp elt [⟨tg, iter, ifs, 0⟩] scope pos) spos) (tCompS i (tComp wi ls js g tt te)) := by
  intro pins s σ H D I h
  rw [exec_Assign_Name_used _ _ _ _ hsw]
  refine wpAny_bind (wpAny_standAt (wpAny_bind ?_))
  show wpAny _ X.A (do let _ ← comprehension (.ListComp elt [⟨tg, iter, ifs, 0⟩] scope pos) scope X.env _ (newList []) false (eval iter X.env) (some (assign (.Name x px) X.env))) _ _ s
  refine wpAny_bind (wpAny_mono (wpAny_comprehension_free (use := some (assign (.Name x px) X.env)) (Q := fun _ s' => SP X pins D .next s') rfl hs co.clos co.kind co.locs
    (thn (hi pins s σ H _ I h) fun xv s1 h1 => thn h1 fun itv s2 h2 => ?_)) (fun _ s' hq => wpAny_pure (wpAny_pure hq)) fun _ _ e => e)
  obtain ⟨it, fp, tn, J, H2, e, I2, T, st2, f2, q⟩ := h2
  subst e
  refine comp_run (R := fun acc C => compPost (model X.prog X.w) X.A X.xe (some (assign (.Name x px) X.env)) (fun _ s' => SP X pins D .next s') acc C) (Q := fun v H1 => D.nx (σ.set i (some v)) H1) hc co hY I2 T st2 f2 q ?_
  intro p C H' s' m hn IX hC hL hge hcell hpin hq
  show wpAny _ X.A (assign (.Name x px) X.env (.ref p)) _ _ _
  refine wpAny_assign_Name (store_ok2 IX hN hix hx (v := .ref p) rfl (fun s'' I'' hb => ?_) hf)
  obtain ⟨a, sb, ha⟩ := hb
  have hne : C ≠ a := by
    rcases ha with z | z
    · rw [z]; exact hL
    · exact fun y => hcell x a z y.symm
  refine ⟨m, hn.sameBut sb hne, fun h3 sb3 => ?_⟩
  exact ⟨_, H', I''.turned (t' := s''.toks) (fun b o hb e => sb3.extBut b o hb e) hC hL (.inr hge) hcell hpin, hq⟩
end
end L2

namespace L2
open PySem PySem.Spec PyProof.Rows

noncomputable def SrcTn (b : Bool) (it a : Addr) (i : Nat) (h : Heap) : Prop := if b = true then h.IsListIter it a i else h.IsTupleIter it a i
noncomputable def SrcSq (b : Bool) (h : Heap) (a : Addr) (items : Array Value) : Prop := if b = true then h.IsList a items else h.IsTuple a items
theorem SrcTn.lt {b : Bool} {it a : Addr} {i : Nat} {h : Heap} (x : SrcTn b it a i h) : ∃ o, h.get? it = some o ∧ ∀ v, o.data ≠ .cell v := by
  cases b with
  | true => obtain ⟨o, e, c, d⟩ := (show h.IsListIter it a i from x); exact ⟨o, e, fun v z => by rw [d] at z; cases z⟩
  | false => obtain ⟨o, e, c, d⟩ := (show h.IsTupleIter it a i from x); exact ⟨o, e, fun v z => by rw [d] at z; cases z⟩
theorem SrcTn.keep {b : Bool} {it a : Addr} {i : Nat} {h h' : Heap} (x : SrcTn b it a i h) (k : ∀ o, h.get? it = some o → h'.get? it = some o) : SrcTn b it a i h' := by
  cases b with
  | true => obtain ⟨o, e, r⟩ := (show h.IsListIter it a i from x); exact (show h'.IsListIter it a i from ⟨o, k o e, r⟩)
  | false => obtain ⟨o, e, r⟩ := (show h.IsTupleIter it a i from x); exact (show h'.IsTupleIter it a i from ⟨o, k o e, r⟩)
theorem SrcSq.keep {b : Bool} {a : Addr} {items : Array Value} {h h' : Heap} (x : SrcSq b h a items) (k : ∀ o, h.get? a = some o → h'.get? a = some o) : SrcSq b h' a items := by
  cases b with
  | true => obtain ⟨o, e, r⟩ := (show h.IsList a items from x); exact (show h'.IsList a items from ⟨o, k o e, r⟩)
  | false => obtain ⟨o, e, r⟩ := (show h.IsTuple a items from x); exact (show h'.IsTuple a items from ⟨o, k o e, r⟩)

section
variable {prog : Program} {w : World} {A : Around} {E : Value → Shared → Prop} {s : Shared}
theorem nextOf_tuple_item {it l : Addr} {i : Nat} {items : Array Value} {x : Value} {Q : Value → Shared → Prop} (hit : s.heap.IsTupleIter it l i) (hl : s.heap.IsTuple l items) (hx : items[i]? = some x)
    (hQ : ∀ h', h'.IsTupleIter it l (i + 1) → Heap.SameBut it s.heap h' → Q x { s with heap := h' }) : wpAny (model prog w) A (Builtin.SmallTypes.nextOf (.ref it)) Q E s := by
  obtain ⟨o, ho, hc, hd⟩ := id hit
  obtain ⟨ol, hol, _, nl, hdl⟩ := hl
  unfold Builtin.SmallTypes.nextOf
  refine wpAny_bind (wpAny_callSpecial?_slot (name := Str.ofString "__next__") hit.typeIs F.slot_tuple_iterator_next
    (wpAny_call_entry F.slot_tuple_iterator_next hit.typeIs F.entry_tuple_iterator_next ?_ (F.args_tuple_iterator_next_1 _)))
  show wpAny _ _ (field (.ref it) 0 >>= _) _ _ s
  refine wpAny_bind (wpAny_field ho hd (x := .ref l) rfl ?_)
  show wpAny _ _ (if (Value.ref l == Value.none) = true then _ else _) _ _ s
  rw [if_neg (show ¬ ((Value.ref l == Value.none) = true) from Bool.false_ne_true)]
  show wpAny _ _ (field (.ref it) 1 >>= _) _ _ s
  refine wpAny_bind (wpAny_field ho hd (x := .int i 0) rfl ?_)
  show wpAny _ _ (seqItems? (.ref l) >>= _) _ _ s
  refine wpAny_bind (wpAny_seqItems hol hdl ?_)
  simp only [Int.toNat_natCast, hx]
  refine wpAny_bind (wpAny_setField ho hd (by simp) (wpAny_pure ⟨x, rfl, wpAny_pure (hQ _ ?_ (Heap.SameBut.update ..))⟩))
  exact ⟨_, Heap.get?_update_self _ ho (Obj.isFreed_of_fields (Obj.data_mapFields hd _)), (Obj.cls_mapFields ..).trans hc, by
    rw [Obj.data_mapFields hd]; simp [rawInt]⟩
theorem nextOf_tuple_end {it l : Addr} {i : Nat} {items : Array Value} {Q : Value → Shared → Prop} (hh : A.handled = none) (hit : s.heap.IsTupleIter it l i) (hl : s.heap.IsTuple l items) (hx : items[i]? = none)
    (hE : ∀ h' e, Heap.ExtBut it s.heap h' → (∃ o, h'.get? e = some o ∧ o.cls = .type "StopIteration") → E (.ref e) { s with heap := h' }) : wpAny (model prog w) A (Builtin.SmallTypes.nextOf (.ref it)) Q E s := by
  obtain ⟨o, ho, hc, hd⟩ := id hit
  obtain ⟨ol, hol, _, nl, hdl⟩ := hl
  unfold Builtin.SmallTypes.nextOf
  refine wpAny_bind (wpAny_callSpecial?_slot (name := Str.ofString "__next__") hit.typeIs F.slot_tuple_iterator_next
    (wpAny_call_entry F.slot_tuple_iterator_next hit.typeIs F.entry_tuple_iterator_next ?_ (F.args_tuple_iterator_next_1 _)))
  show wpAny _ _ (field (.ref it) 0 >>= _) _ _ s
  refine wpAny_bind (wpAny_field ho hd (x := .ref l) rfl ?_)
  show wpAny _ _ (if (Value.ref l == Value.none) = true then _ else _) _ _ s
  rw [if_neg (show ¬ ((Value.ref l == Value.none) = true) from Bool.false_ne_true)]
  show wpAny _ _ (field (.ref it) 1 >>= _) _ _ s
  refine wpAny_bind (wpAny_field ho hd (x := .int i 0) rfl ?_)
  show wpAny _ _ (seqItems? (.ref l) >>= _) _ _ s
  refine wpAny_bind (wpAny_seqItems hol hdl ?_)
  simp only [Int.toNat_natCast, hx]
  refine wpAny_bind (wpAny_rule (wpAny_bind (wpAny_setField ho hd (by simp) ?_)))
  show wpAny _ _ (newExc (.type "StopIteration") [] >>= _) _ _ _
  refine wpAny_bind ?_
  simp only [newExc, newTuple]
  refine wpAny_bind (wpAny_newObj_type ?_ (by size_fits))
  refine wpAny_bind (m := firstArgMember _ _) (wpAny_of_eq (a := Value.none) (by first | rfl | (simp only [firstArgMember]; rfl)) ?_)
  refine wpAny_newObj_type ?_ (by size_fits)
  simp only [raiseNew]
  refine wpAny_bind (wpAny_handled ?_)
  first | rw [show A.in1.handled = none from hh] | rw [hh]
  refine wpAny_bind (wpAny_pure (wpAny_throw ?_))
  exact hE _ _ (((Heap.SameBut.update ..).extBut.push _).push _) ⟨_, Heap.get?_push_size _ rfl, rfl⟩

theorem nextOf_src_item {b : Bool} {it l : Addr} {i : Nat} {items : Array Value} {x : Value} {Q : Value → Shared → Prop} (hit : SrcTn b it l i s.heap) (hl : SrcSq b s.heap l items) (hx : items[i]? = some x)
    (hQ : ∀ h', SrcTn b it l (i + 1) h' → Heap.SameBut it s.heap h' → Q x { s with heap := h' }) : wpAny (model prog w) A (Builtin.SmallTypes.nextOf (.ref it)) Q E s := by
  cases b with
  | true => exact wpAny_nextOf_list_item hit hl hx hQ
  | false => exact nextOf_tuple_item hit hl hx hQ
theorem nextOf_src_end {b : Bool} {it l : Addr} {i : Nat} {items : Array Value} {Q : Value → Shared → Prop} (hh : A.handled = none) (hit : SrcTn b it l i s.heap) (hl : SrcSq b s.heap l items) (hx : items[i]? = none)
    (hE : ∀ h' e, Heap.ExtBut it s.heap h' → (∃ o, h'.get? e = some o ∧ o.cls = .type "StopIteration") → E (.ref e) { s with heap := h' }) : wpAny (model prog w) A (Builtin.SmallTypes.nextOf (.ref it)) Q E s := by
  cases b with
  | true => exact wpAny_nextOf_list_end hh hit hl hx hE
  | false => exact nextOf_tuple_end hh hit hl hx hE
noncomputable def srcCls (b : Bool) : String := if b = true then "list_iterator" else "tuple_iterator"
theorem pyIter_src {b : Bool} {l : Addr} {items : Array Value} {Q : Value → Shared → Prop} (hl : SrcSq b s.heap l items)
    (hQ : Q (.ref s.heap.objs.size) { s with heap := s.heap.push { cls := .type (srcCls b), data := .fields #[.ref l, .int 0 0] } }) : wpAny (model prog w) A (pyIter (.ref l)) Q E s := by
  cases b with
  | true => exact wpAny_pyIter_list hl hQ
  | false => exact wpAny_pyIter_tuple hl hQ
theorem src_new {b : Bool} {h : Heap} {it l : Addr} (e : h.get? it = some { cls := .type (srcCls b), data := .fields #[.ref l, .int 0 0] }) : SrcTn b it l 0 h := by
  cases b with
  | true => exact (show h.IsListIter it l 0 from ⟨_, e, rfl, rfl⟩)
  | false => exact (show h.IsTupleIter it l 0 from ⟨_, e, rfl, rfl⟩)

structure ZApart (z TI TO i1 i2 : Addr) : Prop where
  TIz : TI ≠ z
  TOz : TO ≠ z
  i1z : i1 ≠ z
  i2z : i2 ≠ z
  TITO : TI ≠ TO
  TIi1 : TI ≠ i1
  TIi2 : TI ≠ i2
  TOi1 : TO ≠ i1
  TOi2 : TO ≠ i2
  i12 : i1 ≠ i2
noncomputable def Off (z TO i1 i2 l : Addr) : Prop := l ≠ z ∧ l ≠ TO ∧ l ≠ i1 ∧ l ≠ i2

theorem zip_item {b1 b2 : Bool} {z TI TO i1 i2 l1 l2 : Addr} {k1 k2 : Nat} {xs ys : Array Value} {x y a b : Value} {Q : Value → Shared → Prop} (D : ZApart z TI TO i1 i2) (O1 : Off z TO i1 i2 l1) (O2 : Off z TO i1 i2 l2)
    (hz : IsZip s.heap z TI TO .none) (hTI : IsPair s.heap TI (.ref i1) (.ref i2)) (hTO : IsPair s.heap TO a b)
    (h1 : SrcTn b1 i1 l1 k1 s.heap) (h2 : SrcTn b2 i2 l2 k2 s.heap) (hl1 : SrcSq b1 s.heap l1 xs) (hl2 : SrcSq b2 s.heap l2 ys) (hx : xs[k1]? = some x) (hy : ys[k2]? = some y)
    (hQ : ∀ h', IsZip h' z TI TO (rawInt s.heap.objs.size) → IsPair h' TO x y → SrcTn b1 i1 l1 (k1 + 1) h' → SrcTn b2 i2 l2 (k2 + 1) h' → IsPair h' s.heap.objs.size x y → h'.objs.size = s.heap.objs.size + 1 →
      (∀ c o, c ≠ z → c ≠ TO → c ≠ i1 → c ≠ i2 → s.heap.get? c = some o → h'.get? c = some o) → Q (.ref s.heap.objs.size) { s with heap := h' }) :
    wpAny (model prog w) A (Builtin.«zip.__next__» ⟨[.ref z], []⟩) (fun fin s' => ∃ v, fin = .done (.ret v) ∧ Q v s') E s := by
  show wpAny _ _ (field (.ref z) 2 >>= _) _ _ _
  refine wpAny_bind (wpAny_field hz rfl (x := .bool false) rfl ?_)
  show wpAny _ _ (field (.ref z) 3 >>= _) _ _ _
  refine wpAny_bind (wpAny_field hz rfl (x := .ref TI) rfl ?_)
  refine wpAny_bind (wpAny_seqItems hTI rfl ?_)
  show wpAny _ _ (Builtin.SmallTypes.ownedTupleIsFree (.ref z) >>= _) _ _ _
  refine wpAny_bind ?_
  unfold Builtin.SmallTypes.ownedTupleIsFree
  refine wpAny_bind (wpAny_field hz rfl (x := .none) rfl (wpAny_pure ?_))
  simp only [if_true]
  refine wpAny_bind (wpAny_rule ?_)
  refine wpAny_bind (wpAny_field hz rfl (x := .ref TO) rfl ?_)
  refine wpAny_bind (wpAny_setField_rec hz (by simp) fun h₁ hz₁ hs₁ => ?_)
  replace hz₁ : IsZip h₁ z TI TO .ellipsis := hz₁
  refine wpAny_bind ?_
  simp only [List.zipIdx_cons, List.zipIdx_nil, List.forIn_cons, List.forIn_nil]
  refine wpAny_bind (wpAny_bind (wpAny_onRaise ?_))
  show wpAny _ _ (Builtin.SmallTypes.nextOf (.ref i1) >>= _) _ _ _
  refine wpAny_bind (nextOf_src_item (h1.keep fun o e => hs₁.extBut _ o D.i1z e) (hl1.keep fun o e => hs₁.extBut _ o O1.1 e) hx fun h₂ h1₂ hs₂ => wpAny_pure ?_)
  have hTO₂ : IsPair h₂ TO a b := hs₂.extBut _ _ D.TOi1 (hs₁.extBut _ _ D.TOz hTO)
  refine wpAny_bind (wpAny_seqItems hTO₂ rfl ?_)
  refine wpAny_bind (wpAny_updateSeq_pair hTO₂ fun h₃ hTO₃ hs₃ => ?_)
  replace hTO₃ : IsPair h₃ TO x b := hTO₃
  refine wpAny_bind (wpAny_letGo (wpAny_pure ?_))
  refine wpAny_bind (wpAny_bind (wpAny_onRaise ?_))
  show wpAny _ _ (Builtin.SmallTypes.nextOf (.ref i2) >>= _) _ _ _
  refine wpAny_bind (nextOf_src_item (h2.keep fun o e => hs₃.extBut _ o D.TOi2.symm (hs₂.extBut _ o D.i12.symm (hs₁.extBut _ o D.i2z e)))
    (hl2.keep fun o e => hs₃.extBut _ o O2.2.1 (hs₂.extBut _ o O2.2.2.1 (hs₁.extBut _ o O2.1 e))) hy fun h₄ h2₄ hs₄ => wpAny_pure ?_)
  have hTO₄ : IsPair h₄ TO x b := hs₄.extBut _ _ D.TOi2 hTO₃
  refine wpAny_bind (wpAny_seqItems hTO₄ rfl ?_)
  refine wpAny_bind (wpAny_updateSeq_pair hTO₄ fun h₅ hTO₅ hs₅ => ?_)
  replace hTO₅ : IsPair h₅ TO x y := hTO₅
  refine wpAny_bind (wpAny_letGo (wpAny_pure (wpAny_pure ?_)))
  refine wpAny_bind (wpAny_seqItems hTO₅ rfl ?_)
  refine wpAny_bind (wpAny_newTuple ?_)
  have hsz : h₅.objs.size = s.heap.objs.size := by rw [hs₅.1, hs₄.1, hs₃.1, hs₂.1, hs₁.1]
  have hz₅ : IsZip h₅ z TI TO .ellipsis := hs₅.extBut _ _ D.TOz.symm (hs₄.extBut _ _ D.i2z.symm (hs₃.extBut _ _ D.TOz.symm (hs₂.extBut _ _ D.i1z.symm hz₁)))
  have hk₅ : ∀ c o, c ≠ z → c ≠ TO → c ≠ i1 → c ≠ i2 → s.heap.get? c = some o → h₅.get? c = some o := fun c o c1 c2 c3 c4 e =>
    hs₅.extBut _ _ c2 (hs₄.extBut _ _ c4 (hs₃.extBut _ _ c2 (hs₂.extBut _ _ c3 (hs₁.extBut _ _ c1 e))))
  have h1₅ : SrcTn b1 i1 l1 (k1 + 1) h₅ := h1₂.keep fun o e => hs₅.extBut _ o D.TOi1.symm (hs₄.extBut _ o D.i12 (hs₃.extBut _ o D.TOi1.symm e))
  have h2₅ : SrcTn b2 i2 l2 (k2 + 1) h₅ := h2₄.keep fun o e => hs₅.extBut _ o D.TOi2.symm e
  have hzlt : z < h₅.objs.size := Heap.lt_size hz₅
  show wpAny _ _ (Builtin.SmallTypes.ownedTupleHandOut (.ref z) (.ref h₅.objs.size) >>= _) _ _ _
  refine wpAny_bind ?_
  unfold Builtin.SmallTypes.ownedTupleHandOut
  have hz₆ : IsZip (h₅.push { cls := .type "tuple", data := .seq #[x, y] }) z TI TO .ellipsis := Heap.get?_push_of_some _ hz₅
  refine wpAny_bind (wpAny_setField_rec hz₆ (by simp) fun h₇ hz₇ hs₇ => ?_)
  replace hz₇ : IsZip h₇ z TI TO (rawInt h₅.objs.size) := hz₇
  refine wpAny_setField_rec hz₇ (by simp) fun h₈ hz₈ hs₈ => ?_
  replace hz₈ : IsZip h₈ z TI TO (rawInt h₅.objs.size) := hz₈
  have up : ∀ c o, c ≠ z → h₅.get? c = some o → h₈.get? c = some o := fun c o c1 e => hs₈.extBut _ _ c1 (hs₇.extBut _ _ c1 (Heap.get?_push_of_some _ e))
  have hT₈ : IsPair h₈ h₅.objs.size x y := hs₈.extBut _ _ (Nat.ne_of_gt hzlt) (hs₇.extBut _ _ (Nat.ne_of_gt hzlt) (Heap.get?_push_size _ rfl))
  have hz8 : h₈.objs.size = h₅.objs.size + 1 := by rw [hs₈.1, hs₇.1, Heap.size_push]
  rw [hsz] at hz₈ hT₈ hz8
  refine wpAny_pure ⟨_, rfl, ?_⟩
  show Q (.ref h₅.objs.size) _
  rw [hsz]
  exact hQ h₈ hz₈ (up _ _ D.TOz hTO₅) (h1₅.keep fun o e => up _ o D.i1z e) (h2₅.keep fun o e => up _ o D.i2z e) hT₈ hz8 fun c o c1 c2 c3 c4 e => up c o c1 (hk₅ c o c1 c2 c3 c4 e)

theorem zip_end {b1 b2 : Bool} {z TI TO i1 i2 l1 l2 : Addr} {k1 k2 : Nat} {xs ys : Array Value} {a b : Value} {Q : Fin → Shared → Prop} (hh : A.handled = none) (D : ZApart z TI TO i1 i2) (O1 : Off z TO i1 i2 l1) (O2 : Off z TO i1 i2 l2)
    (hz : IsZip s.heap z TI TO .none) (hTI : IsPair s.heap TI (.ref i1) (.ref i2)) (hTO : IsPair s.heap TO a b)
    (h1 : SrcTn b1 i1 l1 k1 s.heap) (h2 : SrcTn b2 i2 l2 k2 s.heap) (hl1 : SrcSq b1 s.heap l1 xs) (hl2 : SrcSq b2 s.heap l2 ys) (hend : xs[k1]? = none ∨ ys[k2]? = none)
    (hE : ∀ h' e, (∀ c o, c ≠ z → c ≠ TO → c ≠ i1 → c ≠ i2 → s.heap.get? c = some o → h'.get? c = some o) → (∃ o, h'.get? e = some o ∧ o.cls = .type "StopIteration") → E (.ref e) { s with heap := h' }) :
    wpAny (model prog w) A (Builtin.«zip.__next__» ⟨[.ref z], []⟩) Q E s := by
  show wpAny _ _ (field (.ref z) 2 >>= _) _ _ _
  refine wpAny_bind (wpAny_field hz rfl (x := .bool false) rfl ?_)
  show wpAny _ _ (field (.ref z) 3 >>= _) _ _ _
  refine wpAny_bind (wpAny_field hz rfl (x := .ref TI) rfl ?_)
  refine wpAny_bind (wpAny_seqItems hTI rfl ?_)
  show wpAny _ _ (Builtin.SmallTypes.ownedTupleIsFree (.ref z) >>= _) _ _ _
  refine wpAny_bind ?_
  unfold Builtin.SmallTypes.ownedTupleIsFree
  refine wpAny_bind (wpAny_field hz rfl (x := .none) rfl (wpAny_pure ?_))
  simp only [if_true]
  refine wpAny_bind (wpAny_rule ?_)
  refine wpAny_bind (wpAny_field hz rfl (x := .ref TO) rfl ?_)
  refine wpAny_bind (wpAny_setField_rec hz (by simp) fun h₁ hz₁ hs₁ => ?_)
  replace hz₁ : IsZip h₁ z TI TO .ellipsis := hz₁
  refine wpAny_bind ?_
  simp only [List.zipIdx_cons, List.zipIdx_nil, List.forIn_cons, List.forIn_nil]
  refine wpAny_bind (wpAny_bind (wpAny_onRaise ?_))
  show wpAny _ _ (Builtin.SmallTypes.nextOf (.ref i1) >>= _) _ _ _
  cases hx : xs[k1]? with
  | none =>
    refine wpAny_bind (nextOf_src_end hh (h1.keep fun o e => hs₁.extBut _ o D.i1z e) (hl1.keep fun o e => hs₁.extBut _ o O1.1 e) hx fun h₂ e hs₂ he => ?_)
    obtain ⟨oe, hoe, hce⟩ := he
    have hz₂ : IsZip h₂ z TI TO .ellipsis := hs₂ _ _ D.i1z.symm hz₁
    have hez : e ≠ z := fun x => by subst x; rw [hz₂] at hoe; cases hoe; simp at hce
    refine wpAny_setField_rec hz₂ (by simp) fun h₃ _ hs₃ => hE h₃ e (fun c o c1 _ c3 _ x => hs₃.extBut _ _ c1 (hs₂ _ _ c3 (hs₁.extBut _ _ c1 x))) ⟨oe, hs₃.extBut _ _ hez hoe, hce⟩
  | some x =>
    have hy : ys[k2]? = none := by rcases hend with h | h; rw [hx] at h; cases h; exact h
    refine wpAny_bind (nextOf_src_item (h1.keep fun o e => hs₁.extBut _ o D.i1z e) (hl1.keep fun o e => hs₁.extBut _ o O1.1 e) hx fun h₂ h1₂ hs₂ => wpAny_pure ?_)
    have hTO₂ : IsPair h₂ TO a b := hs₂.extBut _ _ D.TOi1 (hs₁.extBut _ _ D.TOz hTO)
    refine wpAny_bind (wpAny_seqItems hTO₂ rfl ?_)
    refine wpAny_bind (wpAny_updateSeq_pair hTO₂ fun h₃ hTO₃ hs₃ => ?_)
    refine wpAny_bind (wpAny_letGo (wpAny_pure ?_))
    refine wpAny_bind (wpAny_bind (wpAny_onRaise ?_))
    show wpAny _ _ (Builtin.SmallTypes.nextOf (.ref i2) >>= _) _ _ _
    refine wpAny_bind (nextOf_src_end hh (h2.keep fun o e => hs₃.extBut _ o D.TOi2.symm (hs₂.extBut _ o D.i12.symm (hs₁.extBut _ o D.i2z e)))
      (hl2.keep fun o e => hs₃.extBut _ o O2.2.1 (hs₂.extBut _ o O2.2.2.1 (hs₁.extBut _ o O2.1 e))) hy fun h₄ e hs₄ he => ?_)
    obtain ⟨oe, hoe, hce⟩ := he
    have hz₄ : IsZip h₄ z TI TO .ellipsis := hs₄ _ _ D.i2z.symm (hs₃.extBut _ _ D.TOz.symm (hs₂.extBut _ _ D.i1z.symm hz₁))
    have hez : e ≠ z := fun x => by subst x; rw [hz₄] at hoe; cases hoe; simp at hce
    refine wpAny_setField_rec hz₄ (by simp) fun h₅ _ hs₅ => hE h₅ e (fun c o c1 c2 c3 c4 x => hs₅.extBut _ _ c1 (hs₄ _ _ c4 (hs₃.extBut _ _ c2 (hs₂.extBut _ _ c3 (hs₁.extBut _ _ c1 x))))) ⟨oe, hs₅.extBut _ _ hez hoe, hce⟩

theorem pyNext_zip_item {b1 b2 : Bool} {z TI TO i1 i2 l1 l2 : Addr} {k1 k2 : Nat} {xs ys : Array Value} {x y a b : Value} {Q : Option Value → Shared → Prop} (D : ZApart z TI TO i1 i2) (O1 : Off z TO i1 i2 l1) (O2 : Off z TO i1 i2 l2)
    (hz : IsZip s.heap z TI TO .none) (hTI : IsPair s.heap TI (.ref i1) (.ref i2)) (hTO : IsPair s.heap TO a b)
    (h1 : SrcTn b1 i1 l1 k1 s.heap) (h2 : SrcTn b2 i2 l2 k2 s.heap) (hl1 : SrcSq b1 s.heap l1 xs) (hl2 : SrcSq b2 s.heap l2 ys) (hx : xs[k1]? = some x) (hy : ys[k2]? = some y)
    (hQ : ∀ h', IsZip h' z TI TO (rawInt s.heap.objs.size) → IsPair h' TO x y → SrcTn b1 i1 l1 (k1 + 1) h' → SrcTn b2 i2 l2 (k2 + 1) h' → IsPair h' s.heap.objs.size x y → h'.objs.size = s.heap.objs.size + 1 →
      (∀ c o, c ≠ z → c ≠ TO → c ≠ i1 → c ≠ i2 → s.heap.get? c = some o → h'.get? c = some o) → Q (some (.ref s.heap.objs.size)) { s with heap := h' }) :
    wpAny (model prog w) A (pyNext (.ref z)) Q E s := by
  have hT : s.TypeIs (.ref z) "zip" := ⟨_, hz, rfl⟩
  unfold pyNext
  exact wpAny_bind (wpAny_attempt (wpAny_callSpecial?_slot (name := Str.ofString "__next__") hT F.slot_zip_next
    (wpAny_call_entry F.slot_zip_next hT F.entry_zip_next (zip_item D O1 O2 hz hTI hTO h1 h2 hl1 hl2 hx hy fun h' a1 a2 a3 a4 a5 a6 a7 => wpAny_pure (hQ h' a1 a2 a3 a4 a5 a6 a7)) (F.args_zip_next_1 _))))
theorem pyNext_zip_end {b1 b2 : Bool} {z TI TO i1 i2 l1 l2 : Addr} {k1 k2 : Nat} {xs ys : Array Value} {a b : Value} {Q : Option Value → Shared → Prop} (hh : A.handled = none) (D : ZApart z TI TO i1 i2) (O1 : Off z TO i1 i2 l1) (O2 : Off z TO i1 i2 l2)
    (hz : IsZip s.heap z TI TO .none) (hTI : IsPair s.heap TI (.ref i1) (.ref i2)) (hTO : IsPair s.heap TO a b)
    (h1 : SrcTn b1 i1 l1 k1 s.heap) (h2 : SrcTn b2 i2 l2 k2 s.heap) (hl1 : SrcSq b1 s.heap l1 xs) (hl2 : SrcSq b2 s.heap l2 ys) (hend : xs[k1]? = none ∨ ys[k2]? = none)
    (hQ : ∀ h', (∀ c o, c ≠ z → c ≠ TO → c ≠ i1 → c ≠ i2 → s.heap.get? c = some o → h'.get? c = some o) → Q none { s with heap := h' }) : wpAny (model prog w) A (pyNext (.ref z)) Q E s := by
  have hT : s.TypeIs (.ref z) "zip" := ⟨_, hz, rfl⟩
  unfold pyNext
  refine wpAny_bind (wpAny_attempt (wpAny_callSpecial?_slot (name := Str.ofString "__next__") hT F.slot_zip_next
    (wpAny_call_entry F.slot_zip_next hT F.entry_zip_next (zip_end hh D O1 O2 hz hTI hTO h1 h2 hl1 hl2 hend fun h' e hk he => ?_) (F.args_zip_next_1 _))))
  obtain ⟨o, ho, hc⟩ := he
  refine wpAny_bind (wpAny_isInstance (T := "StopIteration") (b := true) ⟨o, ho, hc⟩ isSubtype_stop ?_)
  exact wpAny_pure (hQ _ hk)
end

noncomputable abbrev zH1 (c1 : String) (h : Heap) (l1 : Addr) : Heap := h.push { cls := .type c1, data := .fields #[.ref l1, .int 0 0] }
noncomputable abbrev zH2 (c1 c2 : String) (h : Heap) (l1 l2 : Addr) : Heap := (zH1 c1 h l1).push { cls := .type c2, data := .fields #[.ref l2, .int 0 0] }
noncomputable abbrev zH3 (c1 c2 : String) (h : Heap) (l1 l2 : Addr) : Heap := (zH2 c1 c2 h l1 l2).push { cls := .type "tuple", data := .seq #[.ref h.objs.size, .ref (zH1 c1 h l1).objs.size] }
noncomputable abbrev zH4 (c1 c2 : String) (h : Heap) (l1 l2 : Addr) : Heap := (zH3 c1 c2 h l1 l2).push { cls := .type "tuple", data := .seq #[.none, .none] }
noncomputable abbrev zH5 (c1 c2 : String) (h : Heap) (l1 l2 : Addr) : Heap := (zH4 c1 c2 h l1 l2).push { cls := .type "zip", data := .fields #[.none, .bool false, .bool false, .ref (zH2 c1 c2 h l1 l2).objs.size, .ref (zH3 c1 c2 h l1 l2).objs.size] }
theorem meets_zip (b1 b2 : Bool) (l1 l2 : Addr) (xs ys : Array Value) :
    Meets (Builtin.«zip.__new__» ⟨[.type "zip", .ref l1, .ref l2], []⟩) (fun _ R s => SrcSq b1 s.heap l1 xs ∧ SrcSq b2 s.heap l2 ys ∧
      R (.ok (.ret (.ref (zH4 (srcCls b1) (srcCls b2) s.heap l1 l2).objs.size))) { s with heap := zH5 (srcCls b1) (srcCls b2) s.heap l1 l2 }) :=
  .of_wp fun prog w A R s h => by
    obtain ⟨hp, g, d, tk, os⟩ := s; obtain ⟨hl1, hl2, h⟩ := h
    have hsub := sub_zip
    have hL1 : SrcSq b1 (Shared.heap ⟨hp, g, d, tk, os⟩) l1 xs := hl1
    have hL2 : SrcSq b2 (Shared.heap ⟨hp.push { cls := .type (srcCls b1), data := .fields #[.ref l1, .int 0 0] }, g, d, tk, os⟩) l2 ys := SrcSq.keep hl2 fun o e => Heap.get?_push_of_some _ e
    wp_walk using pyIter_src hL1, pyIter_src hL2
    exact ⟨_, rfl, h⟩
section
variable {prog : Program} {w : World} {A : Around} {E : Value → Shared → Prop} {s : Shared}
theorem call_zip {b1 b2 : Bool} {l1 l2 : Addr} {xs ys : Array Value} {Q : Value → Shared → Prop} (hl1 : SrcSq b1 s.heap l1 xs) (hl2 : SrcSq b2 s.heap l2 ys)
    (h : ∀ h', IsZip h' (s.heap.objs.size + 4) (s.heap.objs.size + 2) (s.heap.objs.size + 3) .none → IsPair h' (s.heap.objs.size + 2) (.ref s.heap.objs.size) (.ref (s.heap.objs.size + 1)) →
      IsPair h' (s.heap.objs.size + 3) .none .none → SrcTn b1 s.heap.objs.size l1 0 h' → SrcTn b2 (s.heap.objs.size + 1) l2 0 h' → h'.objs.size = s.heap.objs.size + 5 →
      (∀ c o, s.heap.get? c = some o → h'.get? c = some o) → Q (.ref (s.heap.objs.size + 4)) { s with heap := h' }) :
    wpAny (model prog w) A (call (.type "zip") [.ref l1, .ref l2]) Q E s := by
  refine callType_new F.called_zip (by decide) (F.typeCall_zip_2 _ _) (F.newCall_zip_2 _ _) (fun obj => F.args_object_init_3 obj _ _) F.entry_zip_new (meets_zip b1 b2 l1 l2 xs ys) ⟨hl1, hl2, ?_⟩
  have z1 : (zH1 (srcCls b1) s.heap l1).objs.size = s.heap.objs.size + 1 := Heap.size_push ..
  have z2 : (zH2 (srcCls b1) (srcCls b2) s.heap l1 l2).objs.size = s.heap.objs.size + 2 := by rw [Heap.size_push, z1]
  have z3 : (zH3 (srcCls b1) (srcCls b2) s.heap l1 l2).objs.size = s.heap.objs.size + 3 := by rw [Heap.size_push, z2]
  have z4 : (zH4 (srcCls b1) (srcCls b2) s.heap l1 l2).objs.size = s.heap.objs.size + 4 := by rw [Heap.size_push, z3]
  have z5 : (zH5 (srcCls b1) (srcCls b2) s.heap l1 l2).objs.size = s.heap.objs.size + 5 := by rw [Heap.size_push, z4]
  have g5 : (zH5 (srcCls b1) (srcCls b2) s.heap l1 l2).get? (zH4 (srcCls b1) (srcCls b2) s.heap l1 l2).objs.size = some _ := Heap.get?_push_size _ rfl
  have g4 : (zH5 (srcCls b1) (srcCls b2) s.heap l1 l2).get? (zH3 (srcCls b1) (srcCls b2) s.heap l1 l2).objs.size = some _ := Heap.get?_push_of_some _ (Heap.get?_push_size _ rfl)
  have g3 : (zH5 (srcCls b1) (srcCls b2) s.heap l1 l2).get? (zH2 (srcCls b1) (srcCls b2) s.heap l1 l2).objs.size = some _ := Heap.get?_push_of_some _ (Heap.get?_push_of_some _ (Heap.get?_push_size _ rfl))
  have g2 : (zH5 (srcCls b1) (srcCls b2) s.heap l1 l2).get? (zH1 (srcCls b1) s.heap l1).objs.size = some _ := Heap.get?_push_of_some _ (Heap.get?_push_of_some _ (Heap.get?_push_of_some _ (Heap.get?_push_size _ rfl)))
  have g1 : (zH5 (srcCls b1) (srcCls b2) s.heap l1 l2).get? s.heap.objs.size = some _ := Heap.get?_push_of_some _ (Heap.get?_push_of_some _ (Heap.get?_push_of_some _ (Heap.get?_push_of_some _ (Heap.get?_push_size _ rfl))))
  show _ ∧ _
  rw [z2, z3, z4] at g5
  rw [z1, z2] at g3
  rw [z3] at g4
  rw [z1] at g2
  rw [z4]
  exact ⟨⟨_, g5, rfl⟩, h _ g5 g3 g4 (src_new g1) (src_new g2) z5 fun c o x =>
    Heap.get?_push_of_some _ (Heap.get?_push_of_some _ (Heap.get?_push_of_some _ (Heap.get?_push_of_some _ (Heap.get?_push_of_some _ x))))⟩
end
end L2

namespace L2
open PySem PySem.Spec PyProof.Rows
noncomputable def SqB (K : PySem.W.Frag) (b : Bool) (H : Hp) (a : Addr) (xs : List V) : Prop := if b = true then SqL K H a xs else SqT K H a xs
section
variable {X : Cx} {pins : List (Addr × Obj)} {σ : St} {H : Hp} {s : Shared} {a : Addr} {xs ys : List V} {b : Bool}
theorem Inv.src (I : Inv X pins σ H s) (h : SqB X.K b H a xs) : ∃ its : List Value, Vals xs its ∧ SrcSq b s.heap a its.toArray ∧ xs.length ≤ sizeLine := by
  cases b with
  | true => obtain ⟨its, r, p, z⟩ := I.list (show SqL X.K H a xs from h); exact ⟨its, r, p.isList, z⟩
  | false => obtain ⟨its, r, p, z⟩ := I.tuple (show SqT X.K H a xs from h); exact ⟨its, r, p, z⟩
theorem Inv.src_inj (I : Inv X pins σ H s) (h : SqB X.K b H a xs) (h' : SqB X.K b H a ys) : xs = ys := by
  cases b with
  | true => exact I.list_inj (show SqL X.K H a xs from h) h'
  | false => exact I.tuple_inj (show SqT X.K H a xs from h) h'
theorem Inv.src_ne (I : Inv X pins σ H s) (h : SqB X.K b H a xs) {it : Addr} (f : FpOk X pins H it) : a ≠ it := by
  obtain ⟨f0, f1, f2, f3, f4, f5⟩ := f
  intro e; subst e
  have kne : ∀ o, X.K.lookup a = some o → False := fun o hk => by
    have hb := I.ok.mod.kin a o hk
    rcases f3 with z | z
    · exact I.ok.noex a o hb z
    · exact absurd (Nat.lt_of_lt_of_le (Heap.lt_size (I.ok.bs a o hb).1) z) (Nat.lt_irrefl _)
  cases b with
  | true =>
    rcases (show SqL X.K H a xs from h) with (z | ⟨o, z⟩) | ⟨o, _, _, hk, _⟩
    · rw [f0] at z; cases z
    · rw [f0] at z; cases z
    · exact kne o hk
  | false =>
    rcases (show SqT X.K H a xs from h) with (z | ⟨o, z⟩) | ⟨o, _, _, hk, _⟩
    · rw [f0] at z; cases z
    · rw [f0] at z; cases z
    · exact kne o hk
end

noncomputable def Itz (K : PySem.W.Frag) (b1 b2 : Bool) (l1 l2 : Addr) : It :=
  ⟨fun i H => ∃ xs ys x y, SqB K b1 H l1 xs ∧ SqB K b2 H l2 ys ∧ xs[i]? = some x ∧ ys[i]? = some y,
   fun i H v H' => ∃ T x y, H T = none ∧ v = .ref T ∧ H' = upd H T (.tup [x, y]) ∧ (∀ xs, SqB K b1 H l1 xs → xs[i]? = some x) ∧ (∀ ys, SqB K b2 H l2 ys → ys[i]? = some y),
   fun i H => ∃ xs ys, SqB K b1 H l1 xs ∧ SqB K b2 H l2 ys ∧ (xs.length ≤ i ∨ ys.length ≤ i)⟩
theorem Inv.turned4 {X : Cx} {pins : List (Addr × Obj)} {σ : St} {H : Hp} {s : Shared} {h' : Heap} {t' : Nat} {fp : List Addr} (I : Inv X pins σ H s) (hf : ∀ b ∈ fp, FpOk X pins H b)
    (k : ∀ b o, b ∉ fp → s.heap.get? b = some o → h'.get? b = some o) : Inv X pins σ H { s with heap := h', toks := t' } := by
  have nfp : ∀ b u, H b = some u → b ∉ fp := fun b u e z => by have := (hf b z).1; rw [e] at this; cases this
  refine I.step (g' := s.gens) (d' := s.drawn) (ch := fp) (fun b hb => ?_) (fun b o _ _ hc e _ => k b o hc e) (fun b o _ _ hc e _ => ⟨o.slots, k b o hc e⟩) (fun _ _ _ _ n => n)
    (fun b o hc e => ⟨o, k b o hc e⟩) (fun _ _ e => e) (fun _ _ _ e => e) (fun b ps e => ⟨#[], by rw [e]; simp⟩) (fun m hm => ?_) (fun b u e => ?_) I.bare
  · obtain ⟨f0, f1, f2, f3, f4, f5⟩ := hf b hb
    exact ⟨f3, f1, f4, f5⟩
  · obtain ⟨o, es, ep, ho, r⟩ := hm
    exact ⟨o, es, ep, k _ o (fun z => (hf _ z).2.1 rfl) ho, r⟩
  · refine (I.hok b u e).stay (fun c v hc q => k c v ?_ q) (fun _ q => q) fun _ _ q => q
    rcases hc with z | z
    · rw [z]; exact nfp b u e
    · exact nfp c _ z
theorem Inv.turnedNew {X : Cx} {pins : List (Addr × Obj)} {σ : St} {H : Hp} {s : Shared} {h' : Heap} {t' : Nat} {fp : List Addr} {zs : List V} {us : List Value} {o' : Obj} (I : Inv X pins σ H s) (hf : ∀ b ∈ fp, FpOk X pins H b)
    (k : ∀ b o, b ∉ fp → s.heap.get? b = some o → h'.get? b = some o) (hlt : ∀ b ∈ fp, ∃ o, s.heap.get? b = some o) (hlv : ∀ b ∈ fp, ∃ o, h'.get? b = some o) (hT : h'.get? s.heap.objs.size = some o') (hoc : o'.cls = .type "tuple") (hod : ∃ n, o'.data = .seq us.toArray n)
    (r : Vals zs us) (hdn : o'.dict = none) (hz : zs.length ≤ sizeLine) : Inv X pins σ (upd H s.heap.objs.size (.tup zs)) { s with heap := h', toks := t' } := by
  have hTn : H s.heap.objs.size = none := I.hok.fresh (Nat.le_refl _)
  have nfp : ∀ b u, H b = some u → b ∉ fp := fun b u e z => by have := (hf b z).1; rw [e] at this; cases this
  refine I.step (g' := s.gens) (d' := s.drawn) (ch := fp) (fun b hb => ?_) (fun b o _ _ hc e _ => k b o hc e) (fun b o _ _ hc e _ => ⟨o.slots, k b o hc e⟩) (fun b o _ e n => by rw [upd_ne (Nat.ne_of_lt (Heap.lt_size e))]; exact n)
    (fun b o hc e => ⟨o, k b o hc e⟩) (fun b zs' e => by rw [upd_ne (ne_of_none e hTn)]; exact e) (fun b o u e => by rw [upd_ne (ne_of_none e hTn)]; exact e) (fun b ps e => ⟨#[], by rw [upd_ne (ne_of_none e hTn), e]; simp⟩) (fun m hm => ?_) (fun b u e => ?_) I.bare
  · obtain ⟨f0, f1, f2, f3, f4, f5⟩ := hf b hb
    exact ⟨f3, f1, f4, f5⟩
  · obtain ⟨o, es, ep, ho, r⟩ := hm
    exact ⟨o, es, ep, k _ o (fun z => (hf _ z).2.1 rfl) ho, r⟩
  · by_cases hb : b = s.heap.objs.size
    · subst hb
      rw [upd_same] at e
      cases e
      obtain ⟨n, hd⟩ := hod
      exact ⟨hz, us, r, ⟨o', hT, ⟨hoc, n, hd⟩, hdn⟩⟩
    · rw [upd_ne hb] at e
      refine (I.hok b u e).stay (fun c v hc q => k c v ?_ q) (fun c q => by rw [upd_ne (ne_of_none q hTn)]; exact q) fun c zs' q => by rw [upd_ne (ne_of_none q hTn)]; exact q
      rcases hc with z | z
      · rw [z]; exact nfp b u e
      · exact nfp c _ z
theorem turn_zip {P : Program} {w : World} {K : PySem.W.Frag} {elts : List Expr} {x1 : Nat} {tp : Pos} (b1 b2 : Bool) (l1 l2 z TI TO i1 i2 : Addr) (D : ZApart z TI TO i1 i2) :
    Turn P w K (.Tuple elts x1 tp) (Itz K b1 b2 l1 l2) [z, TI, TO, i1, i2] z (fun i h => IsZip h z TI TO .none ∧ IsPair h TI (.ref i1) (.ref i2) ∧ (∃ a b, IsPair h TO a b) ∧ SrcTn b1 i1 l1 i h ∧ SrcTn b2 i2 l2 i h) where
  mem := by simp
  obj := fun i h st b hb => by
    obtain ⟨hz, hTI, ⟨a, c, hTO⟩, h1, h2⟩ := st
    have hb' : b = z ∨ b = TI ∨ b = TO ∨ b = i1 ∨ b = i2 := by simpa using hb
    rcases hb' with e | e | e | e | e <;> subst e
    · exact ⟨_, hz, fun v q => nomatch q⟩
    · exact ⟨_, hTI, fun v q => nomatch q⟩
    · exact ⟨_, hTO, fun v q => nomatch q⟩
    · exact h1.lt
    · exact h2.lt
  keep := fun i h h' st k => by
    obtain ⟨hz, hTI, ⟨a, c, hTO⟩, h1, h2⟩ := st
    exact ⟨k z (by simp) _ hz, k TI (by simp) _ hTI, ⟨a, c, k TO (by simp) _ hTO⟩, h1.keep fun o e => k i1 (by simp) o e, h2.keep fun o e => k i2 (by simp) o e⟩
  item := by
    intro X hP hw hK hc i pins s σ H E I hf st hg
    subst hP hw hK
    obtain ⟨xs, ys, x, y, q1, q2, hx, hy⟩ := hg
    obtain ⟨hz, hTI, ⟨a, c, hTO⟩, h1, h2⟩ := st
    obtain ⟨its1, r1, s1, z1⟩ := I.src q1
    obtain ⟨its2, r2, s2, z2⟩ := I.src q2
    obtain ⟨u, hu, ru⟩ := r1.get hx
    obtain ⟨v, hv, rv⟩ := r2.get hy
    have O1 : Off z TO i1 i2 l1 := ⟨I.src_ne q1 (hf z (by simp)), I.src_ne q1 (hf TO (by simp)), I.src_ne q1 (hf i1 (by simp)), I.src_ne q1 (hf i2 (by simp))⟩
    have O2 : Off z TO i1 i2 l2 := ⟨I.src_ne q2 (hf z (by simp)), I.src_ne q2 (hf TO (by simp)), I.src_ne q2 (hf i1 (by simp)), I.src_ne q2 (hf i2 (by simp))⟩
    refine pyNext_zip_item D O1 O2 hz hTI hTO h1 h2 s1 s2 (x := u) (y := v) (by simpa using hu) (by simpa using hv) fun h' a1 a2 a3 a4 a5 a6 hk => ?_
    refine ⟨_, rfl, wpAny_letOwnedTupleGo_zip a1 fun h'' hz'' hs'' => ?_⟩
    have hzs : z ≠ s.heap.objs.size := Nat.ne_of_lt (Heap.lt_size hz)
    have kk : ∀ b o, b ∉ [z, TI, TO, i1, i2] → s.heap.get? b = some o → h''.get? b = some o := fun b o hb e =>
      hs''.extBut b o (fun q => hb (by simp [q])) (hk b o (fun q => hb (by simp [q])) (fun q => hb (by simp [q])) (fun q => hb (by simp [q])) (fun q => hb (by simp [q])) e)
    have hT : h''.get? s.heap.objs.size = some { cls := .type "tuple", data := .seq #[u, v] } := hs''.extBut _ _ hzs.symm a5
    have lv : ∀ b ∈ [z, TI, TO, i1, i2], ∃ o, s.heap.get? b = some o := fun b hb => by
      have hb' : b = z ∨ b = TI ∨ b = TO ∨ b = i1 ∨ b = i2 := by simpa using hb
      rcases hb' with e | e | e | e | e <;> subst e
      · exact ⟨_, hz⟩
      · exact ⟨_, hTI⟩
      · exact ⟨_, hTO⟩
      · obtain ⟨o, e, _⟩ := h1.lt; exact ⟨o, e⟩
      · obtain ⟨o, e, _⟩ := h2.lt; exact ⟨o, e⟩
    have n1 : SrcTn b1 i1 l1 (i + 1) h'' := a3.keep fun o e => hs''.extBut _ o D.i1z e
    have n2 : SrcTn b2 i2 l2 (i + 1) h'' := a4.keep fun o e => hs''.extBut _ o D.i2z e
    have nTI : IsPair h'' TI (.ref i1) (.ref i2) := hs''.extBut _ _ D.TIz (hk _ _ D.TIz D.TITO D.TIi1 D.TIi2 hTI)
    have nTO : IsPair h'' TO u v := hs''.extBut _ _ D.TOz a2
    have lv' : ∀ b ∈ [z, TI, TO, i1, i2], ∃ o, h''.get? b = some o := fun b hb => by
      have hb' : b = z ∨ b = TI ∨ b = TO ∨ b = i1 ∨ b = i2 := by simpa using hb
      rcases hb' with e | e | e | e | e <;> subst e
      · exact ⟨_, hz''⟩
      · exact ⟨_, nTI⟩
      · exact ⟨_, nTO⟩
      · obtain ⟨o, e, _⟩ := n1.lt; exact ⟨o, e⟩
      · obtain ⟨o, e, _⟩ := n2.lt; exact ⟨o, e⟩
    have hTn : H s.heap.objs.size = none := I.hok.fresh (Nat.le_refl _)
    refine ⟨.ref s.heap.objs.size, _, I.turnedNew (s := s) (h' := h'') (t' := s.toks) (zs := [x, y]) (us := [u, v]) hf kk lv lv' hT rfl ⟨_, rfl⟩ (.cons ru (.cons rv .nil)) rfl (by show 2 ≤ sizeLine; decide), rfl, ⟨_, x, y, hTn, rfl, rfl, fun zs hzs' => ?_, fun zs hzs' => ?_⟩, ⟨hz'', nTI, ⟨_, _, nTO⟩, n1, n2⟩, fun b hb => ?_⟩
    · rw [I.src_inj hzs' q1]; exact hx
    · rw [I.src_inj hzs' q2]; exact hy
    · obtain ⟨o, e⟩ := lv b hb
      rw [upd_ne (Nat.ne_of_lt (Heap.lt_size e))]
      exact (hf b hb).1
  done := by
    intro X hP hw hK hc i pins s σ H E I hf st hg
    subst hP hw hK
    obtain ⟨xs, ys, q1, q2, hx⟩ := hg
    obtain ⟨hz, hTI, ⟨a, c, hTO⟩, h1, h2⟩ := st
    obtain ⟨its1, r1, s1, z1⟩ := I.src q1
    obtain ⟨its2, r2, s2, z2⟩ := I.src q2
    have l1' := r1.length
    have l2' := r2.length
    have O1 : Off z TO i1 i2 l1 := ⟨I.src_ne q1 (hf z (by simp)), I.src_ne q1 (hf TO (by simp)), I.src_ne q1 (hf i1 (by simp)), I.src_ne q1 (hf i2 (by simp))⟩
    have O2 : Off z TO i1 i2 l2 := ⟨I.src_ne q2 (hf z (by simp)), I.src_ne q2 (hf TO (by simp)), I.src_ne q2 (hf i1 (by simp)), I.src_ne q2 (hf i2 (by simp))⟩
    refine pyNext_zip_end (I.ok.hd hc) D O1 O2 hz hTI hTO h1 h2 s1 s2 ?_ fun h' hk => ⟨rfl, I.turned4 (t' := s.toks) hf fun b o hb e => hk b o (fun q => hb (by simp [q])) (fun q => hb (by simp [q])) (fun q => hb (by simp [q])) (fun q => hb (by simp [q])) e⟩
    rcases hx with hx | hx
    · exact .inl (by simp; lia)
    · exact .inr (by simp; lia)
  self := fun _ _ _ _ _ st h => wpAny_pyIter_zip st.1 h
section
variable {X : Cx}

end
section
variable {prog : Program} {w : World} {A : Around} {E : Value → Shared → Prop} {s : Shared}
end
section
variable {X : Cx}

theorem call_isinst : CallR X (.builtin "isinstance") (fun xs H Q => ∃ x T t b, xs = [x, .ty T] ∧ TyOf X.K H x t ∧ PySem.W.kitOne X.K t (.type T) = some b ∧ Q (.bl b) H) := by
  intro pins s σ H xs us Q I r h
  obtain ⟨x, T, t, b, rfl, ty, e, q⟩ := h
  obtain ⟨u, c, rfl, rx, rc⟩ := r.two
  obtain rfl : c = Value.type T := rc
  exact isinst_ok I rx ty e fun tk => ⟨.bl b, H, I.tok tk, rfl, q⟩
theorem call_all (hc : X.calm = true) : CallR X (.builtin "all") (fun xs H Q => ∃ (l : Addr) (bs : List Bool), xs = [.ref l] ∧ SqL X.K H l (bs.map V.bl) ∧ Q (.bl (bs.all id)) H) := by
  intro pins s σ H xs us Q I r h
  obtain ⟨l, bs, rfl, hq, q⟩ := h
  obtain ⟨u, rfl, ru⟩ := r.one
  cases ru
  obtain ⟨its, rv, p, hz⟩ := I.list hq
  have hl := rv.length
  have hli : l < s.heap.objs.size := by obtain ⟨o, e, _⟩ := p.isList; exact Heap.lt_size e
  have hne : l ≠ s.heap.objs.size := Nat.ne_of_lt hli
  have val : ∀ (i : Nat) (v : Value), its.toArray[i]? = some v → ∃ c, bs[i]? = some c ∧ v = .bool c := fun i v hv => by
    have hv' : its[i]? = some v := by simpa using hv
    have hi : i < bs.length := by
      have := (List.getElem?_eq_some_iff.mp hv').1
      rw [List.length_map] at hl
      lia
    obtain ⟨w', h1, h2⟩ := rv.get (i := i) (x := .bl bs[i]) (by rw [List.getElem?_map, List.getElem?_eq_getElem hi]; rfl)
    rw [hv'] at h1
    cases h1
    exact ⟨bs[i], List.getElem?_eq_getElem hi, h2⟩
  have hsz : its.toArray.size = bs.length := by rw [List.size_toArray, ← hl, List.length_map]
  refine call_all_walk (wpAny_pyIter_list p.isList ⟨s.heap.objs.size, _, _, _, _, _, fun i => bs.getD i false, rfl, Walks.list (A := X.A.in1) (I.ok.hd hc) s.heap.objs.size l hne its.toArray, ⟨⟨_, Heap.get?_push_size _ rfl, rfl, rfl⟩, p.isList.push _⟩, fun i v s' Q' E' hv hq' => ?_, fun h' tk hk => ?_⟩)
  · obtain ⟨c, h1, rfl⟩ := val i v hv
    refine wpAny_truthy_bool ?_
    have eb : bs.getD i false = c := by rw [List.getD_eq_getElem?_getD, h1]; rfl
    have hq2 : Q' (bs.getD i false) s' := hq'
    rw [eb] at hq2
    exact hq2
  · have e : (List.range its.toArray.size).all (fun i => bs.getD i false) = bs.all id := by
      rw [hsz, Bool.eq_iff_iff, List.all_eq_true, List.all_eq_true]
      constructor
      · intro h b hb
        obtain ⟨i, hi, rfl⟩ := List.mem_iff_getElem.mp hb
        have := h i (List.mem_range.mpr hi)
        rwa [List.getD_eq_getElem?_getD, List.getElem?_eq_getElem hi] at this
      · intro h i hi
        have hi' := List.mem_range.mp hi
        rw [List.getD_eq_getElem?_getD, List.getElem?_eq_getElem hi']
        exact h _ (List.getElem_mem hi')
    rw [e]
    refine ⟨.bl (bs.all id), H, ?_, rfl, q⟩
    exact I.kept (t' := tk) fun b o hb => hk b o (by simp; exact Nat.ne_of_lt (Heap.lt_size hb)) (Heap.get?_push_of_some _ hb)
end
end L2

namespace L2
open PySem PySem.Spec PyProof.Rows
section
variable {prog : Program} {w : World} {A : Around} {E : Value → Shared → Prop} {s : Shared}


end
end L2
namespace L2
open PySem PySem.Spec PyProof.Rows
section
variable {prog : Program} {w : World} {A : Around} {E : Value → Shared → Prop} {s : Shared}

end


namespace F
end F
section
variable {prog : Program} {w : World} {K : Type} [DecidableEq K] {knd : KeyKind prog w K} {A : Around} {E : Value → Shared → Prop} {s : Shared}
end
end L2
namespace L2
open PySem PySem.Spec PyProof.Rows
theorem noFill_tuple_mul : fillsNumberSlot (.type "tuple") "mul" = pure false :=
  PySem.fillsNumberSlot_seq (id := "tuple.__mul__") (r := some (.builtin "tuple.__rmul__")) PySem.F.slot_tuple_mul.lookup (by decide +kernel) PySem.F.slot_tuple_rmul.lookup (by decide +kernel)
theorem repeat_tuple : seqRepeat? (.type "tuple") = pure (some (.builtin "tuple.__mul__")) := by
  unfold seqRepeat?
  rw [PySem.seqSlot_of (T := "tuple") (name := "__mul__") (id := "tuple.__mul__") PySem.F.slot_tuple_mul.lookup (by decide +kernel), PySem.seqSlot_of (T := "tuple") (name := "__rmul__") (id := "tuple.__rmul__") PySem.F.slot_tuple_rmul.lookup (by decide +kernel)]
  rfl
theorem int_rmul_tuple (a : Int) (t : Tok) (l : Addr) (items : Array Value) (n : Nat) (dd : Option Addr) (sl : Array (Option Value)) :
    Meets (Builtin.«int.__rmul__» ⟨[.int a t, .ref l], []⟩) (fun _ R s => s.heap.get? l = some { cls := .type "tuple", dict := dd, data := .seq items n, slots := sl } ∧ R (.ok (.ret Value.notImplemented)) s) :=
  .of_wp fun prog w A R s h => by obtain ⟨hp, g, d, tk, os⟩ := s; obtain ⟨hl, h⟩ := h; wp_walk; exact ⟨_, rfl, h⟩
theorem tuple_mul_many (l : Addr) (items : Array Value) (n : Nat) (dd : Option Addr) (sl : Array (Option Value)) (x : Int) (u : Tok) (hx : 1 < x) (hx2 : x ≤ 1000) (hi : items.size ≤ 1000) (h0 : items.isEmpty = false) :
    Meets (Builtin.«tuple.__mul__» ⟨[.ref l, .int x u], []⟩) (fun _ R s => s.heap.get? l = some { cls := .type "tuple", dict := dd, data := .seq items n, slots := sl } ∧
      R (.ok (.ret (.ref s.heap.objs.size))) { s with heap := s.heap.push { cls := .type "tuple", data := .seq ((List.replicate x.toNat items).foldl (· ++ ·) #[]) } }) :=
  .of_wp fun prog w A R s h => by
    obtain ⟨hp, g, d, tk, os⟩ := s; obtain ⟨hl, h⟩ := h
    have f1 := AutoSeq1.idx_int; have f2 := AutoSeq1.sub_tuple_tuple
    have g1 : (decide (x < -(2 ^ 63)) || decide (x ≥ 2 ^ 63)) = false := by simp; lia
    have g2 : (items.isEmpty || x == 1) = false := by rw [h0]; simp; lia
    have g3 : (decide (x ≤ 0) || items.isEmpty) = false := by rw [h0]; simp; lia
    have hm : (items.size : Int) * x ≤ 1000000 := by
      have a1 : (items.size : Int) * x ≤ 1000 * x := Int.mul_le_mul_of_nonneg_right (by lia) (by lia)
      lia
    have hm2 : ¬ ((items.size : Int) * x > (2 ^ 63 - 1) / 8) := by lia
    have hm3 : Builtin.Tuple.tupleTooMany ((items.size : Int) * x) = false := by
      unfold Builtin.Tuple.tupleTooMany
      have : (1000000 : Int) ≤ (sizeLine : Int) := by decide
      exact decide_eq_false (by lia)
    wp_walk using wpAny_loadPart' hl
    try simp only [g1, Bool.false_eq_true, if_false]
    wp_walk using wpAny_loadPart' hl
    try simp only [g2, Bool.false_eq_true, if_false]
    wp_walk using wpAny_loadPart' hl
    try simp only [g3, Bool.false_eq_true, if_false]
    wp_walk using wpAny_loadPart' hl
    rw [if_neg hm2]
    simp only [hm3, Bool.false_eq_true, if_false]
    unfold Builtin.Tuple.tupleExact
    have hlen : ((List.replicate x.toNat items).foldl (· ++ ·) #[]).toList.length ≤ sizeLine := by
      have e : ∀ (k : Nat) (acc : Array Value), ((List.replicate k items).foldl (· ++ ·) acc).size = acc.size + k * items.size := by
        intro k
        induction k with
        | zero => intro acc; simp
        | succ k ih => intro acc; rw [List.replicate_succ, List.foldl_cons, ih, Array.size_append, Nat.succ_mul]; lia
      rw [Array.length_toList, e]
      have : x.toNat * items.size ≤ 1000 * 1000 := Nat.mul_le_mul (by lia) hi
      have h2 : (1000 * 1000 : Nat) ≤ sizeLine := by decide
      simp only [List.size_toArray, List.length_nil] at *
      lia
    refine wpAny_bind (wpAny_newTuple (wpAny_pure ⟨_, rfl, ?_⟩) hlen)
    simpa using h
theorem tuple_mul_one (l : Addr) (items : Array Value) (n : Nat) (dd : Option Addr) (sl : Array (Option Value)) (u : Tok) :
    Meets (Builtin.«tuple.__mul__» ⟨[.ref l, .int 1 u], []⟩) (fun _ R s => s.heap.get? l = some { cls := .type "tuple", dict := dd, data := .seq items n, slots := sl } ∧ R (.ok (.ret (.ref l))) s) :=
  .of_wp fun prog w A R s h => by
    obtain ⟨hp, g, d, tk, os⟩ := s; obtain ⟨hl, h⟩ := h
    have f1 := AutoSeq1.idx_int; have f2 := AutoSeq1.sub_tuple_tuple
    have g1 : (decide ((1 : Int) < -(2 ^ 63)) || decide ((1 : Int) ≥ 2 ^ 63)) = false := by decide
    have g2 : (items.isEmpty || (1 : Int) == 1) = true := by simp
    wp_walk using wpAny_loadPart' hl
    try simp only [g1, Bool.false_eq_true, if_false]
    wp_walk using wpAny_loadPart' hl
    try simp only [g2, if_true]
    wp_walk using wpAny_loadPart' hl
    all_goals first | exact ⟨_, rfl, h⟩ | skip
theorem tuple_mul_none (l : Addr) (items : Array Value) (n : Nat) (dd : Option Addr) (sl : Array (Option Value)) (x : Int) (u : Tok) (hx : x ≤ 0) (hx2 : -1000 ≤ x) (h0 : items.isEmpty = false) :
    Meets (Builtin.«tuple.__mul__» ⟨[.ref l, .int x u], []⟩) (fun _ R s => s.heap.get? l = some { cls := .type "tuple", dict := dd, data := .seq items n, slots := sl } ∧
      R (.ok (.ret (.ref s.heap.objs.size))) { s with heap := s.heap.push { cls := .type "tuple", data := .seq #[] } }) :=
  .of_wp fun prog w A R s h => by
    obtain ⟨hp, g, d, tk, os⟩ := s; obtain ⟨hl, h⟩ := h
    have f1 := AutoSeq1.idx_int; have f2 := AutoSeq1.sub_tuple_tuple
    have g1 : (decide (x < -(2 ^ 63)) || decide (x ≥ 2 ^ 63)) = false := by simp; lia
    have g2 : (items.isEmpty || x == 1) = false := by rw [h0]; simp; lia
    have g3 : (decide (x ≤ 0) || items.isEmpty) = true := by simp [hx]
    wp_walk using wpAny_loadPart' hl
    try simp only [g1, Bool.false_eq_true, if_false]
    wp_walk using wpAny_loadPart' hl
    try simp only [g2, Bool.false_eq_true, if_false]
    wp_walk using wpAny_loadPart' hl
    try simp only [g3, if_true]
    all_goals exact ⟨_, rfl, h⟩
section
variable {prog : Program} {w : World} {A : Around} {E : Value → Shared → Prop} {s : Shared}
theorem mul_tuple {l : Addr} {its : List Value} {k : Int} {u : Tok} {Q : Value → Shared → Prop} (ht : s.heap.IsTuple l its.toArray) (h0 : its ≠ []) (hk0 : 0 ≤ k) (hk : k ≤ 1000) (hi : its.length ≤ 1000)
    (h1 : k = 1 → Q (.ref l) s) (h2 : k ≠ 1 → Q (.ref s.heap.objs.size) { s with heap := s.heap.push { cls := .type "tuple", data := .seq (List.replicate k.toNat its).flatten.toArray } }) :
    wpAny (model prog w) A (binaryOp .Mult (.ref l) (.int k u)) Q E s := by
  obtain ⟨⟨cls, dd, data, sl⟩, e, hc, n, hd⟩ := ht
  simp only at hc hd
  subst hc hd
  have he : its.toArray.isEmpty = false := by cases its with | nil => exact absurd rfl h0 | cons a r => rfl
  refine wpAny_binaryOp_repeat_ref (T := "tuple") (U := "int") (by decide) ⟨_, e, rfl⟩ (fun s' => typeIs_int s' k u) noFill_tuple_mul PySem.F.fills_int_mul PySem.F.slot_int_rmul repeat_tuple PySem.F.slot_int_index.lookup
    (call_meets PySem.F.slot_int_rmul (typeIs_int s k u) PySem.F.entry_int_rmul (PySem.F.args_int_rmul_2 _ _) (int_rmul_tuple k u l its.toArray n dd sl) ⟨e, rfl, ⟨_, e, rfl⟩, ?_⟩)
  by_cases hk1 : k = 1
  · subst hk1
    exact call_meets PySem.F.slot_tuple_mul ⟨_, e, rfl⟩ PySem.F.entry_tuple_mul (PySem.F.args_tuple_mul_2 _ _) (tuple_mul_one l its.toArray n dd sl u) ⟨e, h1 rfl⟩
  · have h2' := h2 hk1
    by_cases hk2 : k ≤ 0
    · refine call_meets PySem.F.slot_tuple_mul ⟨_, e, rfl⟩ PySem.F.entry_tuple_mul (PySem.F.args_tuple_mul_2 _ _) (tuple_mul_none l its.toArray n dd sl k u hk2 (by lia) he) ⟨e, ?_⟩
      have ek : k.toNat = 0 := by lia
      rw [ek] at h2'
      exact h2'
    · refine call_meets PySem.F.slot_tuple_mul ⟨_, e, rfl⟩ PySem.F.entry_tuple_mul (PySem.F.args_tuple_mul_2 _ _) (tuple_mul_many l its.toArray n dd sl k u (by lia) hk (by rw [List.size_toArray]; exact hi) he) ⟨e, ?_⟩
      have ef : ∀ (m : Nat) (acc : List Value), List.foldl (fun x1 x2 => x1 ++ x2) acc.toArray (List.replicate m its.toArray) = (acc ++ (List.replicate m its).flatten).toArray := by
        intro m
        induction m with
        | zero => intro acc; simp
        | succ m ih =>
          intro acc
          have e1 : acc.toArray ++ its.toArray = (acc ++ its).toArray := by simp
          rw [List.replicate_succ, List.foldl_cons, e1, ih, List.replicate_succ, List.flatten_cons, List.append_assoc]
      have e0 := ef k.toNat []
      rw [List.nil_append] at e0
      rw [e0]
      exact h2'
end
end L2

namespace L2
open PySem PySem.Spec PyProof.Rows
section
variable {X : Cx}
theorem op_catT0 : OpR X (binaryOp .Add) (fun x y H Q => ∃ a b ys, x = .ref a ∧ y = .ref b ∧ SqT X.K H a [] ∧ SqT X.K H b ys ∧ Q (.ref b) H) := by
  intro pins s σ H x y v u Q I rx ry h
  obtain ⟨a, b, ys, rfl, rfl, ha, hb, q⟩ := h
  cases rx
  cases ry
  obtain ⟨its, r1, p1, _⟩ := I.tuple ha
  obtain ⟨its2, r2, p2, _⟩ := I.tuple hb
  obtain rfl : its = [] := r1.zero
  obtain ⟨⟨cls, dd, data, sl⟩, ho, hc, n, hd⟩ := id p1
  obtain ⟨⟨cls2, dd2, data2, sl2⟩, ho2, hc2, n2, hd2⟩ := id p2
  simp only at hc hd hc2 hd2
  subst hc hd hc2 hd2
  exact concat_meets ⟨_, ho, rfl⟩ ⟨_, ho2, rfl⟩ noFill_tuple_add seq_tuple_add PySem.F.slot_tuple_add PySem.F.entry_tuple_add (PySem.F.args_tuple_add_2 _ _)
    (tuple_addW0 a b #[] its2.toArray n n2 dd dd2 sl sl2 rfl) ⟨ho, ho2, ⟨.ref b, H, I, rfl, q⟩⟩
theorem op_fdivB {n : Nat} (hn : n.log2 < 2000) (hn0 : 0 < n) : OpR X (binaryOp .FloorDiv) (rI (fun _ j => j = (n : Int)) fun i j => .int (i / j)) := opI fun i j _ _ _ _ _ hc q => by
  subst hc
  refine floordiv_int (by lia) ?_ (.inl (PyProof.noPylong_of_log2 (by simpa using Nat.lt_trans hn (by decide))))
  rw [Int.fdiv_eq_ediv_of_nonneg _ (by lia)]
  exact q

end
end L2

namespace Tw
open PySem L2





end Tw

namespace L2
open PySem PySem.Spec PyProof.Rows
section
variable {X : Cx}
end
end L2

namespace L2
open PySem PySem.Spec PyProof.Rows
theorem funFrames_hide {h base : Heap} {S : List Addr} : ∀ {l : List Env}, h.FunFrames base l → (∀ b ∈ frs l, b ∈ S) → h.FunFrames (PySem.W.hideAll h S) l
  | [], _, _ => trivial
  | env :: r, hl, hs => by
    obtain ⟨hk, ⟨L, o, hf, hn, ho, hd⟩, hr⟩ := hl
    have hL : L ∈ S := hs L (by unfold frs; rw [List.filterMap_cons, hf]; exact List.mem_cons_self)
    exact ⟨hk, ⟨L, o, hf, PySem.W.hideAll_none S hL, ho, hd⟩, funFrames_hide hr fun b hb => hs b (by unfold frs; rw [List.filterMap_cons, hf]; exact List.mem_cons_of_mem _ hb)⟩
noncomputable def CXD (P : Program) (w : World) (C : Addr) : CXT := fun outer H s E e s' => ∃ (ea : Addr) (H' : Hp) (B : Heap) (a0 : Value), e = .ref ea ∧ s'.os = s.os ∧ AllBare s'.gens ∧ Un (frs outer) [] H H' s.heap s'.heap ∧ HOk P w H' s'.heap ∧
  Heap.FlyingW B outer ea (.ref C) a0 s'.heap ∧ (∀ b u, H' b = some u → ∃ o, B.get? b = some o) ∧ (∀ b o, s.heap.get? b = some o → b ∉ frs outer → ∃ o', B.get? b = some o') ∧ E (.ref C) none H'
theorem hok_fly {P : Program} {w : World} {H : Hp} {h h' B : Heap} (hok : HOk P w H h) (k : B.StaysIn h) (k' : B.StaysIn h') (sT : ∀ b u, H b = some u → ∃ o, B.get? b = some o) : HOk P w H h' := fun a o e =>
  (hok a o e).stay (fun b u hb q => by
    obtain ⟨v, hv⟩ : ∃ v, B.get? b = some v := by
      rcases hb with rfl | z
      · exact sT _ _ e
      · exact sT _ _ z
    have := k b v hv
    rw [q] at this
    cases this
    exact k' b _ hv) (fun _ q => q) fun _ _ q => q
theorem un_fly {fs : List Addr} {H H' : Hp} {h h1 h2 B : Heap} (un : Un fs [] H H' h h1) (k1 : B.StaysIn h1) (k2 : B.StaysIn h2) (up : h1.UpToSlots h2) (sA : ∀ b o, h.get? b = some o → b ∉ fs → ∃ o', B.get? b = some o')
    (nf : ∀ b ∈ fs, ∀ o, h.get? b = some o → ∀ vs, o.data ≠ .fields vs) (fr : ∀ b ∈ fs, H b = none) : Un fs [] H H' h h2 where
  keep := fun b o q n hb hx => by
    have q1 := un.keep b o q n hb hx
    obtain ⟨o', ho'⟩ := sA b o q hb
    have := k1 b o' ho'
    rw [q1] at this
    cases this
    exact k2 b _ ho'
  slot := fun b o q n hb hx => by
    obtain ⟨sl, q1⟩ := un.slot b o q n hb hx
    obtain ⟨sl2, q2⟩ := up b _ q1 (nf b hb o q)
    exact ⟨sl2, q2⟩
  free := un.free
  there := fun b o q hx => by
    by_cases hb : b ∈ fs
    · obtain ⟨sl, q1⟩ := un.slot b o q (fr b hb) hb hx
      obtain ⟨sl2, q2⟩ := up b _ q1 (nf b hb o q)
      exact ⟨_, q2⟩
    · obtain ⟨o', ho'⟩ := sA b o q hb
      exact ⟨o', k2 b o' ho'⟩
  tups := un.tups
  frzs := un.frzs
  tbls := un.tbls
section
variable {P : Program} {w : World} {K : PySem.W.Frag} {mg : Str → Option Value} {base : Heap} {N : List Str} {qual : Str} {scope : Scope} {f C : Addr} {cd : Value} {A : Around} {outer : List Env} {s0 : Shared} {H0 : Hp} {E : XK}
theorem frs_cons {env : Env} {L : Addr} {l : List Env} (h : env.frame = some L) : frs (env :: l) = L :: frs l := by unfold frs; rw [List.filterMap_cons, h]
theorem passD : Passes (CXD P w C) (cxOf (CXD P w C) P w K mg base N qual scope f cd A outer s0 H0 E) E := by
  intro pins σ H s e s' I hx
  obtain ⟨ea, H', B, a0, rfl, hos, hb, un, hok, hfl, sT, sA, hE⟩ := hx
  have hsk : (cxOf (CXD P w C) P w K mg base N qual scope f cd A outer s0 H0 E).stack = envOfC qual scope s0.heap.objs.size f cd :: outer := rfl
  have hfr : (envOfC qual scope s0.heap.objs.size f cd).frame = some s0.heap.objs.size := rfl
  have hfs : frs (envOfC qual scope s0.heap.objs.size f cd :: outer) = s0.heap.objs.size :: frs outer := frs_cons hfr
  rw [hsk] at un hfl sA
  show wpAny (model P w) (A.deeper (envOfC qual scope s0.heap.objs.size f cd)) (leaving (envOfC qual scope s0.heap.objs.size f cd) (.ref ea)) (fun _ s'' => CXD P w C outer H0 s0 E (.ref ea) s'') (fun e' s'' => CXD P w C outer H0 s0 E e' s'') s'
  refine wpAny_leaves_onW I.ok.frames hfr hfl fun h' hfl' hup => ?_
  have u1 : Un (frs outer) [] H0 H s0.heap s.heap := I.base
  have nofr : ∀ {b : Addr} {o : Obj}, s0.heap.get? b = some o → b ∉ frs outer → b ∉ frs (envOfC qual scope s0.heap.objs.size f cd :: outer) := fun {b o} q hb z => by
    rw [hfs] at z
    rcases List.mem_cons.mp z with e | z
    · exact Nat.lt_irrefl _ (e ▸ Heap.lt_size q)
    · exact hb z
  have un2 : Un (frs (envOfC qual scope s0.heap.objs.size f cd :: outer)) [] H H' s.heap h' := by
    refine un_fly un hfl.1 hfl'.1 hup sA (fun b hb o q vs => ?_) fun b hb => ?_
    · obtain ⟨_, o', ho', hd⟩ := I.stack.mem (show b ∈ _ from hb)
      rw [q] at ho'
      cases ho'
      exact hd vs
    · exact I.stkFree b hb
  refine ⟨ea, H', B, a0, rfl, hos.trans I.os, hb, ?_, hok_fly hok hfl.1 hfl'.1 sT, hfl', sT, fun b o q hb => ?_, hE⟩
  · refine ⟨fun b o q n hb hx => ?_, fun b o q n hb hx => ?_, fun b o q n hx => ?_, fun b o q hx => ?_, fun b xs q => un2.tups b xs (u1.tups b xs q), fun b o u q => un2.frzs b o u (u1.frzs b o u q), fun b ps q => ?_⟩
    · exact un2.keep b o (u1.keep b o q n hb hx) (u1.free b o q n hx) (nofr q hb) hx
    · obtain ⟨sl, q1⟩ := u1.slot b o q n hb hx
      obtain ⟨sl2, q2⟩ := un2.slot b _ q1 (u1.free b o q n hx) (by rw [hfs]; exact List.mem_cons_of_mem _ hb) hx
      exact ⟨sl2, q2⟩
    · obtain ⟨o1, q1⟩ := u1.there b o q hx
      exact un2.free b o1 q1 (u1.free b o q n hx) hx
    · obtain ⟨o1, q1⟩ := u1.there b o q hx
      exact un2.there b o1 q1 hx
    · obtain ⟨m1, e1⟩ := u1.tbls b ps q
      obtain ⟨m2, e2⟩ := un2.tbls b _ e1
      exact ⟨m1 ++ m2, by rw [e2, Array.append_assoc]⟩
  · obtain ⟨o1, q1⟩ := u1.there b o q (by simp)
    exact sA b o1 q1 (nofr q hb)
structure ExcAt (K : PySem.W.Frag) (C : Addr) : Prop where
  at_ : ∃ (nm q : Str) (Nn : Addr) (bs bm bmB : List Value) (hdct : Bool) (sn : List Str) (sub : List Value) (ab : Bool) (col : Option Bool) (dd : Option Addr) (k0 k1 k2 k3 k5 : Option Value) (newId initId Bs : String) (mN : Str → Option Value),
    (∀ h : Heap, K.In h → h.get? C = some (excClassObj nm q C Nn bs bm hdct sn sub ab col dd k0 k1 k2 k3 k5 newId) ∧ h.Ns Nn mN ∧ OwnTail h bmB bm) ∧ mN "__init__" = none ∧ ExcBaseFacts Bs newId initId bmB ∧ bmB.contains (.type Bs) = true ∧ bm.contains (.type "BaseException") = true
theorem ObjOk.obj {P : Program} {w : World} {H : Hp} {h : Heap} {a : Addr} {o : HO} (x : ObjOk P w H h a o) : ∃ v, h.get? a = some v := by
  cases o with
  | lst xs => obtain ⟨_, _, _, _, e⟩ := x; exact ⟨_, e⟩
  | tup xs => obtain ⟨_, _, _, _, e, _⟩ := x; exact ⟨_, e⟩
  | dK kvs => obtain ⟨_, _, _, _, o, _, _, e, _⟩ := x; exact ⟨_, e⟩
  | dT kvs => obtain ⟨_, _, _, _, o, _, _, e, _⟩ := x; exact ⟨_, e⟩
  | set S n => obtain ⟨o, _, _, _, e, _⟩ := x; exact ⟨_, e⟩
  | ins C dx fs => obtain ⟨_, _, _, e, _⟩ := x; exact ⟨_, e⟩
  | own y => obtain ⟨_, e⟩ := x; exact ⟨_, e⟩
  | xd fs => obtain ⟨_, ⟨_, _, _, e, _⟩, _⟩ := x; exact ⟨_, e⟩
  | rng lo hi => obtain ⟨_, _, _, e⟩ := x; exact ⟨_, e⟩
  | frz ob u => obtain ⟨e, _⟩ := x; exact ⟨_, e⟩
  | tbl ps => exact ⟨_, (show h.get? a = some _ from x)⟩
  | met f y => exact ⟨_, (show h.get? a = some _ from x)⟩
  | ext φ => obtain ⟨_, ⟨_, e⟩, _⟩ := x; exact ⟨_, e⟩
theorem un_comp {fs : List Addr} {L : Addr} {H0 H H' : Hp} {h0 h h' : Heap} (u1 : Un fs [] H0 H h0 h) (un2 : Un (L :: fs) [] H H' h h') (hL : h0.objs.size ≤ L) : Un fs [] H0 H' h0 h' := by
  have nofr : ∀ {b : Addr} {o : Obj}, h0.get? b = some o → b ∉ fs → b ∉ L :: fs := fun {b o} q hb z => by
    rcases List.mem_cons.mp z with e | z
    · exact Nat.lt_irrefl _ (Nat.lt_of_lt_of_le (e ▸ Heap.lt_size q) hL)
    · exact hb z
  refine ⟨fun b o q n hb hx => un2.keep b o (u1.keep b o q n hb hx) (u1.free b o q n hx) (nofr q hb) hx, fun b o q n hb hx => ?_, fun b o q n hx => ?_, fun b o q hx => ?_, fun b xs q => un2.tups b xs (u1.tups b xs q), fun b o u q => un2.frzs b o u (u1.frzs b o u q), fun b ps q => ?_⟩
  · obtain ⟨sl, q1⟩ := u1.slot b o q n hb hx
    obtain ⟨sl2, q2⟩ := un2.slot b _ q1 (u1.free b o q n hx) (List.mem_cons_of_mem _ hb) hx
    exact ⟨sl2, q2⟩
  · obtain ⟨o1, q1⟩ := u1.there b o q hx
    exact un2.free b o1 q1 (u1.free b o q n hx) hx
  · obtain ⟨o1, q1⟩ := u1.there b o q hx
    exact un2.there b o1 q1 hx
  · obtain ⟨m1, e1⟩ := u1.tbls b ps q
    obtain ⟨m2, e2⟩ := un2.tbls b _ e1
    exact ⟨m1 ++ m2, by rw [e2, Array.append_assoc]⟩
noncomputable def tRaise (E : XK) (C : Addr) : TS := fun _ _ H => E (.ref C) none H
theorem ps_raise {x msg : Str} {np cpos pos apos : Pos} {jj} (X : ExcAt K C) (hm : mg x = some (.ref C)) (hg : Gl (cxOf (CXD P w C) P w K mg base N qual scope f cd A outer s0 H0 E) x)
    (hd : (x == ("__debug__" : Str)) = false := by decide)
    (hs : starEach [.Constant (.str msg) jj apos] (cxOf (CXD P w C) P w K mg base N qual scope f cd A outer s0 H0 E).env = [(false, eval (.Constant (.str msg) jj apos) (cxOf (CXD P w C) P w K mg base N qual scope f cd A outer s0 H0 E).env)] := by rfl) :
    PS (cxOf (CXD P w C) P w K mg base N qual scope f cd A outer s0 H0 E) (.Raise (some (.Call (.Name x np) [.Constant (.str msg) jj apos] [] cpos)) none pos) (tRaise E C) := by
  intro pins s σ H D I h
  obtain ⟨nm, q, Nn, bs, bm, bmB, hdct, sn, sub, ab, col, dd, k0, k1, k2, k3, k5, newId, initId, Bs, mN, hX, hni, FB, hBs, hbase⟩ := X.at_
  refine wpAny_Raise_call_subU (C := C) (nm := nm) (q := q) (N := Nn) (bs := bs) (bm := bm) (hdct := hdct) (sn := sn) (sub := sub) (ab := ab) (col := col) (dd := dd) (k0 := k0) (k1 := k1) (k2 := k2) (k3 := k3) (k5 := k5) FB hBs FB (mN := mN) hbase (I.ok.hd rfl) (by rw [hs]; rfl) hni
    (ld_glob I hg hm ⟨rfl, ?_⟩ hd)
  have hA := (pa_cons pe_str pa_nil hs) cpos pins s σ H (fun xs H1 => xs.length = 1 ∧ E (.ref C) none H1) I ⟨rfl, h⟩
  rw [hs] at hA ⊢
  refine Calls.evalArgs_plain (wpAny_mono hA (fun vs s₂ h₂ => ?_) fun _ _ y => y)
  obtain ⟨vv, H1, I1, r, hlen, hE⟩ := h₂
  obtain ⟨hC, hN, T⟩ := hX s₂.heap I1.kIn
  refine ⟨rfl, ?_, hC, hN, T, fun h' e hx => ?_⟩
  · show vs.length ≤ sizeLine
    rw [← r.length, hlen]
    decide
  have hfr : (envOfC qual scope s0.heap.objs.size f cd).frame = some s0.heap.objs.size := rfl
  have hfs : frs (envOfC qual scope s0.heap.objs.size f cd :: outer) = s0.heap.objs.size :: frs outer := frs_cons hfr
  have kB : (PySem.W.hideAll s₂.heap (frs (envOfC qual scope s0.heap.objs.size f cd :: outer))).StaysIn s₂.heap := fun b o e => PySem.W.of_hideAll _ e
  show wpAny (model P w) (A.deeper (envOfC qual scope s0.heap.objs.size f cd)) (leaving (envOfC qual scope s0.heap.objs.size f cd) (.ref e)) (fun _ s'' => CXD P w C outer H0 s0 E (.ref e) s'') (fun e' s'' => CXD P w C outer H0 s0 E e' s'') _
  refine wpAny_leaves_madeW I1.ok.frames hfr kB (funFrames_hide I1.stack fun b hb => hb) hx fun h'' t hfl _ _ hup => ?_
  have up2 : s₂.heap.UpToSlots h'' := (Heap.UpToSlots.of_keeps hx.keeps).trans hup
  have inB : ∀ {b : Addr} {o : Obj}, s₂.heap.get? b = some o → b ∉ frs (envOfC qual scope s0.heap.objs.size f cd :: outer) → (PySem.W.hideAll s₂.heap (frs (envOfC qual scope s0.heap.objs.size f cd :: outer))).get? b = some o := fun e n => PySem.W.hideAll_get _ e n
  have sT : ∀ b u, H1 b = some u → ∃ o, (PySem.W.hideAll s₂.heap (frs (envOfC qual scope s0.heap.objs.size f cd :: outer))).get? b = some o := fun b u e => by
    obtain ⟨v, hv⟩ := ObjOk.obj (I1.hok b u e)
    exact ⟨v, inB hv fun z => by rw [I1.stkFree b z] at e; cases e⟩
  have un2 : Un (frs (envOfC qual scope s0.heap.objs.size f cd :: outer)) [] H1 H1 s₂.heap h'' := by
    refine un_fly Un.refl kB hfl.1 up2 (fun b o q hb => ⟨o, inB q hb⟩) (fun b hb o q vs => ?_) fun b hb => I1.stkFree b hb
    obtain ⟨_, o', ho', hd'⟩ := I1.stack.mem (show b ∈ _ from hb)
    rw [q] at ho'
    cases ho'
    exact hd' vs
  rw [hfs] at un2
  refine ⟨e, H1, _, .ref t, rfl, I1.os, I1.bare, un_comp I1.base un2 (Nat.le_refl _), hok_fly I1.hok kB hfl.1 sT, hfl, sT, fun b o q hb => ?_, hE⟩
  obtain ⟨o1, q1⟩ := I1.base.there b o q (fun z => absurd (show b ∈ ([] : List Addr) from z) (by simp))
  refine ⟨o1, inB q1 fun z => ?_⟩
  rw [hfs] at z
  rcases List.mem_cons.mp z with e' | z
  · exact Nat.lt_irrefl _ (e' ▸ Heap.lt_size q)
  · exact hb z
end
noncomputable abbrev Cx.marked (X : Cx) (e : Value) : Cx := { X with A := X.A.mark (some e), calm := false, xe := fun _ _ => False }
section
variable {X : Cx} {pins : List (Addr × Obj)} {σ : St} {H : Hp} {s : Shared} {e : Value}
theorem Cx.Ok.mark (ok : X.Ok) (e : Value) : (X.marked e).Ok :=
  ⟨ok.mod, ok.kind, ok.glob, ok.blt, ok.above, ok.inj, ok.has, ok.cab, fun z => (Bool.noConfusion z), ok.frames, ok.stk, ok.exf, ok.bs, ok.bsz, ok.noex, ok.exfs, ok.funs, ok.frf⟩
theorem Inv.mark (I : Inv X pins σ H s) (e : Value) : Inv (X.marked e) pins σ H s := ⟨I.ok.mark e, I.os, I.bare, I.base, I.loc, I.cell, I.free, I.freeC, I.pin, I.hok, I.len⟩
theorem Inv.unmark (ok : X.Ok) (I : Inv (X.marked e) pins σ H s) : Inv X pins σ H s := ⟨ok, I.os, I.bare, I.base, I.loc, I.cell, I.free, I.freeC, I.pin, I.hok, I.len⟩
end
end L2

namespace L3
open PySem L2
inductive D where
  | non | bl (b : Bool) | int (i : Int) | str (x : Str) | ty (n : String) | ref (a : Addr) | tup (xs : List D) | lst (xs : List D) | mt (xs : List D) | ml (xs : List D)
noncomputable def TpD (_ : PySem.W.Frag) (H : Hp) (p : Addr) (vs : List V) : Prop := H p = some (.tup vs)
noncomputable def TpM (K : PySem.W.Frag) (p : Addr) (vs : List V) : Prop := ∃ (o : Obj) (its : Array Value) (n : Nat), K.lookup p = some o ∧ o.cls = .type "tuple" ∧ o.data = .seq its n ∧ its.size ≤ sizeLine ∧ Vals vs its.toList
noncomputable def FzD (K : PySem.W.Frag) (H : Hp) (p : Addr) (vs : List V) : Prop :=
  ∃ o, H p = some (.frz o (.lst vs))
noncomputable def FzK (K : PySem.W.Frag) (H : Hp) (p : Addr) (vs : List V) : Prop := (∃ o, H p = some (.frz o (.lst vs))) ∨ ∃ (o : Obj) (its : Array Value) (n : Nat), K.lookup p = some o ∧ o.cls = .type "list" ∧ o.dict = none ∧ o.data = .seq its n ∧ its.size ≤ sizeLine ∧ Vals vs its.toList
theorem FzK.sq {K : PySem.W.Frag} {H : Hp} {p : Addr} {vs : List V} (h : FzK K H p vs) : SqL K H p vs := h.imp (fun ⟨o, e⟩ => .inr ⟨o, e⟩) fun x => x
theorem TpD.sq {K : PySem.W.Frag} {H : Hp} {p : Addr} {vs : List V} (h : TpD K H p vs) : SqT K H p vs := .inl (.inl h)
theorem TpM.sq {K : PySem.W.Frag} {H : Hp} {p : Addr} {vs : List V} (h : TpM K p vs) : SqT K H p vs := .inr h
theorem FzD.sq {K : PySem.W.Frag} {H : Hp} {p : Addr} {vs : List V} (h : FzD K H p vs) : SqL K H p vs := by
  obtain ⟨o, h⟩ := h
  exact .inl (.inr ⟨o, h⟩)
mutual
noncomputable def Rp (K : PySem.W.Frag) (H : Hp) : D → V → Prop
  | .non, v => v = .non
  | .bl b, v => v = .bl b
  | .int i, v => v = .int i
  | .str x, v => v = .str x
  | .ty n, v => v = .ty n
  | .ref a, v => v = .ref a
  | .tup xs, v => ∃ p vs, v = .ref p ∧ TpD K H p vs ∧ Rps K H xs vs
  | .lst xs, v => ∃ p vs, v = .ref p ∧ FzD K H p vs ∧ Rps K H xs vs
  | .mt xs, v => ∃ p vs, v = .ref p ∧ TpM K p vs ∧ Rps K H xs vs
  | .ml xs, v => ∃ p vs, v = .ref p ∧ FzK K H p vs ∧ Rps K H xs vs
noncomputable def Rps (K : PySem.W.Frag) (H : Hp) : List D → List V → Prop
  | [], vs => vs = []
  | x :: xs, vs => ∃ v r, vs = v :: r ∧ Rp K H x v ∧ Rps K H xs r
end
structure Imm (H H' : Hp) : Prop where
  tup : ∀ p vs, H p = some (.tup vs) → H' p = some (.tup vs)
  frz : ∀ p o u, H p = some (.frz o u) → H' p = some (.frz o u)
theorem Imm.refl {H : Hp} : Imm H H := ⟨fun _ _ e => e, fun _ _ _ e => e⟩
theorem TpD.mono {K : PySem.W.Frag} {H H' : Hp} {p : Addr} {vs : List V} (i : Imm H H') (h : TpD K H p vs) : TpD K H' p vs := i.tup _ _ h
theorem FzK.mono {K : PySem.W.Frag} {H H' : Hp} {p : Addr} {vs : List V} (i : Imm H H') (h : FzK K H p vs) : FzK K H' p vs := h.imp (fun ⟨o, e⟩ => ⟨o, i.frz _ _ _ e⟩) fun x => x
theorem FzD.mono {K : PySem.W.Frag} {H H' : Hp} {p : Addr} {vs : List V} (i : Imm H H') (h : FzD K H p vs) : FzD K H' p vs := let ⟨o, e⟩ := h; ⟨o, i.frz _ _ _ e⟩
mutual
theorem Rp.mono {K : PySem.W.Frag} {H H' : Hp} (i : Imm H H') : ∀ {d : D} {v : V}, Rp K H d v → Rp K H' d v
  | .non, _, h => h
  | .bl _, _, h => h
  | .int _, _, h => h
  | .str _, _, h => h
  | .ty _, _, h => h
  | .ref _, _, h => h
  | .tup _, _, h => by
    obtain ⟨p, vs, e, t, r⟩ := h
    exact ⟨p, vs, e, t.mono i, Rps.mono i r⟩
  | .lst _, _, h => by
    obtain ⟨p, vs, e, t, r⟩ := h
    exact ⟨p, vs, e, t.mono i, Rps.mono i r⟩
  | .mt _, _, h => by
    obtain ⟨p, vs, e, t, r⟩ := h
    exact ⟨p, vs, e, t, Rps.mono i r⟩
  | .ml _, _, h => by
    obtain ⟨p, vs, e, t, r⟩ := h
    exact ⟨p, vs, e, t.mono i, Rps.mono i r⟩
theorem Rps.mono {K : PySem.W.Frag} {H H' : Hp} (i : Imm H H') : ∀ {ds : List D} {vs : List V}, Rps K H ds vs → Rps K H' ds vs
  | [], _, h => h
  | _ :: _, _, h => by
    obtain ⟨v, r, e, a, b⟩ := h
    exact ⟨v, r, e, Rp.mono i a, Rps.mono i b⟩
end
section
variable {K : PySem.W.Frag} {H H' : Hp}
theorem Rps.nil : Rps K H [] [] := rfl
theorem Rps.cons {d : D} {v : V} {ds : List D} {vs : List V} (a : Rp K H d v) (b : Rps K H ds vs) : Rps K H (d :: ds) (v :: vs) := ⟨v, vs, rfl, a, b⟩
theorem Rps.length : ∀ {ds : List D} {vs : List V}, Rps K H ds vs → ds.length = vs.length
  | [], _, h => by cases h; rfl
  | _ :: _, _, h => by obtain ⟨v, r, rfl, _, b⟩ := h; simp [b.length]
theorem Rps.get : ∀ {ds : List D} {vs : List V}, Rps K H ds vs → ∀ {i : Nat} {d : D}, ds[i]? = some d → ∃ v, vs[i]? = some v ∧ Rp K H d v
  | [], _, _, i, d, e => by simp at e
  | x :: xs, _, h, i, d, e => by
    obtain ⟨v, r, rfl, a, b⟩ := h
    cases i with
    | zero => simp at e; subst e; exact ⟨v, by simp, a⟩
    | succ i => simpa using b.get (by simpa using e)
theorem Rps.append : ∀ {ds es : List D} {vs ws : List V}, Rps K H ds vs → Rps K H es ws → Rps K H (ds ++ es) (vs ++ ws)
  | [], _, _, _, h, g => by cases h; exact g
  | _ :: _, _, _, _, h, g => by
    obtain ⟨v, r, rfl, a, b⟩ := h
    exact ⟨v, _, rfl, a, b.append g⟩
theorem Rps.take : ∀ {ds : List D} {vs : List V} (n : Nat), Rps K H ds vs → Rps K H (ds.take n) (vs.take n)
  | [], _, n, h => by cases h; simp [Rps]
  | _ :: _, _, 0, h => rfl
  | _ :: _, _, n + 1, h => by
    obtain ⟨v, r, rfl, a, b⟩ := h
    exact ⟨v, _, rfl, a, b.take n⟩
theorem Rps.drop : ∀ {ds : List D} {vs : List V} (n : Nat), Rps K H ds vs → Rps K H (ds.drop n) (vs.drop n)
  | [], _, n, h => by cases h; simp [Rps]
  | _ :: _, _, 0, h => h
  | _ :: _, _, n + 1, h => by
    obtain ⟨v, r, rfl, a, b⟩ := h
    exact b.drop n
theorem Rps.set {d : D} {v : V} (a : Rp K H d v) : ∀ {ds : List D} {vs : List V} (i : Nat), Rps K H ds vs → Rps K H (ds.set i d) (vs.set i v)
  | [], _, _, h => by cases h; rfl
  | _ :: _, _, 0, h => by obtain ⟨w, r, rfl, _, b⟩ := h; exact ⟨v, r, rfl, a, b⟩
  | _ :: _, _, i + 1, h => by obtain ⟨w, r, rfl, c, b⟩ := h; exact ⟨w, _, rfl, c, b.set a i⟩
theorem Rps.dropLast {ds : List D} {vs : List V} (h : Rps K H ds vs) : Rps K H ds.dropLast vs.dropLast := by
  rw [List.dropLast_eq_take, List.dropLast_eq_take, h.length]
  exact h.take _
theorem Rps.eraseIdx : ∀ {ds : List D} {vs : List V} (i : Nat), Rps K H ds vs → Rps K H (ds.eraseIdx i) (vs.eraseIdx i)
  | [], _, _, h => by cases h; rfl
  | _ :: _, _, 0, h => by obtain ⟨w, r, rfl, _, b⟩ := h; exact b
  | _ :: _, _, i + 1, h => by obtain ⟨w, r, rfl, c, b⟩ := h; exact ⟨w, _, rfl, c, b.eraseIdx i⟩
theorem Rps.ints : ∀ {is : List Int} {vs : List V}, vs = is.map V.int → Rps K H (is.map D.int) vs
  | [], _, e => e
  | i :: is, _, e => by subst e; exact ⟨_, _, rfl, rfl, Rps.ints rfl⟩
end
inductive MO where
  | lst (xs : List D)
  | dK (kvs : List (Key × D))
  | dT (kvs : List (List Key × D))
  | ins (C : Addr) (fs : List (Str × D))
noncomputable abbrev Mem := Addr → Option MO
noncomputable def Mem.upd (M : Mem) (a : Addr) (o : MO) : Mem := fun b => if b = a then some o else M b
noncomputable def Mem.del (M : Mem) (a : Addr) : Mem := fun b => if b = a then none else M b
noncomputable def Rkv {κ : Type} (K : PySem.W.Frag) (H : Hp) : List (κ × D) → List (κ × V) → Prop := Paired fun p q => p.1 = q.1 ∧ Rp K H p.2 q.2
noncomputable def RepO (K : PySem.W.Frag) (H : Hp) (a : Addr) : MO → Prop
  | .lst xs => ∃ vs, H a = some (.lst vs) ∧ Rps K H xs vs
  | .dK kvs => ∃ ws, H a = some (.dK ws) ∧ Rkv K H kvs ws
  | .dT kvs => ∃ ws, H a = some (.dT ws) ∧ Rkv K H kvs ws
  | .ins C fs => ∃ dx ws, H a = some (.ins C dx ws) ∧ Rkv K H fs ws
noncomputable def RepH (K : PySem.W.Frag) (H : Hp) (M : Mem) : Prop := ∀ a o, M a = some o → RepO K H a o
section
variable {K : PySem.W.Frag} {H H' : Hp} {M : Mem} {a b : Addr} {o : MO} {u : HO}
@[simp] theorem Mem.upd_same : (M.upd a o) a = some o := by simp [Mem.upd]
theorem Mem.upd_ne (h : b ≠ a) : (M.upd a o) b = M b := by simp [Mem.upd, h]
@[simp] theorem Mem.upd_upd {o' : MO} : (M.upd a o).upd a o' = M.upd a o' := by funext c; simp [Mem.upd]; split <;> rfl
@[simp] theorem Mem.upd_del : (M.upd a o).del a = M.del a := by funext c; simp [Mem.upd, Mem.del]; split <;> rfl
theorem Mem.del_none (h : M a = none) : M.del a = M := by
  funext c; simp only [Mem.del]; split
  · rename_i e; rw [e, h]
  · rfl
theorem Mem.ne {o : MO} (h : M a = some o) (h' : M b = none) : a ≠ b := by intro e; subst e; rw [h] at h'; cases h'
theorem Rkv.mono {κ : Type} {kvs : List (κ × D)} {ws : List (κ × V)} (i : Imm H H') (h : Rkv K H kvs ws) : Rkv K H' kvs ws := Paired.mapP h fun _ _ z => ⟨z.1, z.2.mono i⟩
theorem RepO.obj (r : RepO K H a o) : ∃ u, H a = some u := by
  cases o with
  | lst xs => obtain ⟨vs, e, _⟩ := r; exact ⟨_, e⟩
  | dK xs => obtain ⟨vs, e, _⟩ := r; exact ⟨_, e⟩
  | dT xs => obtain ⟨vs, e, _⟩ := r; exact ⟨_, e⟩
  | ins C fs => obtain ⟨dx, vs, e, _⟩ := r; exact ⟨_, e⟩
theorem RepO.keep (r : RepO K H a o) (i : Imm H H') (e : H' a = H a) : RepO K H' a o := by
  cases o with
  | lst xs => obtain ⟨vs, q, z⟩ := r; exact ⟨vs, e.trans q, z.mono i⟩
  | dK xs => obtain ⟨vs, q, z⟩ := r; exact ⟨vs, e.trans q, z.mono i⟩
  | dT xs => obtain ⟨vs, q, z⟩ := r; exact ⟨vs, e.trans q, z.mono i⟩
  | ins C fs => obtain ⟨dx, vs, q, z⟩ := r; exact ⟨dx, vs, e.trans q, z.mono i⟩
theorem RepH.fresh (r : RepH K H M) (h : H a = none) : M a = none := by
  cases e : M a with
  | none => rfl
  | some o => obtain ⟨u, q⟩ := (r a o e).obj; rw [h] at q; cases q
noncomputable def Loose : Option HO → Prop
  | some (.tup _) => False
  | some (.frz _ _) => False
  | _ => True
theorem Imm.upd (h : Loose (H a)) : Imm H (upd H a u) := by
  refine ⟨fun p vs e => ?_, fun p o v e => ?_⟩
  · rw [upd_ne]; exact e
    rintro rfl; rw [e] at h; exact h
  · rw [upd_ne]; exact e
    rintro rfl; rw [e] at h; exact h
theorem Imm.new (h : H a = none) : Imm H (L2.upd H a u) := Imm.upd (by rw [h]; trivial)
theorem RepO.loose (r : RepO K H a o) : Loose (H a) := by
  cases o with
  | lst xs => obtain ⟨vs, e, _⟩ := r; rw [e]; trivial
  | dK xs => obtain ⟨vs, e, _⟩ := r; rw [e]; trivial
  | dT xs => obtain ⟨vs, e, _⟩ := r; rw [e]; trivial
  | ins C fs => obtain ⟨dx, vs, e, _⟩ := r; rw [e]; trivial
theorem RepH.new (r : RepH K H M) (h : H a = none) : RepH K (L2.upd H a u) M := fun b o e => by
  obtain ⟨v, q⟩ := (r b o e).obj
  exact (r b o e).keep (Imm.new h) (upd_ne (ne_of_none q h))
theorem RepH.put (r : RepH K H M) (h : Loose (H a)) (n : RepO K (L2.upd H a u) a o) : RepH K (L2.upd H a u) (M.upd a o) := fun b p e => by
  by_cases hb : b = a
  · subst hb; rw [Mem.upd_same] at e; cases e; exact n
  · rw [Mem.upd_ne hb] at e
    exact (r b p e).keep (Imm.upd h) (upd_ne hb)
theorem RepH.keep (r : RepH K H M) (i : Imm H H') (e : ∀ b o, M b = some o → H' b = H b) : RepH K H' M := fun b o q => (r b o q).keep i (e b o q)
structure Frm (M : Mem) (H : Hp) (M' : Mem) (H' : Hp) : Prop where
  keep : ∀ b u, H b = some u → M b = none → H' b = some u ∧ M' b = none
variable {M' : Mem}
theorem Frm.refl : Frm M H M H := ⟨fun _ _ e n => ⟨e, n⟩⟩
theorem Frm.trans {M1 M2 : Mem} {H1 H2 : Hp} (x : Frm M H M1 H1) (y : Frm M1 H1 M2 H2) : Frm M H M2 H2 := ⟨fun b u e n => let ⟨e1, n1⟩ := x.keep b u e n; y.keep b u e1 n1⟩
theorem Frm.imm (f : Frm M H M' H') (r : RepH K H M) : Imm H H' := by
  have key : ∀ b u, H b = some u → ¬ Loose (some u) → H' b = some u := fun b u e n => (f.keep b u e (by
    cases q : M b with
    | none => rfl
    | some o => exact absurd (by rw [← e]; exact (r b o q).loose) n)).1
  exact ⟨fun p vs e => key p _ e (fun z => z), fun p o u e => key p _ e (fun z => z)⟩
theorem Frm.new (h : H a = none) : Frm M H M (L2.upd H a u) := ⟨fun b v e n => ⟨by rw [upd_ne (ne_of_none e h)]; exact e, n⟩⟩
theorem Frm.put (h : H a = none ∨ ∃ o, M a = some o) : Frm M H (M.upd a o) (L2.upd H a u) := ⟨fun b v e n => by
  have hb : b ≠ a := by
    rintro rfl
    rcases h with h | ⟨o, h⟩
    · rw [h] at e; cases e
    · rw [h] at n; cases n
  exact ⟨by rw [L2.upd_ne hb]; exact e, by rw [Mem.upd_ne hb]; exact n⟩⟩
theorem Frm.del (h : ∃ o, M a = some o) : Frm M H (M.del a) (L2.upd H a u) := ⟨fun b v e n => by
  have hb : b ≠ a := by
    rintro rfl
    obtain ⟨o, h⟩ := h
    rw [h] at n; cases n
  refine ⟨by rw [L2.upd_ne hb]; exact e, ?_⟩
  unfold Mem.del
  rw [if_neg hb]
  exact n⟩
theorem Rp.mf {d : D} {v : V} (x : Rp K H d v) (r : RepH K H M) (f : Frm M H M' H') : Rp K H' d v := x.mono (f.imm r)
theorem Rps.mf {d : List D} {v : List V} (x : Rps K H d v) (r : RepH K H M) (f : Frm M H M' H') : Rps K H' d v := x.mono (f.imm r)
end
end L3

namespace L3
open PySem L2
noncomputable abbrev Dl := List (Option D)
noncomputable abbrev DK := D → Mem → Prop
noncomputable abbrev dTE := Dl → Mem → DK → Prop
noncomputable abbrev dTT := Dl → Mem → (Bool → Mem → Prop) → Prop
noncomputable abbrev dTA := Dl → Mem → (List D → Mem → Prop) → Prop
structure RepS (K : PySem.W.Frag) (H : Hp) (δ : Dl) (σ : St) : Prop where
  len : δ.length = σ.length
  get : ∀ (i : Nat) (d : D), δ[i]? = some (some d) → ∃ v, σ[i]? = some (some v) ∧ Rp K H d v
theorem RepS.mono {K : PySem.W.Frag} {H H' : Hp} {δ : Dl} {σ : St} (r : RepS K H δ σ) (i : Imm H H') : RepS K H' δ σ :=
  ⟨r.len, fun j d e => by obtain ⟨v, h1, h2⟩ := r.get j d e; exact ⟨v, h1, h2.mono i⟩⟩
theorem RepS.set {K : PySem.W.Frag} {H : Hp} {δ : Dl} {σ : St} {i : Nat} {d : D} {v : V} (r : RepS K H δ σ) (h : Rp K H d v) : RepS K H (δ.set i (some d)) (σ.set i (some v)) := by
  refine ⟨by simp [r.len], fun j e q => ?_⟩
  rw [List.getElem?_set] at q ⊢
  by_cases hij : i = j
  · rw [if_pos hij] at q ⊢
    by_cases hl : i < δ.length
    · rw [if_pos (by rw [← r.len]; exact hij ▸ hl)]
      rw [if_pos (hij ▸ hl)] at q
      cases q
      exact ⟨v, rfl, h⟩
    · rw [if_neg (hij ▸ hl)] at q; cases q
  · rw [if_neg hij] at q ⊢
    exact r.get j e q
structure SR (X : Cx) (B : Mem) (δ : Dl) (M : Mem) (σ : St) (H : Hp) : Prop where
  i0 : Frm B X.H₀ M H
  rh : RepH X.K H M
  rs : RepS X.K H δ σ
theorem SR.go {X : Cx} {B : Mem} {δ : Dl} {M M' : Mem} {σ : St} {H H' : Hp} (s : SR X B δ M σ H) (rh : RepH X.K H' M') (i : Frm M H M' H') : SR X B δ M' σ H' := ⟨s.i0.trans i, rh, s.rs.mono (i.imm s.rh)⟩
noncomputable def Up (K : PySem.W.Frag) (M : Mem) (H : Hp) (QQ : DK) (Q : VK) : Prop := ∀ d M', QQ d M' → ∀ v H', RepH K H' M' → Frm M H M' H' → Rp K H' d v → Q v H'
noncomputable def UpT (K : PySem.W.Frag) (M : Mem) (H : Hp) (QQ : Bool → Mem → Prop) (Q : Bool → Hp → Prop) : Prop := ∀ b M', QQ b M' → ∀ H', RepH K H' M' → Frm M H M' H' → Q b H'
noncomputable def UpA (K : PySem.W.Frag) (M : Mem) (H : Hp) (QQ : List D → Mem → Prop) (Q : List V → Hp → Prop) : Prop := ∀ ds M', QQ ds M' → ∀ vs H', RepH K H' M' → Frm M H M' H' → Rps K H' ds vs → Q vs H'
theorem Up.go {K : PySem.W.Frag} {M M1 : Mem} {H H1 : Hp} {QQ : DK} {Q : VK} (u : Up K M H QQ Q) (i : Frm M H M1 H1) : Up K M1 H1 QQ Q := fun d M' q v H' a b c => u d M' q v H' a (i.trans b) c
theorem UpT.go {K : PySem.W.Frag} {M M1 : Mem} {H H1 : Hp} {QQ : Bool → Mem → Prop} {Q : Bool → Hp → Prop} (u : UpT K M H QQ Q) (i : Frm M H M1 H1) : UpT K M1 H1 QQ Q := fun d M' q H' a b => u d M' q H' a (i.trans b)
noncomputable def liftE (X : Cx) (B : Mem) (T : dTE) : TE := fun σ H Q => ∃ δ M QQ, SR X B δ M σ H ∧ T δ M QQ ∧ Up X.K M H QQ Q
noncomputable def liftT (X : Cx) (B : Mem) (T : dTT) : TT := fun σ H Q => ∃ δ M QQ, SR X B δ M σ H ∧ T δ M QQ ∧ UpT X.K M H QQ Q
noncomputable def liftA (X : Cx) (B : Mem) (T : dTA) : TA := fun σ H Q => ∃ δ M QQ, SR X B δ M σ H ∧ T δ M QQ ∧ UpA X.K M H QQ Q
noncomputable def DE (X : Cx) (B : Mem) (e : Expr) (T : dTE) : Prop := PE X e (liftE X B T)
noncomputable def DT (X : Cx) (B : Mem) (e : Expr) (T : dTT) : Prop := PT X e (liftT X B T)
noncomputable def DA (X : Cx) (B : Mem) (es : List Expr) (T : dTA) : Prop := PA X es (liftA X B T)
theorem pe_weak {X : Cx} {e : Expr} {t t' : TE} (h : PE X e t) (w : ∀ σ H Q, t' σ H Q → t σ H Q) : PE X e t' := fun pins s σ H Q I q => h pins s σ H Q I (w σ H Q q)
theorem pt_weak {X : Cx} {e : Expr} {t t' : TT} (h : PT X e t) (w : ∀ σ H Q, t' σ H Q → t σ H Q) : PT X e t' := fun pins s σ H Q I q => h pins s σ H Q I (w σ H Q q)
theorem pa_weak {X : Cx} {e : List Expr} {t t' : TA} (h : PA X e t) (w : ∀ σ H Q, t' σ H Q → t σ H Q) : PA X e t' := fun pos pins s σ H Q I q => h pos pins s σ H Q I (w σ H Q q)
theorem ps_weak {X : Cx} {e : Stmt} {t t' : TS} (h : PS X e t) (w : ∀ D σ H, t' D σ H → t D σ H) : PS X e t' := fun pins s σ H D I q => h pins s σ H D I (w D σ H q)
theorem pss_weak {X : Cx} {e : List Stmt} {t t' : TS} (h : PSs X e t) (w : ∀ D σ H, t' D σ H → t D σ H) : PSs X e t' := fun pins s σ H D I q => h pins s σ H D I (w D σ H q)
noncomputable def dVar (i : Nat) : dTE := fun δ M Q => match δ[i]? with
  | some (some d) => Q d M
  | _ => False
noncomputable def dC (d : D) : dTE := fun _ M Q => Q d M
section
variable {X : Cx} {B : Mem} {a b c : Expr} {ta tb tc : dTE} {pos : Pos}
theorem de_var {i : Nat} {x : Str} {pos : Pos} (hN : X.N[i]? = some x) (hv : Vis X.env.scope x) (hd : (x == ("__debug__" : Str)) = false := by decide) (hcd : (x == ("__classdict__" : Str)) = false := by decide) : DE X B (.Name x pos) (dVar i) := by
  refine pe_weak (pe_var hN hv hd hcd) ?_
  rintro σ H Q ⟨δ, M, QQ, s, h, u⟩
  unfold dVar at h
  split at h
  · rename_i d e
    obtain ⟨v, h1, h2⟩ := s.rs.get i d e
    exact ⟨v, h1, u d M h v H s.rh Frm.refl h2⟩
  · exact h.elim
theorem de_C {e : Expr} {v : V} {d : D} (h : PE X e (tC v)) (r : ∀ H, Rp X.K H d v) : DE X B e (dC d) := by
  refine pe_weak h ?_
  rintro σ H Q ⟨δ, M, QQ, s, h, u⟩
  exact u d M h v H s.rh Frm.refl (r H)
theorem de_int {i j pos} : DE X B (.Constant (.int i) j pos) (dC (.int i)) := de_C pe_int fun _ => rfl
theorem de_bl {i j pos} : DE X B (.Constant (.bool i) j pos) (dC (.bl i)) := de_C pe_bl fun _ => rfl
theorem de_non {j pos} : DE X B (.Constant .none j pos) (dC .non) := de_C pe_non fun _ => rfl
theorem de_str {i j pos} : DE X B (.Constant (.str i) j pos) (dC (.str i)) := de_C pe_str fun _ => rfl
theorem de_glob {x : Str} {v : V} {d : D} {u : Value} {pos : Pos} (hg : Gl X x) (hm : X.mg x = some u) (r : RelV v u) (q : ∀ H, Rp X.K H d v) (hd : (x == ("__debug__" : Str)) = false := by decide) : DE X B (.Name x pos) (dC d) := de_C (pe_glob hg hm r hd) q
noncomputable abbrev dR2 := D → D → Mem → DK → Prop
noncomputable def liftR2 (X : Cx) (r : dR2) : R2 := fun x y H Q => ∃ d1 d2 M QQ, RepH X.K H M ∧ Rp X.K H d1 x ∧ Rp X.K H d2 y ∧ r d1 d2 M QQ ∧ Up X.K M H QQ Q
noncomputable def dOp (r : dR2) (ta tb : dTE) : dTE := fun δ M Q => ta δ M fun x M1 => tb δ M1 fun y M2 => r x y M2 Q
theorem lift_op {r : dR2} {σ : St} {H : Hp} {Q : VK} (h : liftE X B (dOp r ta tb) σ H Q) : tOp (liftR2 X r) (liftE X B ta) (liftE X B tb) σ H Q := by
  obtain ⟨δ, M, QQ, s, h, u⟩ := h
  refine ⟨δ, M, _, s, h, fun x M1 h1 v1 H1 rh1 i1 r1 => ?_⟩
  refine ⟨δ, M1, _, s.go rh1 i1, h1, fun y M2 h2 v2 H2 rh2 i2 r2 => ?_⟩
  exact ⟨x, y, M2, QQ, rh2, r1.mf rh1 i2, r2, h2, u.go (i1.trans i2)⟩
theorem de_op {op : Operator} {r : dR2} (ho : OpR X (binaryOp op) (liftR2 X r)) (ha : DE X B a ta) (hb : DE X B b tb) : DE X B (.BinOp a op b pos) (dOp r ta tb) := pe_weak (pe_op ho ha hb) fun _ _ _ h => lift_op h
theorem de_cmp {op : CmpOp} {r : dR2} (ho : OpR X (compareOp op) (liftR2 X r)) (ha : DE X B a ta) (hb : DE X B b tb) (hm : behindInMarks op b = false) : DE X B (.Compare a [op] [b] pos) (dOp r ta tb) := pe_weak (pe_cmpR ho ha hb hm) fun _ _ _ h => lift_op h
theorem de_ix {r : dR2} (hr : IxR X (liftR2 X r)) (ha : DE X B a ta) (hb : DE X B b tb) (hs : PlainIx b) : DE X B (.Subscript a b pos) (dOp r ta tb) := pe_weak (pe_ix hr ha hb hs) fun _ _ _ h => lift_op h
noncomputable def dTest (t : dTE) : dTT := fun δ M Q => t δ M fun d M' => match d with
  | .bl k => Q k M'
  | _ => False
theorem dt_cmp {op : CmpOp} {r : dR2} (ho : OpR X (compareOp op) (liftR2 X r)) (ha : DE X B a ta) (hb : DE X B b tb) (hm : behindInMarks op b = false) : DT X B (.Compare a [op] [b] pos) (dTest (dOp r ta tb)) := by
  refine pt_weak (pt_cmpR ho ha hb hm) ?_
  rintro σ H Q ⟨δ, M, QQ, s, h, u⟩
  have h' : liftE X B (dOp r ta tb) σ H (fun x H' => ∃ k, x = .bl k ∧ Q k H') := by
    refine ⟨δ, M, _, s, h, fun d M' q v H' rh i rp => ?_⟩
    cases d with
    | bl k => exact ⟨k, rp, u k M' q H' rh i⟩
    | _ => exact (show False from q).elim
  exact lift_op h'
noncomputable def tru (M : Mem) : D → Option Bool
  | .non => some false
  | .bl b => some b
  | .int i => some (i != 0)
  | .str y => if y.length ≤ sizeLine then some ((y.length : Int) != 0) else none
  | .tup xs => some (!xs.isEmpty)
  | .lst xs => some (!xs.isEmpty)
  | .ref a => match M a with
    | some (.lst xs) => some (!xs.isEmpty)
    | some (.dK xs) => some (!xs.isEmpty)
    | _ => none
  | _ => none
noncomputable def dTru (t : dTE) : dTT := fun δ M Q => t δ M fun d M' => match tru M' d with
  | some k => Q k M'
  | none => False
theorem isEmpty_rps {K : PySem.W.Frag} {H : Hp} {ds : List D} {vs : List V} (r : Rps K H ds vs) : vs.isEmpty = ds.isEmpty := by
  have := r.length
  cases ds <;> cases vs <;> simp_all
theorem tru_of {K : PySem.W.Frag} {H : Hp} {M : Mem} {d : D} {v : V} {k : Bool} (rh : RepH K H M) (r : Rp K H d v) (e : tru M d = some k) : TruV K v H k := by
  cases d with
  | non => cases r; cases e; rfl
  | bl b => cases r; cases e; rfl
  | int i => cases r; cases e; rfl
  | str y =>
    cases r
    simp only [tru] at e
    split at e
    · cases e; exact ⟨by assumption, rfl⟩
    · cases e
  | ty n => cases e
  | tup xs =>
    obtain ⟨p, vs, rfl, t, r⟩ := r
    cases e
    exact .inr (.inl ⟨vs, t.sq, by rw [isEmpty_rps r]⟩)
  | mt xs => cases e
  | ml xs => cases e
  | lst xs =>
    obtain ⟨p, vs, rfl, t, r⟩ := r
    cases e
    exact .inl ⟨vs, t.sq, by rw [isEmpty_rps r]⟩
  | ref a =>
    cases r
    simp only [tru] at e
    split at e
    · rename_i xs q
      obtain ⟨vs, h1, h2⟩ := rh _ _ q
      cases e
      exact .inl ⟨vs, SqL.of h1, by rw [isEmpty_rps h2]⟩
    · rename_i xs q
      obtain ⟨vs, h1, h2⟩ := rh _ _ q
      cases e
      refine .inr (.inr ⟨vs, h1, ?_⟩)
      cases h2 <;> rfl
    · cases e
theorem dt_tru {e : Expr} (h : DE X B e ta) (he : ∀ whole, isTrue e X.env whole = (do let v ← whole; standAt e.pos; holding [v] (truthy v)) := by intro _; rfl) : DT X B e (dTru ta) := by
  refine pt_weak (pt_truth h he) ?_
  rintro σ H Q ⟨δ, M, QQ, s, h, u⟩
  refine ⟨δ, M, _, s, h, fun d M' q v H' rh i rp => ?_⟩
  split at q
  · rename_i k e
    exact ⟨k, tru_of rh rp e, u k M' q H' rh i⟩
  · exact q.elim
noncomputable def dNot (t : dTT) : dTT := fun δ M Q => t δ M fun c M1 => Q (!c) M1
theorem dt_not {tA : dTT} (ha : DT X B a tA) : DT X B (.UnaryOp .Not a pos) (dNot tA) := by
  refine pt_weak (pt_not ha) ?_
  rintro σ H Q ⟨δ, M, QQ, s, h, u⟩
  exact ⟨δ, M, _, s, h, fun c M' q H' rh i => u _ M' q H' rh i⟩
end
end L3

namespace L3
open PySem L2
section
variable {X : Cx} {B : Mem} {a b c : Expr} {ta tb tc : dTE} {tA tB' : dTT} {rest : List Expr} {pos : Pos}
noncomputable def DW (X : Cx) (B : Mem) (e : Expr) (T : dTT) : Prop := PW X e (liftT X B T)
theorem DW.dt {e : Expr} {T : dTT} (h : DW X B e T) : DT X B e T := PW.pt h
theorem pw_weak {X : Cx} {e : Expr} {t t' : TT} (h : PW X e t) (w : ∀ σ H Q, t' σ H Q → t σ H Q) : PW X e t' := fun wh pins s σ H Q I q => h wh pins s σ H Q I (w σ H Q q)
noncomputable def dAnd (t u : dTT) : dTT := fun δ M Q => t δ M fun c M1 => if c = true then u δ M1 Q else Q false M1
noncomputable def dOr (t u : dTT) : dTT := fun δ M Q => t δ M fun c M1 => if c = true then Q true M1 else u δ M1 Q
theorem dw_and1 (ha : DT X B a tA) : DW X B (.BoolOp .And [a] pos) tA := pw_and1 ha
theorem dw_or1 (ha : DT X B a tA) : DW X B (.BoolOp .Or [a] pos) tA := pw_or1 ha
theorem dw_and (ha : DT X B a tA) (hb : DW X B (.BoolOp .And (b :: rest) pos) tB') : DW X B (.BoolOp .And (a :: b :: rest) pos) (dAnd tA tB') := by
  refine pw_weak (pw_and ha hb) ?_
  rintro σ H Q ⟨δ, M, QQ, s, h, u⟩
  refine ⟨δ, M, _, s, h, fun c M' q H' rh i => ?_⟩
  cases c with
  | true => rw [if_pos rfl] at q ⊢; exact ⟨δ, M', QQ, s.go rh i, q, u.go i⟩
  | false => rw [if_neg Bool.false_ne_true] at q ⊢; exact u _ M' q H' rh i
theorem dw_or (ha : DT X B a tA) (hb : DW X B (.BoolOp .Or (b :: rest) pos) tB') : DW X B (.BoolOp .Or (a :: b :: rest) pos) (dOr tA tB') := by
  refine pw_weak (pw_or ha hb) ?_
  rintro σ H Q ⟨δ, M, QQ, s, h, u⟩
  refine ⟨δ, M, _, s, h, fun c M' q H' rh i => ?_⟩
  cases c with
  | false => rw [if_neg Bool.false_ne_true] at q ⊢; exact ⟨δ, M', QQ, s.go rh i, q, u.go i⟩
  | true => rw [if_pos rfl] at q ⊢; exact u _ M' q H' rh i
noncomputable def dAndV (ta tb : dTE) : dTE := fun δ M Q => ta δ M fun x M1 => match x with
  | .bl true => tb δ M1 Q
  | .bl false => Q (.bl false) M1
  | _ => False
noncomputable def dOrV (ta tb : dTE) : dTE := fun δ M Q => ta δ M fun x M1 => match x with
  | .bl false => tb δ M1 Q
  | .bl true => Q (.bl true) M1
  | _ => False
noncomputable def dNotV (ta : dTE) : dTE := fun δ M Q => ta δ M fun x M1 => match x with
  | .bl c => Q (.bl (!c)) M1
  | _ => False
theorem de_one {op} {t : dTE} (h : DE X B a t) : DE X B (.BoolOp op [a] pos) t := pe_one h
theorem de_and (ha : DE X B a ta) (hb : DE X B (.BoolOp .And (b :: rest) pos) tb) : DE X B (.BoolOp .And (a :: b :: rest) pos) (dAndV ta tb) := by
  refine pe_weak (pe_and ha hb) ?_
  rintro σ H Q ⟨δ, M, QQ, s, h, u⟩
  refine ⟨δ, M, _, s, h, fun d M' q v H' rh i r => ?_⟩
  cases d with
  | bl c =>
    cases c with
    | true => exact ⟨true, r, by rw [if_pos rfl]; exact ⟨δ, M', QQ, s.go rh i, q, u.go i⟩⟩
    | false => exact ⟨false, r, by rw [if_neg Bool.false_ne_true]; exact u _ M' q _ H' rh i rfl⟩
  | _ => exact (show False from q).elim
theorem de_or (ha : DE X B a ta) (hb : DE X B (.BoolOp .Or (b :: rest) pos) tb) : DE X B (.BoolOp .Or (a :: b :: rest) pos) (dOrV ta tb) := by
  refine pe_weak (pe_or ha hb) ?_
  rintro σ H Q ⟨δ, M, QQ, s, h, u⟩
  refine ⟨δ, M, _, s, h, fun d M' q v H' rh i r => ?_⟩
  cases d with
  | bl c =>
    cases c with
    | false => exact ⟨false, r, by rw [if_neg Bool.false_ne_true]; exact ⟨δ, M', QQ, s.go rh i, q, u.go i⟩⟩
    | true => exact ⟨true, r, by rw [if_pos rfl]; exact u _ M' q _ H' rh i rfl⟩
  | _ => exact (show False from q).elim
theorem de_not (ha : DE X B a ta) : DE X B (.UnaryOp .Not a pos) (dNotV ta) := by
  refine pe_weak (pe_not ha) ?_
  rintro σ H Q ⟨δ, M, QQ, s, h, u⟩
  refine ⟨δ, M, _, s, h, fun d M' q v H' rh i r => ?_⟩
  cases d with
  | bl c => exact ⟨c, r, u _ M' q _ H' rh i rfl⟩
  | _ => exact (show False from q).elim
noncomputable def dIf (t : dTT) (ta tb : dTE) : dTE := fun δ M Q => t δ M fun c M1 => if c = true then ta δ M1 Q else tb δ M1 Q
theorem de_ifExp {c : Expr} (hc : DT X B c tA) (ha : DE X B a ta) (hb : DE X B b tb) : DE X B (.IfExp c a b pos) (dIf tA ta tb) := by
  refine pe_weak (pe_ifExp hc ha hb) ?_
  rintro σ H Q ⟨δ, M, QQ, s, h, u⟩
  refine ⟨δ, M, _, s, h, fun c M' q H' rh i => ?_⟩
  cases c with
  | true => rw [if_pos rfl] at q ⊢; exact ⟨δ, M', QQ, s.go rh i, q, u.go i⟩
  | false => rw [if_neg Bool.false_ne_true] at q ⊢; exact ⟨δ, M', QQ, s.go rh i, q, u.go i⟩
noncomputable def dChain (r r' : dR2) (ta tb tc : dTE) : dTE := fun δ M Q => ta δ M fun x M1 => tb δ M1 fun y M2 => r x y M2 fun z M3 => match z with
  | .bl true => tc δ M3 fun w M4 => r' y w M4 Q
  | .bl false => Q (.bl false) M3
  | _ => False
variable {e : Expr} {es : List Expr} {te : dTE} {t : dTA}
noncomputable def dNil : dTA := fun _ M Q => Q [] M
noncomputable def dCons (ta : dTE) (tr : dTA) : dTA := fun δ M Q => ta δ M fun x M1 => tr δ M1 fun xs M2 => Q (x :: xs) M2
theorem da_nil : DA X B [] dNil := by
  refine pa_weak pa_nil ?_
  rintro σ H Q ⟨δ, M, QQ, s, h, u⟩
  exact u [] M h [] H s.rh Frm.refl .nil
theorem da_cons (ha : DE X B e te) (hr : DA X B es t) (hs : starEach (e :: es) X.env = (false, eval e X.env) :: starEach es X.env := by rfl) : DA X B (e :: es) (dCons te t) := by
  refine pa_weak (pa_cons ha hr hs) ?_
  rintro σ H Q ⟨δ, M, QQ, s, h, u⟩
  refine ⟨δ, M, _, s, h, fun x M1 h1 v1 H1 rh1 i1 r1 => ?_⟩
  refine ⟨δ, M1, _, s.go rh1 i1, h1, fun xs M2 h2 v2 H2 rh2 i2 r2 => ?_⟩
  exact u _ M2 h2 _ H2 rh2 (i1.trans i2) (.cons (r1.mf rh1 i2) r2)
noncomputable def dTup (t : dTA) : dTE := fun δ M Q => t δ M fun xs M1 => xs.length ≤ sizeLine ∧ Q (.tup xs) M1
noncomputable def dLst (t : dTA) : dTE := fun δ M Q => t δ M fun xs M1 => xs.length ≤ sizeLine ∧ ∀ p, M1 p = none → Q (.ref p) (M1.upd p (.lst xs))
theorem de_tup {x1} (h : DA X B es t) : DE X B (.Tuple es x1 pos) (dTup t) := by
  refine pe_weak (pe_tup h) ?_
  rintro σ H Q ⟨δ, M, QQ, s, h, u⟩
  refine ⟨δ, M, _, s, h, fun xs M1 h1 v1 H1 rh1 i1 r1 => ⟨by rw [← r1.length]; exact h1.1, fun p hp => ?_⟩⟩
  exact u _ M1 h1.2 _ _ (rh1.new hp) (i1.trans (Frm.new hp)) ⟨p, v1, rfl, upd_same, r1.mono (Imm.new hp)⟩
theorem de_lst (h : DA X B es t) : DE X B (.List es pos) (dLst t) := by
  refine pe_weak (pe_lst h) ?_
  rintro σ H Q ⟨δ, M, QQ, s, h, u⟩
  refine ⟨δ, M, _, s, h, fun xs M1 h1 v1 H1 rh1 i1 r1 => ⟨by rw [← r1.length]; exact h1.1, fun p hp => ?_⟩⟩
  exact u _ _ (h1.2 p (rh1.fresh hp)) _ _ (rh1.put (by rw [hp]; trivial) ⟨v1, upd_same, r1.mono (Imm.new hp)⟩) (i1.trans (Frm.put (.inl hp))) rfl
theorem Inv.freeze {pins : List (Addr × Obj)} {σ : L2.St} {H : Hp} {s : Shared} {p : Addr} {vs : List V} (I : Inv X pins σ H s) (h : H p = some (.lst vs)) : ∃ o, Inv X pins σ (upd H p (.frz o (.lst vs))) s := by
  obtain ⟨its, n, r, e, z⟩ := I.lst h
  have ne : ∀ {b : Addr} {u : Option HO}, H b = u → u ≠ some (.lst vs) → b ≠ p := fun {b u} q hu z => by subst z; rw [h] at q; exact hu q.symm
  refine ⟨{ cls := .type "list", data := .seq its.toArray n }, I.ok, I.os, I.bare, ⟨I.base.keep, I.base.slot, fun b o q hn hx => ?_, I.base.there, fun b xs q => ?_, fun b o u q => ?_, fun b ps q => ?_⟩, I.loc, I.cell, ?_, fun x c q => ?_, fun pp hp => ?_, fun b o q => ?_, I.len⟩
  · have q' := I.base.free b o q hn hx
    rw [upd_ne (ne q' (by simp))]; exact q'
  · have q' := I.base.tups b xs q
    rw [upd_ne (ne q' (by simp))]; exact q'
  · have q' := I.base.frzs b o u q
    rw [upd_ne (ne q' (by simp))]; exact q'
  · obtain ⟨more, q'⟩ := I.base.tbls b ps q
    exact ⟨more, by rw [upd_ne (ne q' (by simp))]; exact q'⟩
  · rw [upd_ne (ne I.free (by simp))]; exact I.free
  · have q' := I.freeC x c q
    rw [upd_ne (ne q' (by simp))]; exact q'
  · obtain ⟨h1, h2, h3⟩ := I.pin pp hp
    exact ⟨h1, by rw [upd_ne (ne h2 (by simp))]; exact h2, h3⟩
  · by_cases hb : b = p
    · subst hb
      rw [upd_same] at q
      cases q
      refine ⟨e, ?_⟩
      exact ⟨z, its, n, r, e⟩
    · rw [upd_ne hb] at q
      refine (I.hok b o q).stay (fun _ _ _ y => y) (fun c y => ?_) fun c xs y => ?_
      · rw [upd_ne (ne y (by simp))]; exact y
      · rw [upd_ne (ne y (by simp))]; exact y
noncomputable def frz (d : D) (M : Mem) (Q : DK) : Prop := match d with
  | .ref a => match M a with
    | some (.lst xs) => Q (.lst xs) (M.del a)
    | _ => Q d M
  | _ => Q d M
noncomputable def dFrz (t : dTE) : dTE := fun δ M Q => t δ M fun d M' => frz d M' Q
theorem RepH.freeze {K : PySem.W.Frag} {H : Hp} {M : Mem} {p : Addr} {vs : List V} {o : Obj} (r : RepH K H M) (h : H p = some (.lst vs)) : RepH K (upd H p (.frz o (.lst vs))) (M.del p) := fun b u e => by
  unfold Mem.del at e
  split at e
  · cases e
  · rename_i hb
    exact (r b u e).keep (Imm.upd (by rw [h]; trivial)) (upd_ne hb)
theorem de_frz (h : DE X B e te) : DE X B e (dFrz te) := by
  intro pins s σ H Q I hq
  obtain ⟨δ, M, QQ, sr, hT, u⟩ := hq
  refine thn (h pins s σ H (fun v H' => ∃ d M', RepH X.K H' M' ∧ Frm M H M' H' ∧ Rp X.K H' d v ∧ frz d M' QQ) I ⟨δ, M, _, sr, hT, fun d M' q v H' rh i r => ⟨d, M', rh, i, r, q⟩⟩) ?_
  rintro w s' ⟨v, H', I', rv, d, M', rh, i, r, q⟩
  unfold frz at q
  split at q
  · rename_i a
    split at q
    · rename_i xs e
      obtain ⟨vs, h1, h2⟩ := rh _ _ e
      obtain ⟨o, I2⟩ := Inv.freeze I' h1
      refine ⟨v, _, I2, rv, u _ _ q v _ (rh.freeze h1) (i.trans (Frm.del ⟨_, e⟩)) ?_⟩
      exact ⟨a, vs, r, ⟨o, upd_same⟩, h2.mono (Imm.upd (by rw [h1]; trivial))⟩
    · exact ⟨v, H', I', rv, u _ _ q v H' rh i r⟩
  · exact ⟨v, H', I', rv, u _ _ q v H' rh i r⟩
end
end L3

namespace L3
open PySem L2
noncomputable def seqL (M : Mem) : D → Option (List D)
  | .lst xs => some xs
  | .ref a => match M a with
    | some (.lst xs) => some xs
    | _ => none
  | _ => none
noncomputable def seqD (M : Mem) : D → Option (List D)
  | .tup xs => some xs
  | .lst xs => some xs
  | .mt xs => some xs
  | .ml xs => some xs
  | .ref a => match M a with
    | some (.lst xs) => some xs
    | _ => none
  | _ => none
section
variable {X : Cx} {B : Mem} {K : PySem.W.Frag} {H : Hp} {M : Mem} {d : D} {v : V} {xs : List D}
theorem seqL_of (rh : RepH K H M) (r : Rp K H d v) (e : seqL M d = some xs) : ∃ p vs, v = .ref p ∧ Rd H p (.lst vs) ∧ Rps K H xs vs := by
  cases d with
  | lst ys =>
    cases e
    obtain ⟨p, vs, rfl, ⟨o, h⟩, r⟩ := r
    exact ⟨p, vs, rfl, .inr ⟨o, h⟩, r⟩
  | ref a =>
    simp only [seqL] at e
    split at e
    · rename_i ys q
      cases e
      obtain ⟨vs, h1, h2⟩ := rh _ _ q
      exact ⟨a, vs, r, .inl h1, h2⟩
    · cases e
  | _ => cases e
theorem seqD_of (rh : RepH K H M) (r : Rp K H d v) (e : seqD M d = some xs) : ∃ p vs, v = .ref p ∧ (SqL K H p vs ∨ SqT K H p vs) ∧ Rps K H xs vs := by
  cases d with
  | tup ys =>
    cases e
    obtain ⟨p, vs, rfl, h, r⟩ := r
    exact ⟨p, vs, rfl, .inr h.sq, r⟩
  | lst ys =>
    cases e
    obtain ⟨p, vs, rfl, h, r⟩ := r
    exact ⟨p, vs, rfl, .inl h.sq, r⟩
  | mt ys =>
    cases e
    obtain ⟨p, vs, rfl, h, r⟩ := r
    exact ⟨p, vs, rfl, .inr h.sq, r⟩
  | ml ys =>
    cases e
    obtain ⟨p, vs, rfl, h, r⟩ := r
    exact ⟨p, vs, rfl, .inl h.sq, r⟩
  | ref a =>
    simp only [seqD] at e
    split at e
    · rename_i ys q
      cases e
      obtain ⟨vs, h1, h2⟩ := rh _ _ q
      exact ⟨a, vs, r, .inl (SqL.of h1), h2⟩
    · cases e
  | _ => cases e
theorem op_catL : OpR X (binaryOp .Add) (fun x y H Q => ∃ l b xs zs, x = .ref l ∧ y = .ref b ∧ Rd H l (.lst xs) ∧ Rd H b (.lst zs) ∧ xs.length + zs.length ≤ sizeLine ∧ ∀ p, H p = none → Q (.ref p) (upd H p (.lst (xs ++ zs)))) := by
  intro pins s σ H x y v u Q I rx ry h
  obtain ⟨l, b, xs, zs, rfl, rfl, hH, hB, hz, q⟩ := h
  cases rx
  cases ry
  obtain ⟨z, its, n, r, e⟩ := hH.ok I.hok
  obtain ⟨z2, its2, n2, r2, e2⟩ := hB.ok I.hok
  have hl := r.length
  have hl2 := r2.length
  refine PySem.P.add_list e e2 ?_ (by rw [List.size_toArray, List.size_toArray]; lia)
  have ea : its.toArray ++ its2.toArray = (its ++ its2).toArray := by simp
  rw [ea]
  exact ⟨.ref _, _, I.lnew (t' := s.toks) (r.append r2) (by rw [List.length_append]; lia), rfl, q _ I.fresh⟩
noncomputable def oAdd : dR2 := fun x y M Q => match x, y with
  | .int i, .int j => Q (.int (i + j)) M
  | .str a, .str b => a.length + b.length ≤ sizeLine ∧ Q (.str (a ++ b)) M
  | .tup xs, .tup ys => xs.length + ys.length ≤ sizeLine ∧ Q (.tup (xs ++ ys)) M
  | x, y => match seqL M x, seqL M y with
    | some xs, some ys => xs.length + ys.length ≤ sizeLine ∧ ∀ p, M p = none → Q (.ref p) (M.upd p (.lst (xs ++ ys)))
    | _, _ => False
theorem op_add' : OpR X (binaryOp .Add) (liftR2 X oAdd) := by
  intro pins s σ H x y v u Q I rx ry h
  obtain ⟨d1, d2, M, QQ, rh, r1, r2, h, up⟩ := h
  unfold oAdd at h
  split at h
  · cases r1; cases r2
    exact op_add pins s σ H _ _ v u Q I rx ry ⟨_, _, rfl, rfl, up _ M h _ H rh Frm.refl rfl⟩
  · cases r1; cases r2
    exact op_add_str pins s σ H _ _ v u Q I rx ry ⟨_, _, rfl, rfl, h.1, up _ M h.2 _ H rh Frm.refl rfl⟩
  · obtain ⟨p, vs, rfl, t1, r1⟩ := r1
    obtain ⟨p', vs', rfl, t2, r2⟩ := r2
    have l1 := r1.length
    have l2 := r2.length
    have r12 := r1.append r2
    by_cases hx : vs = []
    · subst hx
      have hu := up _ M h.2 (.ref p') H rh Frm.refl ⟨p', vs', rfl, t2, r12⟩
      exact op_catT0 pins s σ H _ _ v u Q I rx ry ⟨p, p', vs', rfl, rfl, t1.sq, t2.sq, hu⟩
    · refine op_catT pins s σ H _ _ v u Q I rx ry ⟨p, p', vs, vs', rfl, rfl, t1.sq, t2.sq, hx, by lia, fun e => ?_, fun _ q hq => ?_⟩
      · subst e
        rw [List.append_nil] at r12
        exact up _ M h.2 (.ref p) H rh Frm.refl ⟨p, vs, rfl, t1, r12⟩
      · exact up _ M h.2 _ _ (rh.new hq) (Frm.new hq) ⟨q, _, rfl, upd_same, r12.mono (Imm.new hq)⟩
  · split at h
    · rename_i xs ys e1 e2
      obtain ⟨p, vs, rfl, t1, r1⟩ := seqL_of rh r1 e1
      obtain ⟨p', vs', rfl, t2, r2⟩ := seqL_of rh r2 e2
      have l1 := r1.length
      have l2 := r2.length
      refine op_catL pins s σ H _ _ v u Q I rx ry ⟨p, p', vs, vs', rfl, rfl, t1, t2, by lia, fun q hq => ?_⟩
      exact up _ _ (h.2 q (rh.fresh hq)) _ _ (rh.put (by rw [hq]; trivial) ⟨_, upd_same, (r1.append r2).mono (Imm.new hq)⟩) (Frm.put (.inl hq)) rfl
    · exact h.elim
noncomputable def oI (C : Int → Int → Prop) (g : Int → Int → D) : dR2 := fun x y M Q => match x, y with
  | .int i, .int j => C i j ∧ Q (g i j) M
  | _, _ => False
theorem op_i {f : Value → Value → Sem Value} {C : Int → Int → Prop} {g : Int → Int → V} {g' : Int → Int → D} (h : OpR X f (rI C g)) (e : ∀ i j K H, Rp K H (g' i j) (g i j)) : OpR X f (liftR2 X (oI C g')) := by
  intro pins s σ H x y v u Q I rx ry hq
  obtain ⟨d1, d2, M, QQ, rh, r1, r2, hq, up⟩ := hq
  unfold oI at hq
  split at hq
  · cases r1; cases r2
    exact h pins s σ H _ _ v u Q I rx ry ⟨_, _, rfl, rfl, hq.1, up _ M hq.2 _ H rh Frm.refl (e _ _ _ _)⟩
  · exact hq.elim
noncomputable def oI0 (g : Int → Int → D) : dR2 := fun x y M Q => match x, y with
  | .int i, .int j => Q (g i j) M
  | _, _ => False
theorem op_i0 {f : Value → Value → Sem Value} {g : Int → Int → V} {g' : Int → Int → D} (h : OpR X f (rI0 g)) (e : ∀ i j K H, Rp K H (g' i j) (g i j)) : OpR X f (liftR2 X (oI0 g')) := by
  intro pins s σ H x y v u Q I rx ry hq
  obtain ⟨d1, d2, M, QQ, rh, r1, r2, hq, up⟩ := hq
  unfold oI0 at hq
  split at hq
  · cases r1; cases r2
    exact h pins s σ H _ _ v u Q I rx ry ⟨_, _, rfl, rfl, up _ M hq _ H rh Frm.refl (e _ _ _ _)⟩
  · exact hq.elim
noncomputable abbrev oSub : dR2 := oI0 fun i j => .int (i - j)
theorem op_sub' : OpR X (binaryOp .Sub) (liftR2 X oSub) := op_i0 op_sub fun _ _ _ _ => rfl
noncomputable abbrev oMod : dR2 := oI (fun _ j => 0 < j) fun i j => .int (i % j)
theorem op_mod' : OpR X (binaryOp .Mod) (liftR2 X oMod) := op_i op_mod fun _ _ _ _ => rfl
noncomputable def CFdiv (_ j : Int) : Prop := 0 < j ∧ j < 2 ^ 200
theorem op_fdivA : OpR X (binaryOp .FloorDiv) (rI CFdiv fun i j => .int (i / j)) := by
  intro pins s σ H x y v u Q I rx ry h
  obtain ⟨i, j, rfl, rfl, hc, q⟩ := h
  obtain ⟨h0, h1⟩ := hc
  have hj : ((j.toNat : Nat) : Int) = j := by lia
  refine op_fdivB (n := j.toNat) ?_ (by lia) pins s σ H _ _ v u Q I rx ry ⟨i, j, rfl, rfl, hj.symm, q⟩
  have hlt : j.toNat < 2 ^ 200 := by
    have : ((j.toNat : Nat) : Int) < ((2 ^ 200 : Nat) : Int) := by rw [hj, Int.natCast_pow]; exact h1
    exact Int.ofNat_lt.mp this
  have := (Nat.log2_lt (n := j.toNat) (k := 200) (by lia)).mpr hlt
  lia
noncomputable abbrev oFdiv : dR2 := oI CFdiv fun i j => .int (i / j)
theorem op_fdiv' : OpR X (binaryOp .FloorDiv) (liftR2 X oFdiv) := op_i op_fdivA fun _ _ _ _ => rfl
noncomputable abbrev oPow : dR2 := oI CPow fun i j => .int (i ^ j.toNat)
theorem op_pow' : OpR X (binaryOp .Pow) (liftR2 X oPow) := op_i op_pow fun _ _ _ _ => rfl
noncomputable abbrev oXor : dR2 := oI0 fun i j => .int (Builtin.bitXor i j)
theorem op_xor' : OpR X (binaryOp .BitXor) (liftR2 X oXor) := op_i0 op_xor fun _ _ _ _ => rfl
noncomputable abbrev oLt : dR2 := oI0 fun i j => .bl (decide (i < j))
theorem op_lt' : OpR X (compareOp .Lt) (liftR2 X oLt) := op_i0 op_lt fun _ _ _ _ => rfl
noncomputable abbrev oLe : dR2 := oI0 fun i j => .bl (decide (i ≤ j))
theorem op_le' : OpR X (compareOp .LtE) (liftR2 X oLe) := op_i0 op_le fun _ _ _ _ => rfl
noncomputable abbrev oGt : dR2 := oI0 fun i j => .bl (decide (j < i))
theorem op_gt' : OpR X (compareOp .Gt) (liftR2 X oGt) := op_i0 op_gt fun _ _ _ _ => rfl
noncomputable abbrev oGe : dR2 := oI0 fun i j => .bl (decide (j ≤ i))
theorem op_ge' : OpR X (compareOp .GtE) (liftR2 X oGe) := op_i0 op_ge fun _ _ _ _ => rfl
theorem rep_eq {c : Nat} : ∀ (k : Nat) (acc : Array Nat), (List.replicate k #[c]).foldl (· ++ ·) acc = acc ++ Array.replicate k c
  | 0, acc => by simp
  | k + 1, acc => by
    rw [List.replicate_succ, List.foldl_cons, rep_eq k (acc ++ #[c])]
    apply Array.ext'
    simp [List.replicate_succ]
theorem op_repSx : OpR X (binaryOp .Mult) (fun x y H Q => ∃ c k, x = .str ⟨#[c]⟩ ∧ y = .int k ∧ 1 ≤ k ∧ k ≤ 1000 ∧ Q (.str ⟨Array.replicate k.toNat c⟩) H) := by
  intro pins s σ H x y v u Q I rx ry h
  obtain ⟨c, k, rfl, rfl, h1, h2, q⟩ := h
  obtain ⟨t, rfl⟩ := rx
  obtain ⟨t', rfl⟩ := ry
  have hlen : (⟨#[c]⟩ : Str).length = 1 := rfl
  have hsl : sizeLine = 16777216 := rfl
  refine PySem.P.mul_str ?_ ?_ ?_ ?_
  · rw [decide_eq_false (by lia), decide_eq_false (by lia)]; rfl
  · intro _ _ hc
    rw [hlen] at hc
    have : (1 : Int) ≤ (2 ^ 63 - 1) / k := Int.le_ediv_of_mul_le (by lia) (by lia)
    lia
  · intro _ _
    rw [hlen]
    unfold PySem.Builtin.Str.tooLong
    exact decide_eq_false (by lia)
  · rw [if_neg (by lia)]
    by_cases hk : k = 1
    · rw [if_pos (by rw [hk]; rfl)]
      subst hk
      exact ⟨.str ⟨#[c]⟩, H, I, ⟨_, rfl⟩, q⟩
    · rw [if_neg (by simp [hlen, hk])]
      have he : (List.replicate k.toNat #[c]).foldl (· ++ ·) #[] = Array.replicate k.toNat c := by rw [rep_eq]; simp
      refine ⟨?_, .str ⟨(List.replicate k.toNat #[c]).foldl (· ++ ·) #[]⟩, H, I.tok _, ⟨_, rfl⟩, by rw [he]; exact q⟩
      show ((List.replicate k.toNat #[c]).foldl (· ++ ·) #[]).size ≤ sizeLine
      rw [he]
      simp
      lia
noncomputable def oMul : dR2 := fun x y M Q => match x, y with
  | .int i, .int j => CMul i j ∧ Q (.int (i * j)) M
  | .str z, .int k => match z.cps.toList with
    | [c] => 1 ≤ k ∧ k ≤ 1000 ∧ Q (.str ⟨Array.replicate k.toNat c⟩) M
    | _ => False
  | .tup xs, .int k => xs ≠ [] ∧ 0 ≤ k ∧ k ≤ 1000 ∧ xs.length ≤ 1000 ∧ Q (.tup (List.replicate k.toNat xs).flatten) M
  | _, _ => False
theorem Rps.rep {ds : List D} {vs : List V} (h : Rps K H ds vs) : ∀ k : Nat, Rps K H (List.replicate k ds).flatten (List.replicate k vs).flatten
  | 0 => rfl
  | k + 1 => by
    rw [List.replicate_succ, List.replicate_succ, List.flatten_cons, List.flatten_cons]
    exact h.append (Rps.rep h k)
theorem op_mul' : OpR X (binaryOp .Mult) (liftR2 X oMul) := by
  intro pins s σ H x y v u Q I rx ry h
  obtain ⟨d1, d2, M, QQ, rh, r1, r2, h, up⟩ := h
  cases d1 with
  | int i =>
    cases d2 with
    | int j =>
      cases r1; cases r2
      exact op_mul pins s σ H _ _ v u Q I rx ry ⟨_, _, rfl, rfl, h.1, up _ M h.2 _ H rh Frm.refl rfl⟩
    | _ => exact (show False from h).elim
  | str z =>
    cases d2 with
    | int k =>
      cases r1; cases r2
      simp only [oMul] at h
      split at h
      · rename_i c e
        have ez : z = ⟨#[c]⟩ := by
          obtain ⟨⟨l⟩⟩ := z
          have e' : l = [c] := e
          rw [e']
        subst ez
        exact op_repSx pins s σ H _ _ v u Q I rx ry ⟨_, _, rfl, rfl, h.1, h.2.1, up _ M h.2.2 _ H rh Frm.refl rfl⟩
      · exact h.elim
    | _ => exact (show False from h).elim
  | tup xs =>
    cases d2 with
    | int k =>
      obtain ⟨p, vs, rfl, t1, r1⟩ := r1
      cases r2
      obtain ⟨h1, h2, h3, h4, h5⟩ := h
      have l1 := r1.length
      obtain ⟨t, rfl⟩ := ry
      cases rx
      obtain ⟨its, r, pt, _⟩ := I.tuple t1.sq
      have hl := r.length
      refine mul_tuple pt (fun z => h1 ?_) h2 h3 (by lia) (fun e => ?_) fun e => ?_
      · have hz : its.length = 0 := congrArg List.length z
        exact List.eq_nil_of_length_eq_zero (by lia)
      · subst e
        refine ⟨.ref p, H, I, rfl, up _ M h5 _ H rh Frm.refl ⟨p, vs, rfl, t1, ?_⟩⟩
        simpa using r1
      · have hf : H s.heap.objs.size = none := I.hok.fresh (Nat.le_refl _)
        have hz : (List.replicate k.toNat vs).flatten.length ≤ sizeLine := by
          rw [len_rep]
          have h1 : k.toNat * vs.length ≤ 1000 * 1000 := Nat.mul_le_mul (by lia) (by lia)
          exact Nat.le_trans h1 (by decide)
        have i2 : Imm H (upd H s.heap.objs.size (.tup (List.replicate k.toNat vs).flatten)) := Imm.new hf
        exact ⟨.ref s.heap.objs.size, _, I.laid (t' := s.toks) (o := .tup (List.replicate k.toNat vs).flatten) (fun b ob z => Heap.get?_push_of_some _ z) (Nat.le_refl _) ⟨hz, _, r.rep k.toNat, ⟨_, Heap.get?_push_size _ rfl, ⟨rfl, _, rfl⟩, rfl⟩⟩, rfl,
          up _ M h5 _ _ (rh.new hf) (Frm.new hf) ⟨_, _, rfl, upd_same, (r1.rep _).mono i2⟩⟩
    | _ => exact (show False from h).elim
  | _ => exact (show False from h).elim
noncomputable def isNon : D → Bool
  | .non => true
  | _ => false
noncomputable def oIsN : dR2 := fun x y M Q => match y with
  | .non => Q (.bl (isNon x)) M
  | _ => False
noncomputable def oNotN : dR2 := fun x y M Q => match y with
  | .non => Q (.bl (!isNon x)) M
  | _ => False
theorem isN_of (r : Rp K H d v) : decide (v = V.non) = isNon d := by
  cases d with
  | non => cases r; rfl
  | tup xs => obtain ⟨p, vs, rfl, _⟩ := r; rfl
  | lst xs => obtain ⟨p, vs, rfl, _⟩ := r; rfl
  | mt xs => obtain ⟨p, vs, rfl, _⟩ := r; rfl
  | ml xs => obtain ⟨p, vs, rfl, _⟩ := r; rfl
  | _ => cases r; rfl
theorem op_isN' : OpR X (compareOp .Is) (liftR2 X oIsN) := by
  intro pins s σ H x y v u Q I rx ry h
  obtain ⟨d1, d2, M, QQ, rh, r1, r2, h, up⟩ := h
  unfold oIsN at h
  split at h
  · cases r2
    exact op_isN pins s σ H _ _ v u Q I rx ry ⟨rfl, by rw [isN_of r1]; exact up _ M h _ H rh Frm.refl rfl⟩
  · exact h.elim
theorem op_notN' : OpR X (compareOp .IsNot) (liftR2 X oNotN) := by
  intro pins s σ H x y v u Q I rx ry h
  obtain ⟨d1, d2, M, QQ, rh, r1, r2, h, up⟩ := h
  unfold oNotN at h
  split at h
  · cases r2
    refine op_notN pins s σ H _ _ v u Q I rx ry ⟨rfl, up _ M h _ H rh Frm.refl ?_⟩
    show _ = V.bl _
    rw [isN_of r1]
  · exact h.elim
end
end L3

namespace L3
open PySem L2
section
variable {κ : Type} [DecidableEq κ]
noncomputable def valD (kvs : List (κ × D)) (k : κ) : Option D := (kvs.find? fun kv => decide (kv.1 = k)).map (·.2)
noncomputable def putD (kvs : List (κ × D)) (k : κ) (v : D) : List (κ × D) :=
  if (kvs.any fun kv => decide (kv.1 = k)) = true then kvs.map (fun kv => if kv.1 = k then (kv.1, v) else kv) else kvs ++ [(k, v)]
variable {K : PySem.W.Frag} {H : Hp}
theorem Rkv.val {kvs : List (κ × D)} {ws : List (κ × V)} (h : Rkv K H kvs ws) (k : κ) : (valD kvs k = none ∧ valV ws k = none) ∨ ∃ d v, valD kvs k = some d ∧ valV ws k = some v ∧ Rp K H d v := by
  induction h with
  | nil => exact .inl ⟨rfl, rfl⟩
  | @cons p q ps qs r t ih =>
    obtain ⟨k1, d⟩ := p
    obtain ⟨k2, v⟩ := q
    obtain ⟨e, r⟩ := r
    dsimp only at e r
    subst e
    by_cases hk : k1 = k
    · exact .inr ⟨d, v, by simp [valD, hk], by simp [valV, hk], r⟩
    · simpa [valD, valV, hk] using ih
theorem Rkv.any {kvs : List (κ × D)} {ws : List (κ × V)} (h : Rkv K H kvs ws) (k : κ) : (kvs.any fun kv => decide (kv.1 = k)) = (ws.any fun kv => decide (kv.1 = k)) := by
  induction h with
  | nil => rfl
  | cons r t ih => rw [List.any_cons, List.any_cons, ih, r.1]
theorem Rkv.put {kvs : List (κ × D)} {ws : List (κ × V)} (h : Rkv K H kvs ws) (k : κ) {d : D} {v : V} (r : Rp K H d v) : Rkv K H (putD kvs k d) (putK ws k v) := by
  unfold putD putK
  rw [h.any k]
  split
  · rename_i q; clear q
    induction h with
    | nil => exact .nil
    | @cons p q ps qs rr t ih =>
      obtain ⟨k1, d'⟩ := p
      obtain ⟨k2, v'⟩ := q
      obtain ⟨e, r'⟩ := rr
      dsimp only at e r'
      subst e
      rw [List.map_cons, List.map_cons]
      refine .cons ?_ ih
      by_cases hk : k1 = k
      · rw [if_pos hk, if_pos hk]; exact ⟨rfl, r⟩
      · rw [if_neg hk, if_neg hk]; exact ⟨rfl, r'⟩
  · rename_i q; clear q
    induction h with
    | nil => exact .cons ⟨rfl, r⟩ .nil
    | cons rr t ih => exact .cons rr ih
theorem Rkv.length {kvs : List (κ × D)} {ws : List (κ × V)} (h : Rkv K H kvs ws) : kvs.length = ws.length := Paired.length h
end
noncomputable def keyOf : D → Option Key
  | .int i => some (.inl i)
  | .str x => some (.inr x)
  | _ => none
noncomputable def keysOf : List D → Option (List Key)
  | [] => some []
  | d :: ds => match keyOf d, keysOf ds with
    | some k, some ks => some (k :: ks)
    | _, _ => none
noncomputable def keyT : D → Option (List Key)
  | .tup xs => keysOf xs
  | _ => none
section
variable {X : Cx} {K : PySem.W.Frag} {H : Hp} {M : Mem}
theorem key_rel {d : D} {v : V} {k : Key} (r : Rp K H d v) (e : keyOf d = some k) : v = kV k := by
  cases d with
  | int i => cases e; exact r
  | str x => cases e; exact r
  | _ => cases e
theorem keys_rel : ∀ {ds : List D} {vs : List V} {ks : List Key}, Rps K H ds vs → keysOf ds = some ks → vs = ks.map kV
  | [], vs, ks, r, e => by cases e; exact r
  | d :: ds, vs, ks, r, e => by
    obtain ⟨v, r', rfl, a, b⟩ := r
    simp only [keysOf] at e
    split at e
    · rename_i k ks' e1 e2
      cases e
      rw [key_rel a e1, keys_rel b e2]
      rfl
    · cases e
noncomputable def dget (M : Mem) (a : Addr) (y : D) : Option (Option D) := match M a with
  | some (.dK kvs) => match keyOf y with
    | some k => some (valD kvs k)
    | none => none
  | some (.dT kvs) => match keyT y with
    | some k => some (valD kvs k)
    | none => none
  | _ => none
theorem keyT_rel {d : D} {v : V} {ks : List Key} (r : Rp K H d v) (e : keyT d = some ks) : ∃ b, v = .ref b ∧ H b = some (.tup (ks.map kV)) := by
  cases d with
  | tup xs =>
    obtain ⟨p, vs, rfl, t, r⟩ := r
    exact ⟨p, rfl, by rw [← keys_rel r e]; exact t⟩
  | _ => cases e
theorem dget_of {a : Addr} {y : D} {v : V} {o : Option D} (rh : RepH K H M) (r : Rp K H y v) (e : dget M a y = some o) :
    (o = none ∧ DGet H a v none) ∨ ∃ d w, o = some d ∧ DGet H a v (some w) ∧ Rp K H d w := by
  unfold dget at e
  split at e
  · rename_i kvs hM
    obtain ⟨ws, h1, h2⟩ := rh _ _ hM
    split at e
    · rename_i k ek
      cases e
      have ev := key_rel r ek
      subst ev
      rcases h2.val k with ⟨e1, e2⟩ | ⟨d, w, e1, e2, r'⟩
      · exact .inl ⟨e1, by rw [← e2]; exact DGet.k h1⟩
      · exact .inr ⟨d, w, e1, by rw [← e2]; exact DGet.k h1, r'⟩
    · cases e
  · rename_i kvs hM
    obtain ⟨ws, h1, h2⟩ := rh _ _ hM
    split at e
    · rename_i k ek
      cases e
      obtain ⟨b, rfl, hb⟩ := keyT_rel r ek
      rcases h2.val k with ⟨e1, e2⟩ | ⟨d, w, e1, e2, r'⟩
      · exact .inl ⟨e1, by rw [← e2]; exact DGet.t h1 hb⟩
      · exact .inr ⟨d, w, e1, by rw [← e2]; exact DGet.t h1 hb, r'⟩
    · cases e
  · cases e
end
end L3

namespace HT
open PySem PyProof.Rows
section
variable {prog : Program} {w : World} {A : Around} {E : Value → Shared → Prop} {s : Shared}
theorem getItem_tuple_whole {t sl : Addr} {items : Array Value} {vl vu : Value} {lo hi : Option Int} {Q : Value → Shared → Prop} (ht : IsTup s.heap t items) (hs : s.heap.IsSliceOf sl vl vu .none) (pl : IsPart vl lo) (pu : IsPart vu hi)
    (hw : sIx items.size 0 lo = 0 ∧ sIx items.size items.size hi = items.size) (h : Q (.ref t) s) : wpAny (model prog w) A (getItem (.ref t) (.ref sl)) Q E s := by
  obtain ⟨os, hos, hcs, hds⟩ := id hs
  have hTs : s.TypeIs (.ref sl) "slice" := ⟨os, hos, hcs⟩
  unfold getItem
  try with_reducible refine wpAny_holding ?_
  first | refine wpAny_bind (wpAny_pure ?_) | skip
  refine wpAny_bind (wpAny_sequenceKey ht.typeIs (by decide) ?_)
  refine wpAny_bind (wpAny_callSpecial?_slot (name := Str.ofString "__getitem__") ht.typeIs PyProof.Rows.slot_tuple_getitem
    (wpAny_call_entry PyProof.Rows.slot_tuple_getitem ht.typeIs entry_tuple_getitem ?_ (args_tuple_getitem _ _)))
  show wpAny _ _ (Builtin.Tuple.tupleItemsOf (.ref t) >>= _) _ _ s
  refine wpAny_bind (tupleItemsOf_ ht ?_)
  refine wpAny_bind (wpAny_typeOf hTs ?_)
  rw [if_pos (by decide)]
  refine wpAny_bind (sliceApplied_gen hs pl pu ?_)
  have hyes : ((((sIx items.size 0 lo : Nat) : Int) == 0 && (1 : Int) == 1 && (sIx items.size items.size hi - sIx items.size 0 lo) == items.size) = true) := by
    rw [hw.1, hw.2]; simp
  show wpAny _ _ (if (((sIx items.size 0 lo : Nat) : Int) == 0 && (1 : Int) == 1 && (sIx items.size items.size hi - sIx items.size 0 lo) == items.size) = true then _ else _) _ _ s
  rw [if_pos hyes]
  refine wpAny_bind (m := Builtin.Tuple.tupleIsExact _) (wpAny_bind (wpAny_typeOf ht.typeIs (wpAny_pure ?_)))
  rw [if_pos (by decide)]
  first
    | exact wpAny_bind (wpAny_rule (wpAny_bind (wpAny_pure (wpAny_pure ⟨_, rfl, wpAny_pure h⟩))))
    | exact wpAny_bind (wpAny_rule (wpAny_pure ⟨_, rfl, wpAny_pure h⟩))
    | exact wpAny_bind (wpAny_rule (wpAny_bind (wpAny_pure ⟨_, rfl, wpAny_pure h⟩)))
    | trace_state
end
end HT
namespace L3
open PySem L2
section
variable {X : Cx} {B : Mem} {K : PySem.W.Frag} {H : Hp} {M : Mem} {a b c : Expr} {ta tb tc : dTE} {pos : Pos}
noncomputable def oIx : dR2 := fun x y M Q => match seqD M x, y with
  | some xs, .int i => match atI xs i with
    | some d => Q d M
    | none => False
  | some _, _ => False
  | none, y => match x, y with
    | .str z, .int i => z.length ≤ sizeLine ∧ match atI z.cps.toList i with
      | some c => Q (.str ⟨#[c]⟩) M
      | none => False
    | .ref a, y => match dget M a y with
      | some (some d) => Q d M
      | _ => False
    | _, _ => False
theorem Rps.atI {ds : List D} {vs : List V} {i : Int} {d : D} (r : Rps K H ds vs) (e : atI ds i = some d) : ∃ v, L2.atI vs i = some v ∧ Rp K H d v := by
  unfold L2.atI at e ⊢
  rw [← r.length]
  cases q : ixN ds.length i with
  | none => rw [q] at e; cases e
  | some j =>
    rw [q] at e
    exact r.get (i := j) e
theorem ix_dict (hu : X.A.units + 1 < cLine) : IxR X (fun x y H Q => ∃ a v, x = .ref a ∧ DGet H a y (some v) ∧ Q v H) := by
  intro value slice pins s σ H x y v u Q I rx ry h hs
  obtain ⟨a, w, rfl, g, q⟩ := h
  cases rx
  exact PyProof.Rows.tail_any (dict_typeIs I g) PySem.F.slot_dict_getitem.lookup (d_getItem hu I g ry fun w' s3 I3 rw' => ⟨w, H, I3, rw', q⟩) hs
theorem ix_all (hu : X.A.units + 1 < cLine) : IxR X (liftR2 X oIx) := by
  intro value slice pins s σ H x y v u Q I rx ry h hs
  obtain ⟨d1, d2, M, QQ, rh, r1, r2, h, up⟩ := h
  unfold oIx at h
  split at h
  · rename_i xs i e
    split at h
    · rename_i d ed
      cases r2
      obtain ⟨p, vs, rfl, hq, r⟩ := seqD_of rh r1 e
      obtain ⟨w, ew, rw'⟩ := r.atI ed
      refine ix_seq value slice pins s σ H _ _ v u Q I rx ry ?_ hs
      have hu' := up _ M h _ H rh Frm.refl rw'
      rcases hq with hq | hq
      · exact .inl ⟨p, vs, i, w, rfl, rfl, hq, ew, hu'⟩
      · exact .inr (.inl ⟨p, vs, i, w, rfl, rfl, hq, ew, hu'⟩)
    · exact h.elim
  · exact h.elim
  · split at h
    · obtain ⟨hz, h⟩ := h
      split at h
      · rename_i ch ec
        cases r1; cases r2
        exact ix_str value slice pins s σ H _ _ v u Q I rx ry ⟨_, _, ch, rfl, rfl, hz, ec, up _ M h _ H rh Frm.refl rfl⟩ hs
      · exact h.elim
    · split at h
      · rename_i d ed
        cases r1
        rcases dget_of rh r2 ed with ⟨z, _⟩ | ⟨d', w, z, g, rw'⟩
        · cases z
        · cases z
          exact ix_dict hu value slice pins s σ H _ _ v u Q I rx ry ⟨_, w, rfl, g, up _ M h _ H rh Frm.refl rw'⟩ hs
      · exact h.elim
    · exact h.elim
noncomputable abbrev dTO := Dl → Mem → (Option Int → Mem → Prop) → Prop
noncomputable def liftO (X : Cx) (B : Mem) (T : dTO) : TO := fun σ H Q => ∃ δ M QQ, SR X B δ M σ H ∧ T δ M QQ ∧ ∀ o M', QQ o M' → ∀ H', RepH X.K H' M' → Frm M H M' H' → Q o H'
noncomputable def DO (X : Cx) (B : Mem) (e : Option Expr) (T : dTO) : Prop := PO X e (liftO X B T)
theorem po_weak {X : Cx} {e : Option Expr} {t t' : TO} (h : PO X e t) (w : ∀ σ H Q, t' σ H Q → t σ H Q) : PO X e t' := fun pins s σ H Q I q => h pins s σ H Q I (w σ H Q q)
noncomputable def dNoPart : dTO := fun _ M Q => Q none M
noncomputable def dPart (t : dTE) : dTO := fun δ M Q => t δ M fun x M1 => match x with
  | .int i => Q (some i) M1
  | _ => False
theorem do_none : DO X B none dNoPart := po_weak po_none fun σ H Q ⟨δ, M, QQ, s, h, u⟩ => u none M h H s.rh Frm.refl
theorem do_some {e : Expr} {te : dTE} (h : DE X B e te) : DO X B (some e) (dPart te) := by
  refine po_weak (po_some h) ?_
  rintro σ H Q ⟨δ, M, QQ, s, h, u⟩
  refine ⟨δ, M, _, s, h, fun d M' q v H' rh i r => ?_⟩
  cases d with
  | int j => exact ⟨j, r, u _ M' q H' rh i⟩
  | _ => exact (show False from q).elim
noncomputable def cutD (xs : List D) (lo hi : Option Int) : List D := (xs.drop (HT.sIx xs.length 0 lo)).take (HT.sIx xs.length xs.length hi - HT.sIx xs.length 0 lo)
theorem Rps.cut {ds : List D} {vs : List V} (r : Rps K H ds vs) (lo hi : Option Int) : Rps K H (cutD ds lo hi) (cutV vs lo hi) := by
  unfold cutD cutV
  rw [← r.length]
  exact (r.drop _).take _
noncomputable def oSl (x : D) (lo hi : Option Int) (M : Mem) (Q : DK) : Prop := match x with
  | .tup xs => Q (.tup (cutD xs lo hi)) M
  | .ml xs => ∀ p, M p = none → Q (.ref p) (M.upd p (.lst (cutD xs lo hi)))
  | x => match seqL M x with
    | some xs => ∀ p, M p = none → Q (.ref p) (M.upd p (.lst (cutD xs lo hi)))
    | none => False
noncomputable def liftSl (X : Cx) : V → Option Int → Option Int → Hp → VK → Prop := fun x lo hi H Q => ∃ d M QQ, RepH X.K H M ∧ Rp X.K H d x ∧ oSl d lo hi M QQ ∧ Up X.K M H QQ Q
theorem cutV_whole {vs : List V} {lo hi : Option Int} (h : HT.sIx vs.length 0 lo = 0 ∧ HT.sIx vs.length vs.length hi = vs.length) : cutV vs lo hi = vs := by
  unfold cutV
  rw [h.1, h.2]
  simp
theorem sl_tupA : SlR X (fun x lo hi H Q => ∃ a xs, x = .ref a ∧ SqT X.K H a xs ∧ (cutV xs lo hi = xs → Q (.ref a) H) ∧ ∀ p, H p = none → Q (.ref p) (upd H p (.tup (cutV xs lo hi)))) := by
  intro pins s σ H x v vl vu lo hi sl Q I rx hs pl pu h
  obtain ⟨a, xs, rfl, hx, q0, q⟩ := h
  by_cases hw : HT.sIx xs.length 0 lo = 0 ∧ HT.sIx xs.length xs.length hi = xs.length
  · cases rx
    obtain ⟨its, r, ht, hz⟩ := I.tuple hx
    have hlen : its.toArray.size = xs.length := by rw [List.size_toArray]; exact r.length.symm
    refine ⟨"tuple", _, PyProof.Rows.slot_tuple_getitem.lookup, ht.typeIs, ?_⟩
    exact HT.getItem_tuple_whole ht hs pl pu (by rw [hlen]; exact hw) ⟨.ref a, H, I, rfl, q0 (cutV_whole hw)⟩
  · exact sl_tup pins s σ H _ v vl vu lo hi sl Q I rx hs pl pu ⟨a, xs, rfl, hx, hw, q⟩
end
end L3

namespace L3
open PySem L2
section
variable {X : Cx} {B : Mem} {K : PySem.W.Frag} {H : Hp} {M : Mem} {e : Expr} {es : List Expr} {te : dTE} {lo hi : Option Expr} {tl th : dTO} {pos p2 p : Pos} {t : dTA}
theorem sl_all : SlR X (liftSl X) := by
  intro pins s σ H x v vl vu lo hi sl Q I rx hs pl pu h
  obtain ⟨d, M, QQ, rh, r, h, up⟩ := h
  unfold oSl at h
  split at h
  · obtain ⟨a, vs, rfl, ht, r⟩ := r
    refine sl_tupA pins s σ H _ v vl vu lo hi sl Q I rx hs pl pu ⟨a, vs, rfl, ht.sq, fun e => ?_, fun p hp => ?_⟩
    · exact up _ M h _ H rh Frm.refl ⟨a, vs, rfl, ht, by rw [← e]; exact r.cut lo hi⟩
    · exact up _ M h _ _ (rh.new hp) (Frm.new hp) ⟨p, _, rfl, upd_same, (r.cut lo hi).mono (Imm.new hp)⟩
  · obtain ⟨a, vs, rfl, hq, r⟩ := r
    refine sl_list pins s σ H _ v vl vu lo hi sl Q I rx hs pl pu ⟨a, vs, rfl, hq.sq, fun p hp => ?_⟩
    exact up _ _ (h p (rh.fresh hp)) _ _ (rh.put (by rw [hp]; trivial) ⟨_, upd_same, (r.cut lo hi).mono (Imm.new hp)⟩) (Frm.put (.inl hp)) rfl
  · split at h
    · rename_i xs e
      obtain ⟨a, vs, rfl, hq, r⟩ := seqL_of rh r e
      refine sl_list pins s σ H _ v vl vu lo hi sl Q I rx hs pl pu ⟨a, vs, rfl, .inl hq, fun p hp => ?_⟩
      exact up _ _ (h p (rh.fresh hp)) _ _ (rh.put (by rw [hp]; trivial) ⟨_, upd_same, (r.cut lo hi).mono (Imm.new hp)⟩) (Frm.put (.inl hp)) rfl
    · exact h.elim
noncomputable def dSl (te : dTE) (tl th : dTO) : dTE := fun δ M Q => te δ M fun x M1 => tl δ M1 fun l M2 => th δ M2 fun u M3 => oSl x l u M3 Q
theorem de_slice (he : DE X B e te) (hl : DO X B lo tl) (hu : DO X B hi th) : DE X B (.Subscript e (.Slice lo hi none p2) pos) (dSl te tl th) := by
  refine pe_weak (pe_slice sl_all he hl hu) ?_
  rintro σ H Q ⟨δ, M, QQ, s, h, u⟩
  refine ⟨δ, M, _, s, h, fun x M1 h1 v1 H1 rh1 i1 r1 => ?_⟩
  refine ⟨δ, M1, _, s.go rh1 i1, h1, fun l M2 h2 H2 rh2 i2 => ?_⟩
  refine ⟨δ, M2, _, s.go rh2 (i1.trans i2), h2, fun w M3 h3 H3 rh3 i3 => ?_⟩
  exact ⟨x, M3, QQ, rh3, r1.mf rh1 (i2.trans i3), h3, u.go ((i1.trans i2).trans i3)⟩
noncomputable abbrev dRC := List D → Mem → DK → Prop
noncomputable def liftC (X : Cx) (r : dRC) : List V → Hp → VK → Prop := fun xs H Q => ∃ ds M QQ, RepH X.K H M ∧ Rps X.K H ds xs ∧ r ds M QQ ∧ Up X.K M H QQ Q
noncomputable def dCB (r : dRC) (t : dTA) : dTE := fun δ M Q => t δ M fun vs M1 => r vs M1 Q
theorem lift_cb {r : dRC} {σ : L2.St} {H : Hp} {Q : VK} (h : liftE X B (dCB r t) σ H Q) : tCB (liftC X r) (liftA X B t) σ H Q := by
  obtain ⟨δ, M, QQ, s, h, u⟩ := h
  refine ⟨δ, M, _, s, h, fun ds M1 h1 vs H1 rh1 i1 r1 => ?_⟩
  exact ⟨ds, M1, QQ, rh1, r1, h1, u.go i1⟩
theorem de_callB {x : Str} {id : String} {r : dRC} (hc : CallR X (.builtin id) (liftC X r)) (hg : Gl X x) (hm : X.mg x = none) (hv : bootBuiltins x = some (.builtin id)) (ha : DA X B (e :: es) t) (hn : x ≠ "__name__" := by decide) (hdb : (x == ("__debug__" : Str)) = false := by decide)
    (he : starEach (e :: es) X.env = (false, eval e X.env) :: starEach es X.env := by rfl) (hpl : (backTo pos (starEach es X.env)).any (·.1) = false := by rfl) : DE X B (.Call (.Name x p) (e :: es) [] pos) (dCB r t) :=
  pe_weak (pe_callB hc hg hm hv ha hn hdb he hpl) fun _ _ _ h => lift_cb h
theorem de_callTy {x : Str} {T : String} {r : dRC} (hc : CallR X (.type T) (liftC X r)) (hg : Gl X x) (hm : X.mg x = none) (hv : bootBuiltins x = some (.type T)) (ha : DA X B (e :: es) t) (hn : x ≠ "__name__" := by decide) (hdb : (x == ("__debug__" : Str)) = false := by decide)
    (he : starEach (e :: es) X.env = (false, eval e X.env) :: starEach es X.env := by rfl) (hpl : (backTo pos (starEach es X.env)).any (·.1) = false := by rfl) : DE X B (.Call (.Name x p) (e :: es) [] pos) (dCB r t) :=
  pe_weak (pe_callTy hc hg hm hv ha hn hdb he hpl) fun _ _ _ h => lift_cb h
theorem rps1 {ds : List D} {vs : List V} {d : D} (r : Rps K H [d] vs) : ∃ v, vs = [v] ∧ Rp K H d v := by
  obtain ⟨v, w, rfl, a, b⟩ := r
  cases b
  exact ⟨v, rfl, a⟩
theorem rps2 {vs : List V} {d e : D} (r : Rps K H [d, e] vs) : ∃ v w, vs = [v, w] ∧ Rp K H d v ∧ Rp K H e w := by
  obtain ⟨v, w, rfl, a, b⟩ := r
  obtain ⟨v', w', rfl, a', b⟩ := b
  cases b
  exact ⟨v, v', rfl, a, a'⟩
noncomputable def cLen : dRC := fun ds M Q => match ds with
  | [d] => match seqD M d with
    | some xs => Q (.int xs.length) M
    | none => match d with
      | .str z => z.length ≤ sizeLine ∧ Q (.int z.length) M
      | .ref a => match M a with
        | some (.dK kvs) => Q (.int kvs.length) M
        | _ => False
      | _ => False
  | _ => False
theorem call_len' : CallR X (.builtin "len") (liftC X cLen) := by
  intro pins s σ H xs us Q I r h
  obtain ⟨ds, M, QQ, rh, rp, h, up⟩ := h
  unfold cLen at h
  split at h
  · obtain ⟨v, rfl, rv⟩ := rps1 (ds := []) rp
    split at h
    · rename_i ys e
      obtain ⟨q, vs, rfl, hq, rr⟩ := seqD_of rh rv e
      exact call_len_seq pins s σ H _ us Q I r ⟨q, vs, rfl, hq, by rw [← rr.length]; exact up _ M h _ H rh Frm.refl rfl⟩
    · split at h
      · cases rv
        exact call_len_str pins s σ H _ us Q I r ⟨_, rfl, h.1, up _ M h.2 _ H rh Frm.refl rfl⟩
      · split at h
        · rename_i kvs e
          cases rv
          obtain ⟨ws, h1, h2⟩ := rh _ _ e
          exact call_lenD pins s σ H _ us Q I r ⟨_, ws, rfl, h1, by rw [← h2.length]; exact up _ M h _ H rh Frm.refl rfl⟩
        · exact h.elim
      · exact h.elim
  · exact h.elim
noncomputable def cList : dRC := fun ds M Q => match ds with
  | [d] => match seqD M d with
    | some xs => ∀ p, M p = none → Q (.ref p) (M.upd p (.lst xs))
    | none => False
  | _ => False
theorem call_list' : CallR X (.type "list") (liftC X cList) := by
  intro pins s σ H xs us Q I r h
  obtain ⟨ds, M, QQ, rh, rp, h, up⟩ := h
  unfold cList at h
  split at h
  · obtain ⟨v, rfl, rv⟩ := rps1 (ds := []) rp
    split at h
    · rename_i ys e
      obtain ⟨q, vs, rfl, hq, rr⟩ := seqD_of rh rv e
      refine call_list_of pins s σ H _ us Q I r ⟨q, vs, rfl, hq, fun p hp => ?_⟩
      exact up _ _ (h p (rh.fresh hp)) _ _ (rh.put (by rw [hp]; trivial) ⟨_, upd_same, rr.mono (Imm.new hp)⟩) (Frm.put (.inl hp)) rfl
    · exact h.elim
  · exact h.elim
noncomputable def cTuple : dRC := fun ds M Q => match ds with
  | [.tup xs] => Q (.tup xs) M
  | [d] => match seqL M d with
    | some xs => Q (.tup xs) M
    | none => False
  | _ => False
theorem call_tuple' : CallR X (.type "tuple") (liftC X cTuple) := by
  intro pins s σ H xs us Q I r h
  obtain ⟨ds, M, QQ, rh, rp, h, up⟩ := h
  unfold cTuple at h
  split at h
  · obtain ⟨v, rfl, rv⟩ := rps1 (ds := []) rp
    obtain ⟨q, vs, rfl, ht, rr⟩ := rv
    exact call_tuple_of pins s σ H _ us Q I r ⟨q, vs, rfl, .inr ⟨ht.sq, up _ M h _ H rh Frm.refl ⟨q, vs, rfl, ht, rr⟩⟩⟩
  · obtain ⟨v, rfl, rv⟩ := rps1 (ds := []) rp
    split at h
    · rename_i ys e
      obtain ⟨q, vs, rfl, hq, rr⟩ := seqL_of rh rv e
      refine call_tuple_of pins s σ H _ us Q I r ⟨q, vs, rfl, .inl ⟨.inl hq, fun p hp => ?_⟩⟩
      exact up _ M h _ _ (rh.new hp) (Frm.new hp) ⟨p, _, rfl, upd_same, rr.mono (Imm.new hp)⟩
    · exact h.elim
  · exact h.elim
noncomputable def tyName (M : Mem) : D → Option String
  | .non => some "NoneType"
  | .bl _ => some "bool"
  | .int _ => some "int"
  | .str _ => some "str"
  | .tup _ => some "tuple"
  | .lst _ => some "list"
  | .ref a => match M a with
    | some (.lst _) => some "list"
    | some (.dK _) => some "dict"
    | some (.dT _) => some "dict"
    | _ => none
  | _ => none
noncomputable def isInst (t T : String) : Bool := t == T || (t == "bool" && T == "int")
noncomputable def tyOk (T : String) : Bool := T == "bool" || T == "int" || T == "str" || T == "tuple" || T == "list" || T == "dict"
theorem kit_all : (∀ K : PySem.W.Frag, ∀ t ∈ ["NoneType", "bool", "int", "str", "tuple", "list", "dict"], ∀ T ∈ ["bool", "int", "str", "tuple", "list", "dict"], PySem.W.kitOne K (.type t) (.type T) = some (isInst t T)) := by
  intro K t ht T hT
  simp only [List.mem_cons, List.not_mem_nil, or_false] at ht hT
  rcases ht with rfl | rfl | rfl | rfl | rfl | rfl | rfl <;> rcases hT with rfl | rfl | rfl | rfl | rfl | rfl <;> kernel_rfl
theorem tyOf_of {d : D} {v : V} {t : String} (rh : RepH K H M) (r : Rp K H d v) (e : tyName M d = some t) : TyOf K H v (.type t) ∧ t ∈ ["NoneType", "bool", "int", "str", "tuple", "list", "dict"] := by
  cases d with
  | non => cases r; cases e; exact ⟨.non, by simp⟩
  | bl b => cases r; cases e; exact ⟨.bl b, by simp⟩
  | int i => cases r; cases e; exact ⟨.int i, by simp⟩
  | str x => cases r; cases e; exact ⟨.str x, by simp⟩
  | ty n => cases e
  | mt n => cases e
  | ml n => cases e
  | tup xs =>
    cases e
    obtain ⟨q, vs, rfl, ht, rr⟩ := r
    exact ⟨.tup ht, by simp⟩
  | lst xs =>
    cases e
    obtain ⟨q, vs, rfl, ⟨o, ht⟩, rr⟩ := r
    exact ⟨.frz ht, by simp⟩
  | ref a =>
    cases r
    simp only [tyName] at e
    split at e
    · rename_i q; cases e; obtain ⟨ws, h1, h2⟩ := rh _ _ q; exact ⟨.lst h1, by simp⟩
    · rename_i q; cases e; obtain ⟨ws, h1, h2⟩ := rh _ _ q; exact ⟨.dK h1, by simp⟩
    · rename_i q; cases e; obtain ⟨ws, h1, h2⟩ := rh _ _ q; exact ⟨.dT h1, by simp⟩
    · cases e
noncomputable def cInst : dRC := fun ds M Q => match ds with
  | [d, .ty T] => tyOk T = true ∧ match tyName M d with
    | some t => Q (.bl (isInst t T)) M
    | none => False
  | _ => False
theorem call_isinst' : CallR X (.builtin "isinstance") (liftC X cInst) := by
  intro pins s σ H xs us Q I r h
  obtain ⟨ds, M, QQ, rh, rp, h, up⟩ := h
  unfold cInst at h
  split at h
  · rename_i d T
    obtain ⟨hT, h⟩ := h
    obtain ⟨v, w, rfl, rv, rw'⟩ := rps2 rp
    cases rw'
    split at h
    · rename_i t e
      obtain ⟨ty, ht⟩ := tyOf_of rh rv e
      refine call_isinst pins s σ H _ us Q I r ⟨v, T, .type t, _, rfl, ty, kit_all X.K t ht T ?_, up _ M h _ H rh Frm.refl rfl⟩
      simp only [tyOk, Bool.or_eq_true, beq_iff_eq] at hT
      simp only [List.mem_cons, List.not_mem_nil, or_false]
      rcases hT with ((((h | h) | h) | h) | h) | h <;> simp [h]
    · exact h.elim
  · exact h.elim
noncomputable def bools : List D → Option (List Bool)
  | [] => some []
  | .bl b :: ds => match bools ds with
    | some bs => some (b :: bs)
    | none => none
  | _ => none
theorem bools_rel : ∀ {ds : List D} {vs : List V} {bs : List Bool}, Rps K H ds vs → bools ds = some bs → vs = bs.map V.bl
  | [], vs, bs, r, e => by cases e; exact r
  | d :: ds, vs, bs, r, e => by
    obtain ⟨v, r', rfl, a, b⟩ := r
    cases d with
    | bl c =>
      simp only [bools] at e
      split at e
      · rename_i bs' e2
        cases e
        cases a
        rw [bools_rel b e2]
        rfl
      · cases e
    | _ => cases e
noncomputable def cAll : dRC := fun ds M Q => match ds with
  | [d] => match seqL M d with
    | some xs => match bools xs with
      | some bs => Q (.bl (bs.all id)) M
      | none => False
    | none => False
  | _ => False
theorem call_all' (hc : X.calm = true) : CallR X (.builtin "all") (liftC X cAll) := by
  intro pins s σ H xs us Q I r h
  obtain ⟨ds, M, QQ, rh, rp, h, up⟩ := h
  unfold cAll at h
  split at h
  · obtain ⟨v, rfl, rv⟩ := rps1 (ds := []) rp
    split at h
    · rename_i ys e
      split at h
      · rename_i bs eb
        obtain ⟨q, vs, rfl, hq, rr⟩ := seqL_of rh rv e
        have ev := bools_rel rr eb
        subst ev
        exact call_all hc pins s σ H _ us Q I r ⟨q, bs, rfl, .inl hq, up _ M h _ H rh Frm.refl rfl⟩
      · exact h.elim
    · exact h.elim
  · exact h.elim
noncomputable def cMin : dRC := fun ds M Q => match ds with
  | [.int i, .int j] => Q (.int (if j < i then j else i)) M
  | _ => False
theorem call_min' (hc : X.calm = true) : CallR X (.builtin "min") (liftC X cMin) := by
  intro pins s σ H xs us Q I r h
  obtain ⟨ds, M, QQ, rh, rp, h, up⟩ := h
  unfold cMin at h
  split at h
  · obtain ⟨v, w, rfl, rv, rw'⟩ := rps2 rp
    cases rv; cases rw'
    exact call_min2 hc pins s σ H _ us Q I r ⟨_, _, rfl, up _ M h _ H rh Frm.refl rfl⟩
  · exact h.elim
end
end L3

namespace L3
open PySem L2
mutual
noncomputable def deq : D → D → Bool
  | .non, .non => true
  | .bl a, .bl b => a == b
  | .bl a, .int b => (if a then 1 else 0) == b
  | .int a, .bl b => a == (if b then 1 else 0)
  | .int a, .int b => decide (a = b)
  | .str a, .str b => decide (a = b)
  | .tup xs, .tup ys => deqs xs ys
  | .lst xs, .lst ys => deqs xs ys
  | _, _ => false
noncomputable def deqs : List D → List D → Bool
  | [], [] => true
  | x :: xs, y :: ys => deq x y && deqs xs ys
  | _, _ => false
end
mutual
noncomputable def fit : Nat → D → Bool
  | _, .non => true
  | _, .bl _ => true
  | _, .int _ => true
  | _, .str _ => true
  | n + 1, .tup xs => fits n xs
  | n + 1, .lst xs => fits n xs
  | _, _ => false
noncomputable def fits : Nat → List D → Bool
  | _, [] => true
  | n, x :: xs => fit n x && fits n xs
end
mutual
noncomputable def Hr (h : Heap) : D → Value → Prop
  | .non, u => u = .none
  | .bl b, u => u = .bool b
  | .int i, u => ∃ t, u = .int i t
  | .str x, u => ∃ t, u = .str x t
  | .tup xs, u => ∃ p its, u = .ref p ∧ h.IsTuple p (List.toArray its) ∧ Hrs h xs its
  | .lst xs, u => ∃ p its, u = .ref p ∧ h.IsList p (List.toArray its) ∧ Hrs h xs its
  | _, _ => False
noncomputable def Hrs (h : Heap) : List D → List Value → Prop
  | [], us => us = []
  | x :: xs, us => ∃ u r, us = u :: r ∧ Hr h x u ∧ Hrs h xs r
end
section
variable {h : Heap}
theorem Hrs.length : ∀ {ds : List D} {us : List Value}, Hrs h ds us → ds.length = us.length
  | [], _, q => by cases q; rfl
  | _ :: _, _, q => by obtain ⟨v, r, rfl, _, b⟩ := q; simp [b.length]
theorem Hrs.get : ∀ {ds : List D} {us : List Value}, Hrs h ds us → ∀ (i : Nat) (h1 : i < ds.length) (h2 : i < us.length), Hr h ds[i] us[i]
  | [], _, _, i, h1, _ => absurd h1 (Nat.not_lt_zero _)
  | x :: xs, _, q, i, h1, h2 => by
    obtain ⟨v, r, rfl, a, b⟩ := q
    cases i with
    | zero => exact a
    | succ i => exact b.get i (by simpa using h1) (by simpa using h2)
theorem isT_inj {p : Addr} {a b : Array Value} (x : h.IsTuple p a) (y : h.IsTuple p b) : a = b := by
  obtain ⟨o, h1, _, n, h2⟩ := x
  obtain ⟨o', h1', _, n', h2'⟩ := y
  rw [h1] at h1'; cases h1'
  rw [h2] at h2'
  injection h2' with e _
theorem isL_inj {p : Addr} {a b : Array Value} (x : h.IsList p a) (y : h.IsList p b) : a = b := by
  obtain ⟨o, h1, _, n, h2⟩ := x
  obtain ⟨o', h1', _, n', h2'⟩ := y
  rw [h1] at h1'; cases h1'
  rw [h2] at h2'
  injection h2' with e _
theorem isLT {p : Addr} {a b : Array Value} (x : h.IsList p a) (y : h.IsTuple p b) : False := by
  obtain ⟨o, h1, c, _⟩ := x
  obtain ⟨o', h1', c', _⟩ := y
  rw [h1] at h1'; cases h1'
  rw [c] at c'
  injection c' with e
  exact absurd e (by decide)
mutual
theorem hr_inj : ∀ {d e : D} {u : Value}, Hr h d u → Hr h e u → d = e
  | .non, e, u, a, b => by
    cases a
    cases e with
    | non => rfl
    | bl _ => cases b
    | int _ => obtain ⟨t, q⟩ := b; cases q
    | str _ => obtain ⟨t, q⟩ := b; cases q
    | tup _ => obtain ⟨p, i, q, _⟩ := b; cases q
    | lst _ => obtain ⟨p, i, q, _⟩ := b; cases q
    | _ => exact (show False from b).elim
  | .bl c, e, u, a, b => by
    cases a
    cases e with
    | non => cases b
    | bl _ => cases b; rfl
    | int _ => obtain ⟨t, q⟩ := b; cases q
    | str _ => obtain ⟨t, q⟩ := b; cases q
    | tup _ => obtain ⟨p, i, q, _⟩ := b; cases q
    | lst _ => obtain ⟨p, i, q, _⟩ := b; cases q
    | _ => exact (show False from b).elim
  | .int c, e, u, a, b => by
    obtain ⟨t, rfl⟩ := a
    cases e with
    | non => cases b
    | bl _ => cases b
    | int _ => obtain ⟨t, q⟩ := b; cases q; rfl
    | str _ => obtain ⟨t, q⟩ := b; cases q
    | tup _ => obtain ⟨p, i, q, _⟩ := b; cases q
    | lst _ => obtain ⟨p, i, q, _⟩ := b; cases q
    | _ => exact (show False from b).elim
  | .str c, e, u, a, b => by
    obtain ⟨t, rfl⟩ := a
    cases e with
    | non => cases b
    | bl _ => cases b
    | int _ => obtain ⟨t, q⟩ := b; cases q
    | str _ => obtain ⟨t, q⟩ := b; cases q; rfl
    | tup _ => obtain ⟨p, i, q, _⟩ := b; cases q
    | lst _ => obtain ⟨p, i, q, _⟩ := b; cases q
    | _ => exact (show False from b).elim
  | .tup xs, e, u, a, b => by
    obtain ⟨p, its, rfl, t1, r1⟩ := a
    cases e with
    | non => cases b
    | bl _ => cases b
    | int _ => obtain ⟨t, q⟩ := b; cases q
    | str _ => obtain ⟨t, q⟩ := b; cases q
    | tup ys =>
      obtain ⟨p', its', q, t2, r2⟩ := b
      cases q
      have e := isT_inj t1 t2
      have e' : its = its' := by simpa using congrArg Array.toList e
      subst e'
      rw [hrs_inj r1 r2]
    | lst ys => obtain ⟨p', its', q, t2, r2⟩ := b; cases q; exact (isLT t2 t1).elim
    | _ => exact (show False from b).elim
  | .lst xs, e, u, a, b => by
    obtain ⟨p, its, rfl, t1, r1⟩ := a
    cases e with
    | non => cases b
    | bl _ => cases b
    | int _ => obtain ⟨t, q⟩ := b; cases q
    | str _ => obtain ⟨t, q⟩ := b; cases q
    | lst ys =>
      obtain ⟨p', its', q, t2, r2⟩ := b
      cases q
      have e := isL_inj t1 t2
      have e' : its = its' := by simpa using congrArg Array.toList e
      subst e'
      rw [hrs_inj r1 r2]
    | tup ys => obtain ⟨p', its', q, t2, r2⟩ := b; cases q; exact (isLT t1 t2).elim
    | _ => exact (show False from b).elim
  | .ty _, _, _, a, _ => (show False from a).elim
  | .ref _, _, _, a, _ => (show False from a).elim
  | .mt _, _, _, a, _ => (show False from a).elim
  | .ml _, _, _, a, _ => (show False from a).elim
theorem hrs_inj : ∀ {ds es : List D} {us : List Value}, Hrs h ds us → Hrs h es us → ds = es
  | [], es, us, a, b => by
    cases a
    cases es with
    | nil => rfl
    | cons _ _ => obtain ⟨v, r, q, _⟩ := b; cases q
  | d :: ds, es, us, a, b => by
    obtain ⟨v, r, rfl, a1, a2⟩ := a
    cases es with
    | nil => cases b
    | cons e es =>
      obtain ⟨v', r', q, b1, b2⟩ := b
      cases q
      rw [hr_inj a1 b1, hrs_inj a2 b2]
end
mutual
theorem deq_refl : ∀ {n : Nat} {d : D}, fit n d = true → deq d d = true
  | _, .non, _ => by simp [deq]
  | _, .bl _, _ => by simp [deq]
  | _, .int _, _ => by simp [deq]
  | _, .str _, _ => by simp [deq]
  | 0, .tup _, f => by simp [fit] at f
  | 0, .lst _, f => by simp [fit] at f
  | n + 1, .tup xs, f => by rw [deq]; exact deqs_refl (n := n) f
  | n + 1, .lst xs, f => by rw [deq]; exact deqs_refl (n := n) f
  | _, .ty _, f => by simp [fit] at f
  | _, .ref _, f => by simp [fit] at f
  | _, .mt _, f => by simp [fit] at f
  | _, .ml _, f => by simp [fit] at f
theorem deqs_refl : ∀ {n : Nat} {ds : List D}, fits n ds = true → deqs ds ds = true
  | _, [], _ => by simp [deqs]
  | n, x :: xs, f => by
    rw [fits, Bool.and_eq_true] at f
    rw [deqs, deq_refl f.1, deqs_refl f.2]; rfl
end
theorem deqs_len : ∀ {xs ys : List D}, xs.length ≠ ys.length → deqs xs ys = false
  | [], [], h => absurd rfl h
  | [], _ :: _, _ => by simp [deqs]
  | _ :: _, [], _ => by simp [deqs]
  | x :: xs, y :: ys, h => by rw [deqs, deqs_len (by simpa using h), Bool.and_false]
theorem deqs_all : ∀ (xs ys : List D) (f : Nat → Bool), xs.length = ys.length → (∀ j (h1 : j < xs.length) (h2 : j < ys.length), f j = deq xs[j] ys[j]) → (List.range xs.length).all f = deqs xs ys
  | [], [], f, _, _ => by simp [deqs]
  | [], _ :: _, _, h, _ => by simp at h
  | _ :: _, [], _, h, _ => by simp at h
  | x :: xs, y :: ys, f, h, hf => by
    have h0 := hf 0 (by simp) (by simp)
    have ht := deqs_all xs ys (fun j => f (j + 1)) (by simpa using h) (fun j h1 h2 => hf (j + 1) (by simpa using h1) (by simpa using h2))
    rw [List.length_cons, List.range_succ_eq_map, List.all_cons, List.all_map, deqs, ← ht]
    simp only [List.getElem_cons_zero] at h0
    rw [h0]
    rfl
theorem fits_get : ∀ {n : Nat} {xs : List D}, fits n xs = true → ∀ (j : Nat) (h1 : j < xs.length), fit n xs[j] = true
  | _, [], _, j, h1 => absurd h1 (Nat.not_lt_zero _)
  | n, x :: xs, f, j, h1 => by
    rw [fits, Bool.and_eq_true] at f
    cases j with
    | zero => exact f.1
    | succ j => exact fits_get f.2 j (by simpa using h1)
noncomputable def flatD : D → Option V
  | .non => some .non
  | .bl b => some (.bl b)
  | .int i => some (.int i)
  | .str x => some (.str x)
  | _ => none
theorem hr_flat {d : D} {v : V} {u : Value} (e : flatD d = some v) (r : Hr h d u) : RelV v u ∧ flatV v = true := by
  cases d with
  | non => cases e; exact ⟨r, rfl⟩
  | bl b => cases e; exact ⟨r, rfl⟩
  | int b => cases e; exact ⟨r, rfl⟩
  | str b => cases e; exact ⟨r, rfl⟩
  | _ => cases e
theorem deq_flat {d e : D} {v w : V} (h1 : flatD d = some v) (h2 : flatD e = some w) : eqV v w = deq d e := by
  cases d with
  | non => cases h1; cases e with | non => cases h2; simp [eqV, deq] | bl b => cases h2; simp [eqV, deq] | int b => cases h2; simp [eqV, deq] | str b => cases h2; simp [eqV, deq] | _ => cases h2
  | bl a => cases h1; cases e with | non => cases h2; simp [eqV, deq] | bl b => cases h2; simp [eqV, deq] | int b => cases h2; simp [eqV, deq] | str b => cases h2; simp [eqV, deq] | _ => cases h2
  | int a => cases h1; cases e with | non => cases h2; simp [eqV, deq] | bl b => cases h2; simp [eqV, deq] | int b => cases h2; simp [eqV, deq]; rfl | str b => cases h2; simp [eqV, deq] | _ => cases h2
  | str a => cases h1; cases e with | non => cases h2; simp [eqV, deq] | bl b => cases h2; simp [eqV, deq] | int b => cases h2; simp [eqV, deq] | str b => cases h2; simp [eqV, deq]; rfl | _ => cases h2
  | _ => cases h1
end
theorem eq_at : ∀ (n : Nat) {A : Around} {s : Shared} {d e : D} {u w : Value}, Hr s.heap d u → Hr s.heap e w → fit n d = true → fit n e = true → A.units + n < cLine → SeqAt.EqAt A s u w (deq d e) := by
  intro n
  induction n with
  | zero =>
    intro A s d e u w rd re fd fe hu
    have f1 : ∃ v, flatD d = some v := by cases d <;> first | exact ⟨_, rfl⟩ | (simp [fit] at fd)
    have f2 : ∃ v, flatD e = some v := by cases e <;> first | exact ⟨_, rfl⟩ | (simp [fit] at fe)
    obtain ⟨v1, e1⟩ := f1
    obtain ⟨v2, e2⟩ := f2
    obtain ⟨a1, b1⟩ := hr_flat e1 rd
    obtain ⟨a2, b2⟩ := hr_flat e2 re
    rw [← deq_flat e1 e2]
    exact eqAt_V a1 a2 b1 b2
  | succ n ih =>
    intro A s d e u w rd re fd fe hu
    have hu0 : A.units < cLine := by lia
    have hu1 : A.in1.units + n < cLine := by show A.units + 1 + n < cLine; lia
    by_cases f1 : ∃ v, flatD d = some v
    · obtain ⟨v1, e1⟩ := f1
      obtain ⟨a1, b1⟩ := hr_flat e1 rd
      by_cases f2 : ∃ v, flatD e = some v
      · obtain ⟨v2, e2⟩ := f2
        obtain ⟨a2, b2⟩ := hr_flat e2 re
        rw [← deq_flat e1 e2]
        exact eqAt_V a1 a2 b1 b2
      · cases e with
        | tup ys =>
          obtain ⟨p, its, rfl, t, _⟩ := re
          cases d with
          | non => cases rd; simp only [deq]; exact .none_tuple t hu0
          | bl b => cases rd; simp only [deq]; exact .bool_tuple b t hu0
          | int b => obtain ⟨tk, rfl⟩ := rd; simp only [deq]; exact .int_tuple b tk t hu0
          | str b => obtain ⟨tk, rfl⟩ := rd; simp only [deq]; exact .str_tuple b tk t hu0
          | _ => cases e1
        | lst ys =>
          obtain ⟨p, its, rfl, t, _⟩ := re
          cases d with
          | non => cases rd; simp only [deq]; exact .none_list t hu0
          | bl b => cases rd; simp only [deq]; exact .bool_list b t hu0
          | int b => obtain ⟨tk, rfl⟩ := rd; simp only [deq]; exact .int_list b tk t hu0
          | str b => obtain ⟨tk, rfl⟩ := rd; simp only [deq]; exact .str_list b tk t hu0
          | _ => cases e1
        | ty _ => exact (show False from re).elim
        | ref _ => exact (show False from re).elim
        | mt _ => exact (show False from re).elim
        | ml _ => exact (show False from re).elim
        | _ => exact absurd ⟨_, rfl⟩ f2
    · cases d with
      | tup xs =>
        obtain ⟨p, its, rfl, t1, r1⟩ := rd
        cases e with
        | non => cases re; simp only [deq]; exact .tuple_none t1 hu0
        | bl b => cases re; simp only [deq]; exact .tuple_bool b t1 hu0
        | int b => obtain ⟨tk, rfl⟩ := re; simp only [deq]; exact .tuple_int b tk t1 hu0
        | str b => obtain ⟨tk, rfl⟩ := re; simp only [deq]; exact .tuple_str b tk t1 hu0
        | tup ys =>
          obtain ⟨p', its', rfl, t2, r2⟩ := re
          rw [deq]
          by_cases hp : p = p'
          · subst hp
            have e' : its = its' := by simpa using congrArg Array.toList (isT_inj t1 t2)
            subst e'
            rw [hrs_inj r1 r2, deqs_refl (n := n) fe]
            exact .same _
          · refine .of_refs hp ?_
            have l1 := r1.length
            have l2 := r2.length
            have key : ∀ j (h1 : j < its.toArray.size) (h2 : j < its'.toArray.size), SeqAt.EqAt A.in1 s its.toArray[j] its'.toArray[j] (match xs[j]?, ys[j]? with | some x, some y => deq x y | _, _ => false) := fun j h1 h2 => by
              have h1' : j < xs.length := by rw [l1]; simpa using h1
              have h2' : j < ys.length := by rw [l2]; simpa using h2
              rw [List.getElem?_eq_getElem h1', List.getElem?_eq_getElem h2']
              exact ih (r1.get j h1' (by simpa using h1)) (r2.get j h2' (by simpa using h2)) (fits_get fd j h1') (fits_get fe j h2') hu1
            have := SeqAt.RcAt.tuples (e := fun j => match xs[j]?, ys[j]? with | some x, some y => deq x y | _, _ => false) t1 t2 hu0 key
            by_cases hl : xs.length = ys.length
            · have hsz : its.toArray.size = its'.toArray.size := by simp; lia
              rw [hsz] at this
              simp only [Nat.min_self, beq_self_eq_true, Bool.and_true] at this
              have hxs : its'.toArray.size = xs.length := by simp; lia
              rw [hxs, deqs_all xs ys _ hl (fun j h1 h2 => by rw [List.getElem?_eq_getElem h1, List.getElem?_eq_getElem h2])] at this
              exact this
            · have hsz : (its.toArray.size == its'.toArray.size) = false := by simp; lia
              rw [hsz, Bool.and_false] at this
              rw [deqs_len hl]
              exact this
        | lst ys => obtain ⟨p', its', rfl, t2, r2⟩ := re; simp only [deq]; exact .tuple_list t1 t2 hu0
        | _ => exact (show False from re).elim
      | lst xs =>
        obtain ⟨p, its, rfl, t1, r1⟩ := rd
        cases e with
        | non => cases re; simp only [deq]; exact .list_none t1 hu0
        | bl b => cases re; simp only [deq]; exact .list_bool b t1 hu0
        | int b => obtain ⟨tk, rfl⟩ := re; simp only [deq]; exact .list_int b tk t1 hu0
        | str b => obtain ⟨tk, rfl⟩ := re; simp only [deq]; exact .list_str b tk t1 hu0
        | lst ys =>
          obtain ⟨p', its', rfl, t2, r2⟩ := re
          rw [deq]
          by_cases hp : p = p'
          · subst hp
            have e' : its = its' := by simpa using congrArg Array.toList (isL_inj t1 t2)
            subst e'
            rw [hrs_inj r1 r2, deqs_refl (n := n) fe]
            exact .same _
          · refine .of_refs hp ?_
            have l1 := r1.length
            have l2 := r2.length
            by_cases hl : xs.length = ys.length
            · have key : ∀ j (h1 : j < its.toArray.size) (h2 : j < its'.toArray.size), SeqAt.EqAt A.in1 s its.toArray[j] its'.toArray[j] (match xs[j]?, ys[j]? with | some x, some y => deq x y | _, _ => false) := fun j h1 h2 => by
                have h1' : j < xs.length := by rw [l1]; simpa using h1
                have h2' : j < ys.length := by rw [l2]; simpa using h2
                rw [List.getElem?_eq_getElem h1', List.getElem?_eq_getElem h2']
                exact ih (r1.get j h1' (by simpa using h1)) (r2.get j h2' (by simpa using h2)) (fits_get fd j h1') (fits_get fe j h2') hu1
              have := SeqAt.RcAt.lists (e := fun j => match xs[j]?, ys[j]? with | some x, some y => deq x y | _, _ => false) t1 t2 (by simp; lia) hu0 key
              have hxs : its.toArray.size = xs.length := by simp; lia
              rw [hxs, deqs_all xs ys _ hl (fun j h1 h2 => by rw [List.getElem?_eq_getElem h1, List.getElem?_eq_getElem h2])] at this
              exact this
            · rw [deqs_len hl]
              exact SeqAt.RcAt.lists_lengths t1 t2 (by simp; lia) hu0
        | tup ys => obtain ⟨p', its', rfl, t2, r2⟩ := re; simp only [deq]; exact .list_tuple t1 t2 hu0
        | _ => exact (show False from re).elim
      | ty _ => exact (show False from rd).elim
      | ref _ => exact (show False from rd).elim
      | mt _ => exact (show False from rd).elim
      | ml _ => exact (show False from rd).elim
      | _ => exact absurd ⟨_, rfl⟩ f1
end L3

namespace L3
open PySem L2
theorem seq_key {n : Nat} {A : Around} {s : Shared} {xs ys : List D} {its its' : List Value} (r1 : Hrs s.heap xs its) (r2 : Hrs s.heap ys its') (fd : fits n xs = true) (fe : fits n ys = true) (hu : A.units + n < cLine) :
    ∀ j (h1 : j < its.toArray.size) (h2 : j < its'.toArray.size), SeqAt.EqAt A s its.toArray[j] its'.toArray[j] (match xs[j]?, ys[j]? with | some x, some y => deq x y | _, _ => false) := fun j h1 h2 => by
  have h1' : j < xs.length := by rw [r1.length]; simpa using h1
  have h2' : j < ys.length := by rw [r2.length]; simpa using h2
  rw [List.getElem?_eq_getElem h1', List.getElem?_eq_getElem h2']
  exact eq_at n (r1.get j h1' (by simpa using h1)) (r2.get j h2' (by simpa using h2)) (fits_get fd j h1') (fits_get fe j h2') hu
theorem seq_all {xs ys : List D} (hl : xs.length = ys.length) : (List.range xs.length).all (fun j => match xs[j]?, ys[j]? with | some x, some y => deq x y | _, _ => false) = deqs xs ys :=
  deqs_all xs ys _ hl (fun j h1 h2 => by rw [List.getElem?_eq_getElem h1, List.getElem?_eq_getElem h2])
theorem rc_tup {n : Nat} {A : Around} {s : Shared} {xs ys : List D} {p p' : Addr} {its its' : List Value} (t1 : s.heap.IsTuple p its.toArray) (t2 : s.heap.IsTuple p' its'.toArray) (r1 : Hrs s.heap xs its) (r2 : Hrs s.heap ys its') (fd : fit n (.tup xs) = true) (fe : fit n (.tup ys) = true) (hu : A.units + n < cLine) :
    SeqAt.RcAt A s (.ref p) (.ref p') (deq (.tup xs) (.tup ys)) := by
  cases n with
  | zero => simp [fit] at fd
  | succ n =>
    have l1 := r1.length
    have l2 := r2.length
    have := SeqAt.RcAt.tuples (A := A) t1 t2 (by lia) (seq_key (n := n) r1 r2 fd fe (by show A.units + 1 + n < cLine; lia))
    rw [deq]
    by_cases hl : xs.length = ys.length
    · have hsz : its.toArray.size = its'.toArray.size := by simp; lia
      rw [hsz] at this
      simp only [Nat.min_self, beq_self_eq_true, Bool.and_true] at this
      have hxs : its'.toArray.size = xs.length := by simp; lia
      rw [hxs, seq_all hl] at this
      exact this
    · have hsz : (its.toArray.size == its'.toArray.size) = false := by simp; lia
      rw [hsz, Bool.and_false] at this
      rw [deqs_len hl]
      exact this
theorem rc_lst {n : Nat} {A : Around} {s : Shared} {xs ys : List D} {p p' : Addr} {its its' : List Value} (t1 : s.heap.IsList p its.toArray) (t2 : s.heap.IsList p' its'.toArray) (r1 : Hrs s.heap xs its) (r2 : Hrs s.heap ys its') (fd : fit n (.lst xs) = true) (fe : fit n (.lst ys) = true) (hu : A.units + n < cLine) :
    SeqAt.RcAt A s (.ref p) (.ref p') (deq (.lst xs) (.lst ys)) := by
  cases n with
  | zero => simp [fit] at fd
  | succ n =>
    have l1 := r1.length
    have l2 := r2.length
    rw [deq]
    by_cases hl : xs.length = ys.length
    · have := SeqAt.RcAt.lists (A := A) t1 t2 (by simp; lia) (by lia) (seq_key (n := n) r1 r2 fd fe (by show A.units + 1 + n < cLine; lia))
      have hxs : its.toArray.size = xs.length := by simp; lia
      rw [hxs, seq_all hl] at this
      exact this
    · rw [deqs_len hl]
      exact SeqAt.RcAt.lists_lengths t1 t2 (by simp; lia) (by lia)
theorem rcne_tup {n : Nat} {A : Around} {s : Shared} {xs ys : List D} {p p' : Addr} {its its' : List Value} (t1 : s.heap.IsTuple p its.toArray) (t2 : s.heap.IsTuple p' its'.toArray) (r1 : Hrs s.heap xs its) (r2 : Hrs s.heap ys its') (fd : fit n (.tup xs) = true) (fe : fit n (.tup ys) = true) (hu : A.units + n < cLine) :
    SeqAt.RcNeAt A s (.ref p) (.ref p') (!deq (.tup xs) (.tup ys)) := by
  cases n with
  | zero => simp [fit] at fd
  | succ n =>
    have l1 := r1.length
    have l2 := r2.length
    have := SeqAt.RcNeAt.tuples (A := A) t1 t2 (by lia) (seq_key (n := n) r1 r2 fd fe (by show A.units + 1 + n < cLine; lia))
    rw [deq]
    by_cases hl : xs.length = ys.length
    · have hsz : its.toArray.size = its'.toArray.size := by simp; lia
      rw [hsz] at this
      simp only [Nat.min_self, beq_self_eq_true, Bool.and_true] at this
      have hxs : its'.toArray.size = xs.length := by simp; lia
      rw [hxs, seq_all hl] at this
      exact this
    · have hsz : (its.toArray.size == its'.toArray.size) = false := by simp; lia
      rw [hsz, Bool.and_false] at this
      rw [deqs_len hl]
      exact this
theorem rcne_lst {n : Nat} {A : Around} {s : Shared} {xs ys : List D} {p p' : Addr} {its its' : List Value} (t1 : s.heap.IsList p its.toArray) (t2 : s.heap.IsList p' its'.toArray) (r1 : Hrs s.heap xs its) (r2 : Hrs s.heap ys its') (fd : fit n (.lst xs) = true) (fe : fit n (.lst ys) = true) (hu : A.units + n < cLine) :
    SeqAt.RcNeAt A s (.ref p) (.ref p') (!deq (.lst xs) (.lst ys)) := by
  cases n with
  | zero => simp [fit] at fd
  | succ n =>
    have l1 := r1.length
    have l2 := r2.length
    rw [deq]
    by_cases hl : xs.length = ys.length
    · have := SeqAt.RcNeAt.lists (A := A) t1 t2 (by simp; lia) (by lia) (seq_key (n := n) r1 r2 fd fe (by show A.units + 1 + n < cLine; lia))
      have hxs : its.toArray.size = xs.length := by simp; lia
      rw [hxs, seq_all hl] at this
      exact this
    · rw [deqs_len hl]
      exact SeqAt.RcNeAt.lists_lengths t1 t2 (by simp; lia) (by lia)
theorem rc_at {n : Nat} {A : Around} {s : Shared} {d e : D} {u w : Value} (rd : Hr s.heap d u) (re : Hr s.heap e w) (fd : fit n d = true) (fe : fit n e = true) (hu : A.units + n < cLine) : SeqAt.RcAt A s u w (deq d e) := by
  have hu0 : A.units < cLine := by lia
  cases d with
  | non =>
    cases rd
    cases e with
    | non =>
      cases re
      simpa [deq, Bool.beq_eq_decide_eq] using SeqAt.RcAt.none_none
    | bl y =>
      cases re
      simpa [deq] using SeqAt.RcAt.none_bool y
    | int y =>
      obtain ⟨tky, rfl⟩ := re
      simpa [deq] using SeqAt.RcAt.none_int y tky
    | str y =>
      obtain ⟨tky, rfl⟩ := re
      simpa [deq] using SeqAt.RcAt.none_str y tky
    | tup y =>
      obtain ⟨py, itsy, rfl, ty, ry⟩ := re
      simpa [deq] using SeqAt.RcAt.none_tuple ty hu0
    | lst y =>
      obtain ⟨py, itsy, rfl, ty, ry⟩ := re
      simpa [deq] using SeqAt.RcAt.none_list ty hu0
    | _ => exact (show False from re).elim
  | bl x =>
    cases rd
    cases e with
    | non =>
      cases re
      simpa [deq] using SeqAt.RcAt.bool_none x
    | bl y =>
      cases re
      simpa [deq, Bool.beq_eq_decide_eq] using SeqAt.RcAt.bool_bool x y
    | int y =>
      obtain ⟨tky, rfl⟩ := re
      simpa [deq, Bool.beq_eq_decide_eq] using SeqAt.RcAt.bool_int x y tky
    | str y =>
      obtain ⟨tky, rfl⟩ := re
      simpa [deq] using SeqAt.RcAt.bool_str x y tky
    | tup y =>
      obtain ⟨py, itsy, rfl, ty, ry⟩ := re
      simpa [deq] using SeqAt.RcAt.bool_tuple x ty hu0
    | lst y =>
      obtain ⟨py, itsy, rfl, ty, ry⟩ := re
      simpa [deq] using SeqAt.RcAt.bool_list x ty hu0
    | _ => exact (show False from re).elim
  | int x =>
    obtain ⟨tkx, rfl⟩ := rd
    cases e with
    | non =>
      cases re
      simpa [deq] using SeqAt.RcAt.int_none x tkx
    | bl y =>
      cases re
      simpa [deq, Bool.beq_eq_decide_eq] using SeqAt.RcAt.int_bool x tkx y
    | int y =>
      obtain ⟨tky, rfl⟩ := re
      simpa [deq, Bool.beq_eq_decide_eq] using SeqAt.RcAt.int_int x tkx y tky
    | str y =>
      obtain ⟨tky, rfl⟩ := re
      simpa [deq] using SeqAt.RcAt.int_str x tkx y tky
    | tup y =>
      obtain ⟨py, itsy, rfl, ty, ry⟩ := re
      simpa [deq] using SeqAt.RcAt.int_tuple x tkx ty hu0
    | lst y =>
      obtain ⟨py, itsy, rfl, ty, ry⟩ := re
      simpa [deq] using SeqAt.RcAt.int_list x tkx ty hu0
    | _ => exact (show False from re).elim
  | str x =>
    obtain ⟨tkx, rfl⟩ := rd
    cases e with
    | non =>
      cases re
      simpa [deq] using SeqAt.RcAt.str_none x tkx
    | bl y =>
      cases re
      simpa [deq] using SeqAt.RcAt.str_bool x tkx y
    | int y =>
      obtain ⟨tky, rfl⟩ := re
      simpa [deq] using SeqAt.RcAt.str_int x tkx y tky
    | str y =>
      obtain ⟨tky, rfl⟩ := re
      simpa [deq, Bool.beq_eq_decide_eq] using SeqAt.RcAt.str_str x tkx y tky
    | tup y =>
      obtain ⟨py, itsy, rfl, ty, ry⟩ := re
      simpa [deq] using SeqAt.RcAt.str_tuple x tkx ty hu0
    | lst y =>
      obtain ⟨py, itsy, rfl, ty, ry⟩ := re
      simpa [deq] using SeqAt.RcAt.str_list x tkx ty hu0
    | _ => exact (show False from re).elim
  | tup x =>
    obtain ⟨px, itsx, rfl, tx, rx⟩ := rd
    cases e with
    | non =>
      cases re
      simpa [deq] using SeqAt.RcAt.tuple_none tx hu0
    | bl y =>
      cases re
      simpa [deq] using SeqAt.RcAt.tuple_bool y tx hu0
    | int y =>
      obtain ⟨tky, rfl⟩ := re
      simpa [deq] using SeqAt.RcAt.tuple_int y tky tx hu0
    | str y =>
      obtain ⟨tky, rfl⟩ := re
      simpa [deq] using SeqAt.RcAt.tuple_str y tky tx hu0
    | tup y =>
      obtain ⟨py, itsy, rfl, ty, ry⟩ := re
      exact rc_tup tx ty rx ry fd fe hu
    | lst y =>
      obtain ⟨py, itsy, rfl, ty, ry⟩ := re
      simpa [deq] using SeqAt.RcAt.tuple_list tx ty hu0
    | _ => exact (show False from re).elim
  | lst x =>
    obtain ⟨px, itsx, rfl, tx, rx⟩ := rd
    cases e with
    | non =>
      cases re
      simpa [deq] using SeqAt.RcAt.list_none tx hu0
    | bl y =>
      cases re
      simpa [deq] using SeqAt.RcAt.list_bool y tx hu0
    | int y =>
      obtain ⟨tky, rfl⟩ := re
      simpa [deq] using SeqAt.RcAt.list_int y tky tx hu0
    | str y =>
      obtain ⟨tky, rfl⟩ := re
      simpa [deq] using SeqAt.RcAt.list_str y tky tx hu0
    | tup y =>
      obtain ⟨py, itsy, rfl, ty, ry⟩ := re
      simpa [deq] using SeqAt.RcAt.list_tuple tx ty hu0
    | lst y =>
      obtain ⟨py, itsy, rfl, ty, ry⟩ := re
      exact rc_lst tx ty rx ry fd fe hu
    | _ => exact (show False from re).elim
  | _ => exact (show False from rd).elim
theorem rcne_at {n : Nat} {A : Around} {s : Shared} {d e : D} {u w : Value} (rd : Hr s.heap d u) (re : Hr s.heap e w) (fd : fit n d = true) (fe : fit n e = true) (hu : A.units + n < cLine) : SeqAt.RcNeAt A s u w (!deq d e) := by
  have hu0 : A.units < cLine := by lia
  cases d with
  | non =>
    cases rd
    cases e with
    | non =>
      cases re
      simpa [deq, Bool.beq_eq_decide_eq] using SeqAt.RcNeAt.none_none
    | bl y =>
      cases re
      simpa [deq] using SeqAt.RcNeAt.none_bool y
    | int y =>
      obtain ⟨tky, rfl⟩ := re
      simpa [deq] using SeqAt.RcNeAt.none_int y tky
    | str y =>
      obtain ⟨tky, rfl⟩ := re
      simpa [deq] using SeqAt.RcNeAt.none_str y tky
    | tup y =>
      obtain ⟨py, itsy, rfl, ty, ry⟩ := re
      simpa [deq] using SeqAt.RcNeAt.none_tuple ty hu0
    | lst y =>
      obtain ⟨py, itsy, rfl, ty, ry⟩ := re
      simpa [deq] using SeqAt.RcNeAt.none_list ty hu0
    | _ => exact (show False from re).elim
  | bl x =>
    cases rd
    cases e with
    | non =>
      cases re
      simpa [deq] using SeqAt.RcNeAt.bool_none x
    | bl y =>
      cases re
      simpa [deq, Bool.beq_eq_decide_eq] using SeqAt.RcNeAt.bool_bool x y
    | int y =>
      obtain ⟨tky, rfl⟩ := re
      simpa [deq, Bool.beq_eq_decide_eq] using SeqAt.RcNeAt.bool_int x y tky
    | str y =>
      obtain ⟨tky, rfl⟩ := re
      simpa [deq] using SeqAt.RcNeAt.bool_str x y tky
    | tup y =>
      obtain ⟨py, itsy, rfl, ty, ry⟩ := re
      simpa [deq] using SeqAt.RcNeAt.bool_tuple x ty hu0
    | lst y =>
      obtain ⟨py, itsy, rfl, ty, ry⟩ := re
      simpa [deq] using SeqAt.RcNeAt.bool_list x ty hu0
    | _ => exact (show False from re).elim
  | int x =>
    obtain ⟨tkx, rfl⟩ := rd
    cases e with
    | non =>
      cases re
      simpa [deq] using SeqAt.RcNeAt.int_none x tkx
    | bl y =>
      cases re
      simpa [deq, Bool.beq_eq_decide_eq] using SeqAt.RcNeAt.int_bool x tkx y
    | int y =>
      obtain ⟨tky, rfl⟩ := re
      simpa [deq, Bool.beq_eq_decide_eq] using SeqAt.RcNeAt.int_int x tkx y tky
    | str y =>
      obtain ⟨tky, rfl⟩ := re
      simpa [deq] using SeqAt.RcNeAt.int_str x tkx y tky
    | tup y =>
      obtain ⟨py, itsy, rfl, ty, ry⟩ := re
      simpa [deq] using SeqAt.RcNeAt.int_tuple x tkx ty hu0
    | lst y =>
      obtain ⟨py, itsy, rfl, ty, ry⟩ := re
      simpa [deq] using SeqAt.RcNeAt.int_list x tkx ty hu0
    | _ => exact (show False from re).elim
  | str x =>
    obtain ⟨tkx, rfl⟩ := rd
    cases e with
    | non =>
      cases re
      simpa [deq] using SeqAt.RcNeAt.str_none x tkx
    | bl y =>
      cases re
      simpa [deq] using SeqAt.RcNeAt.str_bool x tkx y
    | int y =>
      obtain ⟨tky, rfl⟩ := re
      simpa [deq] using SeqAt.RcNeAt.str_int x tkx y tky
    | str y =>
      obtain ⟨tky, rfl⟩ := re
      simpa [deq, Bool.beq_eq_decide_eq] using SeqAt.RcNeAt.str_str x tkx y tky
    | tup y =>
      obtain ⟨py, itsy, rfl, ty, ry⟩ := re
      simpa [deq] using SeqAt.RcNeAt.str_tuple x tkx ty hu0
    | lst y =>
      obtain ⟨py, itsy, rfl, ty, ry⟩ := re
      simpa [deq] using SeqAt.RcNeAt.str_list x tkx ty hu0
    | _ => exact (show False from re).elim
  | tup x =>
    obtain ⟨px, itsx, rfl, tx, rx⟩ := rd
    cases e with
    | non =>
      cases re
      simpa [deq] using SeqAt.RcNeAt.tuple_none tx hu0
    | bl y =>
      cases re
      simpa [deq] using SeqAt.RcNeAt.tuple_bool y tx hu0
    | int y =>
      obtain ⟨tky, rfl⟩ := re
      simpa [deq] using SeqAt.RcNeAt.tuple_int y tky tx hu0
    | str y =>
      obtain ⟨tky, rfl⟩ := re
      simpa [deq] using SeqAt.RcNeAt.tuple_str y tky tx hu0
    | tup y =>
      obtain ⟨py, itsy, rfl, ty, ry⟩ := re
      exact rcne_tup tx ty rx ry fd fe hu
    | lst y =>
      obtain ⟨py, itsy, rfl, ty, ry⟩ := re
      simpa [deq] using SeqAt.RcNeAt.tuple_list tx ty hu0
    | _ => exact (show False from re).elim
  | lst x =>
    obtain ⟨px, itsx, rfl, tx, rx⟩ := rd
    cases e with
    | non =>
      cases re
      simpa [deq] using SeqAt.RcNeAt.list_none tx hu0
    | bl y =>
      cases re
      simpa [deq] using SeqAt.RcNeAt.list_bool y tx hu0
    | int y =>
      obtain ⟨tky, rfl⟩ := re
      simpa [deq] using SeqAt.RcNeAt.list_int y tky tx hu0
    | str y =>
      obtain ⟨tky, rfl⟩ := re
      simpa [deq] using SeqAt.RcNeAt.list_str y tky tx hu0
    | tup y =>
      obtain ⟨py, itsy, rfl, ty, ry⟩ := re
      simpa [deq] using SeqAt.RcNeAt.list_tuple tx ty hu0
    | lst y =>
      obtain ⟨py, itsy, rfl, ty, ry⟩ := re
      exact rcne_lst tx ty rx ry fd fe hu
    | _ => exact (show False from re).elim
  | _ => exact (show False from rd).elim
section
variable {X : Cx} {B : Mem} {pins : List (Addr × Obj)} {σ : L2.St} {H : Hp} {s : Shared} {M : Mem}
mutual
theorem hr_of (I : Inv X pins σ H s) : ∀ {n : Nat} {d : D} {v : V} {u : Value}, fit n d = true → Rp X.K H d v → RelV v u → Hr s.heap d u
  | _, .non, v, u, _, r, q => by cases r; exact q
  | _, .bl _, v, u, _, r, q => by cases r; exact q
  | _, .int _, v, u, _, r, q => by cases r; exact q
  | _, .str _, v, u, _, r, q => by cases r; exact q
  | n + 1, .tup xs, v, u, f, r, q => by
    obtain ⟨p, vs, rfl, t, r⟩ := r
    cases q
    obtain ⟨its, rv, ht, _⟩ := I.tuple t.sq
    exact ⟨p, its, rfl, ht, hrs_of I (n := n) f r rv⟩
  | n + 1, .lst xs, v, u, f, r, q => by
    obtain ⟨p, vs, rfl, t, r⟩ := r
    cases q
    obtain ⟨its, rv, ht, _⟩ := I.list t.sq
    exact ⟨p, its, rfl, ht.isList, hrs_of I (n := n) f r rv⟩
  | 0, .tup _, _, _, f, _, _ => by simp [fit] at f
  | 0, .lst _, _, _, f, _, _ => by simp [fit] at f
  | _, .ty _, _, _, f, _, _ => by simp [fit] at f
  | _, .ref _, _, _, f, _, _ => by simp [fit] at f
  | _, .mt _, _, _, f, _, _ => by simp [fit] at f
  | _, .ml _, _, _, f, _, _ => by simp [fit] at f
theorem hrs_of (I : Inv X pins σ H s) : ∀ {n : Nat} {ds : List D} {vs : List V} {us : List Value}, fits n ds = true → Rps X.K H ds vs → Vals vs us → Hrs s.heap ds us
  | _, [], vs, us, _, r, q => by cases r; cases q; rfl
  | n, d :: ds, vs, us, f, r, q => by
    obtain ⟨v, r', rfl, a, b⟩ := r
    rw [fits, Bool.and_eq_true] at f
    cases q with
    | cons q1 q2 => exact ⟨_, _, rfl, hr_of I f.1 a q1, hrs_of I f.2 b q2⟩
end
noncomputable def dv (M : Mem) : D → D
  | .ref a => match M a with
    | some (.lst xs) => .lst xs
    | _ => .ref a
  | d => d
theorem hr_dv (I : Inv X pins σ H s) {n : Nat} {d : D} {v : V} {u : Value} (rh : RepH X.K H M) (f : fit n (dv M d) = true) (r : Rp X.K H d v) (q : RelV v u) : Hr s.heap (dv M d) u := by
  cases d with
  | ref a =>
    cases r
    simp only [dv] at f ⊢
    split at f
    · rename_i xs e
      obtain ⟨vs, h1, h2⟩ := rh _ _ e
      obtain ⟨its, rv, ht, _⟩ := I.list (SqL.of h1)
      cases q
      cases n with
      | zero => simp [fit] at f
      | succ n => exact ⟨a, its, rfl, ht.isList, hrs_of I (n := n) f h2 rv⟩
    · simp [fit] at f
  | _ => exact hr_of I f r q
noncomputable def oEq : dR2 := fun x y M Q => fit 60 (dv M x) = true ∧ fit 60 (dv M y) = true ∧ Q (.bl (deq (dv M x) (dv M y))) M
noncomputable def oNe : dR2 := fun x y M Q => fit 60 (dv M x) = true ∧ fit 60 (dv M y) = true ∧ Q (.bl (!deq (dv M x) (dv M y))) M
theorem op_eq' (hu : X.A.units + 64 < cLine) : OpR X (compareOp .Eq) (liftR2 X oEq) := by
  intro pins s σ H x y v u Q I rx ry h
  obtain ⟨d1, d2, M, QQ, rh, r1, r2, ⟨f1, f2, h⟩, up⟩ := h
  exact rc_at (hr_dv I rh f1 r1 rx) (hr_dv I rh f2 r2 ry) f1 f2 (by lia) _ _ _ _ ⟨.bl _, H, I, rfl, up _ M h _ H rh Frm.refl rfl⟩
theorem op_ne' (hu : X.A.units + 64 < cLine) : OpR X (compareOp .NotEq) (liftR2 X oNe) := by
  intro pins s σ H x y v u Q I rx ry h
  obtain ⟨d1, d2, M, QQ, rh, r1, r2, ⟨f1, f2, h⟩, up⟩ := h
  exact rcne_at (hr_dv I rh f1 r1 rx) (hr_dv I rh f2 r2 ry) f1 f2 (by lia) _ _ _ _ ⟨.bl _, H, I, rfl, up _ M h _ H rh Frm.refl rfl⟩
open Classical in
noncomputable def eqC (h : Heap) (x : D) (u : Value) : Bool := if q : ∃ d, Hr h d u then deq q.choose x else false
theorem eqC_of {h : Heap} {x d : D} {u : Value} (r : Hr h d u) : eqC h x u = deq d x := by
  have q : ∃ d, Hr h d u := ⟨d, r⟩
  unfold eqC
  rw [dif_pos q, hr_inj q.choose_spec r]
theorem any_eqC {h : Heap} {x : D} : ∀ {ds : List D} {us : List Value}, Hrs h ds us → us.any (eqC h x) = ds.any fun d => deq d x
  | [], _, r => by cases r; rfl
  | d :: ds, _, r => by
    obtain ⟨v, r', rfl, a, b⟩ := r
    rw [List.any_cons, List.any_cons, eqC_of a, any_eqC b]
theorem mem_eqC {A : Around} {n : Nat} {x : D} {w : Value} (rx : Hr s.heap x w) (fx : fit n x = true) (hu : A.units + n < cLine) : ∀ {ds : List D} {us : List Value}, Hrs s.heap ds us → fits n ds = true → ∀ u ∈ us, SeqAt.EqAt A s u w (eqC s.heap x u)
  | [], _, r, _, u, hu => by cases r; cases hu
  | d :: ds, _, r, f, u, h => by
    obtain ⟨v, r', rfl, a, b⟩ := r
    rw [fits, Bool.and_eq_true] at f
    rcases List.mem_cons.mp h with rfl | h
    · rw [eqC_of a]; exact eq_at n a rx f.1 fx hu
    · exact mem_eqC rx fx hu b f.2 u h
noncomputable def isIn (M : Mem) (x y : D) : Option Bool := match seqD M y with
  | some xs => if fit 60 (dv M x) = true ∧ fits 60 xs = true then some (xs.any fun d => deq d (dv M x)) else none
  | none => match y with
    | .ref a => match dget M a x with
      | some o => some o.isSome
      | none => none
    | _ => none
noncomputable def oIn : dR2 := fun x y M Q => match isIn M x y with
  | some k => Q (.bl k) M
  | none => False
theorem op_in' (hu : X.A.units + 64 < cLine) : OpR X (compareOp .In) (liftR2 X oIn) := by
  intro pins s σ H x y v u Q I rx ry h
  obtain ⟨d1, d2, M, QQ, rh, r1, r2, h, up⟩ := h
  unfold oIn at h
  split at h
  · rename_i k e
    have fin := up _ M h _ H rh Frm.refl rfl
    unfold isIn at e
    split at e
    · rename_i xs ex
      split at e
      · rename_i f
        cases e
        obtain ⟨p, vs, rfl, hq, r⟩ := seqD_of rh r2 ex
        cases ry
        have hx := hr_dv I rh f.1 r1 rx
        rcases hq with hq | hq
        · obtain ⟨its, rv, pl, _⟩ := I.list hq
          have hs := hrs_of I f.2 r rv
          refine SeqAt.in_listAt (eqC s.heap (dv M d1)) pl.isList (fun w hw => mem_eqC hx f.1 (by show X.A.units + 1 + 60 < cLine; lia) hs f.2 w (by simpa using hw)) ⟨.bl _, H, I, rfl, ?_⟩
          rw [show its.toArray.any (eqC s.heap (dv M d1)) = its.any (eqC s.heap (dv M d1)) by simp, any_eqC hs]
          exact fin
        · obtain ⟨its, rv, pl, _⟩ := I.tuple hq
          have hs := hrs_of I f.2 r rv
          refine SeqAt.in_tupleAt (eqC s.heap (dv M d1)) pl (fun w hw => mem_eqC hx f.1 (by show X.A.units + 1 + 60 < cLine; lia) hs f.2 w (by simpa using hw)) ⟨.bl _, H, I, rfl, ?_⟩
          rw [show its.toArray.any (eqC s.heap (dv M d1)) = its.any (eqC s.heap (dv M d1)) by simp, any_eqC hs]
          exact fin
      · cases e
    · split at e
      · split at e
        · rename_i o eo
          cases e
          cases r2
          cases ry
          rcases dget_of rh r1 eo with ⟨rfl, g⟩ | ⟨d, w, rfl, g, _⟩
          · exact d_in (by lia) I g rx fun s' I' => ⟨.bl _, H, I', rfl, fin⟩
          · exact d_in (by lia) I g rx fun s' I' => ⟨.bl _, H, I', rfl, fin⟩
        · cases e
      · cases e
  · exact h.elim
end
end L3

namespace L3
open PySem L2
structure DEnds where
  nx : Dl → Mem → Prop
  rt : DK
  bk : Dl → Mem → Prop := fun _ _ => False
  ct : Dl → Mem → Prop := fun _ _ => False
noncomputable abbrev dTS := DEnds → Dl → Mem → Prop
noncomputable def UpN (X : Cx) (B M : Mem) (H : Hp) (QQ : Dl → Mem → Prop) (Q : L2.St → Hp → Prop) : Prop := ∀ δ M', QQ δ M' → ∀ σ H', Frm M H M' H' → SR X B δ M' σ H' → Q σ H'
theorem UpN.go {X : Cx} {B M M1 : Mem} {H H1 : Hp} {QQ : Dl → Mem → Prop} {Q : L2.St → Hp → Prop} (u : UpN X B M H QQ Q) (i : Frm M H M1 H1) : UpN X B M1 H1 QQ Q := fun δ M q σ H' a b => u δ M q σ H' (i.trans a) b
structure UpD (X : Cx) (B M : Mem) (H : Hp) (DD : DEnds) (D : Ends) : Prop where
  nx : UpN X B M H DD.nx D.nx
  rt : Up X.K M H DD.rt D.rt
  bk : UpN X B M H DD.bk D.bk
  ct : UpN X B M H DD.ct D.ct
theorem UpD.go {X : Cx} {B M M1 : Mem} {H H1 : Hp} {DD : DEnds} {D : Ends} (u : UpD X B M H DD D) (i : Frm M H M1 H1) : UpD X B M1 H1 DD D := ⟨u.nx.go i, u.rt.go i, u.bk.go i, u.ct.go i⟩
noncomputable def liftS (X : Cx) (B : Mem) (T : dTS) : TS := fun D σ H => ∃ δ M DD, SR X B δ M σ H ∧ T DD δ M ∧ UpD X B M H DD D
noncomputable def DS (X : Cx) (B : Mem) (st : Stmt) (T : dTS) : Prop := PS X st (liftS X B T)
noncomputable def DSs (X : Cx) (B : Mem) (st : List Stmt) (T : dTS) : Prop := PSs X st (liftS X B T)
section
variable {X : Cx} {B : Mem} {st : Stmt} {rest : List Stmt} {t u : dTS} {e : Expr} {te : dTE} {pos : Pos}
noncomputable def dNext : dTS := fun D δ M => D.nx δ M
noncomputable def dSeq (t u : dTS) : dTS := fun D δ M => t { D with nx := u D } δ M
theorem dss_nil : DSs X B [] dNext := pss_weak pss_nil fun D σ H ⟨δ, M, DD, s, h, up⟩ => up.nx δ M h σ H Frm.refl s
theorem dss_cons (h1 : DS X B st t) (h2 : DSs X B rest u) : DSs X B (st :: rest) (dSeq t u) := by
  refine pss_weak (pss_cons h1 h2) ?_
  rintro D σ H ⟨δ, M, DD, s, h, up⟩
  exact ⟨δ, M, { DD with nx := u DD }, s, h, ⟨fun δ' M' q σ' H' i s' => ⟨δ', M', DD, s', q, up.go i⟩, up.rt, up.bk, up.ct⟩⟩
theorem dss_one (h1 : DS X B st t) : DSs X B [st] t := pss_one h1
noncomputable def dDrop (te : dTE) : dTS := fun D δ M => te δ M fun _ M1 => D.nx δ M1
theorem ds_expr (he : DE X B e te) (hs : swapsWith e none pos.line X.env = pure false := by rfl) : DS X B (.Expr e pos) (dDrop te) := by
  refine ps_weak (ps_expr he hs) ?_
  rintro D σ H ⟨δ, M, DD, s, h, up⟩
  exact ⟨δ, M, _, s, h, fun d M' q v H' rh i r => up.nx δ M' q σ H' i (s.go rh i)⟩
noncomputable def dRet (te : dTE) : dTS := fun D δ M => te δ M D.rt
theorem ds_ret (he : DE X B e te) : DS X B (.Return (some e) pos) (dRet te) := by
  refine ps_weak (ps_ret he) ?_
  rintro D σ H ⟨δ, M, DD, s, h, up⟩
  exact ⟨δ, M, _, s, h, up.rt⟩
noncomputable def dIfS (c : dTT) (t u : dTS) : dTS := fun D δ M => c δ M fun b M1 => if b = true then t D δ M1 else u D δ M1
theorem ds_if {c : Expr} {a b : List Stmt} {tc : dTT} (hc : DT X B c tc) (ha : DSs X B a t) (hb : DSs X B b u) : DS X B (.If c a b pos) (dIfS tc t u) := by
  refine ps_weak (ps_if hc ha hb) ?_
  rintro D σ H ⟨δ, M, DD, s, h, up⟩
  refine ⟨δ, M, _, s, h, fun c M' q H' rh i => ?_⟩
  cases c with
  | true => rw [if_pos rfl] at q ⊢; exact ⟨δ, M', DD, s.go rh i, q, up.go i⟩
  | false => rw [if_neg Bool.false_ne_true] at q ⊢; exact ⟨δ, M', DD, s.go rh i, q, up.go i⟩
noncomputable abbrev dTG := D → Dl → Mem → (Dl → Mem → Prop) → Prop
noncomputable abbrev dTGs := List D → Dl → Mem → (Dl → Mem → Prop) → Prop
noncomputable def liftG (X : Cx) (B : Mem) (g : dTG) : TG := fun v σ H Q => ∃ d δ M QQ, SR X B δ M σ H ∧ Rp X.K H d v ∧ g d δ M QQ ∧ UpN X B M H QQ Q
noncomputable def liftGs (X : Cx) (B : Mem) (g : dTGs) : TGs := fun vs σ H Q => ∃ ds δ M QQ, SR X B δ M σ H ∧ Rps X.K H ds vs ∧ g ds δ M QQ ∧ UpN X B M H QQ Q
noncomputable def DG (X : Cx) (B : Mem) (tg : Expr) (g : dTG) : Prop := PG X tg (liftG X B g)
noncomputable def DGs (X : Cx) (B : Mem) (tgs : List Expr) (g : dTGs) : Prop := PGs X tgs (liftGs X B g)
theorem pg_weak {tg : Expr} {t t' : TG} (h : PG X tg t) (w : ∀ v σ H Q, t' v σ H Q → t v σ H Q) : PG X tg t' := fun pins s σ H v u Q I r q => h pins s σ H v u Q I r (w v σ H Q q)
theorem pgs_weak {tg : List Expr} {t t' : TGs} (h : PGs X tg t) (w : ∀ v σ H Q, t' v σ H Q → t v σ H Q) : PGs X tg t' := fun pins s σ H v u Q I r q => h pins s σ H v u Q I r (w v σ H Q q)
theorem SR.set {δ : Dl} {M : Mem} {σ : L2.St} {H : Hp} {i : Nat} {d : D} {v : V} (s : SR X B δ M σ H) (r : Rp X.K H d v) : SR X B (δ.set i (some d)) M (σ.set i (some v)) H := ⟨s.i0, s.rh, s.rs.set r⟩
noncomputable def hName (i : Nat) : dTG := fun d δ M Q => Q (δ.set i (some d)) M
theorem dg_name {i : Nat} {x : Str} (hN : X.N.Nodup) (hi : X.N[i]? = some x) (hx : Loc X.env.scope x) (hf : X.fn x = true ∨ X.env.scope.names.lookup x = some .local := by first | exact .inl rfl | exact .inr rfl | assumption) : DG X B (.Name x pos) (hName i) := by
  refine pg_weak (pg_name hN hi hx hf) ?_
  rintro v σ H Q ⟨d, δ, M, QQ, s, r, h, u⟩
  exact u _ M h _ H Frm.refl (s.set r)
noncomputable def hNil : dTGs := fun ds δ M Q => match ds with
  | [] => Q δ M
  | _ => False
noncomputable def hCons (t : dTG) (u : dTGs) : dTGs := fun ds δ M Q => match ds with
  | d :: r => t d δ M fun δ' M' => u r δ' M' Q
  | [] => False
theorem dgs_nil : DGs X B [] hNil := by
  refine pgs_weak pgs_nil ?_
  rintro v σ H Q ⟨ds, δ, M, QQ, s, r, h, u⟩
  cases ds with
  | nil => exact ⟨r, u δ M h σ H Frm.refl s⟩
  | cons _ _ => exact (show False from h).elim
theorem dgs_cons {e : Expr} {es : List Expr} {t : dTG} {u : dTGs} (h1 : DG X B e t) (h2 : DGs X B es u)
    (hs : (assignEach (e :: es) X.env).map (·.2) = assign e X.env :: (assignEach es X.env).map (·.2) := by rfl) : DGs X B (e :: es) (hCons t u) := by
  refine pgs_weak (pgs_cons h1 h2 hs) ?_
  rintro v σ H Q ⟨ds, δ, M, QQ, s, r, h, up⟩
  cases ds with
  | nil => exact (show False from h).elim
  | cons d ds =>
    obtain ⟨v1, vr, rfl, r1, r2⟩ := r
    refine ⟨v1, vr, rfl, d, δ, M, _, s, r1, h, fun δ' M' q σ' H' i s' => ?_⟩
    exact ⟨ds, δ', M', QQ, s', r2.mf s.rh i, q, up.go i⟩
noncomputable def hTup (n : Nat) (t : dTGs) : dTG := fun d δ M Q => match d with
  | .tup xs => xs.length = n ∧ t xs δ M Q
  | _ => False
theorem dg_tup {es : List Expr} {k : Nat} {t : dTGs} {n : Nat} (hc : X.calm = true) (h : DGs X B es t)
    (hn : (assignEach es X.env).length = n := by rfl) (hst : (assignEach es X.env).findIdx? (·.1) = none := by rfl) : DG X B (.Tuple es k pos) (hTup n t) := by
  refine pg_weak (pg_tup hc h hn hst) ?_
  rintro v σ H Q ⟨d, δ, M, QQ, s, r, h, up⟩
  cases d with
  | tup xs =>
    obtain ⟨p, vs, rfl, ht, r⟩ := r
    exact ⟨p, vs, rfl, ht.sq, by rw [← r.length]; exact h.1, xs, δ, M, QQ, s, r, h.2, up⟩
  | _ => exact (show False from h).elim
noncomputable def dAsg (te : dTE) (g : dTG) : dTS := fun D δ M => te δ M fun x M1 => g x δ M1 D.nx
theorem ds_asg {tg e : Expr} {te : dTE} {g : dTG} (he : DE X B e te) (hg : DG X B tg g) (hs : swapsWithSole [tg] e pos.line X.env = pure false := by rfl) (hw : swappedStores [tg] e X.env = pure none := by rfl)
    (h1 : (assignEach [tg] X.env).map (·.2) = [assign tg X.env] := by rfl) : DS X B (.Assign [tg] e pos) (dAsg te g) := by
  refine ps_weak (ps_asg he hg hs hw h1) ?_
  rintro D σ H ⟨δ, M, DD, s, h, up⟩
  refine ⟨δ, M, _, s, h, fun d M' q v H' rh i r => ?_⟩
  exact ⟨d, δ, M', DD.nx, s.go rh i, r, q, up.nx.go i⟩
theorem ds_set {i : Nat} {x : Str} {e : Expr} {te : dTE} {pos' : Pos} (hN : X.N.Nodup) (hi : X.N[i]? = some x) (hx : Loc X.env.scope x) (he : DE X B e te) (hs : swapsWith e (some (.Name x pos')) pos.line X.env = pure false := by rfl) (hf : X.fn x = true ∨ X.env.scope.names.lookup x = some .local := by first | exact .inl rfl | exact .inr rfl | assumption) :
    DS X B (.Assign [.Name x pos'] e pos) (dAsg te (hName i)) := by
  refine ps_weak (ps_set hN hi hx he hs hf) ?_
  rintro D σ H ⟨δ, M, DD, s, h, up⟩
  refine ⟨δ, M, _, s, h, fun d M' q v H' rh i r => ?_⟩
  exact up.nx _ M' q _ H' i ((s.go rh i).set r)
noncomputable def dAug (i : Nat) (te : dTE) (r : dR2) : dTS := fun D δ M => match δ[i]? with
  | some (some x) => te δ M fun y M1 => r x y M1 fun z M2 => D.nx (δ.set i (some z)) M2
  | _ => False
noncomputable def sSet (o i v : D) (M : Mem) (Q : Mem → Prop) : Prop := match o with
  | .ref a => match M a, i with
    | some (.lst xs), .int k => match ixN xs.length k with
      | some j => Q (M.upd a (.lst (xs.set j v)))
      | none => False
    | some (.dK kvs), y => match keyOf y with
      | some k => kvs.length < sizeLine ∧ Q (M.upd a (.dK (putD kvs k v)))
      | none => False
    | some (.dT kvs), y => match keyT y with
      | some k => kvs.length < sizeLine ∧ Q (M.upd a (.dT (putD kvs k v)))
      | none => False
    | _, _ => False
  | _ => False
noncomputable def liftSet (X : Cx) : TSet := fun o i v H Q => ∃ d1 d2 d3 M QQ, RepH X.K H M ∧ Rp X.K H d1 o ∧ Rp X.K H d2 i ∧ Rp X.K H d3 v ∧ sSet d1 d2 d3 M QQ ∧ ∀ M', QQ M' → ∀ H', RepH X.K H' M' → Frm M H M' H' → Q H'
theorem set_all (hu : X.A.units + 1 < cLine) : PSet X (liftSet X) := by
  intro pins s σ H o i v ov iv u Q I ro ri rv h
  obtain ⟨d1, d2, d3, M, QQ, rh, r1, r2, r3, h, up⟩ := h
  unfold sSet at h
  split at h
  · rename_i a
    cases r1
    cases ro
    split at h
    · rename_i xs k hM
      cases r2
      obtain ⟨vs, h1, h2⟩ := rh _ _ hM
      split at h
      · rename_i j ej
        refine set_list pins s σ H (.ref a) _ v _ iv u Q I rfl ri rv ⟨a, vs, k, j, rfl, rfl, h1, by rw [← h2.length]; exact ej, ?_⟩
        have i2 : Imm H (upd H a (.lst (vs.set j v))) := Imm.upd (by rw [h1]; trivial)
        exact up _ h _ (rh.put (by rw [h1]; trivial) ⟨_, upd_same, (h2.set r3 j).mono i2⟩) (Frm.put (.inr ⟨_, hM⟩))
      · exact h.elim
    · rename_i kvs hM
      obtain ⟨ws, h1, h2⟩ := rh _ _ hM
      split at h
      · rename_i k ek
        have ev := key_rel r2 ek
        subst ev
        have i2 : Imm H (upd H a (.dK (putK ws k v))) := Imm.upd (by rw [h1]; trivial)
        refine d_setItem hu I (DPut.k h1 (by rw [← h2.length]; exact h.1)) ri rv fun s' I' => ⟨_, I', ?_⟩
        exact up _ h.2 _ (rh.put (by rw [h1]; trivial) ⟨_, upd_same, (h2.put k r3).mono i2⟩) (Frm.put (.inr ⟨_, hM⟩))
      · exact h.elim
    · rename_i kvs hM
      obtain ⟨ws, h1, h2⟩ := rh _ _ hM
      split at h
      · rename_i k ek
        obtain ⟨b, rfl, hb⟩ := keyT_rel r2 ek
        have i2 : Imm H (upd H a (.dT (putK ws k v))) := Imm.upd (by rw [h1]; trivial)
        refine d_setItem hu I (DPut.t h1 hb (by rw [← h2.length]; exact h.1)) ri rv fun s' I' => ⟨_, I', ?_⟩
        exact up _ h.2 _ (rh.put (by rw [h1]; trivial) ⟨_, upd_same, (h2.put k r3).mono i2⟩) (Frm.put (.inr ⟨_, hM⟩))
      · exact h.elim
    · exact h.elim
  · exact h.elim
noncomputable def hSub (to ti : dTE) : dTG := fun v δ M Q => to δ M fun o M1 => ti δ M1 fun i M2 => sSet o i v M2 fun M3 => Q δ M3
theorem dg_sub {o i : Expr} {to ti : dTE} (hu : X.A.units + 1 < cLine) (ho : DE X B o to) (hi : DE X B i ti)
    (ha : ∀ v, assign (.Subscript o i pos) X.env v = (do
      let ov ← holding [v] (eval o X.env)
      let iv ← holding [v, ov] (eval i X.env)
      standAt pos
      holding [v, ov, iv] (setItem ov iv v)
      release [v, ov, iv] []) := by intro _; rfl) : DG X B (.Subscript o i pos) (hSub to ti) := by
  refine pg_weak (pg_sub ho hi (set_all hu) ha) ?_
  rintro v σ H Q ⟨d, δ, M, QQ, s, r, h, up⟩
  refine ⟨δ, M, _, s, h, fun x M1 h1 v1 H1 rh1 i1 r1 => ?_⟩
  refine ⟨δ, M1, _, s.go rh1 i1, h1, fun y M2 h2 v2 H2 rh2 i2 r2 => ?_⟩
  exact ⟨x, y, d, M2, _, rh2, r1.mf rh1 i2, r2, r.mf s.rh (i1.trans i2), h2, fun M3 h3 H3 rh3 i3 => up δ M3 h3 σ H3 ((i1.trans i2).trans i3) (s.go rh3 ((i1.trans i2).trans i3))⟩
end
end L3

namespace L3
open PySem L2
section
variable {X : Cx} {B : Mem} {o e value : Expr} {f : Str} {pos pos' tpos : Pos} {ta tv te : dTE} {C : Addr}
structure BxF (g : dTG) (tb : dTS) (D : DEnds) (ok : Mem → Prop) : Type
structure DIt where
  items : List D
  src : List (Addr × List D)
noncomputable def DIt.ok (I : DIt) (M : Mem) : Prop := ∀ p ∈ I.src, M p.1 = some (.lst p.2)
noncomputable abbrev dTI := Dl → Mem → (DIt → Mem → Prop) → Prop
noncomputable def ItOk (K : PySem.W.Frag) (H0 : Hp) (it : DIt) (J : It) : Prop := ∀ (i : Nat) (H : Hp) (M : Mem), Imm H0 H → RepH K H M → it.ok M →
  (∀ d, it.items[i]? = some d → J.go i H ∧ ∀ x H', J.yld i H x H' → Frm M H M H' ∧ RepH K H' M ∧ Rp K H' d x) ∧ (it.items.length ≤ i → J.stop i H)
noncomputable def liftI (X : Cx) (B : Mem) (T : dTI) : TI := fun σ H R => ∃ δ M RR, SR X B δ M σ H ∧ T δ M RR ∧ ∀ it M', RR it M' → ∀ J H', RepH X.K H' M' → Frm M H M' H' → ItOk X.K H' it J → R J H'
noncomputable def DI (X : Cx) (B : Mem) (tg iter : Expr) (T : dTI) : Prop := PI X tg iter (liftI X B T)
theorem pi_weak {tg iter : Expr} {t t' : TI} (h : PI X tg iter t) (w : ∀ σ H Q, t' σ H Q → t σ H Q) : PI X tg iter t' := fun pins s σ H Q I q => h pins s σ H Q I (w σ H Q q)
noncomputable def forD (g : dTG) (tb : dTS) (DD : DEnds) (ok : Mem → Prop) (b : BxF g tb DD ok) : List D → Dl → Mem → Prop
  | [], δ, M => ok M ∧ DD.nx δ M
  | x :: xs, δ, M => ok M ∧ g x δ M fun δ2 M2 => tb { DD with nx := forD g tb DD ok b xs, ct := forD g tb DD ok b xs, bk := DD.nx } δ2 M2
noncomputable def dFor (wi : dTI) (g : dTG) (tb : dTS) : dTS := fun D δ M => wi δ M fun it M1 => forD g tb D it.ok ⟨⟩ it.items δ M1
theorem forD_ok {g : dTG} {tb : dTS} {DD : DEnds} {ok : Mem → Prop} {b : BxF g tb DD ok} {xs : List D} {δ : Dl} {M : Mem} (h : forD g tb DD ok b xs δ M) : ok M := by
  cases xs with
  | nil => exact h.1
  | cons _ _ => exact h.1
theorem ds_for {tg iter : Expr} {body : List Stmt} {wi : dTI} {g : dTG} {tb : dTS} (hp : PassesOwn (model X.prog X.w) X.A X.env X.xe) (hc : X.calm = true) (hi : DI X B tg iter wi) (hg : DG X B tg g) (hb : DSs X B body tb)
    (hs : ∀ x, foldedSetIterable iter X.env x = pure x := by intro _; rfl) : DS X B (.For tg iter body [] pos) (dFor wi g tb) := by
  refine ps_weak (ps_for hp hc hi hg hb hs) ?_
  rintro D σ H ⟨δ, M, DD, s, h, up⟩
  refine ⟨δ, M, _, s, h, fun it M1 h1 J H1 rh1 i1 hJ => ?_⟩
  refine ⟨fun i m σ' H' => m = it.items.length - i ∧ i ≤ it.items.length ∧ ∃ δ' M', SR X B δ' M' σ' H' ∧ Frm M1 H1 M' H' ∧ forD g tb DD it.ok ⟨⟩ (it.items.drop i) δ' M', ⟨_, rfl, Nat.zero_le _, δ, M1, s.go rh1 i1, Frm.refl, h1⟩, ?_⟩
  rintro i m σ2 H2 ⟨rfl, hi', δ2, M2, s2, i2, h2⟩
  have hok := forD_ok h2
  obtain ⟨hgo, hstop⟩ := hJ i H2 M2 (i2.imm rh1) s2.rh hok
  by_cases hlt : i < it.items.length
  · rw [List.drop_eq_getElem_cons hlt] at h2
    obtain ⟨go, hy⟩ := hgo _ (List.getElem?_eq_getElem hlt)
    refine .inr ⟨go, fun σ' H' => ∃ δ' M', SR X B δ' M' σ' H' ∧ Frm M1 H1 M' H' ∧ forD g tb DD it.ok ⟨⟩ (it.items.drop (i + 1)) δ' M', fun σ' H' z => ⟨it.items.length - (i + 1), by omega, rfl, hlt, z⟩, fun x H3 hx => ?_⟩
    obtain ⟨i3, rh3, rx⟩ := hy x H3 hx
    refine ⟨_, δ2, M2, _, s2.go rh3 i3, rx, h2.2, fun δ4 M4 h4 σ4 H4 i4 s4 => ?_⟩
    have i14 := (i2.trans i3).trans i4
    refine ⟨δ4, M4, _, s4, h4, ⟨?_, (up.go (i1.trans i14)).rt, (up.go (i1.trans i14)).nx, ?_⟩⟩
    · exact fun δ5 M5 q5 σ5 H5 i5 s5 => ⟨δ5, M5, s5, i14.trans i5, q5⟩
    · exact fun δ5 M5 q5 σ5 H5 i5 s5 => ⟨δ5, M5, s5, i14.trans i5, q5⟩
  · rw [List.drop_eq_nil_of_le (by omega)] at h2
    exact .inl ⟨hstop (by omega), up.nx _ _ h2.2 σ2 H2 (i1.trans i2) s2⟩
end
end L3

namespace L2
open PySem PySem.Spec PyProof.Rows
section
variable {X : Cx} {B : Mem} {tg : Expr}
noncomputable def iSeqA (K : PySem.W.Frag) (tl : TE) : TI := fun σ H R => tl σ H fun x H1 => ∃ a b xs, x = .ref a ∧ SqB K b H1 a xs ∧ R (if b = true then Itl K a else Itt K a) H1
theorem pi_seqA {l : Expr} {tl : TE} (hl : PE X l tl) : PI X tg l (iSeqA X.K tl) := by
  intro pins s σ H R I h
  refine thn (hl pins s σ H _ I h) fun v s1 ⟨x, H1, I1, r1, q1⟩ => ?_
  obtain ⟨a, b, xs, e, hq, q⟩ := q1
  subst e
  cases r1
  cases b with
  | true =>
    obtain ⟨its, rv, p, hz⟩ := I1.list (show SqL X.K H1 a xs from hq)
    refine wpAny_pyIter_list p.isList ?_
    refine ⟨s1.heap.objs.size, [s1.heap.objs.size], _, _, H1, rfl, I1.kept (t' := s1.toks) fun b o e => Heap.get?_push_of_some _ e, turn_list a _, ⟨_, Heap.get?_push_size _ rfl, rfl, rfl⟩, fun b hb => ?_, q⟩
    have e : b = s1.heap.objs.size := by simpa using hb
    subst e
    exact I1.fpOk (Nat.le_refl _) (I1.hok.fresh (Nat.le_refl _))
  | false =>
    obtain ⟨its, rv, p, hz⟩ := I1.tuple (show SqT X.K H1 a xs from hq)
    refine wpAny_pyIter_tuple (show s1.heap.IsTuple a its.toArray from p) ?_
    refine ⟨s1.heap.objs.size, [s1.heap.objs.size], _, _, H1, rfl, I1.kept (t' := s1.toks) fun b o e => Heap.get?_push_of_some _ e, turn_tuple a _, ⟨_, Heap.get?_push_size _ rfl, rfl, rfl⟩, fun b hb => ?_, q⟩
    have e : b = s1.heap.objs.size := by simpa using hb
    subst e
    exact I1.fpOk (Nat.le_refl _) (I1.hok.fresh (Nat.le_refl _))
noncomputable def iZipA (K : PySem.W.Frag) (t : TA) : TI := fun σ H R => t σ H fun vs H1 => ∃ b1 b2 l1 l2 xs ys, vs = [.ref l1, .ref l2] ∧ SqB K b1 H1 l1 xs ∧ SqB K b2 H1 l2 ys ∧ R (Itz K b1 b2 l1 l2) H1
theorem pi_zipA {a b : Expr} {elts : List Expr} {x1 : Nat} {tp : Pos} {ta : TA} {p pos : Pos} (hg : Gl X "zip") (hm : X.mg "zip" = none) (ha : PA X [a, b] ta)
    (hs : starEach [a, b] X.env = [(false, eval a X.env), (false, eval b X.env)] := by rfl) (hs2 : starEach [b] X.env = [(false, eval b X.env)] := by rfl) :
    PI X (.Tuple elts x1 tp) (.Call (.Name "zip" p) [a, b] [] pos) (iZipA X.K ta) := by
  intro pins s σ H R I h
  refine Call_ (ld_blt I hg hm (by decide +kernel : bootBuiltins "zip" = some (.type "zip")) (PyProof.Rows.callWith_type1 (thn (ha pos pins s σ H _ I h) fun us s1 ⟨vs, H1, I1, r1, q1⟩ => ?_) (by rw [hs, hs2]) (by rw [hs2]; rfl)))
  obtain ⟨b1, b2, l1, l2, xs, ys, e, q1, q2, q⟩ := q1
  subst e
  obtain ⟨u1, u2, rfl, ru1, ru2⟩ := r1.two
  cases ru1
  cases ru2
  obtain ⟨its1, rv1, sq1, z1⟩ := I1.src q1
  obtain ⟨its2, rv2, sq2, z2⟩ := I1.src q2
  refine call_zip sq1 sq2 fun h' hz hTI hTO h1 h2 hsz hk => ?_
  have I2 : Inv X pins σ H1 { s1 with heap := h' } := I1.kept (t' := s1.toks) hk
  refine wpAny_pyIter_zip (s := { s1 with heap := h' }) hz ?_
  have D : ZApart (s1.heap.objs.size + 4) (s1.heap.objs.size + 2) (s1.heap.objs.size + 3) s1.heap.objs.size (s1.heap.objs.size + 1) := by constructor <;> exact (show (_ : Nat) ≠ (_ : Nat) by lia)
  refine ⟨s1.heap.objs.size + 4, [s1.heap.objs.size + 4, s1.heap.objs.size + 2, s1.heap.objs.size + 3, s1.heap.objs.size, s1.heap.objs.size + 1], _, _, H1, rfl, I2, turn_zip b1 b2 l1 l2 _ _ _ _ _ D, ⟨hz, hTI, ⟨_, _, hTO⟩, h1, h2⟩, fun b hb => ?_, q⟩
  have hb' : s1.heap.objs.size ≤ b := by
    have hb2 : b = s1.heap.objs.size + 4 ∨ b = s1.heap.objs.size + 2 ∨ b = s1.heap.objs.size + 3 ∨ b = s1.heap.objs.size ∨ b = s1.heap.objs.size + 1 := by simpa using hb
    rcases hb2 with e | e | e | e | e <;> rw [e] <;> first | exact Nat.le_add_right _ _ | exact Nat.le_refl _
  exact I1.fpOk (H' := H1) hb' (I1.hok.fresh hb')
end
end L2
namespace L3
open PySem L2
section
variable {X : Cx} {B : Mem} {tg : Expr} {K : PySem.W.Frag} {H : Hp} {M : Mem}
noncomputable def srcOf (d : D) (xs : List D) : List (Addr × List D) := match d with
  | .ref a => [(a, xs)]
  | _ => []
theorem src_of {d : D} {v : V} {xs : List D} (rh : RepH K H M) (r : Rp K H d v) (e : seqD M d = some xs) : ∃ p b, v = .ref p ∧ ∀ H' M', Imm H H' → RepH K H' M' → (∀ q ∈ srcOf d xs, M' q.1 = some (.lst q.2)) → ∃ vs, SqB K b H' p vs ∧ Rps K H' xs vs := by
  cases d with
  | tup ys =>
    cases e
    obtain ⟨p, vs, rfl, h, r⟩ := r
    exact ⟨p, false, rfl, fun H' M' i _ _ => ⟨vs, (h.mono i).sq, r.mono i⟩⟩
  | lst ys =>
    cases e
    obtain ⟨p, vs, rfl, h, r⟩ := r
    exact ⟨p, true, rfl, fun H' M' i _ _ => ⟨vs, (h.mono i).sq, r.mono i⟩⟩
  | mt ys =>
    cases e
    obtain ⟨p, vs, rfl, h, r⟩ := r
    exact ⟨p, false, rfl, fun H' M' i _ _ => ⟨vs, h.sq, r.mono i⟩⟩
  | ml ys =>
    cases e
    obtain ⟨p, vs, rfl, h, r⟩ := r
    exact ⟨p, true, rfl, fun H' M' i _ _ => ⟨vs, (h.mono i).sq, r.mono i⟩⟩
  | ref a =>
    refine ⟨a, true, r, fun H' M' i rh' hs => ?_⟩
    obtain ⟨vs, h1, h2⟩ := rh' _ _ (hs (a, xs) (by simp [srcOf]))
    exact ⟨vs, SqL.of h1, h2⟩
  | _ => cases e
theorem src_ok {d : D} {xs : List D} (e : seqD M d = some xs) : ∀ q ∈ srcOf d xs, M q.1 = some (.lst q.2) := by
  cases d with
  | ref a =>
    intro q hq
    have : q = (a, xs) := by simpa [srcOf] using hq
    subst this
    simp only [seqD] at e
    split at e
    · rename_i ys h; cases e; exact h
    · cases e
  | _ => intro q hq; simp [srcOf] at hq
noncomputable def wSeq (te : dTE) : dTI := fun δ M R => te δ M fun d M1 => match seqD M1 d with
  | some xs => R ⟨xs, srcOf d xs⟩ M1
  | none => False
theorem di_seq {l : Expr} {tl : dTE} (hl : DE X B l tl) : DI X B tg l (wSeq tl) := by
  refine pi_weak (pi_seqA hl) ?_
  rintro σ H R ⟨δ, M, RR, s, h, up⟩
  refine ⟨δ, M, _, s, h, fun d M1 h1 v H1 rh1 i1 r1 => ?_⟩
  split at h1
  · rename_i xs e
    obtain ⟨p, b, rfl, hsrc⟩ := src_of rh1 r1 e
    obtain ⟨vs, hq, _⟩ := hsrc H1 M1 Imm.refl rh1 (src_ok e)
    refine ⟨p, b, vs, rfl, hq, up _ M1 h1 _ H1 rh1 i1 fun i H2 M2 i2 rh2 ok2 => ?_⟩
    obtain ⟨vs2, hq2, r2⟩ := hsrc H2 M2 i2 rh2 ok2
    have hl := r2.length
    cases b with
    | true =>
      refine ⟨fun d hd => ?_, fun hle => ⟨vs2, hq2, by rw [← hl]; exact hle⟩⟩
      obtain ⟨w, hw, rw'⟩ := r2.get hd
      refine ⟨⟨vs2, w, hq2, hw⟩, ?_⟩
      rintro x H3 ⟨rfl, hx⟩
      have := hx vs2 hq2
      rw [hw] at this
      cases this
      exact ⟨Frm.refl, rh2, rw'⟩
    | false =>
      refine ⟨fun d hd => ?_, fun hle => ⟨vs2, hq2, by rw [← hl]; exact hle⟩⟩
      obtain ⟨w, hw, rw'⟩ := r2.get hd
      refine ⟨⟨vs2, w, hq2, hw⟩, ?_⟩
      rintro x H3 ⟨rfl, hx⟩
      have := hx vs2 hq2
      rw [hw] at this
      cases this
      exact ⟨Frm.refl, rh2, rw'⟩
  · exact h1.elim
noncomputable def rngD (lo : Int) (n : Nat) : List D := (List.range n).map fun (i : Nat) => D.int (lo + i)
noncomputable def wRng1 (t : dTA) : dTI := fun δ M R => t δ M fun ds M1 => match ds with
  | [.int j] => -(2 ^ 62) ≤ j ∧ j < 2 ^ 62 ∧ R ⟨rngD 0 j.toNat, []⟩ M1
  | _ => False
theorem rng_ok {lo : Int} {n : Nat} : ItOk K H ⟨rngD lo n, []⟩ (Itr lo n) := fun i H2 M2 i2 rh2 _ => by
  have hlen : (rngD lo n).length = n := by simp [rngD]
  refine ⟨fun d hd => ?_, fun hle => by rw [hlen] at hle; exact hle⟩
  have hi : i < n := by
    rcases Nat.lt_or_ge i n with h | h
    · exact h
    · rw [List.getElem?_eq_none (by rw [hlen]; exact h)] at hd; cases hd
  have ed : d = .int (lo + i) := by
    simp only [rngD, List.getElem?_map, List.getElem?_range hi] at hd
    exact (Option.some.inj hd).symm
  subst ed
  refine ⟨hi, ?_⟩
  rintro x H3 ⟨rfl, rfl⟩
  exact ⟨Frm.refl, rh2, rfl⟩
theorem di_range1 {a : Expr} {ta : dTA} {p pos : Pos} (hg : Gl X "range") (hm : X.mg "range" = none) (ha : DA X B [a] ta) (hs : starEach [a] X.env = [(false, eval a X.env)] := by rfl) : DI X B tg (.Call (.Name "range" p) [a] [] pos) (wRng1 ta) := by
  refine pi_weak (pi_range1 hg hm ha hs) ?_
  rintro σ H R ⟨δ, M, RR, s, h, up⟩
  refine ⟨δ, M, _, s, h, fun ds M1 h1 vs H1 rh1 i1 r1 => ?_⟩
  split at h1
  · obtain ⟨v, rfl, rv⟩ := rps1 (ds := []) r1
    cases rv
    exact ⟨_, rfl, h1.1, h1.2.1, up _ M1 h1.2.2 _ H1 rh1 i1 rng_ok⟩
  · exact h1.elim
noncomputable def zipD (xs ys : List D) : List D := (xs.zip ys).map fun p => D.tup [p.1, p.2]
theorem zipD_get {xs ys : List D} {i : Nat} {d : D} (h : (zipD xs ys)[i]? = some d) : ∃ x y, xs[i]? = some x ∧ ys[i]? = some y ∧ d = .tup [x, y] := by
  simp only [zipD, List.getElem?_map, Option.map_eq_some_iff] at h
  obtain ⟨⟨x, y⟩, h1, rfl⟩ := h
  rw [List.getElem?_zip_eq_some] at h1
  exact ⟨x, y, h1.1, h1.2, rfl⟩
noncomputable def wZip (t : dTA) : dTI := fun δ M R => t δ M fun ds M1 => match ds with
  | [d, e] => match seqD M1 d, seqD M1 e with
    | some xs, some ys => R ⟨zipD xs ys, srcOf d xs ++ srcOf e ys⟩ M1
    | _, _ => False
  | _ => False
theorem di_zip {a b : Expr} {elts : List Expr} {x1 : Nat} {tp : Pos} {ta : dTA} {p pos : Pos} (hg : Gl X "zip") (hm : X.mg "zip" = none) (ha : DA X B [a, b] ta)
    (hs : starEach [a, b] X.env = [(false, eval a X.env), (false, eval b X.env)] := by rfl) (hs2 : starEach [b] X.env = [(false, eval b X.env)] := by rfl) :
    DI X B (.Tuple elts x1 tp) (.Call (.Name "zip" p) [a, b] [] pos) (wZip ta) := by
  refine pi_weak (pi_zipA hg hm ha hs hs2) ?_
  rintro σ H R ⟨δ, M, RR, s, h, up⟩
  refine ⟨δ, M, _, s, h, fun ds M1 h1 vs H1 rh1 i1 r1 => ?_⟩
  split at h1
  · obtain ⟨v, w, rfl, rv, rw'⟩ := rps2 r1
    split at h1
    · rename_i xs ys e1 e2
      obtain ⟨p, b, rfl, hsrc⟩ := src_of rh1 rv e1
      obtain ⟨p', b', rfl, hsrc'⟩ := src_of rh1 rw' e2
      obtain ⟨vs, hq, _⟩ := hsrc H1 M1 Imm.refl rh1 (src_ok e1)
      obtain ⟨vs', hq', _⟩ := hsrc' H1 M1 Imm.refl rh1 (src_ok e2)
      refine ⟨b, b', p, p', vs, vs', rfl, hq, hq', up _ M1 h1 _ H1 rh1 i1 fun i H2 M2 i2 rh2 ok2 => ?_⟩
      obtain ⟨vs2, hq2, r2⟩ := hsrc H2 M2 i2 rh2 fun q hq => ok2 q (List.mem_append_left _ hq)
      obtain ⟨vs2', hq2', r2'⟩ := hsrc' H2 M2 i2 rh2 fun q hq => ok2 q (List.mem_append_right _ hq)
      have hl := r2.length
      have hl' := r2'.length
      refine ⟨fun d hd => ?_, fun hle => ⟨vs2, vs2', hq2, hq2', ?_⟩⟩
      · obtain ⟨x, y, hx, hy, rfl⟩ := zipD_get hd
        obtain ⟨w1, hw1, rw1⟩ := r2.get hx
        obtain ⟨w2, hw2, rw2⟩ := r2'.get hy
        refine ⟨⟨vs2, vs2', w1, w2, hq2, hq2', hw1, hw2⟩, ?_⟩
        rintro x H3 ⟨T, x', y', hT, rfl, rfl, hx1, hx2⟩
        have q1 := hx1 vs2 hq2
        have q2 := hx2 vs2' hq2'
        rw [hw1] at q1
        rw [hw2] at q2
        cases q1
        cases q2
        have i3 : Imm H2 (upd H2 T (.tup [w1, w2])) := Imm.new hT
        exact ⟨Frm.new hT, rh2.new hT, T, _, rfl, upd_same, .cons (rw1.mono i3) (.cons (rw2.mono i3) .nil)⟩
      · have : (zipD xs ys).length = min xs.length ys.length := by simp [zipD]
        rw [this] at hle
        lia
    · exact h1.elim
  · exact h1.elim
end
end L3

namespace L3
open PySem L2
noncomputable def Top : Mem := fun _ => some (.lst [])
theorem Frm.top {H H' : Hp} {M : Mem} : Frm Top H M H' := ⟨fun _ _ _ n => by cases n⟩
section
variable {X : Cx} {B : Mem} {K : PySem.W.Frag} {H H' : Hp} {M M' : Mem}
noncomputable def liftE0 (K : PySem.W.Frag) (T : dTE) : TE := fun σ H Q => ∃ δ M QQ, RepH K H M ∧ RepS K H δ σ ∧ T δ M QQ ∧ Up K M H QQ Q
noncomputable def liftT0 (K : PySem.W.Frag) (T : dTT) : TT := fun σ H Q => ∃ δ M QQ, RepH K H M ∧ RepS K H δ σ ∧ T δ M QQ ∧ UpT K M H QQ Q
noncomputable def liftG0 (K : PySem.W.Frag) (g : dTG) : TG := fun v σ H Q => ∃ d δ M QQ, RepH K H M ∧ RepS K H δ σ ∧ Rp K H d v ∧ g d δ M QQ ∧ ∀ δ' M', QQ δ' M' → ∀ σ' H', Frm M H M' H' → RepH K H' M' → RepS K H' δ' σ' → Q σ' H'
theorem pe_top {e : Expr} {T : dTE} (h : DE X Top e T) : PE X e (liftE0 X.K T) := pe_weak h fun σ H Q ⟨δ, M, QQ, rh, rs, h, u⟩ => ⟨δ, M, QQ, ⟨Frm.top, rh, rs⟩, h, u⟩
theorem pt_top {e : Expr} {T : dTT} (h : DT X Top e T) : PT X e (liftT0 X.K T) := pt_weak h fun σ H Q ⟨δ, M, QQ, rh, rs, h, u⟩ => ⟨δ, M, QQ, ⟨Frm.top, rh, rs⟩, h, u⟩
theorem pg_top {e : Expr} {g : dTG} (h : DG X Top e g) : PG X e (liftG0 X.K g) := pg_weak h fun v σ H Q ⟨d, δ, M, QQ, rh, rs, r, h, u⟩ => ⟨d, δ, M, QQ, ⟨Frm.top, rh, rs⟩, r, h, fun δ' M' q σ' H' f s => u δ' M' q σ' H' f s.rh s.rs⟩
theorem RepH.add {a : Addr} {o : MO} (r : RepH K H M) (n : RepO K H a o) : RepH K H (M.upd a o) := fun b p e => by
  by_cases hb : b = a
  · subst hb; rw [Mem.upd_same] at e; cases e; exact n
  · rw [Mem.upd_ne hb] at e; exact r b p e
noncomputable def startD (ls : List Str) (js : List Nat) (δ : Dl) : Dl := ls.map (fun _ => none) ++ js.map fun j => (δ[j]?).join
theorem RepS.start {δ : Dl} {σ : L2.St} (r : RepS K H δ σ) (ls : List Str) (js : List Nat) : RepS K H (startD ls js δ) (start0 ls js σ) := by
  refine ⟨by simp [startD, start0], fun i d e => ?_⟩
  unfold startD at e
  unfold start0
  by_cases hi : i < ls.length
  · rw [List.getElem?_append_left (by simpa using hi), List.getElem?_map, List.getElem?_eq_getElem hi] at e
    cases e
  · rw [List.getElem?_append_right (by simpa using hi), List.length_map, List.getElem?_map] at e
    rw [List.getElem?_append_right (by simpa using hi), List.length_map, List.getElem?_map]
    cases hj : js[i - ls.length]? with
    | none => rw [hj] at e; cases e
    | some j =>
      rw [hj] at e
      have q : (δ[j]?).join = some d := by simpa using e
      have q2 : δ[j]? = some (some d) := by
        cases z : δ[j]? with
        | none => rw [z] at q; cases q
        | some o => rw [z] at q; have q' : o = some d := q; rw [q']
      obtain ⟨v, h1, h2⟩ := r.get j d q2
      exact ⟨v, by simp [h1], h2⟩
structure BxC (g : dTG) (tt : dTT) (te : dTE) (ok : Mem → Prop) (Q : List D → Mem → Prop) : Type
noncomputable def compD (g : dTG) (tt : dTT) (te : dTE) (ok : Mem → Prop) (Q : List D → Mem → Prop) (b : BxC g tt te ok Q) : List D → List D → Dl → Mem → Prop
  | [], acc, _, M => ok M ∧ Q acc M
  | x :: xs, acc, δ, M => ok M ∧ g x δ M fun δ2 M2 => tt δ2 M2 fun c M3 => if c = true then te δ2 M3 fun y M4 => acc.length < sizeLine ∧ compD g tt te ok Q b xs (acc ++ [y]) δ2 M4 else compD g tt te ok Q b xs acc δ2 M3
noncomputable def dComp (wi : dTI) (ls : List Str) (js : List Nat) (g : dTG) (tt : dTT) (te : dTE) : dTE := fun δ M Q => wi δ M fun it M1 => compD g tt te it.ok (fun acc M' => ∀ p, M' p = none → Q (.ref p) (M'.upd p (.lst acc))) ⟨⟩ it.items [] (startD ls js δ) M1
theorem compD_ok {g : dTG} {tt : dTT} {te : dTE} {ok : Mem → Prop} {xs acc : List D} {δ : Dl} {Q : List D → Mem → Prop} {b : BxC g tt te ok Q} (h : compD g tt te ok Q b xs acc δ M) : ok M := by
  cases xs with
  | nil => exact h.1
  | cons _ _ => exact h.1
variable {tg iter elt : Expr} {ifs : List Expr} {scope : Scope} {cl : List (Str × Addr)} {pos : Pos} {ls fs : List Str} {js : List Nat} {wi : dTI} {g : dTG} {tt : dTT} {te : dTE}
theorem lift_comp {σ : L2.St} {Q : VK} (h : liftE X B (dComp wi ls js g tt te) σ H Q) : tComp (liftI X B wi) ls js (liftG0 X.K g) (liftT0 X.K tt) (liftE0 X.K te) σ H Q := by
  obtain ⟨δ, M, QQ, s, h, u⟩ := h
  refine ⟨δ, M, _, s, h, fun it M1 h1 J H1 rh1 f1 hJ p hp => ?_⟩
  have hMp : M1 p = none := rh1.fresh hp
  refine ⟨fun i m σ' H' => m = it.items.length - i ∧ i ≤ it.items.length ∧ ∃ δ' M' acc ys, RepH X.K H' M' ∧ RepS X.K H' δ' σ' ∧ H' p = some (.lst ys) ∧ Rps X.K H' acc ys ∧ M' p = none ∧ Frm M1 H1 M' H' ∧
      compD g tt te it.ok (fun acc M' => ∀ p, M' p = none → QQ (.ref p) (M'.upd p (.lst acc))) ⟨⟩ (it.items.drop i) acc δ' M',
    ⟨_, rfl, Nat.zero_le _, startD ls js δ, M1, [], [], rh1.new hp, ((s.rs.mono (f1.imm s.rh)).mono (Imm.new hp)).start ls js, upd_same, .nil, hMp, Frm.new hp, h1⟩, ?_⟩
  rintro i m σ2 H2 ⟨rfl, hi, δ2, M2, acc, ys, rh2, rs2, hp2, ra2, hm2, f2, h2⟩
  have hok := compD_ok h2
  obtain ⟨hgo, hstop⟩ := hJ i H2 M2 (f2.imm rh1) rh2 hok
  by_cases hlt : i < it.items.length
  · rw [List.drop_eq_getElem_cons hlt] at h2
    obtain ⟨go, hy⟩ := hgo _ (List.getElem?_eq_getElem hlt)
    refine .inr ⟨go, fun σ' H' => ∃ δ' M' acc ys, RepH X.K H' M' ∧ RepS X.K H' δ' σ' ∧ H' p = some (.lst ys) ∧ Rps X.K H' acc ys ∧ M' p = none ∧ Frm M1 H1 M' H' ∧
      compD g tt te it.ok (fun acc M' => ∀ p, M' p = none → QQ (.ref p) (M'.upd p (.lst acc))) ⟨⟩ (it.items.drop (i + 1)) acc δ' M', fun σ' H' z => ⟨it.items.length - (i + 1), by omega, rfl, hlt, z⟩, fun x H3 hx => ?_⟩
    obtain ⟨f3, rh3, rx⟩ := hy x H3 hx
    refine ⟨_, δ2, M2, _, rh3, rs2.mono (f3.imm rh2), rx, h2.2, fun δ4 M4 h4 σ4 H4 f4 rh4 rs4 => ?_⟩
    refine ⟨δ4, M4, _, rh4, rs4, h4, fun c M5 h5 H5 rh5 f5 => ?_⟩
    have f35 := (f3.trans f4).trans f5
    obtain ⟨hp5, hm5⟩ := f35.keep p _ hp2 hm2
    cases c with
    | false =>
      dsimp only
      rw [if_neg Bool.false_ne_true] at h5 ⊢
      exact ⟨δ4, M5, acc, ys, rh5, rs4.mono (f5.imm rh4), hp5, ra2.mf rh2 f35, hm5, f2.trans f35, h5⟩
    | true =>
      dsimp only
      rw [if_pos rfl] at h5 ⊢
      refine ⟨δ4, M5, _, rh5, rs4.mono (f5.imm rh4), h5, fun y M6 h6 v6 H6 rh6 f6 r6 => ?_⟩
      obtain ⟨hp6, hm6⟩ := f6.keep p _ hp5 hm5
      have f26 := f35.trans f6
      have ra6 := ra2.mf rh2 f26
      refine ⟨ys, hp6, by rw [← ra6.length]; exact h6.1, ?_⟩
      have im : Imm H6 (upd H6 p (.lst (ys ++ [v6]))) := Imm.upd (by rw [hp6]; trivial)
      refine ⟨δ4, M6, acc ++ [y], ys ++ [v6], rh6.keep im fun b o hb => upd_ne (Mem.ne hb hm6), ((rs4.mono (f5.imm rh4)).mono (f6.imm rh5)).mono im, upd_same, (ra6.append (.cons r6 .nil)).mono im, hm6, ?_, h6.2⟩
      refine ⟨fun b w e n => ?_⟩
      obtain ⟨e2, n2⟩ := (f2.trans f26).keep b w e n
      exact ⟨by rw [upd_ne (ne_of_none e hp)]; exact e2, n2⟩
  · rw [List.drop_eq_nil_of_le (by omega)] at h2
    refine .inl ⟨hstop (by omega), u _ _ (h2.2 p hm2) _ H2 (rh2.add ⟨ys, hp2, ra2⟩) ?_ rfl⟩
    refine ⟨fun b w e n => ?_⟩
    obtain ⟨e1, n1⟩ := f1.keep b w e n
    obtain ⟨e2, n2⟩ := f2.keep b w e1 n1
    exact ⟨e2, by rw [Mem.upd_ne (ne_of_none e1 hp)]; exact n2⟩
noncomputable def DTs (X : Cx) (B : Mem) (ifs : List Expr) (T : dTT) : Prop := PTs X ifs (liftT X B T)
noncomputable def dAll : dTT := fun _ M Q => Q true M
theorem dts_nil : DTs X B [] dAll := fun pins s σ H Q I zz => by obtain ⟨δ, M, QQ, sr, h, u⟩ := zz; exact pts_nil pins s σ H Q I (u true M h H sr.rh Frm.refl)
theorem dts_one {c : Expr} {t : dTT} (h : DT X B c t) : DTs X B [c] t := pts_one h
theorem pts_top {es : List Expr} {T : dTT} (h : DTs X Top es T) : PTs X es (liftT0 X.K T) := fun pins s σ H Q I zz => by obtain ⟨δ, M, QQ, rh, rs, hT, u⟩ := zz; exact h pins s σ H Q I ⟨δ, M, QQ, ⟨Frm.top, rh, rs⟩, hT, u⟩
theorem de_comp (hc : X.calm = true) (co : CompOk X scope cl ls fs js) (hi : DI X B tg iter wi)
    (hY : ∀ (C : Addr) (s₀ : Shared) (H₀ : Hp) (fp : List Addr) (pl : List (Addr × Obj)), DG (cxComp X (ls ++ fs) scope cl C s₀ H₀ fp pl) Top tg g ∧ DTs (cxComp X (ls ++ fs) scope cl C s₀ H₀ fp pl) Top ifs tt ∧ DE (cxComp X (ls ++ fs) scope cl C s₀ H₀ fp pl) Top elt te)
    (hs : ∀ x, foldedSetIterable iter X.env x = pure x := by intro _; rfl) : DE X B (.ListComp elt [⟨tg, iter, ifs, 0⟩] scope pos) (dComp wi ls js g tt te) :=
  pe_weak (pe_comp (g := liftG0 X.K g) (tt := liftT0 X.K tt) (te := liftE0 X.K te) hc co hi (fun C s₀ H₀ fp pl => ⟨pg_top (hY C s₀ H₀ fp pl).1, pts_top (hY C s₀ H₀ fp pl).2.1, pe_top (hY C s₀ H₀ fp pl).2.2⟩) hs) fun _ _ _ h => lift_comp h
noncomputable def dCompS (i : Nat) (t : dTE) : dTS := fun D δ M => t δ M fun d M1 => D.nx (δ.set i (some d)) M1
theorem ds_comp {i : Nat} {x : Str} {px spos : Pos} (hN : X.N.Nodup) (hix : X.N[i]? = some x) (hx : Loc X.env.scope x) (hc : X.calm = true) (co : CompOk X scope cl ls fs js) (hi : DI X B tg iter wi)
    (hY : ∀ (C : Addr) (s₀ : Shared) (H₀ : Hp) (fp : List Addr) (pl : List (Addr × Obj)), DG (cxComp X (ls ++ fs) scope cl C s₀ H₀ fp pl) Top tg g ∧ DTs (cxComp X (ls ++ fs) scope cl C s₀ H₀ fp pl) Top ifs tt ∧ DE (cxComp X (ls ++ fs) scope cl C s₀ H₀ fp pl) Top elt te)
    (hsw : swapsWith (.ListComp elt [⟨tg, iter, ifs, 0⟩] scope pos) (some (.Name x px)) spos.line X.env = pure true := by rfl)
    (hs : ∀ x, foldedSetIterable iter X.env x = pure x := by intro _; rfl) (hf : X.fn x = true ∨ X.env.scope.names.lookup x = some .local := by first | exact .inl rfl | exact .inr rfl | assumption) :
    DS X B (.Assign [.Name x px] (.ListComp elt [⟨tg, iter, ifs, 0⟩] scope pos) spos) (dCompS i (dComp wi ls js g tt te)) := by
  refine ps_weak (ps_comp (g := liftG0 X.K g) (tt := liftT0 X.K tt) (te := liftE0 X.K te) hN hix hx hc co hi (fun C s₀ H₀ fp pl => ⟨pg_top (hY C s₀ H₀ fp pl).1, pts_top (hY C s₀ H₀ fp pl).2.1, pe_top (hY C s₀ H₀ fp pl).2.2⟩) hsw hs hf) ?_
  rintro D σ H ⟨δ, M, DD, s, h, up⟩
  refine lift_comp ⟨δ, M, _, s, h, fun d M' q v H' rh f r => ?_⟩
  exact up.nx _ M' q _ H' f ((s.go rh f).set r)
noncomputable def frzSlot (i : Nat) (δ : Dl) (M : Mem) (Q : Dl → Mem → Prop) : Prop := match δ[i]? with
  | some (some (.ref a)) => match M a with
    | some (.lst xs) => Q (δ.set i (some (.lst xs))) (M.del a)
    | _ => Q δ M
  | _ => Q δ M
noncomputable def dThenFrz (t : dTS) (i : Nat) : dTS := fun D δ M => t { D with nx := fun δ' M' => frzSlot i δ' M' D.nx } δ M
theorem set_self {α : Type} : ∀ {l : List α} {i : Nat} {x : α}, l[i]? = some x → l.set i x = l
  | [], _, _, h => by simp at h
  | _ :: _, 0, _, h => by simp at h; subst h; rfl
  | _ :: _, i + 1, _, h => by rw [List.set_cons_succ, set_self (by simpa using h)]
theorem ds_frz {st : Stmt} {t : dTS} (i : Nat) (h : DS X B st t) : DS X B st (dThenFrz t i) := by
  intro pins s σ H D I ⟨δ, M, DD, sr, hT, up⟩
  refine thn (h pins s σ H { D with nx := fun σ' H' => ∃ δ' M', frzSlot i δ' M' DD.nx ∧ Frm M H M' H' ∧ SR X B δ' M' σ' H' } I ⟨δ, M, _, sr, hT, ⟨fun δ' M' q σ' H' f s' => ⟨δ', M', q, f, s'⟩, up.rt, up.bk, up.ct⟩⟩) fun f s' q => ?_
  cases f with
  | next =>
    obtain ⟨σ', H', I', δ', M', q, f, s'⟩ := q
    unfold frzSlot at q
    split at q
    · rename_i a ea
      split at q
      · rename_i xs e
        obtain ⟨vs, h1, h2⟩ := s'.rh _ _ e
        obtain ⟨o, I2⟩ := Inv.freeze I' h1
        have im : Imm H' (upd H' a (.frz o (.lst vs))) := Imm.upd (by rw [h1]; trivial)
        obtain ⟨v, hv, rv⟩ := s'.rs.get i _ ea
        cases rv
        refine ⟨σ', _, I2, up.nx _ _ q σ' _ (f.trans (Frm.del ⟨_, e⟩)) ⟨s'.i0.trans (Frm.del ⟨_, e⟩), s'.rh.freeze h1, ?_⟩⟩
        have := (s'.rs.mono im).set (i := i) (d := .lst xs) (v := .ref a) ⟨a, vs, rfl, ⟨o, upd_same⟩, h2.mono im⟩
        rwa [set_self hv] at this
      · exact ⟨σ', H', I', up.nx _ _ q σ' H' f s'⟩
    · exact ⟨σ', H', I', up.nx _ _ q σ' H' f s'⟩
  | brk => exact q
  | cont => exact q
  | ret u => exact q
end
end L3

namespace L3
open PySem L2
noncomputable abbrev DX := Addr → Mem → Prop
noncomputable abbrev Sd := List D → Mem → DK → DX → Prop
noncomputable def CXG (P : Program) (w : World) : CXT := fun outer H s E e s' => ∃ C, CXD P w C outer H s E e s'
noncomputable def UpX (K : PySem.W.Frag) (M : Mem) (H : Hp) (EE : DX) (E : XK) : Prop := ∀ C M', EE C M' → ∀ H', RepH K H' M' → Frm M H M' H' → E (.ref C) none H'
theorem UpX.go {K : PySem.W.Frag} {M M1 : Mem} {H H1 : Hp} {EE : DX} {E : XK} (u : UpX K M H EE E) (i : Frm M H M1 H1) : UpX K M1 H1 EE E := fun C M' q H' a b => u C M' q H' a (i.trans b)
noncomputable def liftSp (K : PySem.W.Frag) (n : Nat) (T : Sd) : Sp := fun vs H Q E => vs.length = n ∧ ∃ ds M QQ EE, RepH K H M ∧ Rps K H ds vs ∧ T ds M QQ EE ∧ Up K M H QQ Q ∧ UpX K M H EE E
noncomputable def startN (N : List Str) (ds : List D) : Dl := ds.map some ++ List.replicate (N.length - ds.length) none
theorem RepS.startN {K : PySem.W.Frag} {H : Hp} {ds : List D} {vs : List V} (N : List Str) (r : Rps K H ds vs) : RepS K H (L3.startN N ds) (L2.start N vs) := by
  have hl := r.length
  refine ⟨by simp [L3.startN, L2.start, hl], fun i d e => ?_⟩
  unfold L3.startN at e
  unfold L2.start
  by_cases hi : i < ds.length
  · rw [List.getElem?_append_left (by simpa using hi), List.getElem?_map, List.getElem?_eq_getElem hi] at e
    have e' : ds[i] = d := by simpa using e
    obtain ⟨v, h1, h2⟩ := r.get (i := i) (d := d) (by rw [List.getElem?_eq_getElem hi, e'])
    refine ⟨v, ?_, h2⟩
    rw [List.getElem?_append_left (by simp; lia), List.getElem?_map, h1]
    rfl
  · rw [List.getElem?_append_right (by simpa using hi), List.getElem?_replicate] at e
    split at e <;> cases e
section
variable {P : Program} {w : World} {K : PySem.W.Frag} {mg : Str → Option Value} {base : Heap} {f : Addr} {fd : FuncData}
noncomputable def drp (Q : DK) (d : D) (M' : Mem) : Prop := ∃ M'', (∀ b o, M'' b = some o → M' b = some o) ∧ Q d M''
noncomputable def drpX (EE : DX) (C : Addr) (M' : Mem) : Prop := ∃ M'', (∀ b o, M'' b = some o → M' b = some o) ∧ EE C M''
theorem drp_id {Q : DK} {d : D} {M' : Mem} (h : Q d M') : drp Q d M' := ⟨M', fun _ _ e => e, h⟩
theorem drpX_id {EE : DX} {C : Addr} {M' : Mem} (h : EE C M') : drpX EE C M' := ⟨M', fun _ _ e => e, h⟩
theorem Frm.less {M M' M'' : Mem} {H H' : Hp} (f : Frm M H M' H') (s : ∀ b o, M'' b = some o → M' b = some o) : Frm M H M'' H' := ⟨fun b u e n => by
  obtain ⟨e', n'⟩ := f.keep b u e n
  refine ⟨e', ?_⟩
  cases q : M'' b with
  | none => rfl
  | some o => rw [s b o q] at n'; cases n'⟩
theorem Up.drp {M : Mem} {H : Hp} {Q : DK} {QV : VK} (u : Up K M H Q QV) : Up K M H (L3.drp Q) QV := fun d M' ⟨M'', s, q⟩ v H' rh f r => u d M'' q v H' (fun b o e => rh b o (s b o e)) (f.less s) r
theorem UpX.drp {M : Mem} {H : Hp} {EE : DX} {E : XK} (u : UpX K M H EE E) : UpX K M H (drpX EE) E := fun C M' ⟨M'', s, q⟩ H' rh f => u C M'' q H' (fun b o e => rh b o (s b o e)) (f.less s)
noncomputable def bodyD (N : List Str) (T : DX → dTS) : Sd := fun ds M Q EE => T (drpX EE) { nx := fun _ M' => drp Q .non M', rt := drp Q } (startN N ds) M
theorem fnD {x qual : Str} {st : Stmt} {N ps : List Str} {k : Nat} {T : DX → dTS} (F : Fun K x qual st f fd) (S : FnScope N ps (defScope st))
    (hb : ∀ (cdv : Value) (A : Around) (outer : List Env) (s : Shared) (H : Hp) (E : XK) (B : Mem) (EE : DX), Room k (A.deeper (PyProof.Rows.envOfC qual (defScope st) s.heap.objs.size f cdv)) → UpX K B H EE E →
      DSs (cxOf (CXG P w) P w K mg base N qual (defScope st) f cdv A outer s H E) B (defBody st) (T EE)) :
    FnOk P w K mg base (CXG P w) (k + 1) f fd ps (liftSp K ps.length (bodyD N T)) := by
  obtain ⟨oc, od, kV, doc, pm, an, cdv, ct, osl, rfl, lk, hcd⟩ := F.ex
  refine fn_of lk hcd S (fun vs H Q E h => h.1) fun A outer s H vs Q E hr hsp => ?_
  obtain ⟨hl, ds, M, QQ, EE, rh, r, hT, u, ux⟩ := hsp
  refine ⟨_, hb cdv A outer s H E M (drpX EE) hr ux.drp, startN N ds, M, { nx := fun _ M' => drp QQ .non M', rt := drp QQ }, ⟨Frm.refl, rh, .startN N r⟩, hT, ⟨?_, u.drp, ?_, ?_⟩⟩
  · exact fun δ M' q σ H' f s' => u.drp _ M' q _ H' s'.rh f rfl
  · exact fun δ M' q => (show False from q).elim
  · exact fun δ M' q => (show False from q).elim
theorem fnNone {ps : List Str} {k n : Nat} {CX : CXT} : FnOk P w K mg base CX k f fd ps (liftSp K n fun _ _ _ _ => False) :=
  ⟨fun vs H Q E h => (by obtain ⟨_, _, _, _, _, _, _, h, _⟩ := h; exact h.elim), fun A outer s H args us vs Q E _ _ _ _ h => (by obtain ⟨_, _, _, _, _, _, _, h, _⟩ := h; exact h.elim)⟩
theorem passG {N : List Str} {qual : Str} {scope : Scope} {cd : Value} {A : Around} {outer : List Env} {s0 : Shared} {H0 : Hp} {E : XK} : Passes (CXG P w) (cxOf (CXG P w) P w K mg base N qual scope f cd A outer s0 H0 E) E := by
  intro pins σ H s e s' I ⟨C, hx⟩
  have I' : Inv (cxOf (CXD P w C) P w K mg base N qual scope f cd A outer s0 H0 E) pins σ H s := I.wish _
  have := passD pins σ H s e s' I' hx
  exact wpAny_mono this (fun _ _ z => ⟨C, z⟩) fun _ _ z => ⟨C, z⟩
theorem pass00 {X : Cx} : Passes (CXG P w) X E0 := fun pins σ H s e s' I ⟨C, hx⟩ => by
  obtain ⟨_, _, _, _, _, _, _, _, _, _, _, _, hE⟩ := hx
  exact (show False from hE).elim
end
noncomputable def Sub (M1 M : Mem) : Prop := ∀ b o, M1 b = some o → M b = some o
noncomputable def Dis (M1 M M' : Mem) : Prop := ∀ b o, M b = some o → M1 b = none → M' b = none
noncomputable def plus (M' M1 M : Mem) : Mem := fun b => match M' b with
  | some o => some o
  | none => match M1 b with
    | some _ => none
    | none => M b
theorem plus_self {M' M : Mem} : plus M' M M = M' := by
  funext b
  simp only [plus]
  cases h : M' b with
  | some o => rfl
  | none => cases h2 : M b <;> rfl
structure BxQ (EE : DX) (Q : DK) : Type
structure calls (T : Sd) (EE : DX) (ds : List D) (M : Mem) (Q : DK) (_ : BxQ EE Q) : Prop where
  go : ∃ M1, Sub M1 M ∧ T ds M1 (fun d M' => Dis M1 M M' → Q d (plus M' M1 M)) (fun C M' => Dis M1 M M' → EE C (plus M' M1 M))
section
variable {X : Cx} {B : Mem} {K : PySem.W.Frag} {H H' : Hp} {M M1 M' : Mem}
theorem RepH.sub (r : RepH K H M) (s : Sub M1 M) : RepH K H M1 := fun b o e => r b o (s b o e)
theorem RepH.dis (r : RepH K H M) (f : Frm M1 H M' H') : Dis M1 M M' := fun b o e n => by
  obtain ⟨u, q⟩ := (r b o e).obj
  exact (f.keep b u q n).2
theorem RepH.plus (r : RepH K H M) (s : Sub M1 M) (r' : RepH K H' M') (f : Frm M1 H M' H') : RepH K H' (plus M' M1 M) := fun b o e => by
  simp only [L3.plus] at e
  split at e
  · rename_i o' q; cases e; exact r' b _ q
  · split at e
    · cases e
    · rename_i q n
      obtain ⟨u, hu⟩ := (r b o e).obj
      exact (r b o e).keep (f.imm (r.sub s)) ((f.keep b u hu n).1.trans hu.symm)
theorem Frm.plus (s : Sub M1 M) (f : Frm M1 H M' H') : Frm M H (plus M' M1 M) H' := ⟨fun b u e n => by
  have n1 : M1 b = none := by
    cases q : M1 b with
    | none => rfl
    | some o => rw [s b o q] at n; cases n
  obtain ⟨e', n'⟩ := f.keep b u e n1
  exact ⟨e', by simp only [L3.plus, n', n1, n]⟩⟩
theorem lift_calls {T : Sd} {EE : DX} {ds : List D} {vs : List V} {Q : DK} {n : Nat} {QV : VK} {E : XK} {b : BxQ EE Q} (h : calls T EE ds M Q b) (rh : RepH K H M) (r : Rps K H ds vs) (hl : vs.length = n) (u : Up K M H Q QV) (ux : UpX K M H EE E) : liftSp K n T vs H QV E := by
  obtain ⟨M1, s, h⟩ := h.go
  refine ⟨hl, ds, M1, _, _, rh.sub s, r, h, fun d M' q v H' rh' f r' => ?_, fun C M' q H' rh' f => ?_⟩
  · exact u d _ (q (rh.dis f)) v H' (rh.plus s rh' f) (f.plus s) r'
  · exact ux C _ (q (rh.dis f)) H' (rh.plus s rh' f) (f.plus s)
theorem calls_of {T : Sd} {EE : DX} {ds : List D} {Q : DK} {b : BxQ EE Q} (hm : ∀ Q' E', (∀ d M, Q d M → Q' d M) → (∀ C M, EE C M → E' C M) → T ds M Q' E') : calls T EE ds M Q b :=
  ⟨M, fun _ _ e => e, hm _ _ (fun d M' q _ => by rw [plus_self]; exact q) fun C M' q _ => by rw [plus_self]; exact q⟩
variable {CX : CXT} {k n : Nat} {f C : Addr} {fd : FuncData} {ps : List Str} {T : Sd} {EE : DX} {E : XK} {x m : Str} {p pos apos : Pos} {e o : Expr} {es : List Expr} {ta : dTE} {t : dTA}
noncomputable def dCall (T : Sd) (EE : DX) (n : Nat) (t : dTA) : dTE := fun δ M Q => t δ M fun ds M1 => ds.length = n ∧ calls T EE ds M1 Q ⟨⟩
theorem SR.ux {δ : Dl} {σ : L2.St} (s : SR X B δ M σ H) (ux : UpX X.K B X.H₀ EE E) : UpX X.K M H EE E := ux.go s.i0
theorem de_call (F : FnOk X.prog X.w X.K X.mg X.base CX k f fd ps (liftSp X.K n T)) (hr : Room k X.A) (hg : Gl X x) (hm : X.mg x = some (.ref f)) (hk : PySem.W.keepIn X.K (.ref f) = true) (hb : Binds X.K fd ps []) (hx : Passes CX X E) (ux : UpX X.K B X.H₀ EE E)
    (ha : DA X B (e :: es) t) (hdb : (x == ("__debug__" : Str)) = false := by decide) (he : starEach (e :: es) X.env = (false, eval e X.env) :: starEach es X.env := by rfl) (hpl : (backTo pos (starEach es X.env)).any (·.1) = false := by rfl) :
    DE X B (.Call (.Name x p) (e :: es) [] pos) (dCall T EE n t) := by
  refine pe_weak (pe_call F hr hg hm hk hb .nil hx ha hdb he hpl) ?_
  rintro σ H Q ⟨δ, M, QQ, s, h, u⟩
  refine ⟨δ, M, _, s, h, fun ds M1 h1 vs H1 rh1 i1 r1 => ?_⟩
  dsimp only
  rw [List.append_nil]
  exact lift_calls h1.2 rh1 r1 (by rw [← r1.length]; exact h1.1) (u.go i1) ((s.ux ux).go i1)
end
end L3

namespace L3
open PySem L2
section
variable {X : Cx} {B : Mem} {K : PySem.W.Frag} {H H' : Hp} {M M1 M' : Mem} {o e : Expr} {es : List Expr} {to : dTE} {t : dTA} {name : Str} {apos cpos : Pos} {Ty id : String}
noncomputable abbrev dRM := D → List D → Mem → DK → Prop
noncomputable def liftM (X : Cx) (r : dRM) : V → List V → Hp → VK → Prop := fun x xs H Q => ∃ d ds M QQ, RepH X.K H M ∧ Rp X.K H d x ∧ Rps X.K H ds xs ∧ r d ds M QQ ∧ Up X.K M H QQ Q
noncomputable def dBM (Ty : String) (r : dRM) (to : dTE) (t : dTA) : dTE := fun δ M Q => to δ M fun x M1 => tyName M1 x = some Ty ∧ t δ M1 fun ds M2 => r x ds M2 Q
theorem tyV_of {d : D} {v : V} (rh : RepH K H M) (r : Rp K H d v) (e : tyName M d = some Ty) (h : Ty = "list" ∨ Ty = "str" ∨ Ty = "int" ∨ Ty = "dict") : tyV K Ty v H := by
  cases d with
  | non => cases e; rcases h with h | h | h | h <;> exact absurd h (by decide)
  | bl b => cases e; rcases h with h | h | h | h <;> exact absurd h (by decide)
  | int i => cases r; cases e; rfl
  | str x => cases r; cases e; rfl
  | tup xs => cases e; rcases h with h | h | h | h <;> exact absurd h (by decide)
  | lst xs =>
    cases e
    obtain ⟨p, vs, rfl, hf, r⟩ := r
    exact .inl ⟨rfl, vs, hf.sq⟩
  | ref a =>
    cases r
    simp only [tyName] at e
    split at e
    · rename_i q; cases e; obtain ⟨ws, h1, h2⟩ := rh _ _ q; exact .inl ⟨rfl, ws, SqL.of h1⟩
    · rename_i q; cases e; obtain ⟨ws, h1, h2⟩ := rh _ _ q; exact .inr (.inr (.inl ⟨rfl, .inl ⟨ws, h1⟩⟩))
    · rename_i q; cases e; obtain ⟨ws, h1, h2⟩ := rh _ _ q; exact .inr (.inr (.inl ⟨rfl, .inr ⟨ws, h1⟩⟩))
    · cases e
  | _ => cases e
theorem de_bm {r : dRM} (hT : Ty = "list" ∨ Ty = "str" ∨ Ty = "int" ∨ Ty = "dict") (pa : PlainAttrs Ty) (slot : Slot Ty name id) (hty : typeOf (.builtin id) = pure (.type "method_descriptor")) (hm : MtR X id (liftM X r)) (ho : DE X B o to) (ha : DA X B (e :: es) t)
    (hbase : attributeBase o name X.env (eval o X.env) = eval o X.env := by rfl)
    (hfew : ((backTo cpos (starEach (e :: es) X.env)).all (fun x => !x.1) && (backToKw cpos (keywordEach [] X.env)).all (fun x => x.1.isSome)
      && decide ((e :: es).length + ([] : List Keyword).length + (if ([] : List Keyword).isEmpty then 0 else 1) < 30)) = true := by rfl)
    (hline : (apos.endLine == cpos.line) = true := by rfl) (hs : starEach (e :: es) X.env = (false, eval e X.env) :: starEach es X.env := by rfl) (hplain : (backTo cpos (starEach es X.env)).any (·.1) = false := by rfl) :
    DE X B (.Call (.Attribute o name apos) (e :: es) [] cpos) (dBM Ty r to t) := by
  refine pe_weak (pe_bm pa slot hty hm ho ha hbase hfew hline hs hplain) ?_
  rintro σ H Q ⟨δ, M, QQ, s, h, u⟩
  refine ⟨δ, M, _, s, h, fun x M1 h1 v H1 rh1 i1 r1 => ⟨tyV_of rh1 r1 h1.1 hT, δ, M1, _, s.go rh1 i1, h1.2, fun ds M2 h2 vs H2 rh2 i2 r2 => ?_⟩⟩
  exact ⟨x, ds, M2, QQ, rh2, r1.mf rh1 i2, r2, h2, u.go (i1.trans i2)⟩
noncomputable def mAppend : dRM := fun x ds M Q => match x, ds with
  | .ref a, [y] => match M a with
    | some (.lst xs) => xs.length < sizeLine ∧ Q .non (M.upd a (.lst (xs ++ [y])))
    | _ => False
  | _, _ => False
theorem mt_append' : MtR X "list.append" (liftM X mAppend) := by
  intro pins s σ H x vs v us Q I rx rv h
  obtain ⟨d, ds, M, QQ, rh, r, rs, h, up⟩ := h
  unfold mAppend at h
  split at h
  · rename_i a y
    cases r
    obtain ⟨w, rfl, rw'⟩ := rps1 (ds := []) rs
    split at h
    · rename_i xs hM
      obtain ⟨ws, h1, h2⟩ := rh _ _ hM
      have im : Imm H (upd H a (.lst (ws ++ [w]))) := Imm.upd (by rw [h1]; trivial)
      exact mt_append pins s σ H _ _ v us Q I rx rv ⟨a, ws, w, rfl, rfl, h1, by rw [← h2.length]; exact h.1, up _ _ h.2 _ _ (rh.put (by rw [h1]; trivial) ⟨_, upd_same, (h2.append (.cons rw' .nil)).mono im⟩) (Frm.put (.inr ⟨_, hM⟩)) rfl⟩
    · exact h.elim
  · exact h.elim
noncomputable def mPop : dRM := fun x ds M Q => match x, ds with
  | .ref a, [] => match M a with
    | some (.lst xs) => match xs[xs.length - 1]? with
      | some y => Q y (M.upd a (.lst xs.dropLast))
      | none => False
    | _ => False
  | .ref a, [.int i] => match M a with
    | some (.lst xs) => match ixN xs.length i with
      | some k => match xs[k]? with
        | some y => Q y (M.upd a (.lst (xs.eraseIdx k)))
        | none => False
      | none => False
    | _ => False
  | _, _ => False
theorem mt_pop' : MtR X "list.pop" (liftM X mPop) := by
  intro pins s σ H x vs v us Q I rx rv h
  obtain ⟨d, ds, M, QQ, rh, r, rs, h, up⟩ := h
  unfold mPop at h
  split at h
  · rename_i a
    cases r
    cases rs
    split at h
    · rename_i xs hM
      split at h
      · rename_i y ey
        obtain ⟨ws, h1, h2⟩ := rh _ _ hM
        obtain ⟨w, hw, rw'⟩ := h2.get ey
        have im : Imm H (upd H a (.lst ws.dropLast)) := Imm.upd (by rw [h1]; trivial)
        exact mt_pop pins s σ H _ _ v us Q I rx rv ⟨a, ws, w, rfl, rfl, h1, by rw [← h2.length]; exact hw, up _ _ h _ _ (rh.put (by rw [h1]; trivial) ⟨_, upd_same, h2.dropLast.mono im⟩) (Frm.put (.inr ⟨_, hM⟩)) (rw'.mono im)⟩
      · exact h.elim
    · exact h.elim
  · rename_i a i
    cases r
    obtain ⟨w0, rfl, rw0⟩ := rps1 (ds := []) rs
    cases rw0
    split at h
    · rename_i xs hM
      split at h
      · rename_i k ek
        split at h
        · rename_i y ey
          obtain ⟨ws, h1, h2⟩ := rh _ _ hM
          obtain ⟨w, hw, rw'⟩ := h2.get ey
          obtain ⟨j1, j2, j3, j4⟩ := ixN_seq ek
          have hz : ws.length ≤ sizeLine := (I.lstM h1).1
          have hs : sizeLine = 16777216 := rfl
          have hl := h2.length
          have im : Imm H (upd H a (.lst (ws.eraseIdx k))) := Imm.upd (by rw [h1]; trivial)
          exact mt_popAt pins s σ H _ _ v us Q I rx rv ⟨a, ws, i, k, w, rfl, rfl, h1, by lia, by lia, by rw [← hl]; exact j1, hw, up _ _ h _ _ (rh.put (by rw [h1]; trivial) ⟨_, upd_same, (h2.eraseIdx k).mono im⟩) (Frm.put (.inr ⟨_, hM⟩)) (rw'.mono im)⟩
        · exact h.elim
      · exact h.elim
    · exact h.elim
  · exact h.elim
noncomputable def strsOf : List D → Option (List Str)
  | [] => some []
  | .str x :: ds => match strsOf ds with
    | some xs => some (x :: xs)
    | none => none
  | _ => none
theorem strs_rel : ∀ {ds : List D} {vs : List V} {xs : List Str}, Rps K H ds vs → strsOf ds = some xs → vs = xs.map V.str
  | [], vs, xs, r, e => by cases e; exact r
  | d :: ds, vs, xs, r, e => by
    obtain ⟨v, r', rfl, a, b⟩ := r
    cases d with
    | str c =>
      simp only [strsOf] at e
      split at e
      · rename_i xs' e2
        cases e
        cases a
        rw [strs_rel b e2]
        rfl
      · cases e
    | _ => cases e
end
section
variable {P : Program} {w : World} {K : PySem.W.Frag} {mg : Str → Option Value} {base : Heap} {N : List Str} {qual : Str} {scope : Scope} {f C : Addr} {cd : Value} {A : Around} {outer : List Env} {s0 : Shared} {H0 : Hp} {E : XK} {B : Mem}
theorem ps_wish {X : Cx} {st : Stmt} {t : TS} {E' : Value → Shared → Prop} (h : PS X st t) (k : ∀ e s, X.xe e s → E' e s) : PS (X.wish E') st t := fun pins s σ H D I q =>
  wpAny_mono (h pins s σ H D (I.unwish) q) (fun f s' z => by
    cases f with
    | next => obtain ⟨σ', H', I, q⟩ := z; exact ⟨σ', H', I.wish _, q⟩
    | brk => obtain ⟨σ', H', I, q⟩ := z; exact ⟨σ', H', I.wish _, q⟩
    | cont => obtain ⟨σ', H', I, q⟩ := z; exact ⟨σ', H', I.wish _, q⟩
    | ret u => obtain ⟨v, σ', H', I, r, q⟩ := z; exact ⟨v, σ', H', I.wish _, r, q⟩) k
noncomputable def dRaise (C : Addr) (EE : DX) : dTS := fun _ _ M => EE C M
theorem ds_raise {x msg : Str} {np cpos pos apos : Pos} {jj} {EE : DX} (X : ExcAt K C) (hm : mg x = some (.ref C)) (ux : UpX K B H0 EE E) (hg : Gl (cxOf (CXG P w) P w K mg base N qual scope f cd A outer s0 H0 E) x)
    (hd : (x == ("__debug__" : Str)) = false := by decide)
    (hs : starEach [.Constant (.str msg) jj apos] (cxOf (CXG P w) P w K mg base N qual scope f cd A outer s0 H0 E).env = [(false, eval (.Constant (.str msg) jj apos) (cxOf (CXG P w) P w K mg base N qual scope f cd A outer s0 H0 E).env)] := by rfl) :
    DS (cxOf (CXG P w) P w K mg base N qual scope f cd A outer s0 H0 E) B (.Raise (some (.Call (.Name x np) [.Constant (.str msg) jj apos] [] cpos)) none pos) (dRaise C EE) := by
  have h1 : PS (cxOf (CXD P w C) P w K mg base N qual scope f cd A outer s0 H0 E) (.Raise (some (.Call (.Name x np) [.Constant (.str msg) jj apos] [] cpos)) none pos) (tRaise E C) := ps_raise X hm hg hd hs
  have h2 : PS (cxOf (CXG P w) P w K mg base N qual scope f cd A outer s0 H0 E) (.Raise (some (.Call (.Name x np) [.Constant (.str msg) jj apos] [] cpos)) none pos) (tRaise E C) :=
    ps_wish h1 fun e s h => wpAny_mono h (fun _ _ z => ⟨C, z⟩) fun _ _ z => ⟨C, z⟩
  refine ps_weak h2 ?_
  rintro D σ H ⟨δ, M, DD, s, h, up⟩
  exact ux C M h H s.rh s.i0
end
section
variable {X : Cx} {B : Mem}
theorem fn_only {P : Program} {w : World} {K : PySem.W.Frag} {mg : Str → Option Value} {base : Heap} {k : Nat} {f C : Addr} {fd : FuncData} {ps : List Str} {sp : Sp} (F : FnOk P w K mg base (CXG P w) k f fd ps sp) :
    FnOk P w K mg base (CXD P w C) k f fd ps (fun vs H Q E => sp vs H Q fun Cv a H' => Cv = .ref C ∧ E Cv a H') :=
  ⟨fun vs H Q E h => F.len _ _ _ _ h, fun A outer s H args us vs Q E hr he hb hv hs => codeAny_mono (F.run A outer s H args us vs Q _ hr he hb hv hs) fun r s' h => by
    cases r with
    | ok fl => cases fl <;> exact h
    | error e =>
      obtain ⟨C', ea, H', B, a0, e1, e2, e3, e4, e5, e6, e7, e8, e9, e10⟩ := h
      have eC : C' = C := by injection e9
      subst eC
      exact ⟨ea, H', B, a0, e1, e2, e3, e4, e5, e6, e7, e8, e10⟩⟩
end
end L3

namespace L2
open PySem PySem.Spec PyProof.Rows
theorem relabel_namesD {scope : Scope} {env : Env} {x : Str} {k : NameKind} (h : (relabel scope env).names.lookup x = some k) : ∃ k', (x, k') ∈ scope.names ∧ (k = k' ∨ (k' = .free ∧ k = .cell)) := by
  have hm := PySem.mem_of_lookup h
  obtain ⟨⟨n, kk⟩, h1, h2⟩ := List.mem_map.mp hm
  by_cases hc : (kk == NameKind.free && env.scope.kind == .function && env.kindOf n == some .cell) = true
  · have h2' : (n, NameKind.cell) = (x, k) := by rw [← h2]; show _ = (if _ then _ else _); rw [if_pos hc]
    cases h2'
    have hf : kk = .free := by
      simp only [Bool.and_eq_true] at hc
      exact beq_iff_eq.mp hc.1.1
    exact ⟨kk, h1, .inr ⟨hf, rfl⟩⟩
  · have h2' : (n, kk) = (x, k) := by rw [← h2]; show _ = (if _ then _ else _); rw [if_neg hc]
    cases h2'
    exact ⟨_, h1, .inl rfl⟩
theorem lookup_zipD {x : Str} : ∀ {fs : List Str} {cs : List Addr}, fs.length = cs.length → x ∈ fs → ∃ c, (fs.zip cs).lookup x = some c
  | [], _, _, h => by cases h
  | _ :: _, [], h, _ => by simp at h
  | y :: fs, c :: cs, hl, h => by
    rw [List.zip_cons_cons, List.lookup_cons]
    cases e : x == y with
    | true => exact ⟨c, rfl⟩
    | false =>
      have ne : ¬ x = y := fun z => by rw [z] at e; simp at e
      rcases List.mem_cons.mp h with z | z
      · exact absurd z ne
      · exact lookup_zipD (by simpa using hl) z
theorem compOkZ {X : Cx} {scope : Scope} {ls : List Str} (hk : scope.kind = .function) (hn : ∀ y ∈ scope.names, y.2 ≠ .cell ∧ y.2 ≠ .free) (hl : ∀ x ∈ scope.names, x.2 = .local → scope.names.lookup x.1 = some .local) : CompOk X scope [] ls [] [] where
  kind := hk
  nocell := fun y hy => (hn y hy).1
  locs := hl
  clos := closureFor_none fun x hx => (hn x hx).2
  cells := fun x c h => by cases h
  has := fun x h => by
    rcases h with h | h
    · obtain ⟨k', h1, h2 | ⟨h2, _⟩⟩ := relabel_namesD h
      · exact absurd h2.symm (hn _ h1).1
      · exact absurd h2 (hn _ h1).2
    · obtain ⟨k', h1, h2 | ⟨h2, _⟩⟩ := relabel_namesD h
      · exact absurd h2.symm (hn _ h1).2
      · exact absurd h2 (hn _ h1).2
  frees := .nil
theorem compOkF {X : Cx} {scope : Scope} {ls fs : List Str} {cs : List Addr} {js : List Nat} (hk : scope.kind = .function) (hn : ∀ y ∈ scope.names, y.2 ≠ .cell ∧ (y.2 = .free → y.1 ∈ fs)) (hl : ∀ x ∈ scope.names, x.2 = .local → scope.names.lookup x.1 = some .local)
    (hlen : fs.length = cs.length) (hcl : closureFor scope X.env = pure (fs.zip cs)) (hc : ∀ p ∈ fs.zip cs, X.env.cells.lookup p.1 = some p.2) (hf : Frees X scope fs js) : CompOk X scope (fs.zip cs) ls fs js where
  kind := hk
  nocell := fun y hy => (hn y hy).1
  locs := hl
  clos := hcl
  cells := fun y d h => hc (y, d) (PySem.mem_of_lookup h)
  has := fun y h => by
    have hy : y ∈ fs := by
      rcases h with h | h
      · obtain ⟨k', h1, h2 | ⟨h2, _⟩⟩ := relabel_namesD h
        · exact absurd h2.symm (hn _ h1).1
        · exact (hn _ h1).2 h2
      · obtain ⟨k', h1, h2 | ⟨h2, _⟩⟩ := relabel_namesD h
        · exact (hn _ h1).2 h2.symm
        · exact (hn _ h1).2 h2
    exact lookup_zipD hlen hy
  frees := hf
theorem memZ {α : Type} {C : α → Prop} : ∀ p ∈ ([] : List α), C p := fun _ h => by cases h
theorem memC {α : Type} {C : α → Prop} {a : α} {l : List α} (ha : C a) (hl : ∀ p ∈ l, C p) : ∀ p ∈ a :: l, C p := fun p hp => by
  rcases List.mem_cons.mp hp with rfl | z
  · exact ha
  · exact hl p z
end L2
namespace L3
open PySem L2
section
variable {X : Cx} {B : Mem} {pos : Pos}
theorem dnm (i : Nat) {x : Str} {pos : Pos} (hN : X.N[i]? = some x := by rfl) (hv : Vis X.env.scope x := by first | exact Or.inl rfl | exact Or.inr (Or.inl rfl) | exact Or.inr (Or.inr rfl)) (hd : (x == ("__debug__" : Str)) = false := by decide)
    (hcd : (x == ("__classdict__" : Str)) = false := by decide) : DE X B (.Name x pos) (dVar i) := de_var hN hv hd hcd
noncomputable def NoX : DX := fun _ _ => False
theorem uxN {K : PySem.W.Frag} {H : Hp} {E : XK} : UpX K B H NoX E := fun _ _ z => z.elim
theorem bt_list' : bootBuiltins "list" = some (.type "list") := by decide +kernel
theorem bt_tuple' : bootBuiltins "tuple" = some (.type "tuple") := by decide +kernel
theorem bt_all' : bootBuiltins "all" = some (.builtin "all") := by decide +kernel
theorem bt_isinstance' : bootBuiltins "isinstance" = some (.builtin "isinstance") := by decide +kernel
theorem bt_bool' : bootBuiltins "bool" = some (.type "bool") := by decide +kernel
theorem bt_int' : bootBuiltins "int" = some (.type "int") := by decide +kernel
theorem bt_str' : bootBuiltins "str" = some (.type "str") := by decide +kernel
theorem bt_min' : bootBuiltins "min" = some (.builtin "min") := by decide +kernel
theorem bt_len' : bootBuiltins "len" = some (.builtin "len") := by decide +kernel
theorem de_ty {x : Str} {T : String} (hg : Gl X x) (hm : X.mg x = none) (hv : bootBuiltins x = some (.type T)) (hn : x ≠ "__name__" := by decide) (hd : (x == ("__debug__" : Str)) = false := by decide) : DE X B (.Name x pos) (dC (.ty T)) :=
  de_C (pe_bltn (v := .ty T) hg hm hv rfl hn hd) fun _ => rfl
theorem de_chain {a b c : Expr} {ta tb tc : dTE} {op op' : CmpOp} {r r' : dR2} (ho : OpR X (compareOp op) (liftR2 X r)) (ho' : OpR X (compareOp op') (liftR2 X r')) (ha : DE X B a ta) (hb : DE X B b tb) (hc : DE X B c tc) (hm : lastMarks [op, op'] [b, c] = false := by with_unfolding_all rfl) :
    DE X B (.Compare a [op, op'] [b, c] pos) (dChain r r' ta tb tc) := by
  refine pe_weak (pe_chain ho ho' ha hb hc hm) ?_
  rintro σ H Q ⟨δ, M, QQ, s, h, u⟩
  refine ⟨δ, M, _, s, h, fun x M1 h1 v1 H1 rh1 i1 r1 => ?_⟩
  refine ⟨δ, M1, _, s.go rh1 i1, h1, fun y M2 h2 v2 H2 rh2 i2 r2 => ?_⟩
  refine ⟨x, y, M2, _, rh2, r1.mf rh1 i2, r2, h2, fun z M3 h3 v3 H3 rh3 i3 r3 => ?_⟩
  cases z with
  | bl k =>
    cases r3
    cases k with
    | true =>
      refine ⟨true, rfl, ?_⟩
      rw [if_pos rfl]
      refine ⟨δ, M3, _, s.go rh3 ((i1.trans i2).trans i3), h3, fun w M4 h4 v4 H4 rh4 i4 r4 => ?_⟩
      exact ⟨y, w, M4, QQ, rh4, (r2.mf rh2 (i3.trans i4)), r4, h4, u.go (((i1.trans i2).trans i3).trans i4)⟩
    | false =>
      refine ⟨false, rfl, ?_⟩
      rw [if_neg Bool.false_ne_true]
      exact u _ M3 h3 _ H3 rh3 ((i1.trans i2).trans i3) rfl
  | _ => exact (show False from h3).elim
noncomputable def frzs : List D → Mem → (List D → Mem → Prop) → Prop
  | [], M, Q => Q [] M
  | d :: ds, M, Q => match d with
    | .ref a => match M a with
      | some (.lst xs) => frzs ds (M.del a) fun es M' => Q (.lst xs :: es) M'
      | _ => frzs ds M fun es M' => Q (d :: es) M'
    | _ => frzs ds M fun es M' => Q (d :: es) M'
theorem fn_top {P : Program} {w : World} {K : PySem.W.Frag} {mg : Str → Option Value} {base : Heap} {k n : Nat} {f : Addr} {fd : FuncData} {ps : List Str} {T : Sd} (F : FnOk P w K mg base (CXG P w) k f fd ps (liftSp K n T)) :
    FnOk P w K mg base CX0 k f fd ps (fun vs H Q _ => liftSp K n T vs H Q E0) :=
  ⟨fun vs H Q E h => F.len _ _ _ _ h, fun A outer s H args us vs Q E hr he hb hv hs => codeAny_mono (F.run A outer s H args us vs Q E0 hr he hb hv hs) fun r s' h => by
    cases r with
    | ok fl => cases fl <;> exact h
    | error e =>
      obtain ⟨C', ea, H', B, a0, e1, e2, e3, e4, e5, e6, e7, e8, e9⟩ := h
      exact (show False from e9).elim⟩
theorem law_of2 {K : PySem.W.Frag} {T : Sd} {H : Hp} {a : Addr} {ns : List Int} {Q : VK} (hO : Only H) (hS : SqL K H a (ns.map V.int)) (h : T [.ml (ns.map D.int)] (fun _ => none) (fun d _ => d = .bl true) NoX) (k : ∀ H', Q (.bl true) H') : liftSp K 1 T [.ref a] H Q E0 := by
  refine ⟨rfl, [.ml (ns.map D.int)], fun _ => none, _, _, fun b o e => (by cases e), .cons ⟨a, _, rfl, ?_, Rps.ints rfl⟩ .nil, h, fun d M' q v H' rh f r => ?_, uxN⟩
  · rcases hS with (z | z) | z
    · rcases hO a with e | ⟨o, xs, e⟩
      · rw [e] at z; cases z
      · rw [e] at z; cases z
    · exact .inl z
    · exact .inr z
  · subst q; cases r; exact k H'
end
theorem nsMap_eq_of_inD {K : PySem.W.Frag} {h h' : Heap} {N : Addr} (X : K.In h) (X' : K.In h') (e : PySem.W.nsOkIn K N = true) : h'.nsMap N = h.nsMap N := by
  unfold PySem.W.nsOkIn at e
  split at e
  · rename_i ho
    funext x
    unfold Heap.nsMap
    rw [X _ _ ho, X' _ _ ho]
  · cases e
theorem exc_of_inD {K : PySem.W.Frag} {h : Heap} {C : Addr} (X : K.In h) (q : PySem.W.excIn K C [.type "ValueError", .type "Exception", .type "BaseException", .type "object"] "ValueError.__new__" = true) : ExcAt K C := by
  unfold PySem.W.excIn at q
  split at q
  · rename_i dd cd sl ho
    split at q
    · rename_i C' bm k0 k1 k2 k3 n k5 hm hs
      simp only [Bool.and_eq_true, beq_iff_eq, Bool.not_eq_true'] at q
      obtain ⟨⟨⟨⟨⟨rfl, rfl⟩, hdel⟩, ht⟩, hok⟩, hni⟩ := q
      obtain ⟨nm, bs, mro, ns, qn, hd, sn, sub, ab, col, del⟩ := cd
      dsimp only at hm hdel hok hni
      subst hm hdel
      have hsl : sl = #[k0, k1, k2, k3, some (.builtin "ValueError.__new__"), k5] := by
        obtain ⟨l⟩ := sl
        simp only at hs
        rw [hs]
      subst hsl
      refine ⟨⟨nm, qn, ns, bs, bm, _, hd, sn, sub, ab, col, dd, k0, k1, k2, k3, k5, "ValueError.__new__", "ValueError.__init__", "ValueError", h.nsMap ns, fun h' X' => ⟨X' _ _ ho, ?_, PySem.W.tail_of_in X' ht⟩, PySem.W.nsMap_none_of_in X hok hni, PySem.F.excBase_ValueError, by decide, (PySem.W.tail_of_in X ht).hasType (by decide)⟩⟩
      rw [← nsMap_eq_of_inD X X' hok]
      exact .of_isNs (PySem.W.isNs_of_in X' hok)
    · cases q
  · cases q
end L3

namespace L2
open PySem
theorem sw_comp {elt : Expr} {gens : List Comprehension} {scope : Scope} {pos px : Pos} {x : Str} {line : Nat} {env : Env} (h1 : env.blockKind = .function) (h2 : env.scope.names.lookup x = some .local) (h3 : px.line = pos.line)
    (h4 : (scope.names.any fun (n, k) => n == x && (k == .local || k == .cell)) = false) : swapsWith (.ListComp elt gens scope pos) (some (.Name x px)) line env = pure true := by
  have e : (Expr.ListComp elt gens scope pos).pos = pos := rfl
  have h2' : env.kindOf x = some .local := h2
  unfold swapsWith
  dsimp only
  rw [h1, h2', e, h3, h4]
  simp
end L2

namespace L3
open PySem L2
noncomputable def plainE : Expr → Bool
  | .Starred .. => false
  | _ => true
theorem star_cons {e : Expr} {es : List Expr} {env : Env} (h : plainE e = true) : starEach (e :: es) env = (false, eval e env) :: starEach es env := by
  cases e <;> first | rfl | exact Bool.noConfusion h
section
variable {X : Cx} {B : Mem}
theorem da_c {e : Expr} {es : List Expr} {te : dTE} {t : dTA} (ha : DE X B e te) (hr : DA X B es t) (hp : plainE e = true := by rfl) : DA X B (e :: es) (dCons te t) := da_cons ha hr (star_cons hp)
noncomputable def cInt : dRC := fun ds M Q => match ds with
  | [.bl b] => Q (.int (if b = true then 1 else 0)) M
  | _ => False
theorem call_int' : CallR X (.type "int") (liftC X cInt) := by
  intro pins s σ H xs us Q I r h
  obtain ⟨ds, M, QQ, rh, rp, h, up⟩ := h
  unfold cInt at h
  split at h
  · rename_i b
    obtain ⟨v, rfl, rv⟩ := rps1 (ds := []) rp
    cases rv
    obtain ⟨u, rfl, ru⟩ := vals1 r
    cases ru
    exact call_int_bool ⟨.int _, H, I.tok _, ⟨_, rfl⟩, up _ M h _ H rh Frm.refl rfl⟩
  · exact h.elim
end
end L3

namespace L3
open PySem L2
section
variable {X : Cx} {B : Mem}
end
end L3

namespace L3
open PySem L2
section
variable {X : Cx} {B : Mem}
end
end L3

namespace L3
open PySem L2
section
variable {X : Cx} {B : Mem}
end
end L3

namespace LS
open PySem
end LS
namespace LS
open PySem
section
variable {prog : Program} {w : World} {K : Type} [DecidableEq K] {A : Around} {E : Value → Shared → Prop} {s : Shared}
variable {knd : KeyKind prog w K}
end
end LS

namespace LS
open PySem
section
variable {prog : Program} {w : World} {K : Type} [DecidableEq K] {A : Around} {E : Value → Shared → Prop} {s : Shared} {knd : KeyKind prog w K}
end
end LS

namespace LS
open PySem
section
variable {M : Model} {A : Around} {E : Value → Shared → Prop}
end
end LS

namespace LS
open PySem
section
variable {prog : Program} {w : World} {A : Around} {E : Value → Shared → Prop} {s : Shared} {I a : Addr} {f : Value} {i n ep : Nat} {es : Array (Int × Value)} {t : SetTable}
end
end LS

namespace LS
open PySem
section
variable {prog : Program} {w : World} {A : Around} {E : Value → Shared → Prop} {s : Shared} {I a : Addr} {ep : Nat} {es : Array (Int × Value)} {t : SetTable}
end
end LS

namespace LS
open PySem PySem.W PySem.Calls PyProof.Rows PyProof.V PySem.Spec
section
variable {prog : Program} {w : World} {A : Around} {E : Value → Shared → Prop} {s : Shared} {a : Addr} {ep : Nat} {es : Array (Int × Value)} {t : SetTable}
end
end LS

namespace LS
open PySem
section
variable {prog : Program} {w : World} {A : Around} {E : Value → Shared → Prop} {s : Shared} {a : Addr}
end
end LS
namespace LS
open PySem
section
variable {K : Type} [DecidableEq K] (o : Ord K)
end
end LS

namespace L3
open PySem L2 LS
theorem strs_are : ∀ {ss : List Str} {us : List Value}, Vals (ss.map V.str) us → PyProof.Rows.StrsAre us ss
  | [], _, .nil => .nil
  | _ :: _, _, .cons r t => by obtain ⟨u, rfl⟩ := r; exact .cons _ _ (strs_are t)
theorem rps_strs {K : PySem.W.Frag} {H : Hp} : ∀ (ss : List Str), Rps K H (ss.map D.str) (ss.map V.str)
  | [] => rfl
  | _ :: ss => ⟨_, _, rfl, rfl, rps_strs ss⟩
section
variable {X : Cx} {B : Mem}
end
end L3

namespace LS
open PySem
section
variable {prog : Program} {w : World} {A : Around} {E : Value → Shared → Prop} {s : Shared} {a : Addr}
end
end LS
namespace L3
open PySem L2 LS
section
variable {X : Cx} {B : Mem}
end
end L3

namespace L2
open PySem
section
variable {X : Cx}
end
end L2
namespace L3
open PySem L2 LS
section
variable {X : Cx} {B : Mem}
end
end L3

namespace L3
open PySem L2 LS
section
variable {X : Cx} {B : Mem} {name : Str} {a : Addr} {tab : List (Str × D)}
end
end L3

namespace LS
open PySem
section
variable {prog : Program} {w : World} {K : Type} [DecidableEq K] {A : Around} {E : Value → Shared → Prop} {s : Shared} {knd : KeyKind prog w K}
end
end LS

namespace LS
open PySem
section
variable {prog : Program} {w : World} {K : Type} [DecidableEq K] {A : Around} {E : Value → Shared → Prop} {s : Shared} {knd : KeyKind prog w K}
end
end LS
namespace L2
open PySem PySem.Spec
noncomputable def Its (x : Str) : It := ⟨fun i _ => i < x.cps.size, fun i H v H' => H' = H ∧ ∃ c, x.cps[i]? = some c ∧ v = .str ⟨#[c]⟩, fun i _ => x.cps.size ≤ i⟩
theorem turn_str {P : Program} {w : World} {K : PySem.W.Frag} {tg : Expr} (it : Addr) (x : Str) (t : Tok) : Turn P w K tg (Its x) [it] it (fun i h => h.IsStrIter it "str_ascii_iterator" x t i) where
  mem := by simp
  obj := fun i h st b hb => by
    have e : b = it := by simpa using hb
    subst e
    obtain ⟨o, e, _, d⟩ := st
    exact ⟨o, e, fun v z => by rw [d] at z; cases z⟩
  keep := fun i h h' st k => by
    obtain ⟨o, e, r⟩ := st
    exact ⟨o, k it (by simp) o e, r⟩
  item := by
    intro X hP hw hK hc i pins s σ H E I hf st hg
    subst hP hw hK
    obtain ⟨f0, f1, f2, f3, f4, f5⟩ := hf it (by simp)
    have hi : i < x.cps.size := hg
    refine wpAny_pyNext_ascii_item st (c := x.cps[i]) (by simp [hi]) fun h' st' sb => ?_
    have I1 : Inv X pins σ H { s with heap := h', toks := s.toks + 1 } := I.turned (fun b o hb e => (sb.2 b hb).trans e) f0 f1 f3 f4 f5
    obtain ⟨o, e, c, d⟩ := id st'
    exact ⟨_, rfl, go_of (s := { s with heap := h', toks := s.toks + 1 }) e c d (by decide) ⟨.str ⟨#[x.cps[i]]⟩, H, I1, ⟨_, rfl⟩, ⟨rfl, _, by simp [hi], rfl⟩, st', fun b hb => (hf b hb).1⟩⟩
  done := by
    intro X hP hw hK hc i pins s σ H E I hf st hg
    subst hP hw hK
    obtain ⟨f0, f1, f2, f3, f4, f5⟩ := hf it (by simp)
    have hi : x.cps.size ≤ i := hg
    exact wpAny_pyNext_ascii_end (I.ok.hd hc) st (by simp [hi]) fun h' eb => ⟨rfl, I.turned (t' := s.toks) (fun b o hb e => eb b o hb e) f0 f1 f3 f4 f5⟩
  self := fun _ _ _ _ _ st h => wpAny_pyIter_striter_ascii st h
section
variable {X : Cx} {tg : Expr}
noncomputable def iStr (tl : TE) : TI := fun σ H R => tl σ H fun x H1 => ∃ z : Str, x = .str z ∧ z.cps.all (· < 128) = true ∧ R (Its z) H1
theorem pi_str {l : Expr} {tl : TE} (hl : PE X l tl) : PI X tg l (iStr tl) := by
  intro pins s σ H R I h
  refine thn (hl pins s σ H _ I h) fun v s1 ⟨x, H1, I1, r1, q1⟩ => ?_
  obtain ⟨z, rfl, ha, q⟩ := q1
  obtain ⟨t, rfl⟩ := r1
  refine wpAny_pyIter_ascii ha ?_
  refine ⟨s1.heap.objs.size, [s1.heap.objs.size], _, _, H1, rfl, I1.kept (t' := s1.toks) fun b o e => Heap.get?_push_of_some _ e, turn_str _ z t, ⟨_, Heap.get?_push_size _ rfl, rfl, rfl⟩, fun b hb => ?_, q⟩
  have e : b = s1.heap.objs.size := by simpa using hb
  subst e
  exact I1.fpOk (Nat.le_refl _) (I1.hok.fresh (Nat.le_refl _))
end
end L2
namespace L3
open PySem L2 LS
section
variable {X : Cx} {B : Mem} {tg : Expr} {K : PySem.W.Frag} {H : Hp} {M : Mem}
noncomputable def signsD (z : Str) : List D := z.cps.toList.map fun c => D.str ⟨#[c]⟩
noncomputable def wStr (te : dTE) : dTI := fun δ M R => te δ M fun d M1 => match d with
  | .str z => z.cps.all (· < 128) = true ∧ R ⟨signsD z, []⟩ M1
  | _ => False
theorem str_ok {z : Str} : ItOk K H ⟨signsD z, []⟩ (Its z) := fun i H2 M2 i2 rh2 _ => by
  have hlen : (signsD z).length = z.cps.size := by simp [signsD]
  refine ⟨fun d hd => ?_, fun hle => by rw [hlen] at hle; exact hle⟩
  have hi : i < z.cps.size := by
    rcases Nat.lt_or_ge i z.cps.size with h | h
    · exact h
    · rw [List.getElem?_eq_none (by rw [hlen]; exact h)] at hd; cases hd
  refine ⟨hi, ?_⟩
  rintro x H3 ⟨rfl, c, hc, rfl⟩
  have ed : d = .str ⟨#[c]⟩ := by
    simp only [signsD, List.getElem?_map, Array.getElem?_toList, hc] at hd
    exact (Option.some.inj hd).symm
  subst ed
  exact ⟨Frm.refl, rh2, rfl⟩
theorem di_str {l : Expr} {tl : dTE} (hl : DE X B l tl) : DI X B tg l (wStr tl) := by
  refine pi_weak (pi_str hl) ?_
  rintro σ H R ⟨δ, M, RR, s, h, up⟩
  refine ⟨δ, M, _, s, h, fun d M1 h1 v H1 rh1 i1 r1 => ?_⟩
  split at h1
  · cases r1
    exact ⟨_, rfl, h1.1, up _ M1 h1.2 _ H1 rh1 i1 str_ok⟩
  · exact h1.elim
noncomputable def oLeS : dR2 := fun x y M Q => match x, y with
  | .str a, .str b => Q (.bl (!decide (b.cps.toList < a.cps.toList))) M
  | _, _ => False
theorem op_leS : OpR X (compareOp .LtE) (liftR2 X oLeS) := by
  intro pins s σ H x y v u Q I rx ry h
  obtain ⟨d1, d2, M, QQ, rh, r1, r2, h, up⟩ := h
  unfold oLeS at h
  split at h
  · cases r1; cases r2
    obtain ⟨t, rfl⟩ := rx
    obtain ⟨t2, rfl⟩ := ry
    rename_i a b
    have g := gives_str_le a b t t2
    refine compareOp_gives (op := .LtE) ?_ ?_ F.slot_str_le ?_ ?_ g (fun q => by cases q) ⟨.bl _, H, I, rfl, up _ M h _ H rh Frm.refl rfl⟩
    · exact typeIs_str ..
    · exact typeIs_str ..
    · exact F.entry_str_le
    · exact F.args_str_le_2 ..
  · exact h.elim
end
end L3

namespace L3
open PySem L2
section
variable {X : Cx} {B : Mem} {pos : Pos}
theorem lift_chain {ta tb tc : dTE} {r r' : dR2} {σ : List (Option V)} {H : Hp} {Q : VK} (h : liftE X B (dChain r r' ta tb tc) σ H Q) : tChain (liftR2 X r) (liftR2 X r') (liftE X B ta) (liftE X B tb) (liftE X B tc) σ H Q := by
  obtain ⟨δ, M, QQ, s, h, u⟩ := h
  refine ⟨δ, M, _, s, h, fun x M1 h1 v1 H1 rh1 i1 r1 => ?_⟩
  refine ⟨δ, M1, _, s.go rh1 i1, h1, fun y M2 h2 v2 H2 rh2 i2 r2 => ?_⟩
  refine ⟨x, y, M2, _, rh2, r1.mf rh1 i2, r2, h2, fun z M3 h3 v3 H3 rh3 i3 r3 => ?_⟩
  cases z with
  | bl k =>
    cases r3
    cases k with
    | true =>
      refine ⟨true, rfl, ?_⟩
      rw [if_pos rfl]
      refine ⟨δ, M3, _, s.go rh3 ((i1.trans i2).trans i3), h3, fun w M4 h4 v4 H4 rh4 i4 r4 => ?_⟩
      exact ⟨y, w, M4, QQ, rh4, (r2.mf rh2 (i3.trans i4)), r4, h4, u.go (((i1.trans i2).trans i3).trans i4)⟩
    | false =>
      refine ⟨false, rfl, ?_⟩
      rw [if_neg Bool.false_ne_true]
      exact u _ M3 h3 _ H3 rh3 ((i1.trans i2).trans i3) rfl
  | _ => exact (show False from h3).elim
theorem dt_chain {a b c : Expr} {ta tb tc : dTE} {op op' : CmpOp} {r r' : dR2} (ho : OpR X (compareOp op) (liftR2 X r)) (ho' : OpR X (compareOp op') (liftR2 X r')) (ha : DE X B a ta) (hb : DE X B b tb) (hc : DE X B c tc) (hm : lastMarks [op, op'] [b, c] = false := by with_unfolding_all rfl) :
    DT X B (.Compare a [op, op'] [b, c] pos) (dTest (dChain r r' ta tb tc)) := by
  refine pt_weak (pt_chain ho ho' ha hb hc hm) ?_
  rintro σ H Q ⟨δ, M, QQ, s, h, u⟩
  have h' : liftE X B (dChain r r' ta tb tc) σ H (fun x H' => ∃ k, x = .bl k ∧ Q k H') := by
    refine ⟨δ, M, _, s, h, fun d M' q v H' rh i rp => ?_⟩
    cases d with
    | bl k => exact ⟨k, rp, u k M' q H' rh i⟩
    | _ => exact (show False from q).elim
  exact lift_chain h'
end
end L3

namespace L3
open PySem L2
section
variable {X : Cx} {B : Mem}
end
end L3

namespace L3
open PySem L2 LS
section
variable {X : Cx} {B : Mem}
noncomputable def itx (i : Int) : Str := Str.ofString (toString i)
noncomputable def cStr : dRC := fun ds M Q => match ds with
  | [.int i] => (-1000000 ≤ i ∧ i ≤ 1000000) ∧ Q (.str (itx i)) M
  | _ => False
theorem log_small {a : Int} (h : -1000000 ≤ a ∧ a ≤ 1000000) : a.natAbs.log2 < 1920 := by
  have h1 : a.natAbs ≤ 1000000 := by omega
  rcases Nat.eq_zero_or_pos a.natAbs with z | z
  · rw [z]; decide
  · have := (Nat.log2_lt (by omega) : a.natAbs.log2 < 1920 ↔ a.natAbs < 2 ^ 1920)
    exact this.mpr (Nat.lt_of_le_of_lt h1 (by decide +kernel))
theorem call_str' : CallR X (.type "str") (liftC X cStr) := by
  intro pins s σ H xs us Q I r h
  obtain ⟨ds, M, QQ, rh, rp, h, up⟩ := h
  unfold cStr at h
  split at h
  · obtain ⟨v, rfl, rv⟩ := rps1 (ds := []) rp
    cases rv
    obtain ⟨u, rfl, ru⟩ := vals1 r
    obtain ⟨t, rfl⟩ := ru
    exact P.str_of_int (log_small h.1) ⟨.str _, H, I.tok _, ⟨_, rfl⟩, up _ M h.2 _ H rh Frm.refl rfl⟩
  · exact h.elim
noncomputable def mJoin : dRM := fun x ds M Q => match x, ds with
  | .str z, [d] => match seqD M d with
    | some xs => match strsOf xs with
      | some ss => (z.length ≤ 16 ∧ (ss.map (·.length)).sum + ss.length ≤ 1048576) ∧ Q (.str (PySem.Txt.join z ss)) M
      | none => False
    | none => False
  | _, _ => False
theorem mt_join' : MtR X "str.join" (liftM X mJoin) := by
  intro pins s σ H x vs v us Q I rx rv h
  obtain ⟨d, ds, M, QQ, rh, r, rs, h, up⟩ := h
  unfold mJoin at h
  split at h
  · rename_i z d2
    cases r
    obtain ⟨w, rfl, rw'⟩ := rps1 (ds := []) rs
    obtain ⟨t, rfl⟩ := rx
    split at h
    · rename_i xs ex
      split at h
      · rename_i ss es
        obtain ⟨⟨h1, h2⟩, h3⟩ := h
        obtain ⟨p, ws, rfl, hq, rr⟩ := seqD_of rh rw' ex
        have := strs_rel rr es
        subst this
        obtain ⟨u, rfl, ru⟩ := vals1 rv
        cases ru
        rcases hq with hq | hq
        · obtain ⟨its, r', pl, _⟩ := I.list hq
          exact PyProof.Rows.join_listW pl.isList (by simpa using strs_are r') h1 h2 fun t' k => ⟨.str _, H, I.tok _, ⟨_, rfl⟩, up _ M h3 _ H rh Frm.refl rfl⟩
        · obtain ⟨its, r', pl, _⟩ := I.tuple hq
          exact PyProof.Rows.join_tupleW pl (by simpa using strs_are r') h1 h2 fun t' k => ⟨.str _, H, I.tok _, ⟨_, rfl⟩, up _ M h3 _ H rh Frm.refl rfl⟩
      · exact h.elim
    · exact h.elim
  · exact h.elim
end
end L3

namespace LS
open PySem PySem.W PySem.Calls PyProof.Rows PyProof.V PySem.Spec
section
variable {prog : Program} {w : World} {K : Type} [DecidableEq K] {knd : KeyKind prog w K} {A : Around} {E : Value → Shared → Prop} {s : Shared} {v d : Addr} {ep : Nat} {kvs : List (K × Value)}
end
end LS

namespace L3
open PySem L2 LS
section
variable {X : Cx} {B : Mem} {pos : Pos}
end
end L3

namespace LX
open PySem PySem.W PySem.Spec PySem.Calls PyProof.Rows Builtin Builtin.ObjectAttr Builtin.Getset_descriptor
section
variable {K : Frag} {prog : Program} {w : World} {A : Around} {E : Value → Shared → Prop} {s : Shared}
theorem find_data0 {M : Model} {h : Heap} (X : K.In h) {x C : Addr} {name : Str} {a g : Value} (ha : findIn K (.ref C) name = some (some a)) (hg : specialIn K a "__get__" = some (some g)) (ht : takesIn K a = some true) :
    Looks M h (Builtin.ObjectAttr.find (.ref x) (.ref C) name) (.bind g a) := by
  have L1 := looks_findIn (M := M) X ha
  have L2 : Looks M h (Builtin.ObjectAttr.getOf (some a)) (some g) := looks_specialIn X hg
  have L3 := looks_takesIn (M := M) X ht
  refine L1.andThen (L2.andThen ?_)
  exact (show Looks M h (Builtin.ObjectAttr.dataDescriptor? (some a) (some g)) (some (g, a)) from L3.andThen .now).andThen (Looks.tag .now)
theorem class_getE {x C : Addr} {R : Result → Shared → Prop} {tp : Value} (X : K.In s.heap) (L0 : ∀ M : Model, Looks M s.heap (typeOf (.ref x)) (.ref C)) (hm : mroIn K C (.type "object") = some true)
    (h : R (.ok (.ret (.ref C))) s) : codeAny (model prog w) A (.call (.builtin "getset_descriptor.__get__") ⟨[.builtin "object.__class__", .ref x, tp], []⟩) R s := by
  obtain ⟨hh, g, dr, t, os⟩ := s
  have L0 := L0 (model prog w)
  have L1 := looks_mroIn (M := model prog w) X hm
  refine codeAny_call_builtin KF.slot_gs.plain KF.entry_gs (KF.slot_gs.check _ _ _ _ _ _ _ _ KF.type_class (KF.args_gs _ _ _) ?_)
  unfold Builtin.«getset_descriptor.__get__» descrGet
  rw [dga_obj]
  refine wpAny_bind (wpAny_pure ?_)
  unfold descrGetter descrCheckInstance descrNameAndClass isInstance
  simp only [KF.owner_class]
  repeat lk
  refine ⟨Code.quiet_builtin _ (by decide +kernel), codeAny_builtin KF.entry_class ?_⟩
  unfold Builtin.«object.__class__» shownTypeOf
  repeat lk
  exact h
theorem check_ga {M : Model} {A : Around} {E : Value → Shared → Prop} {s : Shared} {x : Addr} {v : Value} {Q : Unit → Shared → Prop} (L : Looks M s.heap (isInstance (.ref x) (.type "BaseException")) true) (hQ : Q () s) :
    wpAny M A (checkBuiltinCall "BaseException.__getattribute__" ⟨[.ref x, v], []⟩) Q E s := by
  have hsplit : splitId "BaseException.__getattribute__" = some ("BaseException", "__getattribute__") := by decide +kernel
  have hkind : (Manifest.find? "BaseException").bind (·.attrs.lookup "__getattribute__") = some .slot := by decide +kernel
  have hk : builtinKind "BaseException.__getattribute__" = (Manifest.find? "BaseException").bind (·.attrs.lookup "__getattribute__") := by simp only [builtinKind, hsplit]
  have ha : argsOk "BaseException.__getattribute__" ⟨[.ref x, v], []⟩ := F.args_bexc_ga _ _
  simp only [checkBuiltinCall, hk, hkind, hsplit]
  refine wpAny_bind (L.at ?_)
  simp only [Bool.not_true, Bool.false_eq_true, if_false]
  cases hsig : Manifest.signature? "BaseException.__getattribute__" with
  | none => exact wpAny_pure hQ
  | some sig =>
    simp only [argsOk, hsig] at ha
    have h2 : Bind.checkArgs "BaseException.__getattribute__" sig ⟨[.ref x, v], []⟩ = pure () := ha
    show wpAny M A (Bind.checkArgs "BaseException.__getattribute__" sig ⟨[.ref x, v], []⟩) Q E s
    rw [h2]; exact wpAny_pure hQ
theorem slot_ga : Slot "ValueError" "__getattribute__" "BaseException.__getattribute__" := F.excAttr_ValueError.ga
theorem exc_class {x D : Addr} {ox : Obj} (hga : findIn K (.ref D) "__getattribute__" = some (some (.builtin "BaseException.__getattribute__"))) (hgh : findIn K (.ref D) "__getattr__" = some none)
    (ha : findIn K (.ref D) "__class__" = some (some (.builtin "object.__class__")))
    (hn : specialIn K (.builtin "object.__class__") "__get__" = some (some (.builtin "getset_descriptor.__get__"))) (htk : takesIn K (.builtin "object.__class__") = some true) (hm : mroIn K D (.type "object") = some true)
    (hbe : mroIn K D (.type "BaseException") = some true)
    {Q : Option Value → Shared → Prop} (X : K.In s.heap) (I : s.heap.get? x = some ox ∧ ox.cls = .ref D) (h : Q (some (.ref D)) { s with toks := s.toks + 1 }) : wpAny (model prog w) A (getAttr? (.ref x) "__class__") Q E s := by
  obtain ⟨hh, g, d, t, os⟩ := s
  have L00 : ∀ M : Model, Looks M hh (typeOf (.ref x)) (.ref D) := fun M => I.2 ▸ (Looks.ld I.1).andThen .now
  have L0 := L00 (model prog w)
  have L1 := looks_findIn (M := model prog w) X hga
  have L2 := looks_findIn (M := model prog w) X hgh
  have L3 := find_data0 (M := model prog w) (x := x) X ha hn htk
  have L4 : Looks (model prog w) hh (isInstance (.ref x) (.type "BaseException")) true := L0.andThen (looks_mroIn (M := model prog w) X hbe)
  unfold getAttr? getAttrBy? getAttrBy
  refine wpAny_bind (wpAny_mkText (wpAny_bind (wpAny_attempt (wpAny_holding (wpAny_bind (L0.at (wpAny_bind (L1.at ?_))))))))
  show wpAny _ _ (getAttrByItsOwn _ _ _ _ _ _) _ _ _
  unfold getAttrByItsOwn hookBefore
  refine wpAny_bind (L2.at ?_)
  refine wpAny_bind (wpAny_attempt (wpAny_holding ?_))
  show wpAny _ _ (boundAndCalled _ _ _) _ _ _
  unfold boundAndCalled
  rw [slot_ga.bind]
  refine wpAny_bind (wpAny_pure ?_)
  refine wpAny_call ?_
  refine codeAny_call_builtin slot_ga.plain F.entry_bexc_ga (check_ga L4 ?_)
  unfold Builtin.«object.__getattribute__» slotArgs
  refine wpAny_bind (wpAny_pure (wpAny_bind (wpAny_pure (wpAny_bind (L0.at (wpAny_bind (L3.at ?_)))))))
  show wpAny _ _ (Builtin.ObjectAttr.bindTo _ _ _ _) _ _ _
  refine wpAny_bind (wpAny_holding (wpAny_call (class_getE (s := ⟨hh, g, d, t + 1, os⟩) X L00 hm ?_)))
  refine wpAny_pure ?_
  exact handed_on rfl (wpAny_pure h)
end
end LX
namespace LX
open PySem PySem.W PySem.Spec PySem.Calls PyProof.Rows
structure XC (K : Frag) (C : Addr) : Prop where
  ga : findIn K (.ref C) "__getattribute__" = some (some (.builtin "BaseException.__getattribute__"))
  gh : findIn K (.ref C) "__getattr__" = some none
  dct : hasDictIn K C = true
  cl : findIn K (.ref C) "__class__" = some (some (.builtin "object.__class__"))
  sp : specialIn K (.builtin "object.__class__") "__get__" = some (some (.builtin "getset_descriptor.__get__"))
  tk : takesIn K (.builtin "object.__class__") = some true
  ob : mroIn K C (.type "object") = some true
  be : mroIn K C (.type "BaseException") = some true
theorem kitx_exc {K : Frag} {x D : Addr} {ox : Obj} (Z : XC K D) : KitX K (.ref x) (.ref D) (fun h => h.get? x = some ox ∧ ox.cls = .ref D) where
  ty := fun _ _ _ I => I.2 ▸ (Looks.ld I.1).andThen .now
  it := fun _ _ X _ => by
    obtain ⟨cdD, hcD, _⟩ := any_some Z.dct
    unfold clsIn at hcD
    split at hcD
    · rename_i c' d' cd' sl' ho
      intro A' Q' E' s' k q
      unfold isType loadHead
      exact wpAny_bind (wpAny_loadPart (k _ _ (X _ _ ho)) (wpAny_pure q))
    · cases hcD
  ne := fun h tp dd its n sl X htp => by
    obtain ⟨cdD, hcD, _⟩ := any_some Z.dct
    refine Bool.eq_false_iff.mpr fun q => ?_
    have e : D = tp := Value.ref.inj (beq_iff_eq.mp q)
    subst e
    unfold clsIn at hcD
    split at hcD
    · rename_i c' d' cd' sl' ho
      have z := (X _ _ ho).symm.trans htp
      cases z
    · cases hcD
  ca := fun X I k => exc_class Z.ga Z.gh Z.cl Z.sp Z.tk Z.ob Z.be X I k
theorem match_in {K : Frag} {M : Model} {A : Around} {E : Value → Shared → Prop} {s : Shared} {e C S : Addr} {oe : Obj} {Q : Bool → Shared → Prop} (X : K.In s.heap) (h1 : instIn K (.ref S) (.type "tuple") = some false) (h2 : (clsIn K S).isSome = true)
    (h3 : mroIn K S (.type "BaseException") = some true) (h4 : mroIn K C (.ref S) = some true) (he : s.heap.get? e = some oe) (hcls : oe.cls = .ref C) (hq : Q true s) : wpAny M A (excMatches (.ref e) (.ref S)) Q E s := by
  have L1 := looks_instIn (M := M) X h1
  have L3 := looks_mroIn (M := M) X h3
  have L4 := looks_mroIn (M := M) X h4
  have L2 : Looks M s.heap (isType (.ref S)) true := by
    unfold clsIn at h2
    split at h2
    · rename_i c' d' cd' sl' ho
      intro A' Q' E' s' k q
      unfold isType loadHead
      exact wpAny_bind (wpAny_loadPart (k _ _ (X _ _ ho)) (wpAny_pure q))
    · cases h2
  have L5 : Looks M s.heap (typeOf (.ref e)) (.ref C) := hcls ▸ (Looks.ld he).andThen .now
  obtain ⟨hh, g, d, t, os⟩ := s
  unfold excMatches isExcClass
  refine wpAny_bind (L1.at ?_)
  simp only [Bool.false_eq_true, if_false]
  refine wpAny_bind (wpAny_pure ?_)
  rw [List.forIn_cons]
  refine wpAny_bind (wpAny_bind (wpAny_bind (wpAny_bind (L2.at ?_))))
  simp only [if_true]
  refine L3.at ?_
  simp only [Bool.not_true, Bool.false_eq_true, if_false]
  refine wpAny_pure ?_
  dsimp only
  rw [List.forIn_nil]
  refine wpAny_pure (wpAny_bind (L5.at ?_))
  rw [List.forIn_cons]
  refine wpAny_bind (wpAny_bind (wpAny_bind (L4.at ?_)))
  simp only [if_true]
  refine wpAny_pure ?_
  dsimp only
  exact wpAny_pure (wpAny_pure hq)
end LX

namespace L2
open PySem PySem.Spec PyProof.Rows
section
variable {X : Cx} {pins : List (Addr × Obj)} {σ : St} {H : Hp} {s : Shared} {e : Value}
theorem Inv.track {a : Addr} {o : Obj} (I : Inv X pins σ H s) (ho : s.heap.get? a = some o) (hn : H a = none) (hf : ∀ u, X.s₀.heap.get? a ≠ some u) (hL : a ≠ X.env.locals) (hc : ∀ x c, X.env.cells.lookup x = some c → c ≠ a) (hp : ∀ p ∈ X.pn ++ pins, p.1 ≠ a) : Inv X pins σ (upd H a (.frz o (.own 0))) s := by
  have ne : ∀ {b : Addr}, b ≠ a → upd H a (.frz o (.own 0)) b = H b := fun h => by simp [upd, h]
  refine ⟨I.ok, I.os, I.bare, ⟨fun b u q n => I.base.keep b u q n, fun b u q n => I.base.slot b u q n, fun b u q n hx => ?_, I.base.there, fun b xs q => ?_, fun b ob u q => ?_, fun b ps q => ?_⟩, I.loc, I.cell, ?_, fun x c q => ?_, fun p q => ?_, fun b ob q => ?_, I.len⟩
  · by_cases hb : b = a
    · subst hb; exact absurd q (hf u)
    · rw [ne hb]; exact I.base.free b u q n hx
  · have z := I.base.tups b xs q
    rw [ne (fun hb => by rw [hb, hn] at z; cases z)]; exact z
  · have z := I.base.frzs b ob u q
    rw [ne (fun hb => by rw [hb, hn] at z; cases z)]; exact z
  · obtain ⟨m, z⟩ := I.base.tbls b ps q
    exact ⟨m, by rw [ne (fun hb => by rw [hb, hn] at z; cases z)]; exact z⟩
  · rw [ne (Ne.symm hL)]; exact I.free
  · rw [ne (hc x c q)]; exact I.freeC x c q
  · obtain ⟨z1, z2, z3⟩ := I.pin p q
    exact ⟨z1, by rw [ne (hp p q)]; exact z2, z3⟩
  · by_cases hb : b = a
    · subst hb
      have : ob = .frz o (.own 0) := by
        have : upd H b (.frz o (.own 0)) b = some (.frz o (.own 0)) := by simp [upd]
        rw [this] at q; cases q; rfl
      subst this
      exact ⟨ho, o, ho⟩
    · rw [ne hb] at q
      exact (I.hok b ob q).stay (fun c w' _ q' => q') (fun c q' => by rw [ne (fun hb => by rw [hb, hn] at q'; cases q')]; exact q') fun c xs q' => by rw [ne (fun hb => by rw [hb, hn] at q'; cases q')]; exact q'
theorem name_goes {M : Model} {A : Around} {E : Value → Shared → Prop} {i : Nat} {x : Str} {pos : Pos} {Q : Unit → Shared → Prop} (I : Inv X pins σ H s) (hN : X.N.Nodup) (hi : X.N[i]? = some x) (hk : X.env.kindOf x = some .local)
    (h : ∀ s', Inv X pins (σ.set i none) H s' → Q () s') : wpAny M A (do bindName X.env x .none; unbindBehindTheSuite X.env x pos) Q E s := by
  obtain ⟨m, hn, hl⟩ := id I.loc
  have hcls : (X.env.scope.kind == .class || (X.env.scope.kind == .module && X.env.locals != X.env.globals)) = false := by rw [I.ok.kind]; rfl
  have hiσ : i < σ.length := by rw [I.len]; exact (List.getElem?_eq_some_iff.mp hi).1
  have cne := I.cne
  refine wpAny_nameGoes_keeps hk hn hcls (fun h' v hn' hs => ?_)
  obtain ⟨oL, _, _, hoL, _⟩ := id hn
  have tracked : HOk X.prog X.w H h' := fun b ob e => by
    refine (I.hok b ob e).stay (fun c w' hc q => (hs.2 c ?_).trans q) (fun _ q => q) fun _ _ q => q
    rintro rfl
    have hfree := I.free
    rcases hc with rfl | hc
    · rw [hfree] at e; cases e
    · rw [hfree] at hc; cases hc
  refine h _ ⟨I.ok, I.os, I.bare, ⟨fun b o e n hb hx => ?_, fun b o e n hb hx => ?_, I.base.free, fun b o e hx => ?_, I.base.tups, I.base.frzs, I.base.tbls⟩, ⟨_, hn', fun j y v' e1 e2 e3 => ?_⟩, fun y c e => ?_, I.free, I.freeC, fun p hp => ?_, tracked, by simpa using I.len⟩
  · exact (hs.2 b (Nat.ne_of_lt (Nat.lt_of_lt_of_le (Heap.lt_size e) I.ok.above))).trans (I.base.keep b o e n hb hx)
  · obtain ⟨sl, e1⟩ := I.base.slot b o e n hb hx
    exact ⟨sl, (hs.2 b (Nat.ne_of_lt (Nat.lt_of_lt_of_le (Heap.lt_size e) I.ok.above))).trans e1⟩
  · obtain ⟨o', e1⟩ := I.base.there b o e hx
    exact ⟨o', (hs.2 b (Nat.ne_of_lt (Nat.lt_of_lt_of_le (Heap.lt_size e) I.ok.above))).trans e1⟩
  · by_cases hj : j = i
    · subst hj
      rw [List.getElem?_set_self hiσ] at e2
      cases e2
    · rw [List.getElem?_set_ne (Ne.symm hj)] at e2
      obtain ⟨u', r', q⟩ := hl j y v' e1 e2 e3
      refine ⟨u', r', ?_⟩
      rcases q with ⟨k, e⟩ | ⟨k, c, e, z⟩
      · refine .inl ⟨k, ?_⟩
        have : y ≠ x := fun e => hj (nodup_ix hN e1 (e ▸ hi))
        simp [this, e]
      · exact .inr ⟨k, c, e, z.sameBut hs (cne y c e)⟩
  · obtain ⟨w', z⟩ := I.cell y c e
    exact ⟨w', z.sameBut hs (cne y c e)⟩
  · obtain ⟨e, n, ne, nf, d⟩ := I.pin p hp
    exact ⟨(hs.2 p.1 ne).trans e, n, ne, nf, d⟩
noncomputable def ExcH (H : Hp) (C ea : Addr) : Prop := ∃ o, H ea = some (.frz o (.own 0)) ∧ o.cls = .ref C
structure XS (K : PySem.W.Frag) (C S : Addr) : Prop where
  tu : PySem.W.instIn K (.ref S) (.type "tuple") = some false
  cl : (PySem.W.clsIn K S).isSome = true
  be : PySem.W.mroIn K S (.type "BaseException") = some true
  mr : PySem.W.mroIn K C (.ref S) = some true
noncomputable def tTryAs (C : Addr) (sp : Sp) (ta : TA) (i j : Nat) (ts : Addr → TS) : TS := fun D σ H => ta σ H fun vs H1 => sp vs H1 (fun v H2 => D.nx (σ.set i (some v)) H2)
  (fun _ _ H2 => ∀ ea H3, (∀ b, b ≠ ea → H3 b = H2 b) → H2 ea = none → ExcH H3 C ea → ts ea { nx := fun σ' H' => D.nx (σ'.set j none) H', rt := fun _ _ => False } (σ.set j (some (.ref ea))) H3)
theorem ps_tryAs {C S f : Addr} {k : Nat} {fd : FuncData} {ps : List Str} {sp : Sp} {x cx y n : Str} {i j : Nat} {p cp ep np hpos pos yp : Pos} {e : Expr} {es : List Expr} {ta : TA} {b₀ : Stmt} {suite : List Stmt} {ts : Addr → TS}
    (hst : X.stack = X.env :: X.outer) (hfL : X.env.frame = some X.env.locals) (hex : X.ex = []) (F : FnOk X.prog X.w X.K X.mg X.base (CXD X.prog X.w C) k f fd ps sp) (hr : Room k X.A) (hg : Gl X x) (hm : X.mg x = some (.ref f)) (hk : PySem.W.keepIn X.K (.ref f) = true) (hb : Binds X.K fd ps [])
    (ha : PA X.nox (e :: es) ta) (ES : XS X.K C S) (hgC : Gl X cx) (hmC : X.mg cx = some (.ref S)) (hsu : ∀ ea : Addr, PSs (X.marked (.ref ea)) (b₀ :: suite) (ts ea))
    (hN : X.N.Nodup) (hi : X.N[i]? = some y) (hy : Loc X.env.scope y) (hj : X.N[j]? = some n) (hn : X.env.kindOf n = some .local)
    (hdb : (x == ("__debug__" : Str)) = false := by decide) (hdC : (cx == ("__debug__" : Str)) = false := by decide) (he : starEach (e :: es) X.env = (false, eval e X.env) :: starEach es X.env := by rfl) (hpl : (backTo cp (starEach es X.env)).any (·.1) = false := by rfl)
    (hsw : swapsWith (.Call (.Name x p) (e :: es) [] cp) (some (.Name y yp)) ep.line X.env = pure false := by rfl)
    (hf : X.fn y = true ∨ X.env.scope.names.lookup y = some .local := by first | exact .inl rfl | exact .inr rfl | assumption) (hfn : X.fn n = true ∨ X.env.scope.names.lookup n = some .local := by first | exact .inl rfl | exact .inr rfl | assumption) :
    PS X (.Try [.Assign [.Name y yp] (.Call (.Name x p) (e :: es) [] cp) ep] [.ExceptHandler (some (.Name cx np)) (some n) (b₀ :: suite) hpos] [] [] pos) (tTryAs C sp ta i j ts) := by
  intro pins s σ H D I h
  refine wpAny_Try_except (wpAny_execs_cons (wpAny_Assign_Name ?_ hsw))
  refine wpAny_Call_Name_kw (ld_glob I hg hm ?_ hdb)
  refine PySem.W.callWith_K (h₀ := X.base) I.ok.mod.kin hk (wpAny_mono (ha cp pins s σ H _ (I.wish _) h) (fun us s1 ⟨vs, H1, I1', r, q⟩ => ?_) fun _ _ z => False.elim z) he hpl
  have I1 : Inv X pins σ H1 s1 := I1'.unwish
  refine ⟨I1.kIn, ?_⟩
  have hl : us.length = ps.length := by rw [← r.length]; exact F.len _ _ _ _ q
  have hb1 := hb s1 us I1.kIn (by rw [List.append_nil]; exact hl)
  rw [List.append_nil] at hb1
  refine wpAny_call (codeAny_mono (F.run X.A X.stack s1 H1 ⟨us, []⟩ us vs _ _ hr I1.env0 hb1 r q) fun rr s' hq => ?_)
  cases rr with
  | ok fl =>
    cases fl with
    | ret u =>
      obtain ⟨x', H2, I2, r2, q2⟩ := I1.after hq
      refine store_ok I2 hN hi hy r2 (fun s2 I3 => ?_) hf
      exact wpAny_execs_nil (wpAny_execs_nil ⟨_, H2, I3, q2⟩)
    | next => exact False.elim hq
    | brk => exact False.elim hq
    | cont => exact False.elim hq
  | error er =>
    obtain ⟨ea, H', B, a0, rfl, hos, hbare, un, hok, hfl, sT, sA, hE⟩ := hq
    have nf : ∀ b ∈ frs X.stack, ∀ o, s1.heap.get? b = some o → ∀ vs, o.data ≠ .fields vs := fun b hb' o q' vs => by
      obtain ⟨_, o', ho', hd'⟩ := I1.stack.mem (show b ∈ _ from hb')
      rw [q'] at ho'
      cases ho'
      exact hd' vs
    have shift : ∀ h' : Heap, B.StaysIn h' → s'.heap.UpToSlots h' → Inv X pins σ H' { s' with heap := h' } := fun h' k up =>
      I1.call' (s' := { s' with heap := h' }) hos (un_fly un hfl.1 k up sA nf fun b hb' => I1.stkFree b hb') (hok_fly hok hfl.1 k sT) hbare fun b z => absurd (show b ∈ ([] : List Addr) from z) (by simp)
    rw [hst] at hfl
    have hfr : X.A.frames = some (X.env :: X.outer) := by rw [← hst]; exact I1.ok.frames
    refine wpAny_looks_onW hfr hfL hfl fun h4 held4 up4 => ?_
    refine wpAny_landsW held4 fun h5 hfl5 up5 => ?_
    have I5 := (shift h5 hfl5.1 (up4.trans up5)).mark (.ref ea)
    obtain ⟨ob, hob, hobc⟩ := hfl5.there
    refine wpAny_handleBy_cons (codeAny_handlers_test (ld_glob I5 hgC hmC ?_ hdC)) (by intro q'; cases q')
    refine LX.match_in I5.kIn ES.tu ES.cl ES.be ES.mr hob hobc (codeAny_handlers_suite_as ?_)
    refine lands_againW hfl5 fun h6 hfl6 up6 => ?_
    have I6 := shift h6 hfl6.1 ((up4.trans up5).trans up6)
    obtain ⟨oe, ws, hoe, hoec, hoed, _⟩ := hfl6.first
    have hn' : H' ea = none := by
      cases q' : H' ea with
      | none => rfl
      | some u => obtain ⟨o', z⟩ := sT ea u q'; rw [hfl6.2.1] at z; cases z
    have new1 : ∀ u, s1.heap.get? ea ≠ some u := fun u q' => by
      by_cases hb' : ea ∈ frs X.stack
      · obtain ⟨_, o', ho', hd'⟩ := I6.stack.mem (show ea ∈ _ from hb')
        rw [show ({ s' with heap := h6 } : Shared).heap.get? ea = some oe from hoe] at ho'
        cases ho'
        exact hd' ws hoed
      · obtain ⟨o', z⟩ := sA ea u q' hb'
        rw [hfl6.2.1] at z; cases z
    have I7 := I6.track (o := oe) hoe hn' (fun u q' => by
        obtain ⟨o', z⟩ := I1.base.there ea u q' (by rw [hex]; simp)
        exact new1 _ z) (fun q' => by
        obtain ⟨m, ⟨oL, _, _, hoL, _⟩, _⟩ := I1.loc
        exact new1 _ (q' ▸ hoL)) (fun y c q' z => by
        obtain ⟨v, o', ho', _⟩ := I1.cell y c q'
        exact new1 _ (z ▸ ho')) (fun p' q' z => by
        exact new1 _ (z ▸ (I1.pin p' q').1))
    refine store_ok I7 hN hj (.inl hn) (show RelV (.ref ea) (.ref ea) from rfl) (fun s8 I8 => ?_) hfn
    have h8 := hE ea (upd H' ea (.frz oe (.own 0))) (fun b hb' => by simp [upd, hb']) hn' ⟨oe, by simp [upd], hoec⟩
    refine wpAny_mono (hsu ea pins _ _ _ _ (I8.mark (.ref ea)) h8) (fun fl s9 q9 => ?_) fun _ _ z => False.elim z
    cases fl with
    | next =>
      obtain ⟨σ', H9, I9, q9⟩ := q9
      exact name_goes (I9.unmark I.ok) hN hj hn fun s10 I10 => ⟨_, H9, I10, q9⟩
    | ret u => obtain ⟨_, _, _, _, _, z⟩ := q9; exact False.elim z
    | brk => obtain ⟨_, _, _, z⟩ := q9; exact False.elim z
    | cont => obtain ⟨_, _, _, z⟩ := q9; exact False.elim z
end
end L2

namespace L2
open PySem PySem.Spec PyProof.Rows
structure RoomN (k : Nat) (A : Around) : Prop where
  dp : A.depth + 3 * k + 5 < recursionLimit
  un : A.units + 16 * k + 200 < cLine
  gd : A.guards = some []
theorem Room.n {k : Nat} {A : Around} (r : Room k A) (e : Option Value) : RoomN k (A.mark e) := ⟨r.dp, r.un, r.gd⟩
theorem RoomN.deeper {k : Nat} {A : Around} (r : RoomN (k + 1) A) (env : Env) : RoomN k (A.deeper env) :=
  ⟨by have := r.dp; show A.depth + 1 + 3 * k + 5 < _; lia, by have := r.un; show A.units + 3 + 16 * k + 200 < _; lia, r.gd⟩
theorem RoomN.depth {k : Nat} {A : Around} (r : RoomN k A) : A.depth < recursionLimit := by have := r.dp; lia
theorem RoomN.units {k : Nat} {A : Around} (r : RoomN k A) : A.units + 64 < cLine := by have := r.un; lia
structure FnOkN (P : Program) (w : World) (K : PySem.W.Frag) (mg : Str → Option Value) (base : Heap) (CX : CXT) (k : Nat) (f : Addr) (fd : FuncData) (ps : List Str) (sp : Sp) : Prop where
  len : ∀ vs H Q E, sp vs H Q E → vs.length = ps.length
  run : ∀ (A : Around) (outer : List Env) (s : Shared) (H : Hp) (args : Args) (us : List Value) (vs : List V) (Q : VK) (E : XK), RoomN k A → Env0 P w K mg base A outer s H → BindsTo s fd args (ps.zip us) → Vals vs us → sp vs H Q E →
    codeAny (model P w) A (.call (.ref f) args) (CR CX outer P w H s Q E) s
noncomputable def cxOfN (CX : CXT) (P : Program) (w : World) (K : PySem.W.Frag) (mg : Str → Option Value) (base : Heap) (N : List Str) (qual : Str) (scope : Scope) (f : Addr) (cd : Value) (A : Around) (outer : List Env) (s : Shared) (H : Hp) (E : XK) : Cx where
  prog := P
  w := w
  K := K
  mg := mg
  base := base
  A := A.deeper (envOfC qual scope s.heap.objs.size f cd)
  N := N
  s₀ := s
  H₀ := H
  env := envOfC qual scope s.heap.objs.size f cd
  outer := outer
  stack := envOfC qual scope s.heap.objs.size f cd :: outer
  ex := []
  calm := false
  fn := fun _ => true
  pn := []
  xe := fun e s' => wpAny (model P w) (A.deeper (envOfC qual scope s.heap.objs.size f cd)) (leaving (envOfC qual scope s.heap.objs.size f cd) e) (fun _ s'' => CX outer H s E e s'') (fun e' s'' => CX outer H s E e' s'') s'
theorem inv_startN {CX : CXT} {P : Program} {w : World} {K : PySem.W.Frag} {mg : Str → Option Value} {base : Heap} {N ps : List Str} {qual : Str} {scope : Scope} {f : Addr} {cd : Value} {A : Around} {outer : List Env} {s s1 : Shared} {H : Hp} {E : XK} {us : List Value} {vs : List V}
    (S : FnScope N ps scope) (e0 : Env0 P w K mg base A outer s H) (hl : vs.length = ps.length) (r : Vals vs us)
    (x : InCallC s s.heap.objs.size (bindL (envOfC qual scope s.heap.objs.size f cd).kindOf (ps.zip us) fun _ => none) (cellsFrom (s.heap.objs.size + 1) scope.names []) (bindC (envOfC qual scope s.heap.objs.size f cd).kindOf (ps.zip us) fun _ => none) s1) :
    Inv (cxOfN CX P w K mg base N qual scope f cd A outer s H E) [] (start N vs) H s1 := by
  have e1 : Env0 P w K mg base { A with handled := none } outer s H := ⟨e0.frames, e0.mod, e0.bs, e0.bsz, e0.funs, e0.frf, e0.hok, e0.bare⟩
  have I := inv_start (CX := CX) (E := E) (A := { A with handled := none }) (qual := qual) (f := f) (cd := cd) S rfl e1 hl r x
  exact ⟨⟨I.ok.mod, I.ok.kind, I.ok.glob, I.ok.blt, I.ok.above, I.ok.inj, I.ok.has, I.ok.cab, fun z => (Bool.noConfusion z), I.ok.frames, I.ok.stk, I.ok.exf, I.ok.bs, I.ok.bsz, I.ok.noex, I.ok.exfs, I.ok.funs, I.ok.frf⟩, I.os, I.bare, I.base, I.loc, I.cell, I.free, I.freeC, I.pin, I.hok, I.len⟩
theorem fn_ofN {CX : CXT} {P : Program} {w : World} {K : PySem.W.Frag} {mg : Str → Option Value} {base : Heap} {k : Nat} {f : Addr} {name qual : Str} {params : Arguments} {body : List Stmt} {scope : Scope} {dV kV doc pm cdv ct oc : Value} {an od : Option Addr}
    {osl : Array (Option Value)} {N ps : List Str} {sp : Sp} (lk : K.lookup f = some ⟨oc, od, .func (PySem.W.fnOf name qual params body scope dV kV doc pm an cdv ct), osl⟩) (hcd : PySem.W.codeIn K cdv qual = true) (S : FnScope N ps scope)
    (len : ∀ vs H Q E, sp vs H Q E → vs.length = ps.length)
    (hbody : ∀ (A : Around) (outer : List Env) (s : Shared) (H : Hp) (vs : List V) (Q : VK) (E : XK), RoomN k (A.deeper (envOfC qual scope s.heap.objs.size f cdv)) → sp vs H Q E →
      ∃ t, PSs (cxOfN CX P w K mg base N qual scope f cdv A outer s H E) body t ∧ t { nx := fun _ H' => Q .non H', rt := Q } (start N vs) H) :
    FnOkN P w K mg base CX (k + 1) f (PySem.W.fnOf name qual params body scope dV kV doc pm an cdv ct) ps sp := by
  refine ⟨len, fun A outer s H args us vs Q E hr e0 hb r hsp => ?_⟩
  have hl := len _ _ _ _ hsp
  have KX : K.In s.heap := e0.mod.kin.keeps fun b o e => (e0.bs b o e).1
  have lim : s.heap.NoLimit := e0.mod.nolimit.keeps fun b o e => (e0.bs b o e).1
  have hkind : ∀ y ∈ ps.zip us, scope.names.lookup y.1 = some .local ∨ (scope.names.lookup y.1 = some .cell ∧ ((cellsFrom (s.heap.objs.size + 1) scope.names []).lookup y.1).isSome = true) := fun ⟨n, v⟩ hy => by
    rcases S.par n (List.of_mem_zip hy).1 with q | q
    · exact .inl q
    · exact .inr ⟨q, PySem.W.cellsFrom_some _ _ _ (.inl q)⟩
  refine codeAny_call_function hr.depth (KX _ _ lk) rfl S.co S.gen rfl (PySem.W.codeRec_of KX hcd) (hb _ _ _ _ ?_)
  refine wpAny_newFunctionEnv_cells S.kind hkind fun env he s1 x => ?_
  subst he
  refine ⟨lim.keeps x.toInCall.keep, codeAny_func ?_⟩
  obtain ⟨t, ht, hq⟩ := hbody A outer s H vs Q E (hr.deeper _) hsp
  have I : Inv (cxOfN CX P w K mg base N qual scope f cdv A outer s H E) [] (start N vs) H s1 := inv_startN S e0 hl r x
  refine wpAny_mono (ht [] s1 (start N vs) H _ I hq) (fun fl s' hs => ?_) fun e s' hs => hs
  have fin : ∀ {σ' : St} {H' : Hp} {v : V} {u : Value}, Inv (cxOfN CX P w K mg base N qual scope f cdv A outer s H E) [] σ' H' s' → RelV v u → Q v H' → CE outer P w H s Q u s' :=
    fun {σ' H' v u} J rv q => ⟨v, H', J.os, J.bare, J.base, J.hok, rv, q⟩
  cases fl with
  | ret u =>
    obtain ⟨v, σ', H', J, rv, q⟩ := hs
    exact fin J rv q
  | next =>
    obtain ⟨σ', H', J, q⟩ := hs
    exact fin (v := V.non) (u := Value.none) J rfl q
  | brk =>
    obtain ⟨_, _, _, q⟩ := hs
    exact False.elim q
  | cont =>
    obtain ⟨_, _, _, q⟩ := hs
    exact False.elim q
theorem pe_callN {X : Cx} {CX : CXT} {k : Nat} {f : Addr} {fd : FuncData} {ps : List Str} {sp : Sp} {E : XK} {x : Str} {p pos : Pos} {e : Expr} {es : List Expr} {t : TA} (F : FnOkN X.prog X.w X.K X.mg X.base CX k f fd ps sp) (hr : RoomN k X.A) (hg : Gl X x) (hm : X.mg x = some (.ref f)) (hk : PySem.W.keepIn X.K (.ref f) = true) (hb : Binds X.K fd ps []) (hx : Passes CX X E)
    (ha : PA X (e :: es) t) (hdb : (x == ("__debug__" : Str)) = false := by decide) (he : starEach (e :: es) X.env = (false, eval e X.env) :: starEach es X.env := by rfl) (hpl : (backTo pos (starEach es X.env)).any (·.1) = false := by rfl) :
    PE X (.Call (.Name x p) (e :: es) [] pos) (tCall sp [] E t) := by
  intro pins s σ H Q I h
  refine wpAny_Call_Name_kw (ld_glob I hg hm ?_ hdb)
  refine PySem.W.callWith_K (h₀ := X.base) I.ok.mod.kin hk (thn (ha pos pins s σ H _ I h) fun us s1 ⟨vs, H1, I1, r, q⟩ => ⟨I1.kIn, ?_⟩) he hpl
  have q : sp (vs ++ []) H1 Q E := q
  rw [List.append_nil] at q
  have hl : us.length = ps.length := by rw [← r.length]; exact F.len _ _ _ _ q
  have hb1 := hb s1 us I1.kIn (by rw [List.append_nil]; exact hl)
  rw [List.append_nil] at hb1
  refine wpAny_call (codeAny_mono (F.run X.A X.stack s1 H1 ⟨us, []⟩ us vs _ _ hr I1.env0 hb1 r q) fun rr s' hq => ?_)
  cases rr with
  | ok fl =>
    cases fl with
    | ret u => exact I1.after hq
    | next => exact False.elim hq
    | brk => exact False.elim hq
    | cont => exact False.elim hq
  | error er => exact hx pins σ H1 s1 er s' I1 hq
end L2
namespace L2
open PySem
theorem call_isinstE {X : Cx} : CallR X (.builtin "isinstance") (fun xs H Q => ∃ ea C c cv b, xs = [.ref ea, c] ∧ ExcH H C ea ∧ LX.XC X.K C ∧ (∀ u, RelV c u → u = cv) ∧ PySem.W.kitOne X.K (.ref C) cv = some b ∧ Q (.bl b) H) := by
  intro pins s σ H xs us Q I r h
  obtain ⟨ea, C, c, cv, b, rfl, ⟨o, ho, hc⟩, Z, hv, e, q⟩ := h
  obtain ⟨u, w, rfl, rx, rc⟩ := r.two
  obtain rfl : u = Value.ref ea := rx
  obtain rfl := hv _ rc
  obtain ⟨h1, _⟩ := (show ObjOk X.prog X.w H s.heap ea (.frz o (.own 0)) from I.hok ea _ ho)
  exact PySem.W.kia_one (LX.kitx_exc Z) I.kIn ⟨h1, hc⟩ e (fun z => nomatch z) fun tk => ⟨.bl b, H, I.tok tk, rfl, q⟩
end L2
namespace L3
open PySem L2
section
variable {X : Cx} {B : Mem} {K : PySem.W.Frag} {H H' : Hp} {M M1 M' : Mem}
theorem ExcH.frm {C ea : Addr} (f : Frm M H M' H') (h : ExcH H C ea) (n : M ea = none) : ExcH H' C ea := let ⟨o, a, b⟩ := h; ⟨o, (f.keep ea _ a n).1, b⟩
theorem ExcH.none {C ea : Addr} (h : ExcH H C ea) (r : RepH K H M) : M ea = none := by
  obtain ⟨o, a, _⟩ := h
  cases q : M ea with
  | none => rfl
  | some u =>
    have z := r _ _ q
    cases u with
    | lst xs => obtain ⟨_, z, _⟩ := z; rw [a] at z; cases z
    | dK xs => obtain ⟨_, z, _⟩ := z; rw [a] at z; cases z
    | dT xs => obtain ⟨_, z, _⟩ := z; rw [a] at z; cases z
    | ins c xs => obtain ⟨_, _, z, _⟩ := z; rw [a] at z; cases z
noncomputable def KitC (K : PySem.W.Frag) (C : Addr) (c : D) (b : Bool) : Prop := match c with
  | .ref D => PySem.W.kitOne K (.ref C) (.ref D) = some b
  | .ty T => PySem.W.kitOne K (.ref C) (.type T) = some b
  | _ => False
noncomputable def dIsE (ea : Addr) (c : D) (b : Bool) (t : dTA) : dTE := fun δ M Q => t δ M fun vs M1 => vs = [.ref ea, c] ∧ Q (.bl b) M1
theorem de_isE {x : Str} {e : Expr} {es : List Expr} {t : dTA} {C ea : Addr} {c : D} {b : Bool} {p pos : Pos} (h0 : ExcH X.H₀ C ea) (hB : B ea = none) (Z : LX.XC X.K C) (hc : KitC X.K C c b) (hg : Gl X x) (hm : X.mg x = none) (hv : bootBuiltins x = some (.builtin "isinstance")) (ha : DA X B (e :: es) t) (hn : x ≠ "__name__" := by decide) (hdb : (x == ("__debug__" : Str)) = false := by decide)
    (he : starEach (e :: es) X.env = (false, eval e X.env) :: starEach es X.env := by rfl) (hpl : (backTo pos (starEach es X.env)).any (·.1) = false := by rfl) : DE X B (.Call (.Name x p) (e :: es) [] pos) (dIsE ea c b t) := by
  refine pe_weak (pe_callB call_isinstE hg hm hv ha hn hdb he hpl) ?_
  rintro σ H Q ⟨δ, M, QQ, s, h, u⟩
  refine ⟨δ, M, _, s, h, fun ds M1 h1 vs H1 rh1 i1 r1 => ?_⟩
  obtain ⟨rfl, h1⟩ := h1
  obtain ⟨v, w, rfl, rv, rw'⟩ := rps2 r1
  cases rv
  have hE : ExcH H1 C ea := ExcH.frm (s.i0.trans i1) h0 hB
  cases c with
  | ref a => cases rw'; exact ⟨ea, C, _, .ref a, b, rfl, hE, Z, fun u q => q, hc, u _ M1 h1 _ H1 rh1 i1 rfl⟩
  | ty T => cases rw'; exact ⟨ea, C, _, .type T, b, rfl, hE, Z, fun u q => q, hc, u _ M1 h1 _ H1 rh1 i1 rfl⟩
  | non => exact hc.elim
  | bl _ => exact hc.elim
  | int _ => exact hc.elim
  | str _ => exact hc.elim
  | tup _ => exact hc.elim
  | lst _ => exact hc.elim
  | mt _ => exact hc.elim
  | ml _ => exact hc.elim
end
noncomputable def liftSpE (K : PySem.W.Frag) (C : Addr) (T : Addr → Sd) : Sp := fun vs H Q E => ∃ ea, ExcH H C ea ∧ vs = [.ref ea] ∧ ∃ M QQ EE, RepH K H M ∧ T ea [.ref ea] M QQ EE ∧ Up K M H QQ Q ∧ UpX K M H EE E
section
variable {P : Program} {w : World} {K : PySem.W.Frag} {mg : Str → Option Value} {base : Heap} {f : Addr} {fd : FuncData}
theorem fnE {x qual : Str} {st : Stmt} {N ps : List Str} {k : Nat} {C : Addr} {T : Addr → DX → dTS} (F : Fun K x qual st f fd) (S : FnScope N ps (defScope st)) (hps : ps.length = 1)
    (hb : ∀ (ea : Addr) (cdv : Value) (A : Around) (outer : List Env) (s : Shared) (H : Hp) (E : XK) (B : Mem) (EE : DX), RoomN k (A.deeper (PyProof.Rows.envOfC qual (defScope st) s.heap.objs.size f cdv)) → UpX K B H EE E → ExcH H C ea → B ea = none →
      DSs (cxOfN (CXG P w) P w K mg base N qual (defScope st) f cdv A outer s H E) B (defBody st) (T ea EE)) :
    FnOkN P w K mg base (CXG P w) (k + 1) f fd ps (liftSpE K C fun ea => bodyD N (T ea)) := by
  obtain ⟨oc, od, kV, doc, pm, an, cdv, ct, osl, rfl, lk, hcd⟩ := F.ex
  refine fn_ofN lk hcd S (fun vs H Q E h => by obtain ⟨ea, _, rfl, _⟩ := h; exact hps.symm) fun A outer s H vs Q E hr hsp => ?_
  obtain ⟨ea, hE, rfl, M, QQ, EE, rh, hT, u, ux⟩ := hsp
  refine ⟨_, hb ea cdv A outer s H E M (drpX EE) hr ux.drp hE (ExcH.none hE rh), startN N [.ref ea], M, { nx := fun _ M' => drp QQ .non M', rt := drp QQ }, ⟨Frm.refl, rh, .startN N (.cons rfl .nil)⟩, hT, ⟨?_, u.drp, ?_, ?_⟩⟩
  · exact fun δ M' q σ H' f s' => u.drp _ M' q _ H' s'.rh f rfl
  · exact fun δ M' q => (show False from q).elim
  · exact fun δ M' q => (show False from q).elim
end
section
variable {X : Cx} {B : Mem} {K : PySem.W.Frag} {H H' : Hp} {M M1 M' : Mem}
theorem lift_callsE {C ea : Addr} {T : Addr → Sd} {EE : DX} {Q : DK} {QV : VK} {E : XK} {b : BxQ EE Q} (hE : ExcH H C ea) (h : calls (T ea) EE [.ref ea] M Q b) (rh : RepH K H M) (u : Up K M H Q QV) (ux : UpX K M H EE E) : liftSpE K C T [.ref ea] H QV E := by
  obtain ⟨M1, s, h⟩ := h.go
  refine ⟨ea, hE, rfl, M1, _, _, rh.sub s, h, fun d M' q v H' rh' f r' => ?_, fun C M' q H' rh' f => ?_⟩
  · exact u d _ (q (rh.dis f)) v H' (rh.plus s rh' f) (f.plus s) r'
  · exact ux C _ (q (rh.dis f)) H' (rh.plus s rh' f) (f.plus s)
theorem RepS.unset {δ : Dl} {σ : L2.St} {i : Nat} (r : RepS K H δ σ) : RepS K H (δ.set i none) (σ.set i none) := by
  refine ⟨by simp [r.len], fun j e q => ?_⟩
  rw [List.getElem?_set] at q ⊢
  by_cases hij : i = j
  · rw [if_pos hij] at q
    split at q <;> cases q
  · rw [if_neg hij] at q ⊢
    exact r.get j e q
noncomputable def dTryAs (C : Addr) (T : Sd) (m : Nat) (ta : dTA) (i j l : Nat) (Tk : Addr → Sd) : dTS := fun D δ M => δ[j]?.isSome = true ∧ ta δ M fun ds M1 => ds.length = m ∧
  calls T (fun C' M2 => C' = C ∧ ∀ ea, calls (Tk ea) (fun _ _ => False) [.ref ea] M2 (fun d M3 => D.nx (((δ.set j (some (.ref ea))).set l (some d)).set j none) M3) ⟨⟩) ds M1 (fun d M2 => D.nx (δ.set i (some d)) M2) ⟨⟩
theorem ds_tryAs {C S f g : Addr} {k k2 m : Nat} {fd fg : FuncData} {ps pg : List Str} {T : Sd} {Tk : Addr → Sd} {x cx y n z gx : Str} {i j l : Nat} {p cp ep np hpos pos yp zp gp np2 gcp zep : Pos} {e : Expr} {es : List Expr} {ta : dTA}
    (hst : X.stack = X.env :: X.outer) (hfL : X.env.frame = some X.env.locals) (hex : X.ex = []) (F : FnOk X.prog X.w X.K X.mg X.base (CXG X.prog X.w) k f fd ps (liftSp X.K m T)) (hr : Room k X.A) (hg : Gl X x) (hm : X.mg x = some (.ref f)) (hk : PySem.W.keepIn X.K (.ref f) = true) (hb : Binds X.K fd ps [])
    (ha : DA X.nox B (e :: es) ta) (ES : XS X.K C S) (hgC : Gl X cx) (hmC : X.mg cx = some (.ref S))
    (G : FnOkN X.prog X.w X.K X.mg X.base (CXG X.prog X.w) k2 g fg pg (liftSpE X.K C Tk)) (hr2 : Room k2 X.A) (hgg : Gl X gx) (hmg : X.mg gx = some (.ref g)) (hkg : PySem.W.keepIn X.K (.ref g) = true) (hbg : Binds X.K fg pg [])
    (hN : X.N.Nodup) (hi : X.N[i]? = some y) (hy : Loc X.env.scope y) (hj : X.N[j]? = some n) (hn : X.env.kindOf n = some .local) (hl : X.N[l]? = some z) (hz : Loc X.env.scope z)
    (hdb : (x == ("__debug__" : Str)) = false := by decide) (hdC : (cx == ("__debug__" : Str)) = false := by decide) (hdg : (gx == ("__debug__" : Str)) = false := by decide) (hdn : (n == ("__debug__" : Str)) = false := by decide) (hcn : (n == ("__classdict__" : Str)) = false := by decide)
    (he : starEach (e :: es) X.env = (false, eval e X.env) :: starEach es X.env := by rfl) (hpl : (backTo cp (starEach es X.env)).any (·.1) = false := by rfl)
    (hsw : swapsWith (.Call (.Name x p) (e :: es) [] cp) (some (.Name y yp)) ep.line X.env = pure false := by rfl) (hsw2 : swapsWith (.Call (.Name gx gp) [.Name n np2] [] gcp) (some (.Name z zp)) zep.line X.env = pure false := by rfl)
    (hf : X.fn y = true ∨ X.env.scope.names.lookup y = some .local := by first | exact .inl rfl | exact .inr rfl | assumption) (hfn : X.fn n = true ∨ X.env.scope.names.lookup n = some .local := by first | exact .inl rfl | exact .inr rfl | assumption) (hfz : X.fn z = true ∨ X.env.scope.names.lookup z = some .local := by first | exact .inl rfl | exact .inr rfl | assumption) :
    DS X B (.Try [.Assign [.Name y yp] (.Call (.Name x p) (e :: es) [] cp) ep] [.ExceptHandler (some (.Name cx np)) (some n) [.Assign [.Name z zp] (.Call (.Name gx gp) [.Name n np2] [] gcp) zep] hpos] [] [] pos) (dTryAs C T m ta i j l Tk) := by
  have hsu : ∀ ea : Addr, PSs (X.marked (.ref ea)) [.Assign [.Name z zp] (.Call (.Name gx gp) [.Name n np2] [] gcp) zep] _ := fun ea =>
    pss_one (ps_set (X := X.marked (.ref ea)) hN hl hz (pe_callN (X := X.marked (.ref ea)) (E := E0) G (hr2.n _) hgg hmg hkg hbg pass00 (pa_cons (pe_var (X := X.marked (.ref ea)) hj (.inl hn) hdn hcn) pa_nil) hdg) hsw2 hfz)
  refine ps_weak (ps_tryAs (C := C) hst hfL hex (fn_only F) hr hg hm hk hb ha ES hgC hmC hsu hN hi hy hj hn hdb hdC he hpl hsw hf hfn) ?_
  rintro D σ H ⟨δ, M, DD, s, ⟨hjj, h⟩, up⟩
  refine ⟨δ, M, _, ⟨s.i0, s.rh, s.rs⟩, h, fun ds M1 h1 vs H1 rh1 i1 r1 => ?_⟩
  dsimp only
  refine lift_calls h1.2 rh1 r1 (by rw [← r1.length]; exact h1.1) (fun d M2 h2 v H2 rh2 i2 r2 => ?_) fun C' M2 h2 H2 rh2 i2 => ?_
  · have s2 := s.go rh2 (i1.trans i2)
    exact up.nx _ _ h2 _ H2 (i1.trans i2) ⟨s2.i0, s2.rh, s2.rs.set r2⟩
  · obtain ⟨rfl, h2⟩ := h2
    refine ⟨rfl, fun ea H3 h3 hn2 hE => ?_⟩
    have fr : Frm M2 H2 M2 H3 := ⟨fun b u q n => ⟨by rw [h3 b (fun z => by rw [z, hn2] at q; cases q)]; exact q, n⟩⟩
    have rh3 : RepH X.K H3 M2 := fun b o q => (rh2 b o q).keep (fr.imm rh2) (by
      obtain ⟨u, hu⟩ := (rh2 b o q).obj
      rw [h3 b (fun z => by rw [z, hn2] at hu; cases hu)])
    have s3 := s.go rh3 ((i1.trans i2).trans fr)
    have hj' : j < σ.length := by
      rw [← s.rs.len]
      obtain ⟨o, ho⟩ := Option.isSome_iff_exists.mp hjj
      exact (List.getElem?_eq_some_iff.mp ho).1
    show tVar j (σ.set j (some (V.ref ea))) H3 _
    unfold tVar
    refine ⟨.ref ea, by rw [List.getElem?_set_self hj'], ?_⟩
    show liftSpE X.K C' Tk [V.ref ea] H3 _ E0
    refine lift_callsE hE (h2 ea) rh3 (fun d M4 h4 v H4 rh4 i4 r4 => ?_) (fun _ _ z => z.elim)
    have f4 := ((i1.trans i2).trans fr).trans i4
    have s4 := s.go rh4 f4
    exact up.nx _ _ h4 _ H4 f4 ⟨s4.i0, s4.rh, ((s4.rs.set (d := .ref ea) rfl).set r4).unset⟩
end
end L3

namespace L3
open PySem L2 LS
section
variable {X : Cx} {B : Mem}
noncomputable def cIntS : dRC := fun ds M Q => match ds with
  | [.bl b] => Q (.int (if b = true then 1 else 0)) M
  | [.str z] => z.length ≤ 640 ∧ match PySem.intText? z with
    | some n => Q (.int n) M
    | none => False
  | _ => False
theorem call_intS : CallR X (.type "int") (liftC X cIntS) := by
  intro pins s σ H xs us Q I r h
  obtain ⟨ds, M, QQ, rh, rp, h, up⟩ := h
  unfold cIntS at h
  split at h
  · exact call_int' pins s σ H xs us Q I r ⟨_, M, QQ, rh, rp, h, up⟩
  · obtain ⟨v, rfl, rv⟩ := rps1 (ds := []) rp
    cases rv
    obtain ⟨u, rfl, ru⟩ := vals1 r
    obtain ⟨t, rfl⟩ := ru
    obtain ⟨hl, h⟩ := h
    split at h
    · rename_i n en
      exact PySem.W.KIN.call_text en hl ⟨.int n, H, I.tok _, ⟨_, rfl⟩, up _ M h _ H rh Frm.refl rfl⟩
    · exact h.elim
  · exact h.elim
noncomputable def oNotInS : dR2 := fun x y M Q => match x, y with
  | .str a, .str b => Q (.bl (!PySem.Txt.contains b a)) M
  | _, _ => False
theorem op_notinS : OpR X (compareOp .NotIn) (liftR2 X oNotInS) := by
  intro pins s σ H x y v u Q I rx ry h
  obtain ⟨d1, d2, M, QQ, rh, r1, r2, h, up⟩ := h
  unfold oNotInS at h
  split at h
  · cases r1; cases r2
    obtain ⟨t, rfl⟩ := rx
    obtain ⟨t2, rfl⟩ := ry
    exact P.notIn_str ⟨.bl _, H, I, rfl, up _ M h _ H rh Frm.refl rfl⟩
  · exact h.elim
theorem vals_strsV : ∀ {l : List (Str × Tok)} {ss : List Str}, l.map (·.1) = ss → Vals (ss.map V.str) (strValues l)
  | [], _, e => by cases e; exact .nil
  | (a, t) :: l, _, e => by cases e; exact .cons ⟨t, rfl⟩ (vals_strsV rfl)
noncomputable def mSplit : dRM := fun x ds M Q => match x, ds with
  | .str z, [.str y] => ((y.length == 0) = false ∧ z.length + 1 ≤ sizeLine ∧ (PySem.Txt.split z y).length ≤ sizeLine ∧ (Builtin.Str.partsBetween z (Builtin.Str.occurrences z y 0 z.length (z.length + 1)) y.length).length ≤ sizeLine) ∧ ∀ p, M p = none → Q (.ref p) (M.upd p (.lst ((PySem.Txt.split z y).map D.str)))
  | _, _ => False
theorem mt_split' : MtR X "str.split" (liftM X mSplit) := by
  intro pins s σ H x vs v us Q I rx rv h
  obtain ⟨d, ds, M, QQ, rh, r, rs, h, up⟩ := h
  unfold mSplit at h
  split at h
  · rename_i z y
    cases r
    obtain ⟨w, rfl, rw'⟩ := rps1 (ds := []) rs
    cases rw'
    obtain ⟨t, rfl⟩ := rx
    obtain ⟨u, rfl, ru⟩ := vals1 rv
    obtain ⟨t2, rfl⟩ := ru
    obtain ⟨⟨h1, h2, h3, h4⟩, h5⟩ := h
    have fin : ∀ (l : List (Str × Tok)) (k : Nat), l.map (·.1) = PySem.Txt.split z y →
        EP X pins σ Q (.ref s.heap.objs.size) { s with heap := s.heap.push { cls := .type "list", data := .seq (strValues l).toArray }, toks := k } := fun l k el => by
      refine ⟨.ref s.heap.objs.size, _, I.lnew (vals_strsV el) (by rw [List.length_map]; exact h3), rfl, ?_⟩
      exact up _ _ (h5 _ (rh.fresh I.fresh)) _ _ (rh.put (by rw [I.fresh]; trivial) ⟨_, upd_same, rps_strs _⟩) (Frm.put (.inl I.fresh)) rfl
    cases c1 : (decide (z.length < y.length) || decide (Builtin.Str.strKind z < Builtin.Str.strKind y))
    · cases hf : (Builtin.Str.occurrences z y 0 z.length (z.length + 1)).isEmpty
      · refine call_meets PySem.F.slot_str_split (typeIs_str _ _ _) PySem.F.entry_str_split (PySem.F.args_str_split_2 _ _) (meets_str_split_sep z y t t2 c1 h1 hf (by lia) h4) ?_
        rw [strsFrom_eq]
        exact fin (numbered s.toks _) _ ((numbered_texts _ _).trans ((if_neg (ne_true_of_eq_false c1)).trans (if_neg (ne_true_of_eq_false hf))).symm)
      · exact call_meets PySem.F.slot_str_split (typeIs_str _ _ _) PySem.F.entry_str_split (PySem.F.args_str_split_2 _ _) (meets_str_split_not_found z y t t2 c1 h1 hf) (fin [(z, t)] s.toks ((if_neg (ne_true_of_eq_false c1)).trans (if_pos hf)).symm)
    · exact call_meets PySem.F.slot_str_split (typeIs_str _ _ _) PySem.F.entry_str_split (PySem.F.args_str_split_2 _ _) (meets_str_split_cannot_occur z y t t2 c1) (fin [(z, t)] s.toks (if_pos c1).symm)
  · exact h.elim
noncomputable def mCountB : dRM := fun x ds M Q => match ds with
  | [.bl b] => match seqL M x with
    | some xs => match bools xs with
      | some bs => Q (.int ((bs.countP (· == b) : Nat) : Int)) M
      | none => False
    | none => False
  | _ => False
noncomputable def mIndexB : dRM := fun x ds M Q => match ds with
  | [.bl b] => match seqL M x with
    | some xs => match bools xs with
      | some bs => bs.length ≤ 1000 ∧ match bs.findIdx? (· == b) with
        | some j => Q (.int (j : Nat)) M
        | none => False
      | none => False
    | none => False
  | _ => False
theorem list_plain {pins : List (Addr × Obj)} {σ : L2.St} {H : Hp} {s : Shared} {p : Addr} {vs : List V} (I : Inv X pins σ H s) (h : Rd H p (.lst vs)) : ∃ (its : List Value) (o : Array (Option Value)) (n : Nat), Vals vs its ∧ s.heap.get? p = some { cls := .type "list", dict := none, data := .seq its.toArray n, slots := o } := by
  obtain ⟨its, rr, ⟨o, n, eo, hc, hdn, hdt⟩, _⟩ := I.list (.inl h)
  obtain ⟨oc, od, ot, os⟩ := o
  simp only at hc hdn hdt
  subst hc hdn hdt
  exact ⟨its, os, n, rr, eo⟩
theorem vals_bl : ∀ {bs : List Bool} {its : List Value}, Vals (bs.map V.bl) its → its = bs.map Value.bool
  | [], _, h => by cases h; rfl
  | b :: bs, _, h => by
    cases h with
    | cons a r => cases (show _ = Value.bool b from a); rw [vals_bl r]; rfl
theorem countP_bool (bs : List Bool) (b : Bool) : (bs.map Value.bool).countP (fun v => match v with | .bool y => y == b | _ => false) = bs.countP (· == b) := by
  rw [List.countP_map]; rfl
theorem mt_count' : MtR X "list.count" (liftM X mCountB) := by
  intro pins s σ H x vs v us Q I rx rv h
  obtain ⟨d, ds, M, QQ, rh, r, rs, h, up⟩ := h
  unfold mCountB at h
  split at h
  · rename_i b
    split at h
    · rename_i xs ex
      split at h
      · rename_i bs eb
        obtain ⟨w, rfl, rw'⟩ := rps1 (ds := []) rs
        cases rw'
        obtain ⟨p, ws, rfl, hp, rr⟩ := seqL_of rh r ex
        have := bools_rel rr eb
        subst this
        cases rx
        obtain ⟨u, rfl, ru⟩ := vals1 rv
        cases ru
        obtain ⟨its, os, n, rv2, eo⟩ := list_plain I hp
        have := vals_bl rv2
        subst this
        refine call_meets PySem.F.slot_list_count ⟨_, eo, rfl⟩ PySem.F.entry_list_count (PySem.F.args_list_count_2 _ _)
          (SeqAt.list_countAt p (bs.map Value.bool).toArray n none os (.bool b) (fun v => match v with | .bool y => y == b | _ => false)) ⟨eo, fun y hy => ?_, ?_⟩
        · obtain ⟨y', _, rfl⟩ := List.mem_map.mp (by simpa using hy : y ∈ bs.map Value.bool)
          exact SeqAt.EqAt.bool_bool y' b
        · rw [List.toList_toArray, countP_bool]
          exact ⟨.int _, H, I.tok _, ⟨_, rfl⟩, up _ M h _ H rh Frm.refl rfl⟩
      · exact h.elim
    · exact h.elim
  · exact h.elim
theorem mt_indexB : MtR X "list.index" (liftM X mIndexB) := by
  intro pins s σ H x vs v us Q I rx rv h
  obtain ⟨d, ds, M, QQ, rh, r, rs, h, up⟩ := h
  unfold mIndexB at h
  split at h
  · rename_i b
    split at h
    · rename_i xs ex
      split at h
      · rename_i bs eb
        obtain ⟨hl, h⟩ := h
        split at h
        · rename_i j ej
          obtain ⟨w, rfl, rw'⟩ := rps1 (ds := []) rs
          cases rw'
          obtain ⟨p, ws, rfl, hp, rr⟩ := seqL_of rh r ex
          have := bools_rel rr eb
          subst this
          cases rx
          obtain ⟨u, rfl, ru⟩ := vals1 rv
          cases ru
          obtain ⟨its, os, n, rv2, eo⟩ := list_plain I hp
          have := vals_bl rv2
          subst this
          rw [List.findIdx?_eq_some_iff_getElem] at ej
          obtain ⟨hj, e1, e2⟩ := ej
          have hjs : j < (bs.map Value.bool).toArray.size := by simpa using hj
          refine call_meets PySem.F.slot_list_index ⟨_, eo, rfl⟩ PySem.F.entry_list_index (PySem.F.args_list_index_2 _ _)
            (SeqAt.list_indexAt p (bs.map Value.bool).toArray n none os (.bool b) (fun v => match v with | .bool y => y == b | _ => false) j hjs (by have := hl; lia) ?_ fun m hm hmj => ?_) ⟨eo, fun y hy => ?_, ?_⟩
          · simpa using e1
          · have := e2 m hmj
            simpa using this
          · obtain ⟨y', _, rfl⟩ := List.mem_map.mp (by simpa using hy : y ∈ bs.map Value.bool)
            exact SeqAt.EqAt.bool_bool y' b
          · exact ⟨.int (j : Int), H, I.tok _, ⟨_, rfl⟩, up _ M h _ H rh Frm.refl rfl⟩
        · exact h.elim
      · exact h.elim
    · exact h.elim
  · exact h.elim
end
end L3
namespace L3
open PySem L2
theorem bt_ValueError' : bootBuiltins "ValueError" = some (.type "ValueError") := by decide +kernel
theorem cls_some {K : PySem.W.Frag} {C : Addr} (h : PySem.W.hasDictIn K C = true) : (PySem.W.clsIn K C).isSome = true := by
  obtain ⟨cd, hc, _⟩ := PySem.W.any_some h
  rw [hc]; rfl
theorem kit_of {K : PySem.W.Frag} {C D : Addr} {b : Bool} (hs : PySem.W.mroIn K C (.ref C) = some true) (hd : PySem.W.hasDictIn K D = true) (ht : PySem.W.typeIn K (.ref D) = some (.type "type")) (hm : PySem.W.mroIn K C (.ref D) = some b) : KitC K C (.ref D) b := by
  show PySem.W.kitOne K (.ref C) (.ref D) = some b
  unfold PySem.W.kitOne
  split
  · rename_i q
    have e : C = D := Value.ref.inj (beq_iff_eq.mp q)
    subst e
    rw [hs] at hm
    exact hm
  · unfold PySem.W.kitCls
    simp only [cls_some hd, ht, beq_self_eq_true, Bool.and_self, if_true]
    exact hm
theorem kit_ty {K : PySem.W.Frag} {C : Addr} {b : Bool} (hm : PySem.W.mroIn K C (.type "ValueError") = some b) : KitC K C (.ty "ValueError") b := by
  show PySem.W.kitOne K (.ref C) (.type "ValueError") = some b
  unfold PySem.W.kitOne
  rw [if_neg (by intro q; cases beq_iff_eq.mp q)]
  unfold PySem.W.kitCls
  dsimp only
  rw [if_pos (by decide +kernel)]
  exact hm
end L3

namespace Tw
open PySem L2 L3
noncomputable def top (i : Nat) : Stmt := PySem.Challenge.pw_twinstride_k90_stands_written_and_read.main.body.getD i (.Pass ⟨0, 0, 0, 0⟩)
noncomputable abbrev s_are_figures : Stmt := top 13
noncomputable abbrev s_number_from : Stmt := top 14
noncomputable abbrev s_stand_text : Stmt := top 16
noncomputable abbrev s_read_stand : Stmt := top 17
noncomputable abbrev s__law_stirred : Stmt := top 19
noncomputable abbrev s__law_pot : Stmt := top 20
noncomputable abbrev s__law_draw : Stmt := top 21
noncomputable abbrev s__law_names : Stmt := top 22
noncomputable abbrev s__law_row : Stmt := top 23
noncomputable abbrev s__law_block : Stmt := top 24
noncomputable abbrev s__law_rows : Stmt := top 25
noncomputable abbrev s__law_plan : Stmt := top 26
noncomputable abbrev s__law_stand : Stmt := top 27
noncomputable abbrev s__law_name : Stmt := top 28
noncomputable abbrev s__law_kinds : Stmt := top 29
noncomputable abbrev s__law_alike : Stmt := top 30
noncomputable abbrev s__law_due : Stmt := top 31
noncomputable abbrev s__law_bent : Stmt := top 32
noncomputable abbrev s_law : Stmt := top 33
theorem sc_are_figures : FnScope ["text"] ["text"] (defScope s_are_figures) := ⟨rfl, rfl, rfl, by decide +kernel, rfl, by decide +kernel, by decide +kernel⟩
theorem sc_number_from : FnScope ["text", "least", "most", "number"] ["text", "least", "most"] (defScope s_number_from) := ⟨rfl, rfl, rfl, by decide +kernel, rfl, by decide +kernel, by decide +kernel⟩
theorem sc_stand_text : FnScope ["stand"] ["stand"] (defScope s_stand_text) := ⟨rfl, rfl, rfl, by decide +kernel, rfl, by decide +kernel, by decide +kernel⟩
theorem sc_read_stand : FnScope ["plan", "text", "words", "middle", "numbers", "pieces"] ["plan", "text"] (defScope s_read_stand) := ⟨rfl, rfl, rfl, by decide +kernel, rfl, by decide +kernel, by decide +kernel⟩
theorem sc__law_stirred : FnScope ["cell", "turn", "one"] ["cell", "turn"] (defScope s__law_stirred) := ⟨rfl, rfl, rfl, by decide +kernel, rfl, by decide +kernel, by decide +kernel⟩
theorem sc__law_pot : FnScope ["script", "seed", "cell"] ["script"] (defScope s__law_pot) := ⟨rfl, rfl, rfl, by decide +kernel, rfl, by decide +kernel, by decide +kernel⟩
theorem sc__law_draw : FnScope ["pot", "many", "cell", "found"] ["pot", "many"] (defScope s__law_draw) := ⟨rfl, rfl, rfl, by decide +kernel, rfl, by decide +kernel, by decide +kernel⟩
theorem sc__law_names : FnScope ["pot", "many", "turn", "names", "k", "sign"] ["pot", "many"] (defScope s__law_names) := ⟨rfl, rfl, rfl, by decide +kernel, rfl, by decide +kernel, by decide +kernel⟩
theorem sc__law_row : FnScope ["pot", "told", "m", "names", "many", "ways", "way", "x", "y"] ["pot", "told"] (defScope s__law_row) := ⟨rfl, rfl, rfl, by decide +kernel, rfl, by decide +kernel, by decide +kernel⟩
theorem sc__law_block : FnScope ["pot", "told", "room", "deep", "m", "names", "many", "x", "first", "way", "y"] ["pot", "told", "room", "deep"] (defScope s__law_block) := ⟨rfl, rfl, rfl, by decide +kernel, rfl, by decide +kernel, by decide +kernel⟩
theorem sc__law_rows : FnScope ["pot", "told", "room", "deep", "most", "rows", "k"] ["pot", "told", "room", "deep", "most"] (defScope s__law_rows) := ⟨rfl, rfl, rfl, by decide +kernel, rfl, by decide +kernel, by decide +kernel⟩
theorem sc__law_plan : FnScope ["pot", "most", "m", "names", "many", "rows"] ["pot", "most"] (defScope s__law_plan) := ⟨rfl, rfl, rfl, by decide +kernel, rfl, by decide +kernel, by decide +kernel⟩
theorem sc__law_stand : FnScope ["pot", "plan", "numbers"] ["pot", "plan"] (defScope s__law_stand) := ⟨rfl, rfl, rfl, by decide +kernel, rfl, by decide +kernel, by decide +kernel⟩
theorem sc__law_name : FnScope ["flags", "names"] ["flags"] (defScope s__law_name) := ⟨rfl, rfl, rfl, by decide +kernel, rfl, by decide +kernel, by decide +kernel⟩
theorem sc__law_kinds : FnScope ["e", "found"] ["e"] (defScope s__law_kinds) := ⟨rfl, rfl, rfl, by decide +kernel, rfl, by decide +kernel, by decide +kernel⟩
theorem sc__law_alike : FnScope ["found", "due"] ["found", "due"] (defScope s__law_alike) := ⟨rfl, rfl, rfl, by decide +kernel, rfl, by decide +kernel, by decide +kernel⟩
theorem sc__law_due : FnScope ["plan", "text", "words", "at", "numbers", "word"] ["plan", "text"] (defScope s__law_due) := ⟨rfl, rfl, rfl, by decide +kernel, rfl, by decide +kernel, by decide +kernel⟩
theorem sc__law_bent : FnScope ["pot", "plan", "words", "at", "to", "way", "one", "some"] ["pot", "plan", "words"] (defScope s__law_bent) := ⟨rfl, rfl, rfl, by decide +kernel, rfl, by decide +kernel, by decide +kernel⟩
theorem sc_law : FnScope ["script", "pot", "plan", "stand", "words", "text", "turn", "bent", "due", "found", "kinds", "e"] ["script"] (defScope s_law) := ⟨rfl, rfl, rfl, by decide +kernel, rfl, by decide +kernel, by decide +kernel⟩
end Tw

namespace Tw
open PySem L2 L3
set_option genInjectivity false in
structure Ad where
  C_Dry : Addr
  C_NoBuild : Addr
  C_NoCase : Addr
  C_NoLine : Addr
  C_NoMoment : Addr
  C_NoPlace : Addr
  C_NoRow : Addr
  C_NoText : Addr
  C_StrideError : Addr
  C_TooBig : Addr
  C_TooMany : Addr
  a_are_figures : Addr
  d_are_figures : FuncData
  a_number_from : Addr
  d_number_from : FuncData
  a_stand_text : Addr
  d_stand_text : FuncData
  a_read_stand : Addr
  d_read_stand : FuncData
  a__law_stirred : Addr
  d__law_stirred : FuncData
  a__law_pot : Addr
  d__law_pot : FuncData
  a__law_draw : Addr
  d__law_draw : FuncData
  a__law_names : Addr
  d__law_names : FuncData
  a__law_row : Addr
  d__law_row : FuncData
  a__law_block : Addr
  d__law_block : FuncData
  a__law_rows : Addr
  d__law_rows : FuncData
  a__law_plan : Addr
  d__law_plan : FuncData
  a__law_stand : Addr
  d__law_stand : FuncData
  a__law_name : Addr
  d__law_name : FuncData
  a__law_kinds : Addr
  d__law_kinds : FuncData
  a__law_alike : Addr
  d__law_alike : FuncData
  a__law_due : Addr
  d__law_due : FuncData
  a__law_bent : Addr
  d__law_bent : FuncData
  a_law : Addr
  d_law : FuncData
noncomputable def T_are_figures_1 (ad : Ad) (EE : DX) : dTS :=
  (dRet (dOrV (dOp oEq (dVar 0) (dC (.str "0"))) (dOp oNe (dOp oIx (dVar 0) (dC (.int 0))) (dC (.str "0")))))
noncomputable def T_are_figures (ad : Ad) (EE : DX) : dTS :=
  (dSeq (dIfS (dOr (dTest (dOp oEq (dVar 0) (dC (.str "")))) (dNot (dTru (dCB cAll (dCons (dFrz (dComp (wStr (dVar 0)) ["sign"] [] (hName 0) dAll (dChain oLeS oLeS (dC (.str "0")) (dVar 0) (dC (.str "9"))))) dNil))))) (dRet (dC (.bl false))) dNext)
    (T_are_figures_1 ad EE))
noncomputable def S_are_figures (ad : Ad) : Sd := bodyD ["text"] (T_are_figures ad)
theorem u_are_figures {ad : Ad} {n : Nat} {x0 : D} {M : Mem} {Q : DK} {E : DX} : S_are_figures ad [x0] M Q E = T_are_figures ad (drpX E) { nx := fun _ M' => drp Q .non M', rt := drp Q } [some x0] M := rfl
noncomputable def T_number_from_1 (ad : Ad) (EE : DX) : dTS :=
  (dRet (dIf (dTest (dChain oLe oLe (dVar 1) (dVar 3) (dVar 2))) (dVar 3) (dC .non)))
noncomputable def T_number_from_2 (ad : Ad) (EE : DX) : dTS :=
  (dSeq (dAsg (dCB cIntS (dCons (dVar 0) dNil)) (hName 3))
    (T_number_from_1 ad EE))
noncomputable def T_number_from (ad : Ad) (EE : DX) : dTS :=
  (dSeq (dIfS (dOr (dNot (dTru (dFrz (dCall (S_are_figures ad) EE 1 (dCons (dVar 0) dNil))))) (dTest (dOp oGt (dCB cLen (dCons (dVar 0) dNil)) (dCB cLen (dCons (dCB cStr (dCons (dVar 2) dNil)) dNil))))) (dRet (dC .non)) dNext)
    (T_number_from_2 ad EE))
noncomputable def S_number_from (ad : Ad) : Sd := bodyD ["text", "least", "most", "number"] (T_number_from ad)
theorem u_number_from {ad : Ad} {n : Nat} {x0 x1 x2 : D} {M : Mem} {Q : DK} {E : DX} : S_number_from ad [x0, x1, x2] M Q E = T_number_from ad (drpX E) { nx := fun _ M' => drp Q .non M', rt := drp Q } [some x0, some x1, some x2, none] M := rfl
noncomputable def T_stand_text (ad : Ad) (EE : DX) : dTS :=
  (dRet (dBM "str" mJoin (dC (.str " ")) (dCons (dFrz (dOp oAdd (dFrz (dOp oAdd (dFrz (dComp (wSeq (dOp oIx (dVar 0) (dC (.int 0)))) ["number"] [] (hName 0) dAll (dCB cStr (dCons (dVar 0) dNil)))) (dFrz (dLst (dCons (dC (.str "|")) dNil))))) (dFrz (dComp (wSeq (dOp oIx (dVar 0) (dC (.int 1)))) ["number"] [] (hName 0) dAll (dCB cStr (dCons (dVar 0) dNil)))))) dNil)))
noncomputable def S_stand_text (ad : Ad) : Sd := bodyD ["stand"] (T_stand_text ad)
theorem u_stand_text {ad : Ad} {n : Nat} {x0 : D} {M : Mem} {Q : DK} {E : DX} : S_stand_text ad [x0] M Q E = T_stand_text ad (drpX E) { nx := fun _ M' => drp Q .non M', rt := drp Q } [some x0] M := rfl
noncomputable def T_read_stand_1 (ad : Ad) (EE : DX) : dTS :=
  (dRet (dTup (dCons (dCB cTuple (dCons (dVar 4) dNil)) (dCons (dCB cTuple (dCons (dVar 5) dNil)) dNil))))
noncomputable def T_read_stand_2 (ad : Ad) (EE : DX) : dTS :=
  (dSeq (dIfS (dTest (dOp oIn (dC .non) (dFrz (dOp oAdd (dVar 4) (dVar 5))))) (dRaise ad.C_NoText EE) dNext)
    (T_read_stand_1 ad EE))
noncomputable def T_read_stand_3 (ad : Ad) (EE : DX) : dTS :=
  (dSeq (dThenFrz (dCompS 5 (dComp (wSeq (dFrz (dSl (dVar 2) (dPart (dOp oAdd (dVar 3) (dC (.int 1)))) dNoPart))) ["word"] [0] (hName 0) dAll (dFrz (dCall (S_number_from ad) NoX 3 (dCons (dVar 0) (dCons (dC (.int 0)) (dCons (dOp oSub (dOp oIx (dVar 1) (dC (.int 0))) (dC (.int 1))) dNil))))))) 5)
    (T_read_stand_2 ad EE))
noncomputable def T_read_stand_4 (ad : Ad) (EE : DX) : dTS :=
  (dSeq (dThenFrz (dCompS 4 (dComp (wSeq (dFrz (dSl (dVar 2) dNoPart (dPart (dVar 3))))) ["word"] [0] (hName 0) dAll (dFrz (dCall (S_number_from ad) NoX 3 (dCons (dVar 0) (dCons (dC (.int 0)) (dCons (dOp oSub (dOp oIx (dVar 1) (dC (.int 0))) (dC (.int 1))) dNil))))))) 4)
    (T_read_stand_3 ad EE))
noncomputable def T_read_stand_5 (ad : Ad) (EE : DX) : dTS :=
  (dSeq (dIfS (dOr (dTest (dOp oNe (dCB cLen (dCons (dVar 2) dNil)) (dFrz (dOp oAdd (dOp oAdd (dVar 3) (dC (.int 1))) (dOp oIx (dVar 0) (dC (.int 2))))))) (dTest (dOp oNe (dOp oIx (dVar 2) (dVar 3)) (dC (.str "|"))))) (dRaise ad.C_NoText EE) dNext)
    (T_read_stand_4 ad EE))
noncomputable def T_read_stand_6 (ad : Ad) (EE : DX) : dTS :=
  (dSeq (dAsg (dCB cLen (dCons (dOp oIx (dVar 0) (dC (.int 1))) dNil)) (hName 3))
    (T_read_stand_5 ad EE))
noncomputable def T_read_stand (ad : Ad) (EE : DX) : dTS :=
  (dSeq (dAsg (dFrz (dBM "str" mSplit (dVar 1) (dCons (dC (.str " ")) dNil))) (hName 2))
    (T_read_stand_6 ad EE))
noncomputable def S_read_stand (ad : Ad) : Sd := bodyD ["plan", "text", "words", "middle", "numbers", "pieces"] (T_read_stand ad)
theorem u_read_stand {ad : Ad} {n : Nat} {x0 x1 : D} {M : Mem} {Q : DK} {E : DX} : S_read_stand ad [x0, x1] M Q E = T_read_stand ad (drpX E) { nx := fun _ M' => drp Q .non M', rt := drp Q } [some x0, some x1, none, none, none, none] M := rfl
noncomputable def T__law_stirred_1 (ad : Ad) (EE : DX) : dTS :=
  (dSeq (dAsg (dOp oMod (dOp oMul (dOp oXor (dVar 2) (dOp oFdiv (dVar 2) (dC (.int 2147483648)))) (dC (.int 2685821657736338717))) (dC (.int 18446744073709551616))) (hName 2))
    (dRet (dOp oFdiv (dVar 2) (dC (.int 1048576)))))
noncomputable def T__law_stirred (ad : Ad) (EE : DX) : dTS :=
  (dSeq (dAsg (dOp oMod (dOp oAdd (dOp oAdd (dOp oMul (dVar 0) (dC (.int 6364136223846793005))) (dOp oMul (dVar 1) (dC (.int 1442695040888963407)))) (dC (.int 97))) (dC (.int 18446744073709551616))) (hName 2))
    (T__law_stirred_1 ad EE))
noncomputable def S__law_stirred (ad : Ad) : Sd := bodyD ["cell", "turn", "one"] (T__law_stirred ad)
theorem u__law_stirred {ad : Ad} {n : Nat} {x0 x1 : D} {M : Mem} {Q : DK} {E : DX} : S__law_stirred ad [x0, x1] M Q E = T__law_stirred ad (drpX E) { nx := fun _ M' => drp Q .non M', rt := drp Q } [some x0, some x1, none] M := rfl
noncomputable def T__law_pot_1 (ad : Ad) (EE : DX) : dTS :=
  (dAsg (dOp oMod (dOp oAdd (dOp oMul (dVar 1) (dC (.int 1000003))) (dVar 2)) (dC (.int 18446744073709551616))) (hName 1))
noncomputable def T__law_pot_2 (ad : Ad) (EE : DX) : dTS :=
  (dRet (dLst (dCons (dCB cList (dCons (dFrz (dSl (dVar 0) dNoPart (dPart (dC (.int 63))))) dNil)) (dCons (dC (.int 0)) (dCons (dC (.int 0)) (dCons (dVar 1) dNil))))))
noncomputable def T__law_pot_3 (ad : Ad) (EE : DX) : dTS :=
  (dSeq (dFor (wSeq (dFrz (dSl (dVar 0) dNoPart (dPart (dC (.int 63)))))) (hName 2) (T__law_pot_1 ad EE))
    (T__law_pot_2 ad EE))
noncomputable def T__law_pot (ad : Ad) (EE : DX) : dTS :=
  (dSeq (dAsg (dC (.int 7)) (hName 1))
    (T__law_pot_3 ad EE))
noncomputable def S__law_pot (ad : Ad) : Sd := bodyD ["script", "seed", "cell"] (T__law_pot ad)
theorem u__law_pot {ad : Ad} {n : Nat} {x0 : D} {M : Mem} {Q : DK} {E : DX} : S__law_pot ad [x0] M Q E = T__law_pot ad (drpX E) { nx := fun _ M' => drp Q .non M', rt := drp Q } [some x0, none, none] M := rfl
noncomputable def T__law_draw_1 (ad : Ad) (EE : DX) : dTS :=
  (dRet (dOp oMod (dFrz (dCall (S__law_stirred ad) EE 2 (dCons (dVar 2) (dCons (dOp oIx (dVar 0) (dC (.int 1))) dNil)))) (dVar 1)))
noncomputable def T__law_draw_2 (ad : Ad) (EE : DX) : dTS :=
  (dSeq (dIfS (dTest (dOp oLt (dVar 2) (dOp oPow (dC (.int 10)) (dC (.int 18))))) (T__law_draw_1 ad EE) dNext)
      (dAsg (dVar 2) (hSub (dVar 0) (dC (.int 2)))))
noncomputable def T__law_draw_3 (ad : Ad) (EE : DX) : dTS :=
  (dSeq (dAsg (dBM "list" mPop (dOp oIx (dVar 0) (dC (.int 0))) (dCons (dC (.int 0)) dNil)) (hName 2))
      (T__law_draw_2 ad EE))
noncomputable def T__law_draw_4 (ad : Ad) (EE : DX) : dTS :=
  (dRet (dOp oMod (dFrz (dCall (S__law_stirred ad) EE 2 (dCons (dOp oIx (dVar 0) (dC (.int 3))) (dCons (dOp oIx (dVar 0) (dC (.int 1))) dNil)))) (dVar 1)))
noncomputable def T__law_draw_5 (ad : Ad) (EE : DX) : dTS :=
  (dSeq (dAsg (dOp oFdiv (dOp oIx (dVar 0) (dC (.int 2))) (dVar 1)) (hSub (dVar 0) (dC (.int 2))))
    (dRet (dVar 3)))
noncomputable def T__law_draw_6 (ad : Ad) (EE : DX) : dTS :=
  (dSeq (dAsg (dOp oMod (dOp oIx (dVar 0) (dC (.int 2))) (dVar 1)) (hName 3))
    (T__law_draw_5 ad EE))
noncomputable def T__law_draw_7 (ad : Ad) (EE : DX) : dTS :=
  (dSeq (dIfS (dTest (dOp oEq (dOp oIx (dVar 0) (dC (.int 2))) (dC (.int 0)))) (T__law_draw_4 ad EE) dNext)
    (T__law_draw_6 ad EE))
noncomputable def T__law_draw_8 (ad : Ad) (EE : DX) : dTS :=
  (dSeq (dIfS (dAnd (dTest (dOp oEq (dOp oIx (dVar 0) (dC (.int 2))) (dC (.int 0)))) (dTest (dOp oNe (dOp oIx (dVar 0) (dC (.int 0))) (dFrz (dLst dNil))))) (T__law_draw_3 ad EE) dNext)
    (T__law_draw_7 ad EE))
noncomputable def T__law_draw (ad : Ad) (EE : DX) : dTS :=
  (dSeq (dAsg (dOp oAdd (dOp oIx (dVar 0) (dC (.int 1))) (dC (.int 1))) (hSub (dVar 0) (dC (.int 1))))
    (T__law_draw_8 ad EE))
noncomputable def S__law_draw (ad : Ad) : Sd := bodyD ["pot", "many", "cell", "found"] (T__law_draw ad)
theorem u__law_draw {ad : Ad} {n : Nat} {x0 x1 : D} {M : Mem} {Q : DK} {E : DX} : S__law_draw ad [x0, x1] M Q E = T__law_draw ad (drpX E) { nx := fun _ M' => drp Q .non M', rt := drp Q } [some x0, some x1, none, none] M := rfl
noncomputable def T__law_names_1 (ad : Ad) (EE : DX) : dTS :=
  (dDrop (dBM "list" mAppend (dVar 3) (dCons (dOp oMul (dVar 5) (dOp oAdd (dC (.int 1)) (dFrz (dCall (S__law_draw ad) EE 2 (dCons (dVar 0) (dCons (dC (.int 8)) dNil)))))) dNil)))
noncomputable def T__law_names_2 (ad : Ad) (EE : DX) : dTS :=
  (dSeq (dAsg (dOp oIx (dC (.str "abcdefghijklmnopqrstuvwxyz")) (dOp oMod (dOp oAdd (dVar 2) (dOp oMul (dC (.int 7)) (dVar 4))) (dC (.int 26)))) (hName 5))
      (T__law_names_1 ad EE))
noncomputable def T__law_names_3 (ad : Ad) (EE : DX) : dTS :=
  (dSeq (dFor (wRng1 (dCons (dVar 1) dNil)) (hName 4) (T__law_names_2 ad EE))
    (dRet (dCB cTuple (dCons (dVar 3) dNil))))
noncomputable def T__law_names (ad : Ad) (EE : DX) : dTS :=
  (dSeq (dAsg (dFrz (dCall (S__law_draw ad) EE 2 (dCons (dVar 0) (dCons (dC (.int 26)) dNil)))) (hName 2))
    (dSeq (dAsg (dLst dNil) (hName 3))
    (T__law_names_3 ad EE)))
noncomputable def S__law_names (ad : Ad) : Sd := bodyD ["pot", "many", "turn", "names", "k", "sign"] (T__law_names ad)
theorem u__law_names {ad : Ad} {n : Nat} {x0 x1 : D} {M : Mem} {Q : DK} {E : DX} : S__law_names ad [x0, x1] M Q E = T__law_names ad (drpX E) { nx := fun _ M' => drp Q .non M', rt := drp Q } [some x0, some x1, none, none, none, none] M := rfl
noncomputable def T__law_row_1 (ad : Ad) (EE : DX) : dTS :=
  (dRet (dTup (dCons (dVar 6) (dCons (dVar 7) (dCons (dCall (S__law_draw ad) EE 2 (dCons (dVar 0) (dCons (dVar 2) dNil))) dNil)))))
noncomputable def T__law_row_2 (ad : Ad) (EE : DX) : dTS :=
  (dRet (dTup (dCons (dVar 6) (dCons (dVar 7) (dCons (dCall (S__law_draw ad) EE 2 (dCons (dVar 0) (dCons (dVar 4) dNil))) dNil)))))
noncomputable def T__law_row_3 (ad : Ad) (EE : DX) : dTS :=
  (dRet (dTup (dCons (dVar 6) (dCons (dVar 7) (dCons (dVar 8) dNil)))))
noncomputable def T__law_row_4 (ad : Ad) (EE : DX) : dTS :=
  (dRet (dTup (dCons (dVar 6) (dCons (dVar 7) (dCons (dVar 8) (dCons (dOp oIx (dVar 3) (dFrz (dCall (S__law_draw ad) EE 2 (dCons (dVar 0) (dCons (dCB cLen (dCons (dVar 3) dNil)) dNil))))) dNil))))))
noncomputable def T__law_row_5 (ad : Ad) (EE : DX) : dTS :=
  (dSeq (dIfS (dTest (dOp oEq (dVar 6) (dC (.str "pick")))) (T__law_row_3 ad EE) dNext)
    (T__law_row_4 ad EE))
noncomputable def T__law_row_6 (ad : Ad) (EE : DX) : dTS :=
  (dSeq (dAsg (dOp oIx (dVar 3) (dFrz (dCall (S__law_draw ad) EE 2 (dCons (dVar 0) (dCons (dCB cLen (dCons (dVar 3) dNil)) dNil))))) (hName 8))
    (T__law_row_5 ad EE))
noncomputable def T__law_row_7 (ad : Ad) (EE : DX) : dTS :=
  (dSeq (dIfS (dTest (dOp oEq (dVar 6) (dC (.str "take")))) (T__law_row_2 ad EE) dNext)
    (T__law_row_6 ad EE))
noncomputable def T__law_row_8 (ad : Ad) (EE : DX) : dTS :=
  (dSeq (dIfS (dTest (dOp oEq (dVar 6) (dC (.str "put")))) (T__law_row_1 ad EE) dNext)
    (T__law_row_7 ad EE))
noncomputable def T__law_row_9 (ad : Ad) (EE : DX) : dTS :=
  (dSeq (dAsg (dOp oIx (dVar 3) (dFrz (dCall (S__law_draw ad) EE 2 (dCons (dVar 0) (dCons (dCB cLen (dCons (dVar 3) dNil)) dNil))))) (hName 7))
    (T__law_row_8 ad EE))
noncomputable def T__law_row_10 (ad : Ad) (EE : DX) : dTS :=
  (dSeq (dAsg (dOp oIx (dVar 5) (dFrz (dCall (S__law_draw ad) EE 2 (dCons (dVar 0) (dCons (dIf (dTest (dOp oGt (dVar 4) (dC (.int 0)))) (dC (.int 9)) (dC (.int 7))) dNil))))) (hName 6))
    (T__law_row_9 ad EE))
noncomputable def T__law_row_11 (ad : Ad) (EE : DX) : dTS :=
  (dSeq (dAsg (dFrz (dLst (dCons (dC (.str "put")) (dCons (dC (.str "sum")) (dCons (dC (.str "by")) (dCons (dC (.str "less")) (dCons (dC (.str "same")) (dCons (dC (.str "sum")) (dCons (dC (.str "put")) (dCons (dC (.str "take")) (dCons (dC (.str "pick")) dNil))))))))))) (hName 5))
    (T__law_row_10 ad EE))
noncomputable def T__law_row (ad : Ad) (EE : DX) : dTS :=
  (dSeq (dAsg (dVar 1) (hTup 3 (hCons (hName 2) (hCons (hName 3) (hCons (hName 4) hNil)))))
    (T__law_row_11 ad EE))
noncomputable def S__law_row (ad : Ad) : Sd := bodyD ["pot", "told", "m", "names", "many", "ways", "way", "x", "y"] (T__law_row ad)
theorem u__law_row {ad : Ad} {n : Nat} {x0 x1 : D} {M : Mem} {Q : DK} {E : DX} : S__law_row ad [x0, x1] M Q E = T__law_row ad (drpX E) { nx := fun _ M' => drp Q .non M', rt := drp Q } [some x0, some x1, none, none, none, none, none, none, none] M := rfl
noncomputable def T__law_block_1 (ad : Ad) (S__law_block S__law_rows : Sd) (EE : DX) : dTS :=
  (dRet (dLst (dCons (dTup (dCons (dC (.str "if")) (dCons (dVar 7) (dCons (dVar 8) (dCons (dCall S__law_rows EE 5 (dCons (dVar 0) (dCons (dVar 1) (dCons (dVar 2) (dCons (dOp oAdd (dVar 3) (dC (.int 1))) (dCons (dC (.int 5)) dNil)))))) dNil))))) dNil)))
noncomputable def T__law_block_2 (ad : Ad) (S__law_block S__law_rows : Sd) (EE : DX) : dTS :=
  (dRet (dLst (dCons (dTup (dCons (dC (.str "again")) (dCons (dVar 7) (dCons (dVar 8) dNil)))) dNil)))
noncomputable def T__law_block_3 (ad : Ad) (S__law_block S__law_rows : Sd) (EE : DX) : dTS :=
  (dRet (dLst (dCons (dTup (dCons (dC (.str "put")) (dCons (dVar 7) (dCons (dCall (S__law_draw ad) EE 2 (dCons (dVar 0) (dCons (dCB cMin (dCons (dVar 4) (dCons (dC (.int 9)) dNil))) dNil))) dNil)))) (dCons (dTup (dCons (dC (.str "put")) (dCons (dVar 10) (dCons (dOp oSub (dVar 4) (dC (.int 1))) dNil)))) (dCons (dTup (dCons (dC (.str "again")) (dCons (dVar 7) (dCons (dOp oAdd (dVar 8) (dTup (dCons (dTup (dCons (dC (.str "sum")) (dCons (dVar 7) (dCons (dVar 7) (dCons (dVar 10) dNil))))) dNil))) dNil)))) dNil)))))
noncomputable def T__law_block_4 (ad : Ad) (S__law_block S__law_rows : Sd) (EE : DX) : dTS :=
  (dSeq (dAsg (dOp oIx (dVar 5) (dFrz (dCall (S__law_draw ad) EE 2 (dCons (dVar 0) (dCons (dCB cLen (dCons (dVar 5) dNil)) dNil))))) (hName 10))
    (T__law_block_3 ad S__law_block S__law_rows EE))
noncomputable def T__law_block_5 (ad : Ad) (S__law_block S__law_rows : Sd) (EE : DX) : dTS :=
  (dSeq (dIfS (dTest (dOp oEq (dVar 9) (dC (.int 2)))) (T__law_block_2 ad S__law_block S__law_rows EE) dNext)
    (T__law_block_4 ad S__law_block S__law_rows EE))
noncomputable def T__law_block_6 (ad : Ad) (S__law_block S__law_rows : Sd) (EE : DX) : dTS :=
  (dSeq (dIfS (dTest (dOp oLt (dVar 9) (dC (.int 2)))) (T__law_block_1 ad S__law_block S__law_rows EE) dNext)
    (T__law_block_5 ad S__law_block S__law_rows EE))
noncomputable def T__law_block_7 (ad : Ad) (S__law_block S__law_rows : Sd) (EE : DX) : dTS :=
  (dSeq (dAsg (dFrz (dCall (S__law_draw ad) EE 2 (dCons (dVar 0) (dCons (dC (.int 5)) dNil)))) (hName 9))
    (T__law_block_6 ad S__law_block S__law_rows EE))
noncomputable def T__law_block_8 (ad : Ad) (S__law_block S__law_rows : Sd) (EE : DX) : dTS :=
  (dSeq (dAsg (dFrz (dCall S__law_rows EE 5 (dCons (dVar 0) (dCons (dVar 1) (dCons (dVar 2) (dCons (dOp oAdd (dVar 3) (dC (.int 1))) (dCons (dC (.int 5)) dNil))))))) (hName 8))
    (T__law_block_7 ad S__law_block S__law_rows EE))
noncomputable def T__law_block_9 (ad : Ad) (S__law_block S__law_rows : Sd) (EE : DX) : dTS :=
  (dSeq (dAsg (dOp oIx (dVar 5) (dFrz (dCall (S__law_draw ad) EE 2 (dCons (dVar 0) (dCons (dCB cLen (dCons (dVar 5) dNil)) dNil))))) (hName 7))
    (T__law_block_8 ad S__law_block S__law_rows EE))
noncomputable def T__law_block (ad : Ad) (S__law_block S__law_rows : Sd) (EE : DX) : dTS :=
  (dSeq (dAsg (dVar 1) (hTup 3 (hCons (hName 4) (hCons (hName 5) (hCons (hName 6) hNil)))))
    (T__law_block_9 ad S__law_block S__law_rows EE))
noncomputable def T__law_rows_1 (ad : Ad) (S__law_block S__law_rows : Sd) (EE : DX) : dTS :=
  (dAsg (dOp oAdd (dVar 5) (dFrz (dCall S__law_block EE 4 (dCons (dVar 0) (dCons (dVar 1) (dCons (dVar 2) (dCons (dVar 3) dNil))))))) (hName 5))
noncomputable def T__law_rows_2 (ad : Ad) (S__law_block S__law_rows : Sd) (EE : DX) : dTS :=
  (dSeq (dAsg (dOp oSub (dOp oIx (dVar 2) (dC (.int 0))) (dC (.int 4))) (hSub (dVar 2) (dC (.int 0))))
        (T__law_rows_1 ad S__law_block S__law_rows EE))
noncomputable def T__law_rows_3 (ad : Ad) (S__law_block S__law_rows : Sd) (EE : DX) : dTS :=
  (dDrop (dBM "list" mAppend (dVar 5) (dCons (dFrz (dCall (S__law_row ad) EE 2 (dCons (dVar 0) (dCons (dVar 1) dNil)))) dNil)))
noncomputable def T__law_rows_4 (ad : Ad) (S__law_block S__law_rows : Sd) (EE : DX) : dTS :=
  (dSeq (dAsg (dOp oSub (dOp oIx (dVar 2) (dC (.int 0))) (dC (.int 1))) (hSub (dVar 2) (dC (.int 0))))
          (T__law_rows_3 ad S__law_block S__law_rows EE))
noncomputable def T__law_rows_5 (ad : Ad) (S__law_block S__law_rows : Sd) (EE : DX) : dTS :=
  (dIfS (dTest (dOp oGt (dOp oIx (dVar 2) (dC (.int 0))) (dC (.int 0)))) (T__law_rows_4 ad S__law_block S__law_rows EE) dNext)
noncomputable def T__law_rows_6 (ad : Ad) (S__law_block S__law_rows : Sd) (EE : DX) : dTS :=
  (dIfS (dAnd (dTest (dOp oGt (dOp oIx (dVar 2) (dC (.int 0))) (dC (.int 4)))) (dAnd (dTest (dOp oLt (dVar 3) (dC (.int 4)))) (dTest (dOp oEq (dFrz (dCall (S__law_draw ad) EE 2 (dCons (dVar 0) (dCons (dC (.int 4)) dNil)))) (dC (.int 0)))))) (T__law_rows_2 ad S__law_block S__law_rows EE) (T__law_rows_5 ad S__law_block S__law_rows EE))
noncomputable def T__law_rows_7 (ad : Ad) (S__law_block S__law_rows : Sd) (EE : DX) : dTS :=
  (dSeq (dFor (wRng1 (dCons (dFrz (dCall (S__law_draw ad) EE 2 (dCons (dVar 0) (dCons (dVar 4) dNil)))) dNil)) (hName 6) (T__law_rows_6 ad S__law_block S__law_rows EE))
    (dRet (dCB cTuple (dCons (dVar 5) dNil))))
noncomputable def T__law_rows (ad : Ad) (S__law_block S__law_rows : Sd) (EE : DX) : dTS :=
  (dSeq (dAsg (dLst dNil) (hName 5))
    (T__law_rows_7 ad S__law_block S__law_rows EE))
mutual
noncomputable def S__law_block (ad : Ad) : Nat → Sd
  | 0 => fun _ _ _ _ => False
  | n + 1 => bodyD ["pot", "told", "room", "deep", "m", "names", "many", "x", "first", "way", "y"] (T__law_block ad (S__law_block ad n) (S__law_rows ad n))
noncomputable def S__law_rows (ad : Ad) : Nat → Sd
  | 0 => fun _ _ _ _ => False
  | n + 1 => bodyD ["pot", "told", "room", "deep", "most", "rows", "k"] (T__law_rows ad (S__law_block ad n) (S__law_rows ad n))
end
theorem u__law_block {ad : Ad} {n : Nat} {x0 x1 x2 x3 : D} {M : Mem} {Q : DK} {E : DX} : S__law_block ad (n + 1) [x0, x1, x2, x3] M Q E = T__law_block ad (S__law_block ad n) (S__law_rows ad n) (drpX E) { nx := fun _ M' => drp Q .non M', rt := drp Q } [some x0, some x1, some x2, some x3, none, none, none, none, none, none, none] M := rfl
theorem u__law_rows {ad : Ad} {n : Nat} {x0 x1 x2 x3 x4 : D} {M : Mem} {Q : DK} {E : DX} : S__law_rows ad (n + 1) [x0, x1, x2, x3, x4] M Q E = T__law_rows ad (S__law_block ad n) (S__law_rows ad n) (drpX E) { nx := fun _ M' => drp Q .non M', rt := drp Q } [some x0, some x1, some x2, some x3, some x4, none, none] M := rfl
noncomputable def T__law_plan_1 (ad : Ad) (EE : DX) : dTS :=
  (dRet (dTup (dCons (dVar 2) (dCons (dVar 3) (dCons (dVar 4) (dCons (dVar 5) (dCons (dOp oIx (dVar 3) (dFrz (dCall (S__law_draw ad) EE 2 (dCons (dVar 0) (dCons (dCB cLen (dCons (dVar 3) dNil)) dNil))))) dNil)))))))
noncomputable def T__law_plan_2 (ad : Ad) (EE : DX) : dTS :=
  (dSeq (dAsg (dFrz (dCall (S__law_rows ad 24) EE 5 (dCons (dVar 0) (dCons (dTup (dCons (dVar 2) (dCons (dVar 3) (dCons (dVar 4) dNil)))) (dCons (dLst (dCons (dVar 1) dNil)) (dCons (dC (.int 0)) (dCons (dOp oIx (dFrz (dLst (dCons (dC (.int 6)) (dCons (dC (.int 12)) (dCons (dC (.int 30)) dNil))))) (dFrz (dCall (S__law_draw ad) EE 2 (dCons (dVar 0) (dCons (dC (.int 3)) dNil))))) dNil))))))) (hName 5))
    (T__law_plan_1 ad EE))
noncomputable def T__law_plan_3 (ad : Ad) (EE : DX) : dTS :=
  (dSeq (dAsg (dOp oIx (dFrz (dLst (dCons (dC (.int 0)) (dCons (dOp oAdd (dC (.int 1)) (dFrz (dCall (S__law_draw ad) EE 2 (dCons (dVar 0) (dCons (dC (.int 4)) dNil))))) (dCons (dFrz (dCall (S__law_draw ad) EE 2 (dCons (dVar 0) (dCons (dC (.int 41)) dNil)))) dNil))))) (dFrz (dCall (S__law_draw ad) EE 2 (dCons (dVar 0) (dCons (dC (.int 3)) dNil))))) (hName 4))
    (T__law_plan_2 ad EE))
noncomputable def T__law_plan_4 (ad : Ad) (EE : DX) : dTS :=
  (dSeq (dAsg (dFrz (dCall (S__law_names ad) EE 2 (dCons (dVar 0) (dCons (dOp oAdd (dC (.int 1)) (dFrz (dCall (S__law_draw ad) EE 2 (dCons (dVar 0) (dCons (dOp oIx (dFrz (dLst (dCons (dC (.int 3)) (dCons (dC (.int 5)) (dCons (dC (.int 12)) dNil))))) (dFrz (dCall (S__law_draw ad) EE 2 (dCons (dVar 0) (dCons (dC (.int 3)) dNil))))) dNil))))) dNil)))) (hName 3))
    (T__law_plan_3 ad EE))
noncomputable def T__law_plan (ad : Ad) (EE : DX) : dTS :=
  (dSeq (dAsg (dOp oIx (dFrz (dLst (dCons (dC (.int 2)) (dCons (dC (.int 3)) (dCons (dOp oAdd (dC (.int 2)) (dFrz (dCall (S__law_draw ad) EE 2 (dCons (dVar 0) (dCons (dC (.int 9)) dNil))))) (dCons (dOp oAdd (dC (.int 2)) (dFrz (dCall (S__law_draw ad) EE 2 (dCons (dVar 0) (dCons (dC (.int 996)) dNil))))) dNil)))))) (dFrz (dCall (S__law_draw ad) EE 2 (dCons (dVar 0) (dCons (dC (.int 4)) dNil))))) (hName 2))
    (T__law_plan_4 ad EE))
noncomputable def S__law_plan (ad : Ad) : Sd := bodyD ["pot", "most", "m", "names", "many", "rows"] (T__law_plan ad)
theorem u__law_plan {ad : Ad} {n : Nat} {x0 x1 : D} {M : Mem} {Q : DK} {E : DX} : S__law_plan ad [x0, x1] M Q E = T__law_plan ad (drpX E) { nx := fun _ M' => drp Q .non M', rt := drp Q } [some x0, some x1, none, none, none, none] M := rfl
noncomputable def T__law_stand_1 (ad : Ad) (EE : DX) : dTS :=
  (dRet (dTup (dCons (dVar 2) (dCons (dCB cTuple (dCons (dFrz (dComp (wRng1 (dCons (dOp oIx (dVar 1) (dC (.int 2))) dNil)) ["k"] [0, 1] (hName 0) dAll (dFrz (dCall (S__law_draw ad) NoX 2 (dCons (dVar 1) (dCons (dOp oIx (dVar 2) (dC (.int 0))) dNil)))))) dNil)) dNil))))
noncomputable def T__law_stand (ad : Ad) (EE : DX) : dTS :=
  (dSeq (dAsg (dCB cTuple (dCons (dFrz (dComp (wSeq (dOp oIx (dVar 1) (dC (.int 1)))) ["name"] [0, 1] (hName 0) dAll (dFrz (dCall (S__law_draw ad) NoX 2 (dCons (dVar 1) (dCons (dOp oIx (dVar 2) (dC (.int 0))) dNil)))))) dNil)) (hName 2))
    (T__law_stand_1 ad EE))
noncomputable def S__law_stand (ad : Ad) : Sd := bodyD ["pot", "plan", "numbers"] (T__law_stand ad)
theorem u__law_stand {ad : Ad} {n : Nat} {x0 x1 : D} {M : Mem} {Q : DK} {E : DX} : S__law_stand ad [x0, x1] M Q E = T__law_stand ad (drpX E) { nx := fun _ M' => drp Q .non M', rt := drp Q } [some x0, some x1, none] M := rfl
noncomputable def T__law_name_1 (ad : Ad) (EE : DX) : dTS :=
  (dRet (dOp oIx (dVar 1) (dBM "list" mIndexB (dVar 0) (dCons (dC (.bl true)) dNil))))
noncomputable def T__law_name_2 (ad : Ad) (EE : DX) : dTS :=
  (dSeq (dIfS (dOr (dTest (dOp oNe (dCB cLen (dCons (dVar 0) dNil)) (dC (.int 11)))) (dOr (dTest (dOp oNe (dBM "list" mCountB (dFrz (dSl (dVar 0) dNoPart (dPart (dC (.int 10))))) (dCons (dC (.bl true)) dNil)) (dC (.int 1)))) (dNot (dTru (dOp oIx (dVar 0) (dC (.int 10))))))) (dRet (dC (.str "unlike"))) dNext)
    (T__law_name_1 ad EE))
noncomputable def T__law_name (ad : Ad) (EE : DX) : dTS :=
  (dSeq (dAsg (dFrz (dLst (dCons (dC (.str "case")) (dCons (dC (.str "place")) (dCons (dC (.str "moment")) (dCons (dC (.str "build")) (dCons (dC (.str "many")) (dCons (dC (.str "big")) (dCons (dC (.str "dry")) (dCons (dC (.str "text")) (dCons (dC (.str "line")) (dCons (dC (.str "row")) dNil)))))))))))) (hName 1))
    (T__law_name_2 ad EE))
noncomputable def S__law_name (ad : Ad) : Sd := bodyD ["flags", "names"] (T__law_name ad)
theorem u__law_name {ad : Ad} {n : Nat} {x0 : D} {M : Mem} {Q : DK} {E : DX} : S__law_name ad [x0] M Q E = T__law_name ad (drpX E) { nx := fun _ M' => drp Q .non M', rt := drp Q } [some x0, none] M := rfl
noncomputable def T__law_kinds_1 (ad : Ad) (ea : Addr) (EE : DX) : dTS :=
  (dRet (dOp oAdd (dVar 1) (dFrz (dLst (dCons (dIsE ea (.ref ad.C_NoLine) false (dCons (dVar 0) (dCons (dC (.ref ad.C_NoLine)) dNil))) (dCons (dIsE ea (.ref ad.C_NoRow) false (dCons (dVar 0) (dCons (dC (.ref ad.C_NoRow)) dNil))) (dCons (dIsE ea (.ty "ValueError") true (dCons (dVar 0) (dCons (dC (.ty "ValueError")) dNil))) dNil)))))))
noncomputable def T__law_kinds_2 (ad : Ad) (ea : Addr) (EE : DX) : dTS :=
  (dSeq (dAsg (dFrz (dOp oAdd (dVar 1) (dFrz (dLst (dCons (dIsE ea (.ref ad.C_TooMany) false (dCons (dVar 0) (dCons (dC (.ref ad.C_TooMany)) dNil))) (dCons (dIsE ea (.ref ad.C_TooBig) false (dCons (dVar 0) (dCons (dC (.ref ad.C_TooBig)) dNil))) (dCons (dIsE ea (.ref ad.C_Dry) false (dCons (dVar 0) (dCons (dC (.ref ad.C_Dry)) dNil))) (dCons (dIsE ea (.ref ad.C_NoText) true (dCons (dVar 0) (dCons (dC (.ref ad.C_NoText)) dNil))) dNil)))))))) (hName 1))
    (T__law_kinds_1 ad ea EE))
noncomputable def T__law_kinds (ad : Ad) (ea : Addr) (EE : DX) : dTS :=
  (dSeq (dAsg (dFrz (dLst (dCons (dIsE ea (.ref ad.C_NoCase) false (dCons (dVar 0) (dCons (dC (.ref ad.C_NoCase)) dNil))) (dCons (dIsE ea (.ref ad.C_NoPlace) false (dCons (dVar 0) (dCons (dC (.ref ad.C_NoPlace)) dNil))) (dCons (dIsE ea (.ref ad.C_NoMoment) false (dCons (dVar 0) (dCons (dC (.ref ad.C_NoMoment)) dNil))) (dCons (dIsE ea (.ref ad.C_NoBuild) false (dCons (dVar 0) (dCons (dC (.ref ad.C_NoBuild)) dNil))) dNil)))))) (hName 1))
    (T__law_kinds_2 ad ea EE))
noncomputable def S__law_kinds (ad : Ad) (ea : Addr) : Sd := bodyD ["e", "found"] (T__law_kinds ad ea)
theorem u__law_kinds {ad : Ad} {ea : Addr} {n : Nat} {x0 : D} {M : Mem} {Q : DK} {E : DX} : S__law_kinds ad ea [x0] M Q E = T__law_kinds ad ea (drpX E) { nx := fun _ M' => drp Q .non M', rt := drp Q } [some x0, none] M := rfl
noncomputable def T__law_alike_1 (ad : Ad) (S__law_alike : Sd) (EE : DX) : dTS :=
  (dRet (dAndV (dCB cInst (dCons (dVar 0) (dCons (dC (.ty "bool")) dNil))) (dOp oEq (dVar 0) (dVar 1))))
noncomputable def T__law_alike_2 (ad : Ad) (S__law_alike : Sd) (EE : DX) : dTS :=
  (dRet (dAndV (dCB cInst (dCons (dVar 0) (dCons (dC (.ty "int")) dNil))) (dAndV (dNotV (dCB cInst (dCons (dVar 0) (dCons (dC (.ty "bool")) dNil)))) (dOp oEq (dVar 0) (dVar 1)))))
noncomputable def T__law_alike_3 (ad : Ad) (S__law_alike : Sd) (EE : DX) : dTS :=
  (dRet (dAndV (dCB cInst (dCons (dVar 0) (dCons (dC (.ty "str")) dNil))) (dOp oEq (dVar 0) (dVar 1))))
noncomputable def T__law_alike_4 (ad : Ad) (S__law_alike : Sd) (EE : DX) : dTS :=
  (dRet (dCB cAll (dCons (dFrz (dComp (wZip (dCons (dVar 0) (dCons (dVar 1) dNil))) ["one", "other"] [] (hTup 2 (hCons (hName 0) (hCons (hName 1) hNil))) dAll (dFrz (dCall S__law_alike NoX 2 (dCons (dVar 0) (dCons (dVar 1) dNil)))))) dNil)))
noncomputable def T__law_alike_5 (ad : Ad) (S__law_alike : Sd) (EE : DX) : dTS :=
  (dSeq (dIfS (dTest (dOp oNe (dCB cLen (dCons (dVar 0) dNil)) (dCB cLen (dCons (dVar 1) dNil)))) (dRet (dC (.bl false))) dNext)
    (T__law_alike_4 ad S__law_alike EE))
noncomputable def T__law_alike_6 (ad : Ad) (S__law_alike : Sd) (EE : DX) : dTS :=
  (dSeq (dIfS (dOr (dTest (dOp oNe (dCB cInst (dCons (dVar 1) (dCons (dC (.ty "tuple")) dNil))) (dCB cInst (dCons (dVar 0) (dCons (dC (.ty "tuple")) dNil))))) (dTest (dOp oNe (dCB cInst (dCons (dVar 1) (dCons (dC (.ty "list")) dNil))) (dCB cInst (dCons (dVar 0) (dCons (dC (.ty "list")) dNil)))))) (dRet (dC (.bl false))) dNext)
    (T__law_alike_5 ad S__law_alike EE))
noncomputable def T__law_alike_7 (ad : Ad) (S__law_alike : Sd) (EE : DX) : dTS :=
  (dSeq (dIfS (dTru (dCB cInst (dCons (dVar 1) (dCons (dC (.ty "str")) dNil)))) (T__law_alike_3 ad S__law_alike EE) dNext)
    (T__law_alike_6 ad S__law_alike EE))
noncomputable def T__law_alike_8 (ad : Ad) (S__law_alike : Sd) (EE : DX) : dTS :=
  (dSeq (dIfS (dTru (dCB cInst (dCons (dVar 1) (dCons (dC (.ty "int")) dNil)))) (T__law_alike_2 ad S__law_alike EE) dNext)
    (T__law_alike_7 ad S__law_alike EE))
noncomputable def T__law_alike_9 (ad : Ad) (S__law_alike : Sd) (EE : DX) : dTS :=
  (dSeq (dIfS (dTru (dCB cInst (dCons (dVar 1) (dCons (dC (.ty "bool")) dNil)))) (T__law_alike_1 ad S__law_alike EE) dNext)
    (T__law_alike_8 ad S__law_alike EE))
noncomputable def T__law_alike (ad : Ad) (S__law_alike : Sd) (EE : DX) : dTS :=
  (dSeq (dIfS (dTest (dOp oIsN (dVar 1) (dC .non))) (dRet (dOp oIsN (dVar 0) (dC .non))) dNext)
    (T__law_alike_9 ad S__law_alike EE))
noncomputable def S__law_alike (ad : Ad) : Nat → Sd
  | 0 => fun _ _ _ _ => False
  | n + 1 => bodyD ["found", "due"] (T__law_alike ad (S__law_alike ad n))
theorem u__law_alike {ad : Ad} {n : Nat} {x0 x1 : D} {M : Mem} {Q : DK} {E : DX} : S__law_alike ad (n + 1) [x0, x1] M Q E = T__law_alike ad (S__law_alike ad n) (drpX E) { nx := fun _ M' => drp Q .non M', rt := drp Q } [some x0, some x1] M := rfl
noncomputable def T__law_due_1 (ad : Ad) (EE : DX) : dTS :=
  (dDrop (dBM "list" mAppend (dVar 4) (dCons (dCB cIntS (dCons (dVar 5) dNil)) dNil)))
noncomputable def T__law_due_2 (ad : Ad) (EE : DX) : dTS :=
  (dSeq (dIfS (dOr (dTest (dOp oNe (dVar 5) (dCB cStr (dCons (dCB cIntS (dCons (dVar 5) dNil)) dNil)))) (dTest (dOp oGe (dCB cIntS (dCons (dVar 5) dNil)) (dOp oIx (dVar 0) (dC (.int 0)))))) (dRet (dC .non)) dNext)
      (T__law_due_1 ad EE))
noncomputable def T__law_due_3 (ad : Ad) (EE : DX) : dTS :=
  (dSeq (dIfS (dOr (dTest (dOp oEq (dVar 5) (dC (.str "")))) (dTest (dOp oNe (dFrz (dComp (wStr (dVar 5)) ["sign"] [] (hName 0) (dTest (dOp oNotInS (dVar 0) (dC (.str "0123456789")))) (dVar 0))) (dFrz (dLst dNil))))) (dRet (dC .non)) dNext)
      (T__law_due_2 ad EE))
noncomputable def T__law_due_4 (ad : Ad) (EE : DX) : dTS :=
  (dRet (dTup (dCons (dCB cTuple (dCons (dFrz (dSl (dVar 4) dNoPart (dPart (dVar 3)))) dNil)) (dCons (dCB cTuple (dCons (dFrz (dSl (dVar 4) (dPart (dVar 3)) dNoPart)) dNil)) dNil))))
noncomputable def T__law_due_5 (ad : Ad) (EE : DX) : dTS :=
  (dSeq (dFor (wSeq (dFrz (dOp oAdd (dFrz (dSl (dVar 2) dNoPart (dPart (dVar 3)))) (dFrz (dSl (dVar 2) (dPart (dOp oAdd (dVar 3) (dC (.int 1)))) dNoPart))))) (hName 5) (T__law_due_3 ad EE))
    (T__law_due_4 ad EE))
noncomputable def T__law_due_6 (ad : Ad) (EE : DX) : dTS :=
  (dSeq (dIfS (dOr (dTest (dOp oNe (dCB cLen (dCons (dVar 2) dNil)) (dFrz (dOp oAdd (dOp oAdd (dVar 3) (dC (.int 1))) (dOp oIx (dVar 0) (dC (.int 2))))))) (dTest (dOp oNe (dOp oIx (dVar 2) (dVar 3)) (dC (.str "|"))))) (dRet (dC .non)) dNext)
    (dSeq (dAsg (dLst dNil) (hName 4))
    (T__law_due_5 ad EE)))
noncomputable def T__law_due_7 (ad : Ad) (EE : DX) : dTS :=
  (dSeq (dAsg (dCB cLen (dCons (dOp oIx (dVar 0) (dC (.int 1))) dNil)) (hName 3))
    (T__law_due_6 ad EE))
noncomputable def T__law_due (ad : Ad) (EE : DX) : dTS :=
  (dSeq (dAsg (dFrz (dBM "str" mSplit (dVar 1) (dCons (dC (.str " ")) dNil))) (hName 2))
    (T__law_due_7 ad EE))
noncomputable def S__law_due (ad : Ad) : Sd := bodyD ["plan", "text", "words", "at", "numbers", "word"] (T__law_due ad)
theorem u__law_due {ad : Ad} {n : Nat} {x0 x1 : D} {M : Mem} {Q : DK} {E : DX} : S__law_due ad [x0, x1] M Q E = T__law_due ad (drpX E) { nx := fun _ M' => drp Q .non M', rt := drp Q } [some x0, some x1, none, none, none, none] M := rfl
noncomputable def T__law_bent_1 (ad : Ad) (EE : DX) : dTS :=
  (dAsg (dFrz (dOp oAdd (dFrz (dSl (dVar 2) dNoPart (dPart (dVar 3)))) (dFrz (dSl (dVar 2) (dPart (dOp oAdd (dVar 3) (dC (.int 1)))) dNoPart)))) (hName 2))
noncomputable def T__law_bent_2 (ad : Ad) (EE : DX) : dTS :=
  (dAsg (dFrz (dOp oAdd (dFrz (dOp oAdd (dFrz (dSl (dVar 2) dNoPart (dPart (dVar 3)))) (dFrz (dLst (dCons (dOp oIx (dVar 2) (dVar 3)) dNil))))) (dFrz (dSl (dVar 2) (dPart (dVar 3)) dNoPart)))) (hName 2))
noncomputable def T__law_bent_3 (ad : Ad) (EE : DX) : dTS :=
  (dAsg (dFrz (dOp oAdd (dFrz (dOp oAdd (dFrz (dSl (dVar 2) dNoPart (dPart (dVar 4)))) (dFrz (dLst (dCons (dVar 6) dNil))))) (dFrz (dSl (dVar 2) (dPart (dOp oAdd (dVar 4) (dC (.int 1)))) dNoPart)))) (hName 2))
noncomputable def T__law_bent_4 (ad : Ad) (EE : DX) : dTS :=
  (dSeq (dAsg (dFrz (dOp oAdd (dFrz (dOp oAdd (dFrz (dSl (dVar 2) dNoPart (dPart (dVar 3)))) (dFrz (dLst (dCons (dOp oIx (dVar 2) (dVar 4)) dNil))))) (dFrz (dSl (dVar 2) (dPart (dOp oAdd (dVar 3) (dC (.int 1)))) dNoPart)))) (hName 2))
          (T__law_bent_3 ad EE))
noncomputable def T__law_bent_5 (ad : Ad) (EE : DX) : dTS :=
  (dSeq (dAsg (dOp oIx (dVar 2) (dVar 3)) (hName 6))
          (T__law_bent_4 ad EE))
noncomputable def T__law_bent_6 (ad : Ad) (EE : DX) : dTS :=
  (dAsg (dFrz (dOp oAdd (dFrz (dOp oAdd (dFrz (dSl (dVar 2) dNoPart (dPart (dVar 4)))) (dFrz (dLst (dCons (dC (.str "|")) dNil))))) (dFrz (dSl (dVar 2) (dPart (dVar 4)) dNoPart)))) (hName 2))
noncomputable def T__law_bent_7 (ad : Ad) (EE : DX) : dTS :=
  (dSeq (dThenFrz (dCompS 2 (dComp (wSeq (dVar 2)) ["word"] [] (hName 0) (dTest (dOp oNe (dVar 0) (dC (.str "|")))) (dVar 0))) 2)
            (T__law_bent_6 ad EE))
noncomputable def T__law_bent_8 (ad : Ad) (EE : DX) : dTS :=
  (dAsg (dFrz (dOp oAdd (dFrz (dOp oAdd (dFrz (dSl (dVar 2) dNoPart (dPart (dVar 3)))) (dFrz (dLst (dCons (dC (.str "")) dNil))))) (dFrz (dSl (dVar 2) (dPart (dVar 3)) dNoPart)))) (hName 2))
noncomputable def T__law_bent_9 (ad : Ad) (EE : DX) : dTS :=
  (dAsg (dFrz (dOp oAdd (dFrz (dOp oAdd (dFrz (dSl (dVar 2) dNoPart (dPart (dVar 3)))) (dFrz (dLst (dCons (dOp oIx (dVar 7) (dFrz (dCall (S__law_draw ad) EE 2 (dCons (dVar 0) (dCons (dC (.int 9)) dNil))))) dNil))))) (dFrz (dSl (dVar 2) (dPart (dOp oAdd (dVar 3) (dC (.int 1)))) dNoPart)))) (hName 2))
noncomputable def T__law_bent_10 (ad : Ad) (EE : DX) : dTS :=
  (dSeq (dAsg (dFrz (dLst (dCons (dCB cStr (dCons (dOp oIx (dVar 1) (dC (.int 0))) dNil)) (dCons (dOp oAdd (dC (.str "0")) (dOp oIx (dVar 2) (dVar 3))) (dCons (dOp oAdd (dC (.str "-")) (dOp oIx (dVar 2) (dVar 3))) (dCons (dOp oAdd (dOp oIx (dVar 2) (dVar 3)) (dC (.str "a"))) (dCons (dC (.str "")) (dCons (dC (.str "|")) (dCons (dC (.str "0")) (dCons (dCB cStr (dCons (dOp oSub (dOp oIx (dVar 1) (dC (.int 0))) (dC (.int 1))) dNil)) (dCons (dC (.str "+1")) dNil))))))))))) (hName 7))
              (T__law_bent_9 ad EE))
noncomputable def T__law_bent_11 (ad : Ad) (EE : DX) : dTS :=
  (dIfS (dTest (dOp oEq (dVar 5) (dC (.int 4)))) (T__law_bent_8 ad EE) (T__law_bent_10 ad EE))
noncomputable def T__law_bent_12 (ad : Ad) (EE : DX) : dTS :=
  (dIfS (dTest (dOp oEq (dVar 5) (dC (.int 3)))) (T__law_bent_7 ad EE) (T__law_bent_11 ad EE))
noncomputable def T__law_bent_13 (ad : Ad) (EE : DX) : dTS :=
  (dIfS (dTest (dOp oEq (dVar 5) (dC (.int 2)))) (T__law_bent_5 ad EE) (T__law_bent_12 ad EE))
noncomputable def T__law_bent_14 (ad : Ad) (EE : DX) : dTS :=
  (dIfS (dTest (dOp oEq (dVar 5) (dC (.int 1)))) (T__law_bent_2 ad EE) (T__law_bent_13 ad EE))
noncomputable def T__law_bent_15 (ad : Ad) (EE : DX) : dTS :=
  (dRet (dBM "str" mJoin (dC (.str " ")) (dCons (dVar 2) dNil)))
noncomputable def T__law_bent_16 (ad : Ad) (EE : DX) : dTS :=
  (dSeq (dIfS (dTest (dOp oEq (dVar 5) (dC (.int 0)))) (T__law_bent_1 ad EE) (T__law_bent_14 ad EE))
    (T__law_bent_15 ad EE))
noncomputable def T__law_bent_17 (ad : Ad) (EE : DX) : dTS :=
  (dSeq (dAsg (dFrz (dCall (S__law_draw ad) EE 2 (dCons (dVar 0) (dCons (dC (.int 8)) dNil)))) (hName 5))
    (T__law_bent_16 ad EE))
noncomputable def T__law_bent_18 (ad : Ad) (EE : DX) : dTS :=
  (dSeq (dAsg (dFrz (dCall (S__law_draw ad) EE 2 (dCons (dVar 0) (dCons (dCB cLen (dCons (dVar 2) dNil)) dNil)))) (hName 4))
    (T__law_bent_17 ad EE))
noncomputable def T__law_bent (ad : Ad) (EE : DX) : dTS :=
  (dSeq (dAsg (dFrz (dCall (S__law_draw ad) EE 2 (dCons (dVar 0) (dCons (dCB cLen (dCons (dVar 2) dNil)) dNil)))) (hName 3))
    (T__law_bent_18 ad EE))
noncomputable def S__law_bent (ad : Ad) : Sd := bodyD ["pot", "plan", "words", "at", "to", "way", "one", "some"] (T__law_bent ad)
theorem u__law_bent {ad : Ad} {n : Nat} {x0 x1 x2 : D} {M : Mem} {Q : DK} {E : DX} : S__law_bent ad [x0, x1, x2] M Q E = T__law_bent ad (drpX E) { nx := fun _ M' => drp Q .non M', rt := drp Q } [some x0, some x1, some x2, none, none, none, none, none] M := rfl
noncomputable def T_law_1 (ad : Ad) (EE : DX) : dTS :=
  (dIfS (dAnd (dTest (dOp oNotN (dVar 8) (dC .non))) (dOr (dTest (dOp oNe (dVar 10) (dFrz (dLst dNil)))) (dNot (dTru (dFrz (dCall (S__law_alike ad 24) EE 2 (dCons (dVar 9) (dCons (dVar 8) dNil)))))))) (dRet (dC (.bl false))) dNext)
noncomputable def T_law_2 (ad : Ad) (EE : DX) : dTS :=
  (dSeq (dIfS (dAnd (dTest (dOp oIsN (dVar 8) (dC .non))) (dOr (dTest (dOp oNotN (dVar 9) (dC .non))) (dTest (dOp oNe (dFrz (dCall (S__law_name ad) EE 1 (dCons (dVar 10) dNil))) (dC (.str "text")))))) (dRet (dC (.bl false))) dNext)
      (T_law_1 ad EE))
noncomputable def T_law_3 (ad : Ad) (EE : DX) : dTS :=
  (dSeq (dTryAs ad.C_NoText (S_read_stand ad) 2 (dCons (dVar 2) (dCons (dVar 7) dNil)) 9 11 10 (S__law_kinds ad))
      (T_law_2 ad EE))
noncomputable def T_law_4 (ad : Ad) (EE : DX) : dTS :=
  (dSeq (dAsg (dFrz (dLst dNil)) (hName 10))
      (T_law_3 ad EE))
noncomputable def T_law_5 (ad : Ad) (EE : DX) : dTS :=
  (dSeq (dAsg (dFrz (dCall (S__law_due ad) EE 2 (dCons (dVar 2) (dCons (dVar 7) dNil)))) (hName 8))
      (dSeq (dAsg (dC .non) (hName 9))
      (T_law_4 ad EE)))
noncomputable def T_law_6 (ad : Ad) (EE : DX) : dTS :=
  (dSeq (dAsg (dFrz (dCall (S__law_bent ad) EE 3 (dCons (dVar 1) (dCons (dVar 2) (dCons (dVar 4) dNil))))) (hName 7))
      (T_law_5 ad EE))
noncomputable def T_law_7 (ad : Ad) (EE : DX) : dTS :=
  (dSeq (dFor (wRng1 (dCons (dC (.int 10)) dNil)) (hName 6) (T_law_6 ad EE))
    (dRet (dC (.bl true))))
noncomputable def T_law_8 (ad : Ad) (EE : DX) : dTS :=
  (dSeq (dIfS (dOr (dNot (dTru (dFrz (dCall (S__law_alike ad 24) EE 2 (dCons (dFrz (dCall (S_stand_text ad) EE 1 (dCons (dVar 3) dNil))) (dCons (dVar 5) dNil)))))) (dNot (dTru (dFrz (dCall (S__law_alike ad 24) EE 2 (dCons (dFrz (dCall (S_read_stand ad) EE 2 (dCons (dVar 2) (dCons (dVar 5) dNil)))) (dCons (dVar 3) dNil))))))) (dRet (dC (.bl false))) dNext)
    (T_law_7 ad EE))
noncomputable def T_law_9 (ad : Ad) (EE : DX) : dTS :=
  (dSeq (dAsg (dBM "str" mJoin (dC (.str " ")) (dCons (dVar 4) dNil)) (hName 5))
    (T_law_8 ad EE))
noncomputable def T_law_10 (ad : Ad) (EE : DX) : dTS :=
  (dSeq (dAsg (dFrz (dOp oAdd (dFrz (dOp oAdd (dFrz (dComp (wSeq (dOp oIx (dVar 3) (dC (.int 0)))) ["number"] [] (hName 0) dAll (dCB cStr (dCons (dVar 0) dNil)))) (dFrz (dLst (dCons (dC (.str "|")) dNil))))) (dFrz (dComp (wSeq (dOp oIx (dVar 3) (dC (.int 1)))) ["number"] [] (hName 0) dAll (dCB cStr (dCons (dVar 0) dNil)))))) (hName 4))
    (T_law_9 ad EE))
noncomputable def T_law_11 (ad : Ad) (EE : DX) : dTS :=
  (dSeq (dAsg (dFrz (dCall (S__law_stand ad) EE 2 (dCons (dVar 1) (dCons (dVar 2) dNil)))) (hName 3))
    (T_law_10 ad EE))
noncomputable def T_law_12 (ad : Ad) (EE : DX) : dTS :=
  (dSeq (dAsg (dFrz (dCall (S__law_plan ad) EE 2 (dCons (dVar 1) (dCons (dC (.int 3)) dNil)))) (hName 2))
    (T_law_11 ad EE))
noncomputable def T_law (ad : Ad) (EE : DX) : dTS :=
  (dSeq (dAsg (dCall (S__law_pot ad) EE 1 (dCons (dVar 0) dNil)) (hName 1))
    (T_law_12 ad EE))
noncomputable def S_law (ad : Ad) : Sd := bodyD ["script", "pot", "plan", "stand", "words", "text", "turn", "bent", "due", "found", "kinds", "e"] (T_law ad)
theorem u_law {ad : Ad} {n : Nat} {x0 : D} {M : Mem} {Q : DK} {E : DX} : S_law ad [x0] M Q E = T_law ad (drpX E) { nx := fun _ M' => drp Q .non M', rt := drp Q } [some x0, none, none, none, none, none, none, none, none, none, none, none] M := rfl
end Tw

namespace Tw
open PySem L2 L3
set_option genInjectivity false in
structure En (K : PySem.W.Frag) (mg : Str → Option Value) (ad : Ad) : Prop where
  mC_Dry : mg "Dry" = some (.ref ad.C_Dry)
  mC_NoBuild : mg "NoBuild" = some (.ref ad.C_NoBuild)
  mC_NoCase : mg "NoCase" = some (.ref ad.C_NoCase)
  mC_NoLine : mg "NoLine" = some (.ref ad.C_NoLine)
  mC_NoMoment : mg "NoMoment" = some (.ref ad.C_NoMoment)
  mC_NoPlace : mg "NoPlace" = some (.ref ad.C_NoPlace)
  mC_NoRow : mg "NoRow" = some (.ref ad.C_NoRow)
  x_NoText : ExcAt K ad.C_NoText
  mC_NoText : mg "NoText" = some (.ref ad.C_NoText)
  mC_StrideError : mg "StrideError" = some (.ref ad.C_StrideError)
  mC_TooBig : mg "TooBig" = some (.ref ad.C_TooBig)
  mC_TooMany : mg "TooMany" = some (.ref ad.C_TooMany)
  xc_NoText : LX.XC K ad.C_NoText
  xs_StrideError : XS K ad.C_NoText ad.C_StrideError
  kt_Dry : KitC K ad.C_NoText (.ref ad.C_Dry) false
  kt_NoBuild : KitC K ad.C_NoText (.ref ad.C_NoBuild) false
  kt_NoCase : KitC K ad.C_NoText (.ref ad.C_NoCase) false
  kt_NoLine : KitC K ad.C_NoText (.ref ad.C_NoLine) false
  kt_NoMoment : KitC K ad.C_NoText (.ref ad.C_NoMoment) false
  kt_NoPlace : KitC K ad.C_NoText (.ref ad.C_NoPlace) false
  kt_NoRow : KitC K ad.C_NoText (.ref ad.C_NoRow) false
  kt_NoText : KitC K ad.C_NoText (.ref ad.C_NoText) true
  kt_TooBig : KitC K ad.C_NoText (.ref ad.C_TooBig) false
  kt_TooMany : KitC K ad.C_NoText (.ref ad.C_TooMany) false
  kt_ValueError : KitC K ad.C_NoText (.ty "ValueError") true
  F_are_figures : Fun K "are_figures" "are_figures" s_are_figures ad.a_are_figures ad.d_are_figures
  b_are_figures : Binds K ad.d_are_figures ["text"] []
  k_are_figures : PySem.W.keepIn K (.ref ad.a_are_figures) = true
  m_are_figures : mg "are_figures" = some (.ref ad.a_are_figures)
  F_number_from : Fun K "number_from" "number_from" s_number_from ad.a_number_from ad.d_number_from
  b_number_from : Binds K ad.d_number_from ["text", "least", "most"] []
  k_number_from : PySem.W.keepIn K (.ref ad.a_number_from) = true
  m_number_from : mg "number_from" = some (.ref ad.a_number_from)
  F_stand_text : Fun K "stand_text" "stand_text" s_stand_text ad.a_stand_text ad.d_stand_text
  b_stand_text : Binds K ad.d_stand_text ["stand"] []
  k_stand_text : PySem.W.keepIn K (.ref ad.a_stand_text) = true
  m_stand_text : mg "stand_text" = some (.ref ad.a_stand_text)
  F_read_stand : Fun K "read_stand" "read_stand" s_read_stand ad.a_read_stand ad.d_read_stand
  b_read_stand : Binds K ad.d_read_stand ["plan", "text"] []
  k_read_stand : PySem.W.keepIn K (.ref ad.a_read_stand) = true
  m_read_stand : mg "read_stand" = some (.ref ad.a_read_stand)
  F__law_stirred : Fun K "_law_stirred" "_law_stirred" s__law_stirred ad.a__law_stirred ad.d__law_stirred
  b__law_stirred : Binds K ad.d__law_stirred ["cell", "turn"] []
  k__law_stirred : PySem.W.keepIn K (.ref ad.a__law_stirred) = true
  m__law_stirred : mg "_law_stirred" = some (.ref ad.a__law_stirred)
  F__law_pot : Fun K "_law_pot" "_law_pot" s__law_pot ad.a__law_pot ad.d__law_pot
  b__law_pot : Binds K ad.d__law_pot ["script"] []
  k__law_pot : PySem.W.keepIn K (.ref ad.a__law_pot) = true
  m__law_pot : mg "_law_pot" = some (.ref ad.a__law_pot)
  F__law_draw : Fun K "_law_draw" "_law_draw" s__law_draw ad.a__law_draw ad.d__law_draw
  b__law_draw : Binds K ad.d__law_draw ["pot", "many"] []
  k__law_draw : PySem.W.keepIn K (.ref ad.a__law_draw) = true
  m__law_draw : mg "_law_draw" = some (.ref ad.a__law_draw)
  F__law_names : Fun K "_law_names" "_law_names" s__law_names ad.a__law_names ad.d__law_names
  b__law_names : Binds K ad.d__law_names ["pot", "many"] []
  k__law_names : PySem.W.keepIn K (.ref ad.a__law_names) = true
  m__law_names : mg "_law_names" = some (.ref ad.a__law_names)
  F__law_row : Fun K "_law_row" "_law_row" s__law_row ad.a__law_row ad.d__law_row
  b__law_row : Binds K ad.d__law_row ["pot", "told"] []
  k__law_row : PySem.W.keepIn K (.ref ad.a__law_row) = true
  m__law_row : mg "_law_row" = some (.ref ad.a__law_row)
  F__law_block : Fun K "_law_block" "_law_block" s__law_block ad.a__law_block ad.d__law_block
  b__law_block : Binds K ad.d__law_block ["pot", "told", "room", "deep"] []
  k__law_block : PySem.W.keepIn K (.ref ad.a__law_block) = true
  m__law_block : mg "_law_block" = some (.ref ad.a__law_block)
  F__law_rows : Fun K "_law_rows" "_law_rows" s__law_rows ad.a__law_rows ad.d__law_rows
  b__law_rows : Binds K ad.d__law_rows ["pot", "told", "room", "deep", "most"] []
  k__law_rows : PySem.W.keepIn K (.ref ad.a__law_rows) = true
  m__law_rows : mg "_law_rows" = some (.ref ad.a__law_rows)
  F__law_plan : Fun K "_law_plan" "_law_plan" s__law_plan ad.a__law_plan ad.d__law_plan
  b__law_plan : Binds K ad.d__law_plan ["pot", "most"] []
  k__law_plan : PySem.W.keepIn K (.ref ad.a__law_plan) = true
  m__law_plan : mg "_law_plan" = some (.ref ad.a__law_plan)
  F__law_stand : Fun K "_law_stand" "_law_stand" s__law_stand ad.a__law_stand ad.d__law_stand
  b__law_stand : Binds K ad.d__law_stand ["pot", "plan"] []
  k__law_stand : PySem.W.keepIn K (.ref ad.a__law_stand) = true
  m__law_stand : mg "_law_stand" = some (.ref ad.a__law_stand)
  F__law_name : Fun K "_law_name" "_law_name" s__law_name ad.a__law_name ad.d__law_name
  b__law_name : Binds K ad.d__law_name ["flags"] []
  k__law_name : PySem.W.keepIn K (.ref ad.a__law_name) = true
  m__law_name : mg "_law_name" = some (.ref ad.a__law_name)
  F__law_kinds : Fun K "_law_kinds" "_law_kinds" s__law_kinds ad.a__law_kinds ad.d__law_kinds
  b__law_kinds : Binds K ad.d__law_kinds ["e"] []
  k__law_kinds : PySem.W.keepIn K (.ref ad.a__law_kinds) = true
  m__law_kinds : mg "_law_kinds" = some (.ref ad.a__law_kinds)
  F__law_alike : Fun K "_law_alike" "_law_alike" s__law_alike ad.a__law_alike ad.d__law_alike
  b__law_alike : Binds K ad.d__law_alike ["found", "due"] []
  k__law_alike : PySem.W.keepIn K (.ref ad.a__law_alike) = true
  m__law_alike : mg "_law_alike" = some (.ref ad.a__law_alike)
  F__law_due : Fun K "_law_due" "_law_due" s__law_due ad.a__law_due ad.d__law_due
  b__law_due : Binds K ad.d__law_due ["plan", "text"] []
  k__law_due : PySem.W.keepIn K (.ref ad.a__law_due) = true
  m__law_due : mg "_law_due" = some (.ref ad.a__law_due)
  F__law_bent : Fun K "_law_bent" "_law_bent" s__law_bent ad.a__law_bent ad.d__law_bent
  b__law_bent : Binds K ad.d__law_bent ["pot", "plan", "words"] []
  k__law_bent : PySem.W.keepIn K (.ref ad.a__law_bent) = true
  m__law_bent : mg "_law_bent" = some (.ref ad.a__law_bent)
  F_law : Fun K "law" "law" s_law ad.a_law ad.d_law
  b_law : Binds K ad.d_law ["script"] []
  k_law : PySem.W.keepIn K (.ref ad.a_law) = true
  m_law : mg "law" = some (.ref ad.a_law)
  z_ValueError : mg "ValueError" = none
  z_all : mg "all" = none
  z_bool : mg "bool" = none
  z_int : mg "int" = none
  z_isinstance : mg "isinstance" = none
  z_len : mg "len" = none
  z_list : mg "list" = none
  z_min : mg "min" = none
  z_range : mg "range" = none
  z_str : mg "str" = none
  z_tuple : mg "tuple" = none
  z_zip : mg "zip" = none
section
variable {P : Program} {w : World} {K : PySem.W.Frag} {mg : Str → Option Value} {base : Heap} {ad : Ad}
theorem ok_are_figures (En : En K mg ad)  : FnOk P w K mg base (CXG P w) 1 ad.a_are_figures ad.d_are_figures ["text"] (liftSp K 1 (S_are_figures ad)) := by
  refine fnD (k := 0) (T := T_are_figures ad) En.F_are_figures sc_are_figures fun cdv A outer s H E B EE hr ux => ?_
  have hU := hr.units
  have hu := hu_of hr
  unfold T_are_figures
  exact (dss_cons (ds_if (DW.dt (dw_or (dt_cmp (op_eq' hU) (dnm 0) de_str (nomark _)) (dw_or1 (dt_not (dt_tru (de_callB (call_all' rfl) rfl En.z_all bt_all' (da_cons (de_frz (de_comp (ls := ["sign"]) (fs := []) (js := []) rfl (compOkZ rfl (by decide +kernel) (by decide +kernel)) (di_str (dnm 0)) (fun C' s₀ H₀ fp pl' => ⟨(dg_name (i := 0) (show List.Nodup [("sign" : Str)] from (by decide +kernel)) rfl (Or.inl rfl)), dts_nil, (de_chain op_leS op_leS de_str (dnm 0) de_str)⟩))) da_nil))))))) (dss_one (ds_ret de_bl)) dss_nil)
    (dss_one (ds_ret (de_or (de_cmp (op_eq' hU) (dnm 0) de_str (nomark _)) (de_one (de_cmp (op_ne' hU) (de_ix (ix_all hu) (dnm 0) de_int (fun _ _ => rfl)) de_str (nomark _)))))))
theorem ok_number_from (En : En K mg ad) (G_are_figures : FnOk P w K mg base (CXG P w) 1 ad.a_are_figures ad.d_are_figures ["text"] (liftSp K 1 (S_are_figures ad))) : FnOk P w K mg base (CXG P w) 2 ad.a_number_from ad.d_number_from ["text", "least", "most"] (liftSp K 3 (S_number_from ad)) := by
  refine fnD (k := 1) (T := T_number_from ad) En.F_number_from sc_number_from fun cdv A outer s H E B EE hr ux => ?_
  have hU := hr.units
  have hu := hu_of hr
  unfold T_number_from
  exact (dss_cons (ds_if (DW.dt (dw_or (dt_not (dt_tru (de_frz (de_call G_are_figures (hr.mono (by decide)) rfl En.m_are_figures En.k_are_figures En.b_are_figures passG ux (da_cons (dnm 0) da_nil))))) (dw_or1 (dt_cmp op_gt' (de_callB call_len' rfl En.z_len bt_len' (da_cons (dnm 0) da_nil)) (de_callB call_len' rfl En.z_len bt_len' (da_cons (de_callTy call_str' rfl En.z_str bt_str' (da_cons (dnm 2) da_nil)) da_nil)) (nomark _))))) (dss_one (ds_ret de_non)) dss_nil)
    (dss_cons (ds_set (i := 3) sc_number_from.nd rfl (Or.inl rfl) (de_callTy call_intS rfl En.z_int bt_int' (da_cons (dnm 0) da_nil)))
    (dss_one (ds_ret (de_ifExp (dt_chain op_le' op_le' (dnm 1) (dnm 3) (dnm 2)) (dnm 3) de_non)))))
theorem ok_stand_text (En : En K mg ad)  : FnOk P w K mg base (CXG P w) 1 ad.a_stand_text ad.d_stand_text ["stand"] (liftSp K 1 (S_stand_text ad)) := by
  refine fnD (k := 0) (T := T_stand_text ad) En.F_stand_text sc_stand_text fun cdv A outer s H E B EE hr ux => ?_
  have hU := hr.units
  have hu := hu_of hr
  unfold T_stand_text
  exact (dss_one (ds_ret (de_bm (Or.inr (Or.inl rfl)) PySem.F.plainAttrs_str PySem.F.slot_str_join PySem.F.type_str_join mt_join' de_str (da_cons (de_frz (de_op op_add' (de_frz (de_op op_add' (de_frz (de_comp (ls := ["number"]) (fs := []) (js := []) rfl (compOkZ rfl (by decide +kernel) (by decide +kernel)) (di_seq (de_ix (ix_all hu) (dnm 0) de_int (fun _ _ => rfl))) (fun C' s₀ H₀ fp pl' => ⟨(dg_name (i := 0) (show List.Nodup [("number" : Str)] from (by decide +kernel)) rfl (Or.inl rfl)), dts_nil, (de_callTy call_str' rfl En.z_str bt_str' (da_cons (dnm 0) da_nil))⟩))) (de_frz (de_lst (da_cons de_str da_nil))))) (de_frz (de_comp (ls := ["number"]) (fs := []) (js := []) rfl (compOkZ rfl (by decide +kernel) (by decide +kernel)) (di_seq (de_ix (ix_all hu) (dnm 0) de_int (fun _ _ => rfl))) (fun C' s₀ H₀ fp pl' => ⟨(dg_name (i := 0) (show List.Nodup [("number" : Str)] from (by decide +kernel)) rfl (Or.inl rfl)), dts_nil, (de_callTy call_str' rfl En.z_str bt_str' (da_cons (dnm 0) da_nil))⟩))))) da_nil))))
theorem ok_read_stand (En : En K mg ad) (G_number_from : FnOk P w K mg base (CXG P w) 2 ad.a_number_from ad.d_number_from ["text", "least", "most"] (liftSp K 3 (S_number_from ad))) : FnOk P w K mg base (CXG P w) 3 ad.a_read_stand ad.d_read_stand ["plan", "text"] (liftSp K 2 (S_read_stand ad)) := by
  refine fnD (k := 2) (T := T_read_stand ad) En.F_read_stand sc_read_stand fun cdv A outer s H E B EE hr ux => ?_
  have hU := hr.units
  have hu := hu_of hr
  unfold T_read_stand
  exact (dss_cons (ds_set (i := 2) sc_read_stand.nd rfl (Or.inl rfl) (de_frz (de_bm (Or.inr (Or.inl rfl)) PySem.F.plainAttrs_str PySem.F.slot_str_split PySem.F.type_str_split mt_split' (dnm 1) (da_cons de_str da_nil))))
    (dss_cons (ds_set (i := 3) sc_read_stand.nd rfl (Or.inl rfl) (de_callB call_len' rfl En.z_len bt_len' (da_cons (de_ix (ix_all hu) (dnm 0) de_int (fun _ _ => rfl)) da_nil)))
    (dss_cons (ds_if (DW.dt (dw_or (dt_cmp (op_ne' hU) (de_callB call_len' rfl En.z_len bt_len' (da_cons (dnm 2) da_nil)) (de_frz (de_op op_add' (de_op op_add' (dnm 3) de_int) (de_ix (ix_all hu) (dnm 0) de_int (fun _ _ => rfl)))) (nomark _)) (dw_or1 (dt_cmp (op_ne' hU) (de_ix (ix_all hu) (dnm 2) (dnm 3) (fun _ _ => rfl)) de_str (nomark _))))) (dss_one (ds_raise En.x_NoText En.mC_NoText ux rfl)) dss_nil)
    (dss_cons (ds_frz 4 (ds_comp (i := 4) (hsw := sw_comp rfl (show List.lookup ("numbers" : Str) (defScope s_read_stand).names = some .local by decide +kernel) rfl (by decide +kernel)) sc_read_stand.nd rfl (Or.inl rfl) (ls := ["word"]) (fs := ["plan"]) (js := [0]) rfl (compOkF (cs := [s.heap.objs.size + 1]) rfl (by decide +kernel) (by decide +kernel) rfl rfl (memC rfl memZ) (.cons rfl (.inl rfl) (.inl rfl) .nil)) (di_seq (de_frz (de_slice (dnm 2) do_none (do_some (dnm 3))))) (fun C' s₀ H₀ fp pl' => ⟨(dg_name (i := 0) (show List.Nodup [("word" : Str), ("plan" : Str)] from (by decide +kernel)) rfl (Or.inl rfl)), dts_nil, (de_frz (de_call G_number_from (hr.mono (by decide)) rfl En.m_number_from En.k_number_from En.b_number_from pass00 uxN (da_cons (dnm 0) (da_cons de_int (da_cons (de_op op_sub' (de_ix (ix_all hu) (dnm 1) de_int (fun _ _ => rfl)) de_int) da_nil)))))⟩)))
    (dss_cons (ds_frz 5 (ds_comp (i := 5) (hsw := sw_comp rfl (show List.lookup ("pieces" : Str) (defScope s_read_stand).names = some .local by decide +kernel) rfl (by decide +kernel)) sc_read_stand.nd rfl (Or.inl rfl) (ls := ["word"]) (fs := ["plan"]) (js := [0]) rfl (compOkF (cs := [s.heap.objs.size + 1]) rfl (by decide +kernel) (by decide +kernel) rfl rfl (memC rfl memZ) (.cons rfl (.inl rfl) (.inl rfl) .nil)) (di_seq (de_frz (de_slice (dnm 2) (do_some (de_op op_add' (dnm 3) de_int)) do_none))) (fun C' s₀ H₀ fp pl' => ⟨(dg_name (i := 0) (show List.Nodup [("word" : Str), ("plan" : Str)] from (by decide +kernel)) rfl (Or.inl rfl)), dts_nil, (de_frz (de_call G_number_from (hr.mono (by decide)) rfl En.m_number_from En.k_number_from En.b_number_from pass00 uxN (da_cons (dnm 0) (da_cons de_int (da_cons (de_op op_sub' (de_ix (ix_all hu) (dnm 1) de_int (fun _ _ => rfl)) de_int) da_nil)))))⟩)))
    (dss_cons (ds_if (dt_cmp (op_in' hU) de_non (de_frz (de_op op_add' (dnm 4) (dnm 5))) (by rfl)) (dss_one (ds_raise En.x_NoText En.mC_NoText ux rfl)) dss_nil)
    (dss_one (ds_ret (de_tup (da_cons (de_callTy call_tuple' rfl En.z_tuple bt_tuple' (da_cons (dnm 4) da_nil)) (da_cons (de_callTy call_tuple' rfl En.z_tuple bt_tuple' (da_cons (dnm 5) da_nil)) da_nil)))))))))))
theorem ok__law_stirred (En : En K mg ad)  : FnOk P w K mg base (CXG P w) 1 ad.a__law_stirred ad.d__law_stirred ["cell", "turn"] (liftSp K 2 (S__law_stirred ad)) := by
  refine fnD (k := 0) (T := T__law_stirred ad) En.F__law_stirred sc__law_stirred fun cdv A outer s H E B EE hr ux => ?_
  have hU := hr.units
  have hu := hu_of hr
  unfold T__law_stirred
  exact (dss_cons (ds_set (i := 2) sc__law_stirred.nd rfl (Or.inl rfl) (de_op op_mod' (de_op op_add' (de_op op_add' (de_op op_mul' (dnm 0) de_int) (de_op op_mul' (dnm 1) de_int)) de_int) de_int))
    (dss_cons (ds_set (i := 2) sc__law_stirred.nd rfl (Or.inl rfl) (de_op op_mod' (de_op op_mul' (de_op op_xor' (dnm 2) (de_op op_fdiv' (dnm 2) de_int)) de_int) de_int))
    (dss_one (ds_ret (de_op op_fdiv' (dnm 2) de_int)))))
theorem ok__law_pot (En : En K mg ad)  : FnOk P w K mg base (CXG P w) 1 ad.a__law_pot ad.d__law_pot ["script"] (liftSp K 1 (S__law_pot ad)) := by
  refine fnD (k := 0) (T := T__law_pot ad) En.F__law_pot sc__law_pot fun cdv A outer s H E B EE hr ux => ?_
  have hU := hr.units
  have hu := hu_of hr
  unfold T__law_pot
  exact (dss_cons (ds_set (i := 1) sc__law_pot.nd rfl (Or.inl rfl) de_int)
    (dss_cons (ds_for PassesOwn.leaving rfl (di_seq (de_frz (de_slice (dnm 0) do_none (do_some de_int)))) (dg_name (i := 2) sc__law_pot.nd rfl (Or.inl rfl)) (dss_one (ds_set (i := 1) sc__law_pot.nd rfl (Or.inl rfl) (de_op op_mod' (de_op op_add' (de_op op_mul' (dnm 1) de_int) (dnm 2)) de_int))))
    (dss_one (ds_ret (de_lst (da_cons (de_callTy call_list' rfl En.z_list bt_list' (da_cons (de_frz (de_slice (dnm 0) do_none (do_some de_int))) da_nil)) (da_cons de_int (da_cons de_int (da_cons (dnm 1) da_nil)))))))))
theorem ok__law_draw (En : En K mg ad) (G__law_stirred : FnOk P w K mg base (CXG P w) 1 ad.a__law_stirred ad.d__law_stirred ["cell", "turn"] (liftSp K 2 (S__law_stirred ad))) : FnOk P w K mg base (CXG P w) 2 ad.a__law_draw ad.d__law_draw ["pot", "many"] (liftSp K 2 (S__law_draw ad)) := by
  refine fnD (k := 1) (T := T__law_draw ad) En.F__law_draw sc__law_draw fun cdv A outer s H E B EE hr ux => ?_
  have hU := hr.units
  have hu := hu_of hr
  unfold T__law_draw
  exact (dss_cons (ds_asg (de_op op_add' (de_ix (ix_all hu) (dnm 0) de_int (fun _ _ => rfl)) de_int) (dg_sub hu (dnm 0) de_int))
    (dss_cons (ds_if (DW.dt (dw_and (dt_cmp (op_eq' hU) (de_ix (ix_all hu) (dnm 0) de_int (fun _ _ => rfl)) de_int (nomark _)) (dw_and1 (dt_cmp (op_ne' hU) (de_ix (ix_all hu) (dnm 0) de_int (fun _ _ => rfl)) (de_frz (de_lst da_nil)) (nomark _))))) (dss_cons (ds_set (i := 2) sc__law_draw.nd rfl (Or.inl rfl) (de_bm (Or.inl rfl) PySem.F.plainAttrs_list PySem.F.slot_list_pop PySem.F.type_list_pop mt_pop' (de_ix (ix_all hu) (dnm 0) de_int (fun _ _ => rfl)) (da_cons de_int da_nil)))
      (dss_cons (ds_if (dt_cmp op_lt' (dnm 2) (de_op op_pow' de_int de_int) (nomark _)) (dss_one (ds_ret (de_op op_mod' (de_frz (de_call G__law_stirred (hr.mono (by decide)) rfl En.m__law_stirred En.k__law_stirred En.b__law_stirred passG ux (da_cons (dnm 2) (da_cons (de_ix (ix_all hu) (dnm 0) de_int (fun _ _ => rfl)) da_nil)))) (dnm 1)))) dss_nil)
      (dss_one (ds_asg (dnm 2) (dg_sub hu (dnm 0) de_int))))) dss_nil)
    (dss_cons (ds_if (dt_cmp (op_eq' hU) (de_ix (ix_all hu) (dnm 0) de_int (fun _ _ => rfl)) de_int (nomark _)) (dss_one (ds_ret (de_op op_mod' (de_frz (de_call G__law_stirred (hr.mono (by decide)) rfl En.m__law_stirred En.k__law_stirred En.b__law_stirred passG ux (da_cons (de_ix (ix_all hu) (dnm 0) de_int (fun _ _ => rfl)) (da_cons (de_ix (ix_all hu) (dnm 0) de_int (fun _ _ => rfl)) da_nil)))) (dnm 1)))) dss_nil)
    (dss_cons (ds_set (i := 3) sc__law_draw.nd rfl (Or.inl rfl) (de_op op_mod' (de_ix (ix_all hu) (dnm 0) de_int (fun _ _ => rfl)) (dnm 1)))
    (dss_cons (ds_asg (de_op op_fdiv' (de_ix (ix_all hu) (dnm 0) de_int (fun _ _ => rfl)) (dnm 1)) (dg_sub hu (dnm 0) de_int))
    (dss_one (ds_ret (dnm 3))))))))
theorem ok__law_names (En : En K mg ad) (G__law_draw : FnOk P w K mg base (CXG P w) 2 ad.a__law_draw ad.d__law_draw ["pot", "many"] (liftSp K 2 (S__law_draw ad))) : FnOk P w K mg base (CXG P w) 3 ad.a__law_names ad.d__law_names ["pot", "many"] (liftSp K 2 (S__law_names ad)) := by
  refine fnD (k := 2) (T := T__law_names ad) En.F__law_names sc__law_names fun cdv A outer s H E B EE hr ux => ?_
  have hU := hr.units
  have hu := hu_of hr
  unfold T__law_names
  exact (dss_cons (ds_set (i := 2) sc__law_names.nd rfl (Or.inl rfl) (de_frz (de_call G__law_draw (hr.mono (by decide)) rfl En.m__law_draw En.k__law_draw En.b__law_draw passG ux (da_cons (dnm 0) (da_cons de_int da_nil)))))
    (dss_cons (ds_set (i := 3) sc__law_names.nd rfl (Or.inl rfl) (de_lst da_nil))
    (dss_cons (ds_for PassesOwn.leaving rfl (di_range1 rfl En.z_range (da_cons (dnm 1) da_nil)) (dg_name (i := 4) sc__law_names.nd rfl (Or.inl rfl)) (dss_cons (ds_set (i := 5) sc__law_names.nd rfl (Or.inl rfl) (de_ix (ix_all hu) de_str (de_op op_mod' (de_op op_add' (dnm 2) (de_op op_mul' de_int (dnm 4))) de_int) (fun _ _ => rfl)))
      (dss_one (ds_expr (de_bm (Or.inl rfl) PySem.F.plainAttrs_list PySem.F.slot_list_append PySem.F.type_list_append mt_append' (dnm 3) (da_cons (de_op op_mul' (dnm 5) (de_op op_add' de_int (de_frz (de_call G__law_draw (hr.mono (by decide)) rfl En.m__law_draw En.k__law_draw En.b__law_draw passG ux (da_cons (dnm 0) (da_cons de_int da_nil)))))) da_nil))))))
    (dss_one (ds_ret (de_callTy call_tuple' rfl En.z_tuple bt_tuple' (da_cons (dnm 3) da_nil)))))))
theorem ok__law_row (En : En K mg ad) (G__law_draw : FnOk P w K mg base (CXG P w) 2 ad.a__law_draw ad.d__law_draw ["pot", "many"] (liftSp K 2 (S__law_draw ad))) : FnOk P w K mg base (CXG P w) 3 ad.a__law_row ad.d__law_row ["pot", "told"] (liftSp K 2 (S__law_row ad)) := by
  refine fnD (k := 2) (T := T__law_row ad) En.F__law_row sc__law_row fun cdv A outer s H E B EE hr ux => ?_
  have hU := hr.units
  have hu := hu_of hr
  unfold T__law_row
  refine dss_cons ?_ ?_
  · exact (ds_asg (dnm 1) (dg_tup (n := 3) rfl (dgs_cons (dg_name (i := 2) sc__law_row.nd rfl (Or.inl rfl)) (dgs_cons (dg_name (i := 3) sc__law_row.nd rfl (Or.inl rfl)) (dgs_cons (dg_name (i := 4) sc__law_row.nd rfl (Or.inl rfl)) dgs_nil)))))
  refine dss_cons ?_ ?_
  · refine ds_set (i := 5) (hs := ?_) (hf := ?_) ?_ ?_ ?_ ?_
    · exact sc__law_row.nd
    · rfl
    · exact Or.inl rfl
    · refine de_frz ?_
      refine de_lst ?_
      refine da_c ?_ ?_ ?_
      · exact de_str
      · refine da_c ?_ ?_ ?_
        · exact de_str
        · refine da_c ?_ ?_ ?_
          · exact de_str
          · refine da_c ?_ ?_ ?_
            · exact de_str
            · refine da_c ?_ ?_ ?_
              · exact de_str
              · refine da_c ?_ ?_ ?_
                · exact de_str
                · refine da_c ?_ ?_ ?_
                  · exact de_str
                  · refine da_c ?_ ?_ ?_
                    · exact de_str
                    · refine da_c ?_ ?_ ?_
                      · exact de_str
                      · exact da_nil
                      · rfl
                    · rfl
                  · rfl
                · rfl
              · rfl
            · rfl
          · rfl
        · rfl
      · rfl
    · rfl
    · exact .inl rfl
  refine dss_cons ?_ ?_
  · exact (ds_set (i := 6) sc__law_row.nd rfl (Or.inl rfl) (de_ix (ix_all hu) (dnm 5) (de_frz (de_call G__law_draw (hr.mono (by decide)) rfl En.m__law_draw En.k__law_draw En.b__law_draw passG ux (da_cons (dnm 0) (da_cons (de_ifExp (dt_cmp op_gt' (dnm 4) de_int (nomark _)) de_int de_int) da_nil)))) (fun _ _ => rfl)))
  refine dss_cons ?_ ?_
  · exact (ds_set (i := 7) sc__law_row.nd rfl (Or.inl rfl) (de_ix (ix_all hu) (dnm 3) (de_frz (de_call G__law_draw (hr.mono (by decide)) rfl En.m__law_draw En.k__law_draw En.b__law_draw passG ux (da_cons (dnm 0) (da_cons (de_callB call_len' rfl En.z_len bt_len' (da_cons (dnm 3) da_nil)) da_nil)))) (fun _ _ => rfl)))
  refine dss_cons ?_ ?_
  · exact (ds_if (dt_cmp (op_eq' hU) (dnm 6) de_str (nomark _)) (dss_one (ds_ret (de_tup (da_cons (dnm 6) (da_cons (dnm 7) (da_cons (de_call G__law_draw (hr.mono (by decide)) rfl En.m__law_draw En.k__law_draw En.b__law_draw passG ux (da_cons (dnm 0) (da_cons (dnm 2) da_nil))) da_nil)))))) dss_nil)
  refine dss_cons ?_ ?_
  · exact (ds_if (dt_cmp (op_eq' hU) (dnm 6) de_str (nomark _)) (dss_one (ds_ret (de_tup (da_cons (dnm 6) (da_cons (dnm 7) (da_cons (de_call G__law_draw (hr.mono (by decide)) rfl En.m__law_draw En.k__law_draw En.b__law_draw passG ux (da_cons (dnm 0) (da_cons (dnm 4) da_nil))) da_nil)))))) dss_nil)
  refine dss_cons ?_ ?_
  · exact (ds_set (i := 8) sc__law_row.nd rfl (Or.inl rfl) (de_ix (ix_all hu) (dnm 3) (de_frz (de_call G__law_draw (hr.mono (by decide)) rfl En.m__law_draw En.k__law_draw En.b__law_draw passG ux (da_cons (dnm 0) (da_cons (de_callB call_len' rfl En.z_len bt_len' (da_cons (dnm 3) da_nil)) da_nil)))) (fun _ _ => rfl)))
  refine dss_cons ?_ ?_
  · exact (ds_if (dt_cmp (op_eq' hU) (dnm 6) de_str (nomark _)) (dss_one (ds_ret (de_tup (da_cons (dnm 6) (da_cons (dnm 7) (da_cons (dnm 8) da_nil)))))) dss_nil)
  refine dss_one ?_
  exact (ds_ret (de_tup (da_cons (dnm 6) (da_cons (dnm 7) (da_cons (dnm 8) (da_cons (de_ix (ix_all hu) (dnm 3) (de_frz (de_call G__law_draw (hr.mono (by decide)) rfl En.m__law_draw En.k__law_draw En.b__law_draw passG ux (da_cons (dnm 0) (da_cons (de_callB call_len' rfl En.z_len bt_len' (da_cons (dnm 3) da_nil)) da_nil)))) (fun _ _ => rfl)) da_nil))))))
theorem ok1__law_block (En : En K mg ad) (G__law_draw : FnOk P w K mg base (CXG P w) 2 ad.a__law_draw ad.d__law_draw ["pot", "many"] (liftSp K 2 (S__law_draw ad))) (G__law_row : FnOk P w K mg base (CXG P w) 3 ad.a__law_row ad.d__law_row ["pot", "told"] (liftSp K 2 (S__law_row ad))) (n : Nat) (G__law_block : FnOk P w K mg base (CXG P w) (3 + n) ad.a__law_block ad.d__law_block ["pot", "told", "room", "deep"] (liftSp K 4 (S__law_block ad n))) (G__law_rows : FnOk P w K mg base (CXG P w) (3 + n) ad.a__law_rows ad.d__law_rows ["pot", "told", "room", "deep", "most"] (liftSp K 5 (S__law_rows ad n))) : FnOk P w K mg base (CXG P w) (3 + n + 1) ad.a__law_block ad.d__law_block ["pot", "told", "room", "deep"] (liftSp K 4 (S__law_block ad (n + 1))) := by
  refine fnD (k := 3 + n) (T := T__law_block ad (S__law_block ad n) (S__law_rows ad n)) En.F__law_block sc__law_block fun cdv A outer s H E B EE hr ux => ?_
  have hU := hr.units
  have hu := hu_of hr
  unfold T__law_block
  exact (dss_cons (ds_asg (dnm 1) (dg_tup (n := 3) rfl (dgs_cons (dg_name (i := 4) sc__law_block.nd rfl (Or.inl rfl)) (dgs_cons (dg_name (i := 5) sc__law_block.nd rfl (Or.inl rfl)) (dgs_cons (dg_name (i := 6) sc__law_block.nd rfl (Or.inl rfl)) dgs_nil)))))
    (dss_cons (ds_set (i := 7) sc__law_block.nd rfl (Or.inl rfl) (de_ix (ix_all hu) (dnm 5) (de_frz (de_call G__law_draw (hr.mono (by lia)) rfl En.m__law_draw En.k__law_draw En.b__law_draw passG ux (da_cons (dnm 0) (da_cons (de_callB call_len' rfl En.z_len bt_len' (da_cons (dnm 5) da_nil)) da_nil)))) (fun _ _ => rfl)))
    (dss_cons (ds_set (i := 8) sc__law_block.nd rfl (Or.inl rfl) (de_frz (de_call G__law_rows (hr.mono (by lia)) rfl En.m__law_rows En.k__law_rows En.b__law_rows passG ux (da_cons (dnm 0) (da_cons (dnm 1) (da_cons (dnm 2) (da_cons (de_op op_add' (dnm 3) de_int) (da_cons de_int da_nil))))))))
    (dss_cons (ds_set (i := 9) sc__law_block.nd rfl (Or.inl rfl) (de_frz (de_call G__law_draw (hr.mono (by lia)) rfl En.m__law_draw En.k__law_draw En.b__law_draw passG ux (da_cons (dnm 0) (da_cons de_int da_nil)))))
    (dss_cons (ds_if (dt_cmp op_lt' (dnm 9) de_int (nomark _)) (dss_one (ds_ret (de_lst (da_cons (de_tup (da_cons de_str (da_cons (dnm 7) (da_cons (dnm 8) (da_cons (de_call G__law_rows (hr.mono (by lia)) rfl En.m__law_rows En.k__law_rows En.b__law_rows passG ux (da_cons (dnm 0) (da_cons (dnm 1) (da_cons (dnm 2) (da_cons (de_op op_add' (dnm 3) de_int) (da_cons de_int da_nil)))))) da_nil))))) da_nil)))) dss_nil)
    (dss_cons (ds_if (dt_cmp (op_eq' hU) (dnm 9) de_int (nomark _)) (dss_one (ds_ret (de_lst (da_cons (de_tup (da_cons de_str (da_cons (dnm 7) (da_cons (dnm 8) da_nil)))) da_nil)))) dss_nil)
    (dss_cons (ds_set (i := 10) sc__law_block.nd rfl (Or.inl rfl) (de_ix (ix_all hu) (dnm 5) (de_frz (de_call G__law_draw (hr.mono (by lia)) rfl En.m__law_draw En.k__law_draw En.b__law_draw passG ux (da_cons (dnm 0) (da_cons (de_callB call_len' rfl En.z_len bt_len' (da_cons (dnm 5) da_nil)) da_nil)))) (fun _ _ => rfl)))
    (dss_one (ds_ret (de_lst (da_cons (de_tup (da_cons de_str (da_cons (dnm 7) (da_cons (de_call G__law_draw (hr.mono (by lia)) rfl En.m__law_draw En.k__law_draw En.b__law_draw passG ux (da_cons (dnm 0) (da_cons (de_callB (call_min' rfl) rfl En.z_min bt_min' (da_cons (dnm 4) (da_cons de_int da_nil))) da_nil))) da_nil)))) (da_cons (de_tup (da_cons de_str (da_cons (dnm 10) (da_cons (de_op op_sub' (dnm 4) de_int) da_nil)))) (da_cons (de_tup (da_cons de_str (da_cons (dnm 7) (da_cons (de_op op_add' (dnm 8) (de_tup (da_cons (de_tup (da_cons de_str (da_cons (dnm 7) (da_cons (dnm 7) (da_cons (dnm 10) da_nil))))) da_nil))) da_nil)))) da_nil)))))))))))))
theorem ok1__law_rows (En : En K mg ad) (G__law_draw : FnOk P w K mg base (CXG P w) 2 ad.a__law_draw ad.d__law_draw ["pot", "many"] (liftSp K 2 (S__law_draw ad))) (G__law_row : FnOk P w K mg base (CXG P w) 3 ad.a__law_row ad.d__law_row ["pot", "told"] (liftSp K 2 (S__law_row ad))) (n : Nat) (G__law_block : FnOk P w K mg base (CXG P w) (3 + n) ad.a__law_block ad.d__law_block ["pot", "told", "room", "deep"] (liftSp K 4 (S__law_block ad n))) (G__law_rows : FnOk P w K mg base (CXG P w) (3 + n) ad.a__law_rows ad.d__law_rows ["pot", "told", "room", "deep", "most"] (liftSp K 5 (S__law_rows ad n))) : FnOk P w K mg base (CXG P w) (3 + n + 1) ad.a__law_rows ad.d__law_rows ["pot", "told", "room", "deep", "most"] (liftSp K 5 (S__law_rows ad (n + 1))) := by
  refine fnD (k := 3 + n) (T := T__law_rows ad (S__law_block ad n) (S__law_rows ad n)) En.F__law_rows sc__law_rows fun cdv A outer s H E B EE hr ux => ?_
  have hU := hr.units
  have hu := hu_of hr
  unfold T__law_rows
  exact (dss_cons (ds_set (i := 5) sc__law_rows.nd rfl (Or.inl rfl) (de_lst da_nil))
    (dss_cons (ds_for PassesOwn.leaving rfl (di_range1 rfl En.z_range (da_cons (de_frz (de_call G__law_draw (hr.mono (by lia)) rfl En.m__law_draw En.k__law_draw En.b__law_draw passG ux (da_cons (dnm 0) (da_cons (dnm 4) da_nil)))) da_nil)) (dg_name (i := 6) sc__law_rows.nd rfl (Or.inl rfl)) (dss_one (ds_if (DW.dt (dw_and (dt_cmp op_gt' (de_ix (ix_all hu) (dnm 2) de_int (fun _ _ => rfl)) de_int (nomark _)) (dw_and (dt_cmp op_lt' (dnm 3) de_int (nomark _)) (dw_and1 (dt_cmp (op_eq' hU) (de_frz (de_call G__law_draw (hr.mono (by lia)) rfl En.m__law_draw En.k__law_draw En.b__law_draw passG ux (da_cons (dnm 0) (da_cons de_int da_nil)))) de_int (nomark _)))))) (dss_cons (ds_asg (de_op op_sub' (de_ix (ix_all hu) (dnm 2) de_int (fun _ _ => rfl)) de_int) (dg_sub hu (dnm 2) de_int))
        (dss_one (ds_set (i := 5) sc__law_rows.nd rfl (Or.inl rfl) (de_op op_add' (dnm 5) (de_frz (de_call G__law_block (hr.mono (by lia)) rfl En.m__law_block En.k__law_block En.b__law_block passG ux (da_cons (dnm 0) (da_cons (dnm 1) (da_cons (dnm 2) (da_cons (dnm 3) da_nil)))))))))) (dss_one (ds_if (dt_cmp op_gt' (de_ix (ix_all hu) (dnm 2) de_int (fun _ _ => rfl)) de_int (nomark _)) (dss_cons (ds_asg (de_op op_sub' (de_ix (ix_all hu) (dnm 2) de_int (fun _ _ => rfl)) de_int) (dg_sub hu (dnm 2) de_int))
          (dss_one (ds_expr (de_bm (Or.inl rfl) PySem.F.plainAttrs_list PySem.F.slot_list_append PySem.F.type_list_append mt_append' (dnm 5) (da_cons (de_frz (de_call G__law_row (hr.mono (by lia)) rfl En.m__law_row En.k__law_row En.b__law_row passG ux (da_cons (dnm 0) (da_cons (dnm 1) da_nil)))) da_nil))))) dss_nil)))))
    (dss_one (ds_ret (de_callTy call_tuple' rfl En.z_tuple bt_tuple' (da_cons (dnm 5) da_nil))))))
theorem okS__law_block (En : En K mg ad) (G__law_draw : FnOk P w K mg base (CXG P w) 2 ad.a__law_draw ad.d__law_draw ["pot", "many"] (liftSp K 2 (S__law_draw ad))) (G__law_row : FnOk P w K mg base (CXG P w) 3 ad.a__law_row ad.d__law_row ["pot", "told"] (liftSp K 2 (S__law_row ad))) : ∀ n : Nat, FnOk P w K mg base (CXG P w) (3 + n) ad.a__law_block ad.d__law_block ["pot", "told", "room", "deep"] (liftSp K 4 (S__law_block ad n)) ∧ FnOk P w K mg base (CXG P w) (3 + n) ad.a__law_rows ad.d__law_rows ["pot", "told", "room", "deep", "most"] (liftSp K 5 (S__law_rows ad n))
  | 0 => ⟨fnNone, fnNone⟩
  | n + 1 => by
    obtain ⟨G__law_block, G__law_rows⟩ := okS__law_block En G__law_draw G__law_row n
    exact ⟨ok1__law_block En G__law_draw G__law_row n G__law_block G__law_rows, ok1__law_rows En G__law_draw G__law_row n G__law_block G__law_rows⟩
theorem ok__law_plan (En : En K mg ad) (G__law_draw : FnOk P w K mg base (CXG P w) 2 ad.a__law_draw ad.d__law_draw ["pot", "many"] (liftSp K 2 (S__law_draw ad))) (G__law_names : FnOk P w K mg base (CXG P w) 3 ad.a__law_names ad.d__law_names ["pot", "many"] (liftSp K 2 (S__law_names ad))) (G__law_rows : FnOk P w K mg base (CXG P w) 27 ad.a__law_rows ad.d__law_rows ["pot", "told", "room", "deep", "most"] (liftSp K 5 (S__law_rows ad 24))) : FnOk P w K mg base (CXG P w) 28 ad.a__law_plan ad.d__law_plan ["pot", "most"] (liftSp K 2 (S__law_plan ad)) := by
  refine fnD (k := 27) (T := T__law_plan ad) En.F__law_plan sc__law_plan fun cdv A outer s H E B EE hr ux => ?_
  have hU := hr.units
  have hu := hu_of hr
  unfold T__law_plan
  exact (dss_cons (ds_set (i := 2) sc__law_plan.nd rfl (Or.inl rfl) (de_ix (ix_all hu) (de_frz (de_lst (da_cons de_int (da_cons de_int (da_cons (de_op op_add' de_int (de_frz (de_call G__law_draw (hr.mono (by decide)) rfl En.m__law_draw En.k__law_draw En.b__law_draw passG ux (da_cons (dnm 0) (da_cons de_int da_nil))))) (da_cons (de_op op_add' de_int (de_frz (de_call G__law_draw (hr.mono (by decide)) rfl En.m__law_draw En.k__law_draw En.b__law_draw passG ux (da_cons (dnm 0) (da_cons de_int da_nil))))) da_nil)))))) (de_frz (de_call G__law_draw (hr.mono (by decide)) rfl En.m__law_draw En.k__law_draw En.b__law_draw passG ux (da_cons (dnm 0) (da_cons de_int da_nil)))) (fun _ _ => rfl)))
    (dss_cons (ds_set (i := 3) sc__law_plan.nd rfl (Or.inl rfl) (de_frz (de_call G__law_names (hr.mono (by decide)) rfl En.m__law_names En.k__law_names En.b__law_names passG ux (da_cons (dnm 0) (da_cons (de_op op_add' de_int (de_frz (de_call G__law_draw (hr.mono (by decide)) rfl En.m__law_draw En.k__law_draw En.b__law_draw passG ux (da_cons (dnm 0) (da_cons (de_ix (ix_all hu) (de_frz (de_lst (da_cons de_int (da_cons de_int (da_cons de_int da_nil))))) (de_frz (de_call G__law_draw (hr.mono (by decide)) rfl En.m__law_draw En.k__law_draw En.b__law_draw passG ux (da_cons (dnm 0) (da_cons de_int da_nil)))) (fun _ _ => rfl)) da_nil))))) da_nil)))))
    (dss_cons (ds_set (i := 4) sc__law_plan.nd rfl (Or.inl rfl) (de_ix (ix_all hu) (de_frz (de_lst (da_cons de_int (da_cons (de_op op_add' de_int (de_frz (de_call G__law_draw (hr.mono (by decide)) rfl En.m__law_draw En.k__law_draw En.b__law_draw passG ux (da_cons (dnm 0) (da_cons de_int da_nil))))) (da_cons (de_frz (de_call G__law_draw (hr.mono (by decide)) rfl En.m__law_draw En.k__law_draw En.b__law_draw passG ux (da_cons (dnm 0) (da_cons de_int da_nil)))) da_nil))))) (de_frz (de_call G__law_draw (hr.mono (by decide)) rfl En.m__law_draw En.k__law_draw En.b__law_draw passG ux (da_cons (dnm 0) (da_cons de_int da_nil)))) (fun _ _ => rfl)))
    (dss_cons (ds_set (i := 5) sc__law_plan.nd rfl (Or.inl rfl) (de_frz (de_call G__law_rows (hr.mono (by decide)) rfl En.m__law_rows En.k__law_rows En.b__law_rows passG ux (da_cons (dnm 0) (da_cons (de_tup (da_cons (dnm 2) (da_cons (dnm 3) (da_cons (dnm 4) da_nil)))) (da_cons (de_lst (da_cons (dnm 1) da_nil)) (da_cons de_int (da_cons (de_ix (ix_all hu) (de_frz (de_lst (da_cons de_int (da_cons de_int (da_cons de_int da_nil))))) (de_frz (de_call G__law_draw (hr.mono (by decide)) rfl En.m__law_draw En.k__law_draw En.b__law_draw passG ux (da_cons (dnm 0) (da_cons de_int da_nil)))) (fun _ _ => rfl)) da_nil))))))))
    (dss_one (ds_ret (de_tup (da_cons (dnm 2) (da_cons (dnm 3) (da_cons (dnm 4) (da_cons (dnm 5) (da_cons (de_ix (ix_all hu) (dnm 3) (de_frz (de_call G__law_draw (hr.mono (by decide)) rfl En.m__law_draw En.k__law_draw En.b__law_draw passG ux (da_cons (dnm 0) (da_cons (de_callB call_len' rfl En.z_len bt_len' (da_cons (dnm 3) da_nil)) da_nil)))) (fun _ _ => rfl)) da_nil))))))))))))
theorem ok__law_stand (En : En K mg ad) (G__law_draw : FnOk P w K mg base (CXG P w) 2 ad.a__law_draw ad.d__law_draw ["pot", "many"] (liftSp K 2 (S__law_draw ad))) : FnOk P w K mg base (CXG P w) 3 ad.a__law_stand ad.d__law_stand ["pot", "plan"] (liftSp K 2 (S__law_stand ad)) := by
  refine fnD (k := 2) (T := T__law_stand ad) En.F__law_stand sc__law_stand fun cdv A outer s H E B EE hr ux => ?_
  have hU := hr.units
  have hu := hu_of hr
  unfold T__law_stand
  exact (dss_cons (ds_set (i := 2) sc__law_stand.nd rfl (Or.inl rfl) (de_callTy call_tuple' rfl En.z_tuple bt_tuple' (da_cons (de_frz (de_comp (ls := ["name"]) (fs := ["pot", "plan"]) (js := [0, 1]) rfl (compOkF (cs := [s.heap.objs.size + 1, s.heap.objs.size + 2]) rfl (by decide +kernel) (by decide +kernel) rfl rfl (memC rfl (memC rfl memZ)) (.cons rfl (.inl rfl) (.inl rfl) (.cons rfl (.inl rfl) (.inl rfl) .nil))) (di_seq (de_ix (ix_all hu) (dnm 1) de_int (fun _ _ => rfl))) (fun C' s₀ H₀ fp pl' => ⟨(dg_name (i := 0) (show List.Nodup [("name" : Str), ("pot" : Str), ("plan" : Str)] from (by decide +kernel)) rfl (Or.inl rfl)), dts_nil, (de_frz (de_call G__law_draw (hr.mono (by decide)) rfl En.m__law_draw En.k__law_draw En.b__law_draw pass00 uxN (da_cons (dnm 1) (da_cons (de_ix (ix_all hu) (dnm 2) de_int (fun _ _ => rfl)) da_nil))))⟩))) da_nil)))
    (dss_one (ds_ret (de_tup (da_cons (dnm 2) (da_cons (de_callTy call_tuple' rfl En.z_tuple bt_tuple' (da_cons (de_frz (de_comp (ls := ["k"]) (fs := ["pot", "plan"]) (js := [0, 1]) rfl (compOkF (cs := [s.heap.objs.size + 1, s.heap.objs.size + 2]) rfl (by decide +kernel) (by decide +kernel) rfl rfl (memC rfl (memC rfl memZ)) (.cons rfl (.inl rfl) (.inl rfl) (.cons rfl (.inl rfl) (.inl rfl) .nil))) (di_range1 rfl En.z_range (da_cons (de_ix (ix_all hu) (dnm 1) de_int (fun _ _ => rfl)) da_nil)) (fun C' s₀ H₀ fp pl' => ⟨(dg_name (i := 0) (show List.Nodup [("k" : Str), ("pot" : Str), ("plan" : Str)] from (by decide +kernel)) rfl (Or.inl rfl)), dts_nil, (de_frz (de_call G__law_draw (hr.mono (by decide)) rfl En.m__law_draw En.k__law_draw En.b__law_draw pass00 uxN (da_cons (dnm 1) (da_cons (de_ix (ix_all hu) (dnm 2) de_int (fun _ _ => rfl)) da_nil))))⟩))) da_nil)) da_nil))))))
theorem ok__law_name (En : En K mg ad)  : FnOk P w K mg base (CXG P w) 1 ad.a__law_name ad.d__law_name ["flags"] (liftSp K 1 (S__law_name ad)) := by
  refine fnD (k := 0) (T := T__law_name ad) En.F__law_name sc__law_name fun cdv A outer s H E B EE hr ux => ?_
  have hU := hr.units
  have hu := hu_of hr
  unfold T__law_name
  refine dss_cons ?_ ?_
  · refine ds_set (i := 1) (hs := ?_) (hf := ?_) ?_ ?_ ?_ ?_
    · exact sc__law_name.nd
    · rfl
    · exact Or.inl rfl
    · refine de_frz ?_
      refine de_lst ?_
      refine da_c ?_ ?_ ?_
      · exact de_str
      · refine da_c ?_ ?_ ?_
        · exact de_str
        · refine da_c ?_ ?_ ?_
          · exact de_str
          · refine da_c ?_ ?_ ?_
            · exact de_str
            · refine da_c ?_ ?_ ?_
              · exact de_str
              · refine da_c ?_ ?_ ?_
                · exact de_str
                · refine da_c ?_ ?_ ?_
                  · exact de_str
                  · refine da_c ?_ ?_ ?_
                    · exact de_str
                    · refine da_c ?_ ?_ ?_
                      · exact de_str
                      · refine da_c ?_ ?_ ?_
                        · exact de_str
                        · exact da_nil
                        · rfl
                      · rfl
                    · rfl
                  · rfl
                · rfl
              · rfl
            · rfl
          · rfl
        · rfl
      · rfl
    · rfl
    · exact .inl rfl
  refine dss_cons ?_ ?_
  · exact (ds_if (DW.dt (dw_or (dt_cmp (op_ne' hU) (de_callB call_len' rfl En.z_len bt_len' (da_cons (dnm 0) da_nil)) de_int (nomark _)) (dw_or (dt_cmp (op_ne' hU) (de_bm (Or.inl rfl) PySem.F.plainAttrs_list PySem.F.slot_list_count PySem.F.type_list_count mt_count' (de_frz (de_slice (dnm 0) do_none (do_some de_int))) (da_cons de_bl da_nil)) de_int (nomark _)) (dw_or1 (dt_not (dt_tru (de_ix (ix_all hu) (dnm 0) de_int (fun _ _ => rfl)))))))) (dss_one (ds_ret de_str)) dss_nil)
  refine dss_one ?_
  exact (ds_ret (de_ix (ix_all hu) (dnm 1) (de_bm (Or.inl rfl) PySem.F.plainAttrs_list PySem.F.slot_list_index PySem.F.type_list_index mt_indexB (dnm 0) (da_cons de_bl da_nil)) (fun _ _ => rfl)))
theorem ok__law_kinds (En : En K mg ad)  : FnOkN P w K mg base (CXG P w) 1 ad.a__law_kinds ad.d__law_kinds ["e"] (liftSpE K ad.C_NoText (S__law_kinds ad)) := by
  refine fnE (k := 0) (T := T__law_kinds ad) En.F__law_kinds sc__law_kinds rfl fun ea cdv A outer s H E B EE hr ux h0 hB => ?_
  have hU := hr.units
  have hu := hr.units
  unfold T__law_kinds
  exact (dss_cons (ds_set (i := 1) sc__law_kinds.nd rfl (Or.inl rfl) (de_frz (de_lst (da_cons (de_isE h0 hB En.xc_NoText En.kt_NoCase rfl En.z_isinstance bt_isinstance' (da_cons (dnm 0) (da_cons (de_glob (v := .ref ad.C_NoCase) rfl En.mC_NoCase rfl (fun _ => rfl)) da_nil))) (da_cons (de_isE h0 hB En.xc_NoText En.kt_NoPlace rfl En.z_isinstance bt_isinstance' (da_cons (dnm 0) (da_cons (de_glob (v := .ref ad.C_NoPlace) rfl En.mC_NoPlace rfl (fun _ => rfl)) da_nil))) (da_cons (de_isE h0 hB En.xc_NoText En.kt_NoMoment rfl En.z_isinstance bt_isinstance' (da_cons (dnm 0) (da_cons (de_glob (v := .ref ad.C_NoMoment) rfl En.mC_NoMoment rfl (fun _ => rfl)) da_nil))) (da_cons (de_isE h0 hB En.xc_NoText En.kt_NoBuild rfl En.z_isinstance bt_isinstance' (da_cons (dnm 0) (da_cons (de_glob (v := .ref ad.C_NoBuild) rfl En.mC_NoBuild rfl (fun _ => rfl)) da_nil))) da_nil)))))))
    (dss_cons (ds_set (i := 1) sc__law_kinds.nd rfl (Or.inl rfl) (de_frz (de_op op_add' (dnm 1) (de_frz (de_lst (da_cons (de_isE h0 hB En.xc_NoText En.kt_TooMany rfl En.z_isinstance bt_isinstance' (da_cons (dnm 0) (da_cons (de_glob (v := .ref ad.C_TooMany) rfl En.mC_TooMany rfl (fun _ => rfl)) da_nil))) (da_cons (de_isE h0 hB En.xc_NoText En.kt_TooBig rfl En.z_isinstance bt_isinstance' (da_cons (dnm 0) (da_cons (de_glob (v := .ref ad.C_TooBig) rfl En.mC_TooBig rfl (fun _ => rfl)) da_nil))) (da_cons (de_isE h0 hB En.xc_NoText En.kt_Dry rfl En.z_isinstance bt_isinstance' (da_cons (dnm 0) (da_cons (de_glob (v := .ref ad.C_Dry) rfl En.mC_Dry rfl (fun _ => rfl)) da_nil))) (da_cons (de_isE h0 hB En.xc_NoText En.kt_NoText rfl En.z_isinstance bt_isinstance' (da_cons (dnm 0) (da_cons (de_glob (v := .ref ad.C_NoText) rfl En.mC_NoText rfl (fun _ => rfl)) da_nil))) da_nil)))))))))
    (dss_one (ds_ret (de_op op_add' (dnm 1) (de_frz (de_lst (da_cons (de_isE h0 hB En.xc_NoText En.kt_NoLine rfl En.z_isinstance bt_isinstance' (da_cons (dnm 0) (da_cons (de_glob (v := .ref ad.C_NoLine) rfl En.mC_NoLine rfl (fun _ => rfl)) da_nil))) (da_cons (de_isE h0 hB En.xc_NoText En.kt_NoRow rfl En.z_isinstance bt_isinstance' (da_cons (dnm 0) (da_cons (de_glob (v := .ref ad.C_NoRow) rfl En.mC_NoRow rfl (fun _ => rfl)) da_nil))) (da_cons (de_isE h0 hB En.xc_NoText En.kt_ValueError rfl En.z_isinstance bt_isinstance' (da_cons (dnm 0) (da_cons (de_ty rfl En.z_ValueError bt_ValueError') da_nil))) da_nil))))))))))
theorem ok1__law_alike (En : En K mg ad)  (n : Nat) (G__law_alike : FnOk P w K mg base (CXG P w) (0 + n) ad.a__law_alike ad.d__law_alike ["found", "due"] (liftSp K 2 (S__law_alike ad n))) : FnOk P w K mg base (CXG P w) (0 + n + 1) ad.a__law_alike ad.d__law_alike ["found", "due"] (liftSp K 2 (S__law_alike ad (n + 1))) := by
  refine fnD (k := 0 + n) (T := T__law_alike ad (S__law_alike ad n)) En.F__law_alike sc__law_alike fun cdv A outer s H E B EE hr ux => ?_
  have hU := hr.units
  have hu := hu_of hr
  unfold T__law_alike
  exact (dss_cons (ds_if (dt_cmp op_isN' (dnm 1) de_non (nomark _)) (dss_one (ds_ret (de_cmp op_isN' (dnm 0) de_non (nomark _)))) dss_nil)
    (dss_cons (ds_if (dt_tru (de_callB call_isinst' rfl En.z_isinstance bt_isinstance' (da_cons (dnm 1) (da_cons (de_ty rfl En.z_bool bt_bool') da_nil)))) (dss_one (ds_ret (de_and (de_callB call_isinst' rfl En.z_isinstance bt_isinstance' (da_cons (dnm 0) (da_cons (de_ty rfl En.z_bool bt_bool') da_nil))) (de_one (de_cmp (op_eq' hU) (dnm 0) (dnm 1) (nomark _)))))) dss_nil)
    (dss_cons (ds_if (dt_tru (de_callB call_isinst' rfl En.z_isinstance bt_isinstance' (da_cons (dnm 1) (da_cons (de_ty rfl En.z_int bt_int') da_nil)))) (dss_one (ds_ret (de_and (de_callB call_isinst' rfl En.z_isinstance bt_isinstance' (da_cons (dnm 0) (da_cons (de_ty rfl En.z_int bt_int') da_nil))) (de_and (de_not (de_callB call_isinst' rfl En.z_isinstance bt_isinstance' (da_cons (dnm 0) (da_cons (de_ty rfl En.z_bool bt_bool') da_nil)))) (de_one (de_cmp (op_eq' hU) (dnm 0) (dnm 1) (nomark _))))))) dss_nil)
    (dss_cons (ds_if (dt_tru (de_callB call_isinst' rfl En.z_isinstance bt_isinstance' (da_cons (dnm 1) (da_cons (de_ty rfl En.z_str bt_str') da_nil)))) (dss_one (ds_ret (de_and (de_callB call_isinst' rfl En.z_isinstance bt_isinstance' (da_cons (dnm 0) (da_cons (de_ty rfl En.z_str bt_str') da_nil))) (de_one (de_cmp (op_eq' hU) (dnm 0) (dnm 1) (nomark _)))))) dss_nil)
    (dss_cons (ds_if (DW.dt (dw_or (dt_cmp (op_ne' hU) (de_callB call_isinst' rfl En.z_isinstance bt_isinstance' (da_cons (dnm 1) (da_cons (de_ty rfl En.z_tuple bt_tuple') da_nil))) (de_callB call_isinst' rfl En.z_isinstance bt_isinstance' (da_cons (dnm 0) (da_cons (de_ty rfl En.z_tuple bt_tuple') da_nil))) (nomark _)) (dw_or1 (dt_cmp (op_ne' hU) (de_callB call_isinst' rfl En.z_isinstance bt_isinstance' (da_cons (dnm 1) (da_cons (de_ty rfl En.z_list bt_list') da_nil))) (de_callB call_isinst' rfl En.z_isinstance bt_isinstance' (da_cons (dnm 0) (da_cons (de_ty rfl En.z_list bt_list') da_nil))) (nomark _))))) (dss_one (ds_ret de_bl)) dss_nil)
    (dss_cons (ds_if (dt_cmp (op_ne' hU) (de_callB call_len' rfl En.z_len bt_len' (da_cons (dnm 0) da_nil)) (de_callB call_len' rfl En.z_len bt_len' (da_cons (dnm 1) da_nil)) (nomark _)) (dss_one (ds_ret de_bl)) dss_nil)
    (dss_one (ds_ret (de_callB (call_all' rfl) rfl En.z_all bt_all' (da_cons (de_frz (de_comp (ls := ["one", "other"]) (fs := []) (js := []) rfl (compOkZ rfl (by decide +kernel) (by decide +kernel)) (di_zip rfl En.z_zip (da_cons (dnm 0) (da_cons (dnm 1) da_nil))) (fun C' s₀ H₀ fp pl' => ⟨(dg_tup (n := 2) rfl (dgs_cons (dg_name (i := 0) (show List.Nodup [("one" : Str), ("other" : Str)] from (by decide +kernel)) rfl (Or.inl rfl)) (dgs_cons (dg_name (i := 1) (show List.Nodup [("one" : Str), ("other" : Str)] from (by decide +kernel)) rfl (Or.inl rfl)) dgs_nil))), dts_nil, (de_frz (de_call G__law_alike (hr.mono (by lia)) rfl En.m__law_alike En.k__law_alike En.b__law_alike pass00 uxN (da_cons (dnm 0) (da_cons (dnm 1) da_nil))))⟩))) da_nil))))))))))
theorem okS__law_alike (En : En K mg ad)  : ∀ n : Nat, FnOk P w K mg base (CXG P w) (0 + n) ad.a__law_alike ad.d__law_alike ["found", "due"] (liftSp K 2 (S__law_alike ad n))
  | 0 => fnNone
  | n + 1 => ok1__law_alike En  n (okS__law_alike En  n)
theorem ok__law_due (En : En K mg ad)  : FnOk P w K mg base (CXG P w) 1 ad.a__law_due ad.d__law_due ["plan", "text"] (liftSp K 2 (S__law_due ad)) := by
  refine fnD (k := 0) (T := T__law_due ad) En.F__law_due sc__law_due fun cdv A outer s H E B EE hr ux => ?_
  have hU := hr.units
  have hu := hu_of hr
  unfold T__law_due
  exact (dss_cons (ds_set (i := 2) sc__law_due.nd rfl (Or.inl rfl) (de_frz (de_bm (Or.inr (Or.inl rfl)) PySem.F.plainAttrs_str PySem.F.slot_str_split PySem.F.type_str_split mt_split' (dnm 1) (da_cons de_str da_nil))))
    (dss_cons (ds_set (i := 3) sc__law_due.nd rfl (Or.inl rfl) (de_callB call_len' rfl En.z_len bt_len' (da_cons (de_ix (ix_all hu) (dnm 0) de_int (fun _ _ => rfl)) da_nil)))
    (dss_cons (ds_if (DW.dt (dw_or (dt_cmp (op_ne' hU) (de_callB call_len' rfl En.z_len bt_len' (da_cons (dnm 2) da_nil)) (de_frz (de_op op_add' (de_op op_add' (dnm 3) de_int) (de_ix (ix_all hu) (dnm 0) de_int (fun _ _ => rfl)))) (nomark _)) (dw_or1 (dt_cmp (op_ne' hU) (de_ix (ix_all hu) (dnm 2) (dnm 3) (fun _ _ => rfl)) de_str (nomark _))))) (dss_one (ds_ret de_non)) dss_nil)
    (dss_cons (ds_set (i := 4) sc__law_due.nd rfl (Or.inl rfl) (de_lst da_nil))
    (dss_cons (ds_for PassesOwn.leaving rfl (di_seq (de_frz (de_op op_add' (de_frz (de_slice (dnm 2) do_none (do_some (dnm 3)))) (de_frz (de_slice (dnm 2) (do_some (de_op op_add' (dnm 3) de_int)) do_none))))) (dg_name (i := 5) sc__law_due.nd rfl (Or.inl rfl)) (dss_cons (ds_if (DW.dt (dw_or (dt_cmp (op_eq' hU) (dnm 5) de_str (nomark _)) (dw_or1 (dt_cmp (op_ne' hU) (de_frz (de_comp (ls := ["sign"]) (fs := []) (js := []) rfl (compOkZ rfl (by decide +kernel) (by decide +kernel)) (di_str (dnm 5)) (fun C' s₀ H₀ fp pl' => ⟨(dg_name (i := 0) (show List.Nodup [("sign" : Str)] from (by decide +kernel)) rfl (Or.inl rfl)), (dts_one (dt_cmp op_notinS (dnm 0) de_str (by rfl))), (dnm 0)⟩))) (de_frz (de_lst da_nil)) (nomark _))))) (dss_one (ds_ret de_non)) dss_nil)
      (dss_cons (ds_if (DW.dt (dw_or (dt_cmp (op_ne' hU) (dnm 5) (de_callTy call_str' rfl En.z_str bt_str' (da_cons (de_callTy call_intS rfl En.z_int bt_int' (da_cons (dnm 5) da_nil)) da_nil)) (nomark _)) (dw_or1 (dt_cmp op_ge' (de_callTy call_intS rfl En.z_int bt_int' (da_cons (dnm 5) da_nil)) (de_ix (ix_all hu) (dnm 0) de_int (fun _ _ => rfl)) (nomark _))))) (dss_one (ds_ret de_non)) dss_nil)
      (dss_one (ds_expr (de_bm (Or.inl rfl) PySem.F.plainAttrs_list PySem.F.slot_list_append PySem.F.type_list_append mt_append' (dnm 4) (da_cons (de_callTy call_intS rfl En.z_int bt_int' (da_cons (dnm 5) da_nil)) da_nil)))))))
    (dss_one (ds_ret (de_tup (da_cons (de_callTy call_tuple' rfl En.z_tuple bt_tuple' (da_cons (de_frz (de_slice (dnm 4) do_none (do_some (dnm 3)))) da_nil)) (da_cons (de_callTy call_tuple' rfl En.z_tuple bt_tuple' (da_cons (de_frz (de_slice (dnm 4) (do_some (dnm 3)) do_none)) da_nil)) da_nil))))))))))
theorem ok__law_bent (En : En K mg ad) (G__law_draw : FnOk P w K mg base (CXG P w) 2 ad.a__law_draw ad.d__law_draw ["pot", "many"] (liftSp K 2 (S__law_draw ad))) : FnOk P w K mg base (CXG P w) 3 ad.a__law_bent ad.d__law_bent ["pot", "plan", "words"] (liftSp K 3 (S__law_bent ad)) := by
  refine fnD (k := 2) (T := T__law_bent ad) En.F__law_bent sc__law_bent fun cdv A outer s H E B EE hr ux => ?_
  have hU := hr.units
  have hu := hu_of hr
  unfold T__law_bent
  refine dss_cons ?_ ?_
  · exact (ds_set (i := 3) sc__law_bent.nd rfl (Or.inl rfl) (de_frz (de_call G__law_draw (hr.mono (by decide)) rfl En.m__law_draw En.k__law_draw En.b__law_draw passG ux (da_cons (dnm 0) (da_cons (de_callB call_len' rfl En.z_len bt_len' (da_cons (dnm 2) da_nil)) da_nil)))))
  refine dss_cons ?_ ?_
  · exact (ds_set (i := 4) sc__law_bent.nd rfl (Or.inl rfl) (de_frz (de_call G__law_draw (hr.mono (by decide)) rfl En.m__law_draw En.k__law_draw En.b__law_draw passG ux (da_cons (dnm 0) (da_cons (de_callB call_len' rfl En.z_len bt_len' (da_cons (dnm 2) da_nil)) da_nil)))))
  refine dss_cons ?_ ?_
  · exact (ds_set (i := 5) sc__law_bent.nd rfl (Or.inl rfl) (de_frz (de_call G__law_draw (hr.mono (by decide)) rfl En.m__law_draw En.k__law_draw En.b__law_draw passG ux (da_cons (dnm 0) (da_cons de_int da_nil)))))
  refine dss_cons ?_ ?_
  · refine ds_if ?_ ?_ ?_
    · exact (dt_cmp (op_eq' hU) (dnm 5) de_int (nomark _))
    · refine dss_one ?_
      exact (ds_set (i := 2) sc__law_bent.nd rfl (Or.inl rfl) (de_frz (de_op op_add' (de_frz (de_slice (dnm 2) do_none (do_some (dnm 3)))) (de_frz (de_slice (dnm 2) (do_some (de_op op_add' (dnm 3) de_int)) do_none)))))
    · refine dss_one ?_
      refine ds_if ?_ ?_ ?_
      · exact (dt_cmp (op_eq' hU) (dnm 5) de_int (nomark _))
      · refine dss_one ?_
        exact (ds_set (i := 2) sc__law_bent.nd rfl (Or.inl rfl) (de_frz (de_op op_add' (de_frz (de_op op_add' (de_frz (de_slice (dnm 2) do_none (do_some (dnm 3)))) (de_frz (de_lst (da_cons (de_ix (ix_all hu) (dnm 2) (dnm 3) (fun _ _ => rfl)) da_nil))))) (de_frz (de_slice (dnm 2) (do_some (dnm 3)) do_none)))))
      · refine dss_one ?_
        refine ds_if ?_ ?_ ?_
        · exact (dt_cmp (op_eq' hU) (dnm 5) de_int (nomark _))
        · refine dss_cons ?_ ?_
          · exact (ds_set (i := 6) sc__law_bent.nd rfl (Or.inl rfl) (de_ix (ix_all hu) (dnm 2) (dnm 3) (fun _ _ => rfl)))
          refine dss_cons ?_ ?_
          · exact (ds_set (i := 2) sc__law_bent.nd rfl (Or.inl rfl) (de_frz (de_op op_add' (de_frz (de_op op_add' (de_frz (de_slice (dnm 2) do_none (do_some (dnm 3)))) (de_frz (de_lst (da_cons (de_ix (ix_all hu) (dnm 2) (dnm 4) (fun _ _ => rfl)) da_nil))))) (de_frz (de_slice (dnm 2) (do_some (de_op op_add' (dnm 3) de_int)) do_none)))))
          refine dss_one ?_
          exact (ds_set (i := 2) sc__law_bent.nd rfl (Or.inl rfl) (de_frz (de_op op_add' (de_frz (de_op op_add' (de_frz (de_slice (dnm 2) do_none (do_some (dnm 4)))) (de_frz (de_lst (da_cons (dnm 6) da_nil))))) (de_frz (de_slice (dnm 2) (do_some (de_op op_add' (dnm 4) de_int)) do_none)))))
        · refine dss_one ?_
          refine ds_if ?_ ?_ ?_
          · exact (dt_cmp (op_eq' hU) (dnm 5) de_int (nomark _))
          · refine dss_cons ?_ ?_
            · exact (ds_frz 2 (ds_comp (i := 2) (hsw := sw_comp rfl (show List.lookup ("words" : Str) (defScope s__law_bent).names = some .local by decide +kernel) rfl (by decide +kernel)) sc__law_bent.nd rfl (Or.inl rfl) (ls := ["word"]) (fs := []) (js := []) rfl (compOkZ rfl (by decide +kernel) (by decide +kernel)) (di_seq (dnm 2)) (fun C' s₀ H₀ fp pl' => ⟨(dg_name (i := 0) (show List.Nodup [("word" : Str)] from (by decide +kernel)) rfl (Or.inl rfl)), (dts_one (dt_cmp (op_ne' hU) (dnm 0) de_str (nomark _))), (dnm 0)⟩)))
            refine dss_one ?_
            exact (ds_set (i := 2) sc__law_bent.nd rfl (Or.inl rfl) (de_frz (de_op op_add' (de_frz (de_op op_add' (de_frz (de_slice (dnm 2) do_none (do_some (dnm 4)))) (de_frz (de_lst (da_cons de_str da_nil))))) (de_frz (de_slice (dnm 2) (do_some (dnm 4)) do_none)))))
          · refine dss_one ?_
            refine ds_if ?_ ?_ ?_
            · exact (dt_cmp (op_eq' hU) (dnm 5) de_int (nomark _))
            · refine dss_one ?_
              exact (ds_set (i := 2) sc__law_bent.nd rfl (Or.inl rfl) (de_frz (de_op op_add' (de_frz (de_op op_add' (de_frz (de_slice (dnm 2) do_none (do_some (dnm 3)))) (de_frz (de_lst (da_cons de_str da_nil))))) (de_frz (de_slice (dnm 2) (do_some (dnm 3)) do_none)))))
            · refine dss_cons ?_ ?_
              · refine ds_set (i := 7) (hs := ?_) (hf := ?_) ?_ ?_ ?_ ?_
                · exact sc__law_bent.nd
                · rfl
                · exact Or.inl rfl
                · refine de_frz ?_
                  refine de_lst ?_
                  refine da_c ?_ ?_ ?_
                  · exact (de_callTy call_str' rfl En.z_str bt_str' (da_cons (de_ix (ix_all hu) (dnm 1) de_int (fun _ _ => rfl)) da_nil))
                  · refine da_c ?_ ?_ ?_
                    · exact (de_op op_add' de_str (de_ix (ix_all hu) (dnm 2) (dnm 3) (fun _ _ => rfl)))
                    · refine da_c ?_ ?_ ?_
                      · exact (de_op op_add' de_str (de_ix (ix_all hu) (dnm 2) (dnm 3) (fun _ _ => rfl)))
                      · refine da_c ?_ ?_ ?_
                        · exact (de_op op_add' (de_ix (ix_all hu) (dnm 2) (dnm 3) (fun _ _ => rfl)) de_str)
                        · refine da_c ?_ ?_ ?_
                          · exact de_str
                          · refine da_c ?_ ?_ ?_
                            · exact de_str
                            · refine da_c ?_ ?_ ?_
                              · exact de_str
                              · refine da_c ?_ ?_ ?_
                                · exact (de_callTy call_str' rfl En.z_str bt_str' (da_cons (de_op op_sub' (de_ix (ix_all hu) (dnm 1) de_int (fun _ _ => rfl)) de_int) da_nil))
                                · refine da_c ?_ ?_ ?_
                                  · exact de_str
                                  · exact da_nil
                                  · rfl
                                · rfl
                              · rfl
                            · rfl
                          · rfl
                        · rfl
                      · rfl
                    · rfl
                  · rfl
                · rfl
                · exact .inl rfl
              refine dss_one ?_
              exact (ds_set (i := 2) sc__law_bent.nd rfl (Or.inl rfl) (de_frz (de_op op_add' (de_frz (de_op op_add' (de_frz (de_slice (dnm 2) do_none (do_some (dnm 3)))) (de_frz (de_lst (da_cons (de_ix (ix_all hu) (dnm 7) (de_frz (de_call G__law_draw (hr.mono (by decide)) rfl En.m__law_draw En.k__law_draw En.b__law_draw passG ux (da_cons (dnm 0) (da_cons de_int da_nil)))) (fun _ _ => rfl)) da_nil))))) (de_frz (de_slice (dnm 2) (do_some (de_op op_add' (dnm 3) de_int)) do_none)))))
  refine dss_one ?_
  exact (ds_ret (de_bm (Or.inr (Or.inl rfl)) PySem.F.plainAttrs_str PySem.F.slot_str_join PySem.F.type_str_join mt_join' de_str (da_cons (dnm 2) da_nil)))
theorem ok_law (En : En K mg ad) (G__law_alike : FnOk P w K mg base (CXG P w) 24 ad.a__law_alike ad.d__law_alike ["found", "due"] (liftSp K 2 (S__law_alike ad 24))) (G__law_bent : FnOk P w K mg base (CXG P w) 3 ad.a__law_bent ad.d__law_bent ["pot", "plan", "words"] (liftSp K 3 (S__law_bent ad))) (G__law_due : FnOk P w K mg base (CXG P w) 1 ad.a__law_due ad.d__law_due ["plan", "text"] (liftSp K 2 (S__law_due ad))) (G__law_kinds : FnOkN P w K mg base (CXG P w) 1 ad.a__law_kinds ad.d__law_kinds ["e"] (liftSpE K ad.C_NoText (S__law_kinds ad))) (G__law_name : FnOk P w K mg base (CXG P w) 1 ad.a__law_name ad.d__law_name ["flags"] (liftSp K 1 (S__law_name ad))) (G__law_plan : FnOk P w K mg base (CXG P w) 28 ad.a__law_plan ad.d__law_plan ["pot", "most"] (liftSp K 2 (S__law_plan ad))) (G__law_pot : FnOk P w K mg base (CXG P w) 1 ad.a__law_pot ad.d__law_pot ["script"] (liftSp K 1 (S__law_pot ad))) (G__law_stand : FnOk P w K mg base (CXG P w) 3 ad.a__law_stand ad.d__law_stand ["pot", "plan"] (liftSp K 2 (S__law_stand ad))) (G_read_stand : FnOk P w K mg base (CXG P w) 3 ad.a_read_stand ad.d_read_stand ["plan", "text"] (liftSp K 2 (S_read_stand ad))) (G_stand_text : FnOk P w K mg base (CXG P w) 1 ad.a_stand_text ad.d_stand_text ["stand"] (liftSp K 1 (S_stand_text ad))) : FnOk P w K mg base (CXG P w) 29 ad.a_law ad.d_law ["script"] (liftSp K 1 (S_law ad)) := by
  refine fnD (k := 28) (T := T_law ad) En.F_law sc_law fun cdv A outer s H E B EE hr ux => ?_
  have hU := hr.units
  have hu := hu_of hr
  unfold T_law
  exact (dss_cons (ds_set (i := 1) sc_law.nd rfl (Or.inl rfl) (de_call G__law_pot (hr.mono (by decide)) rfl En.m__law_pot En.k__law_pot En.b__law_pot passG ux (da_cons (dnm 0) da_nil)))
    (dss_cons (ds_set (i := 2) sc_law.nd rfl (Or.inl rfl) (de_frz (de_call G__law_plan (hr.mono (by decide)) rfl En.m__law_plan En.k__law_plan En.b__law_plan passG ux (da_cons (dnm 1) (da_cons de_int da_nil)))))
    (dss_cons (ds_set (i := 3) sc_law.nd rfl (Or.inl rfl) (de_frz (de_call G__law_stand (hr.mono (by decide)) rfl En.m__law_stand En.k__law_stand En.b__law_stand passG ux (da_cons (dnm 1) (da_cons (dnm 2) da_nil)))))
    (dss_cons (ds_set (i := 4) sc_law.nd rfl (Or.inl rfl) (de_frz (de_op op_add' (de_frz (de_op op_add' (de_frz (de_comp (ls := ["number"]) (fs := []) (js := []) rfl (compOkZ rfl (by decide +kernel) (by decide +kernel)) (di_seq (de_ix (ix_all hu) (dnm 3) de_int (fun _ _ => rfl))) (fun C' s₀ H₀ fp pl' => ⟨(dg_name (i := 0) (show List.Nodup [("number" : Str)] from (by decide +kernel)) rfl (Or.inl rfl)), dts_nil, (de_callTy call_str' rfl En.z_str bt_str' (da_cons (dnm 0) da_nil))⟩))) (de_frz (de_lst (da_cons de_str da_nil))))) (de_frz (de_comp (ls := ["number"]) (fs := []) (js := []) rfl (compOkZ rfl (by decide +kernel) (by decide +kernel)) (di_seq (de_ix (ix_all hu) (dnm 3) de_int (fun _ _ => rfl))) (fun C' s₀ H₀ fp pl' => ⟨(dg_name (i := 0) (show List.Nodup [("number" : Str)] from (by decide +kernel)) rfl (Or.inl rfl)), dts_nil, (de_callTy call_str' rfl En.z_str bt_str' (da_cons (dnm 0) da_nil))⟩))))))
    (dss_cons (ds_set (i := 5) sc_law.nd rfl (Or.inl rfl) (de_bm (Or.inr (Or.inl rfl)) PySem.F.plainAttrs_str PySem.F.slot_str_join PySem.F.type_str_join mt_join' de_str (da_cons (dnm 4) da_nil)))
    (dss_cons (ds_if (DW.dt (dw_or (dt_not (dt_tru (de_frz (de_call G__law_alike (hr.mono (by decide)) rfl En.m__law_alike En.k__law_alike En.b__law_alike passG ux (da_cons (de_frz (de_call G_stand_text (hr.mono (by decide)) rfl En.m_stand_text En.k_stand_text En.b_stand_text passG ux (da_cons (dnm 3) da_nil))) (da_cons (dnm 5) da_nil)))))) (dw_or1 (dt_not (dt_tru (de_frz (de_call G__law_alike (hr.mono (by decide)) rfl En.m__law_alike En.k__law_alike En.b__law_alike passG ux (da_cons (de_frz (de_call G_read_stand (hr.mono (by decide)) rfl En.m_read_stand En.k_read_stand En.b_read_stand passG ux (da_cons (dnm 2) (da_cons (dnm 5) da_nil)))) (da_cons (dnm 3) da_nil))))))))) (dss_one (ds_ret de_bl)) dss_nil)
    (dss_cons (ds_for PassesOwn.leaving rfl (di_range1 rfl En.z_range (da_cons de_int da_nil)) (dg_name (i := 6) sc_law.nd rfl (Or.inl rfl)) (dss_cons (ds_set (i := 7) sc_law.nd rfl (Or.inl rfl) (de_frz (de_call G__law_bent (hr.mono (by decide)) rfl En.m__law_bent En.k__law_bent En.b__law_bent passG ux (da_cons (dnm 1) (da_cons (dnm 2) (da_cons (dnm 4) da_nil))))))
      (dss_cons (ds_set (i := 8) sc_law.nd rfl (Or.inl rfl) (de_frz (de_call G__law_due (hr.mono (by decide)) rfl En.m__law_due En.k__law_due En.b__law_due passG ux (da_cons (dnm 2) (da_cons (dnm 7) da_nil)))))
      (dss_cons (ds_set (i := 9) sc_law.nd rfl (Or.inl rfl) de_non)
      (dss_cons (ds_set (i := 10) sc_law.nd rfl (Or.inl rfl) (de_frz (de_lst da_nil)))
      (dss_cons (ds_tryAs (C := ad.C_NoText) rfl rfl rfl G_read_stand (hr.mono (by decide)) rfl En.m_read_stand En.k_read_stand En.b_read_stand (da_cons (dnm 2) (da_cons (dnm 7) da_nil)) En.xs_StrideError rfl En.mC_StrideError G__law_kinds (hr.mono (by decide)) rfl En.m__law_kinds En.k__law_kinds En.b__law_kinds sc_law.nd rfl (Or.inl rfl) rfl rfl rfl (Or.inl rfl))
      (dss_cons (ds_if (DW.dt (dw_and (dt_cmp op_isN' (dnm 8) de_non (nomark _)) (dw_and1 (DW.dt (dw_or (dt_cmp op_notN' (dnm 9) de_non (nomark _)) (dw_or1 (dt_cmp (op_ne' hU) (de_frz (de_call G__law_name (hr.mono (by decide)) rfl En.m__law_name En.k__law_name En.b__law_name passG ux (da_cons (dnm 10) da_nil))) de_str (nomark _)))))))) (dss_one (ds_ret de_bl)) dss_nil)
      (dss_one (ds_if (DW.dt (dw_and (dt_cmp op_notN' (dnm 8) de_non (nomark _)) (dw_and1 (DW.dt (dw_or (dt_cmp (op_ne' hU) (dnm 10) (de_frz (de_lst da_nil)) (nomark _)) (dw_or1 (dt_not (dt_tru (de_frz (de_call G__law_alike (hr.mono (by decide)) rfl En.m__law_alike En.k__law_alike En.b__law_alike passG ux (da_cons (dnm 9) (da_cons (dnm 8) da_nil)))))))))))) (dss_one (ds_ret de_bl)) dss_nil)))))))))
    (dss_one (ds_ret de_bl)))))))))
theorem ok_all (En : En K mg ad) : FnOk P w K mg base (CXG P w) 29 ad.a_law ad.d_law ["script"] (liftSp K 1 (S_law ad)) := by
  have G_are_figures := ok_are_figures (P := P) (w := w) (base := base) En 
  have G_number_from := ok_number_from (P := P) (w := w) (base := base) En G_are_figures
  have G_stand_text := ok_stand_text (P := P) (w := w) (base := base) En 
  have G_read_stand := ok_read_stand (P := P) (w := w) (base := base) En G_number_from
  have G__law_stirred := ok__law_stirred (P := P) (w := w) (base := base) En 
  have G__law_pot := ok__law_pot (P := P) (w := w) (base := base) En 
  have G__law_draw := ok__law_draw (P := P) (w := w) (base := base) En G__law_stirred
  have G__law_names := ok__law_names (P := P) (w := w) (base := base) En G__law_draw
  have G__law_row := ok__law_row (P := P) (w := w) (base := base) En G__law_draw
  obtain ⟨G__law_block, G__law_rows⟩ := okS__law_block (P := P) (w := w) (base := base) En G__law_draw G__law_row 24
  have G__law_plan := ok__law_plan (P := P) (w := w) (base := base) En G__law_draw G__law_names G__law_rows
  have G__law_stand := ok__law_stand (P := P) (w := w) (base := base) En G__law_draw
  have G__law_name := ok__law_name (P := P) (w := w) (base := base) En 
  have G__law_kinds := ok__law_kinds (P := P) (w := w) (base := base) En 
  have G__law_alike := okS__law_alike (P := P) (w := w) (base := base) En  24
  have G__law_due := ok__law_due (P := P) (w := w) (base := base) En 
  have G__law_bent := ok__law_bent (P := P) (w := w) (base := base) En G__law_draw
  have G_law := ok_law (P := P) (w := w) (base := base) En G__law_alike G__law_bent G__law_due G__law_kinds G__law_name G__law_plan G__law_pot G__law_stand G_read_stand G_stand_text
  exact G_law
end
end Tw

namespace L3
open PySem L2
theorem calls_ro {T : Sd} {EE : DX} {ds : List D} {M : Mem} {Q : DK} {b : BxQ EE Q} {d : D} (hm : ∀ Q' E', Q' d M → T ds M Q' E') (h : Q d M) : calls T EE ds M Q b :=
  calls_of fun Q' E' hq _ => hm Q' E' (hq d M h)
theorem atI_nn {α : Type} {xs : List α} {i : Int} (h : 0 ≤ i) : atI xs i = xs[i.toNat]? := by
  unfold atI ixN
  rw [if_pos h]
  by_cases hi : i < xs.length
  · rw [if_pos hi]; rfl
  · rw [if_neg hi, List.getElem?_eq_none (by lia)]; rfl
@[simp] theorem atI_0 {α : Type} {xs : List α} : atI xs 0 = xs[0]? := atI_nn (by decide)
@[simp] theorem atI_1 {α : Type} {xs : List α} : atI xs 1 = xs[1]? := atI_nn (by decide)
@[simp] theorem atI_2 {α : Type} {xs : List α} : atI xs 2 = xs[2]? := atI_nn (by decide)
@[simp] theorem atI_3 {α : Type} {xs : List α} : atI xs 3 = xs[3]? := atI_nn (by decide)
@[simp] theorem atI_4 {α : Type} {xs : List α} : atI xs 4 = xs[4]? := atI_nn (by decide)
theorem forD_inv {g : dTG} {tb : dTS} {DD : DEnds} {ok : Mem → Prop} {b : BxF g tb DD ok} (I : List D → Dl → Mem → Prop) (hok : ∀ xs δ M, I xs δ M → ok M) (h0 : ∀ δ M, I [] δ M → DD.nx δ M)
    (hs : ∀ x xs δ M, I (x :: xs) δ M → ∀ D' : DEnds, (∀ δ' M', I xs δ' M' → D'.nx δ' M') → (∀ δ' M', I xs δ' M' → D'.ct δ' M') → D'.rt = DD.rt → D'.bk = DD.nx → g x δ M fun δ2 M2 => tb D' δ2 M2) : ∀ xs δ M, I xs δ M → forD g tb DD ok b xs δ M
  | [], δ, M, h => ⟨hok _ _ _ h, h0 δ M h⟩
  | x :: xs, δ, M, h => ⟨hok _ _ _ h, hs x xs δ M h _ (fun δ' M' h' => forD_inv I hok h0 hs xs δ' M' h') (fun δ' M' h' => forD_inv I hok h0 hs xs δ' M' h') rfl rfl⟩
theorem compD_inv {g : dTG} {tt : dTT} {te : dTE} {ok : Mem → Prop} {Q : List D → Mem → Prop} {b : BxC g tt te ok Q} (I : List D → List D → Dl → Mem → Prop) (hok : ∀ xs acc δ M, I xs acc δ M → ok M) (h0 : ∀ acc δ M, I [] acc δ M → Q acc M)
    (hs : ∀ x xs acc δ M, I (x :: xs) acc δ M → ∀ N : Bool → D → Dl → Mem → Prop, (∀ y δ' M', acc.length < sizeLine → I xs (acc ++ [y]) δ' M' → N true y δ' M') → (∀ y δ' M', I xs acc δ' M' → N false y δ' M') → g x δ M fun δ2 M2 => tt δ2 M2 fun c M3 => if c = true then te δ2 M3 fun y M4 => N true y δ2 M4 else N false .non δ2 M3)
    (hl : ∀ x xs acc δ M, I (x :: xs) acc δ M → acc.length < sizeLine) : ∀ xs acc δ M, I xs acc δ M → compD g tt te ok Q b xs acc δ M
  | [], acc, δ, M, h => ⟨hok _ _ _ _ h, h0 acc δ M h⟩
  | x :: xs, acc, δ, M, h => ⟨hok _ _ _ _ h, hs x xs acc δ M h (fun k y δ' M' => if k = true then acc.length < sizeLine ∧ compD g tt te ok Q b xs (acc ++ [y]) δ' M' else compD g tt te ok Q b xs acc δ' M')
      (fun y δ' M' hlen h' => by rw [if_pos rfl]; exact ⟨hlen, compD_inv I hok h0 hs hl xs _ δ' M' h'⟩) (fun y δ' M' h' => by rw [if_neg (by simp)]; exact compD_inv I hok h0 hs hl xs _ δ' M' h') |> fun z => by simpa using z⟩
theorem szl {n : Nat} (h : n ≤ 1000000) : n ≤ sizeLine := Nat.le_trans h (by decide)
theorem szs {n : Nat} (h : n < 1000000) : n < sizeLine := Nat.lt_of_lt_of_le h (by decide)
end L3
namespace Tw
open PySem L2 L3
inductive Rw where
  | put (x : Str) (k : Int) | take (x : Str) (i : Int) | pick (x y : Str) | two (w x y z : Str) | ifr (x : Str) (a b : List Rw) | again (x : Str) (a : List Rw)
mutual
noncomputable def Rw.d : Rw → D
  | .put x k => .tup [.str "put", .str x, .int k]
  | .take x i => .tup [.str "take", .str x, .int i]
  | .pick x y => .tup [.str "pick", .str x, .str y]
  | .two w x y z => .tup [.str w, .str x, .str y, .str z]
  | .ifr x a b => .tup [.str "if", .str x, .tup (rowsD a), .tup (rowsD b)]
  | .again x a => .tup [.str "again", .str x, .tup (rowsD a)]
noncomputable def rowsD : List Rw → List D
  | [] => []
  | r :: rs => r.d :: rowsD rs
end
structure Cf where
  m : Int
  pieces : List Int
  most : Nat
theorem sne_put_take : ((Str.ofString "put" : Str) = Str.ofString "take") = False := eq_false (by decide +kernel)
theorem sne_put_pick : ((Str.ofString "put" : Str) = Str.ofString "pick") = False := eq_false (by decide +kernel)
theorem sne_put_sum : ((Str.ofString "put" : Str) = Str.ofString "sum") = False := eq_false (by decide +kernel)
theorem sne_put_by : ((Str.ofString "put" : Str) = Str.ofString "by") = False := eq_false (by decide +kernel)
theorem sne_put_less : ((Str.ofString "put" : Str) = Str.ofString "less") = False := eq_false (by decide +kernel)
theorem sne_put_same : ((Str.ofString "put" : Str) = Str.ofString "same") = False := eq_false (by decide +kernel)
theorem sne_put_if : ((Str.ofString "put" : Str) = Str.ofString "if") = False := eq_false (by decide +kernel)
theorem sne_put_again : ((Str.ofString "put" : Str) = Str.ofString "again") = False := eq_false (by decide +kernel)
theorem sne_take_put : ((Str.ofString "take" : Str) = Str.ofString "put") = False := eq_false (by decide +kernel)
theorem sne_take_pick : ((Str.ofString "take" : Str) = Str.ofString "pick") = False := eq_false (by decide +kernel)
theorem sne_take_sum : ((Str.ofString "take" : Str) = Str.ofString "sum") = False := eq_false (by decide +kernel)
theorem sne_take_by : ((Str.ofString "take" : Str) = Str.ofString "by") = False := eq_false (by decide +kernel)
theorem sne_take_less : ((Str.ofString "take" : Str) = Str.ofString "less") = False := eq_false (by decide +kernel)
theorem sne_take_same : ((Str.ofString "take" : Str) = Str.ofString "same") = False := eq_false (by decide +kernel)
theorem sne_take_if : ((Str.ofString "take" : Str) = Str.ofString "if") = False := eq_false (by decide +kernel)
theorem sne_take_again : ((Str.ofString "take" : Str) = Str.ofString "again") = False := eq_false (by decide +kernel)
theorem sne_pick_put : ((Str.ofString "pick" : Str) = Str.ofString "put") = False := eq_false (by decide +kernel)
theorem sne_pick_take : ((Str.ofString "pick" : Str) = Str.ofString "take") = False := eq_false (by decide +kernel)
theorem sne_pick_sum : ((Str.ofString "pick" : Str) = Str.ofString "sum") = False := eq_false (by decide +kernel)
theorem sne_pick_by : ((Str.ofString "pick" : Str) = Str.ofString "by") = False := eq_false (by decide +kernel)
theorem sne_pick_less : ((Str.ofString "pick" : Str) = Str.ofString "less") = False := eq_false (by decide +kernel)
theorem sne_pick_same : ((Str.ofString "pick" : Str) = Str.ofString "same") = False := eq_false (by decide +kernel)
theorem sne_pick_if : ((Str.ofString "pick" : Str) = Str.ofString "if") = False := eq_false (by decide +kernel)
theorem sne_pick_again : ((Str.ofString "pick" : Str) = Str.ofString "again") = False := eq_false (by decide +kernel)
theorem sne_sum_put : ((Str.ofString "sum" : Str) = Str.ofString "put") = False := eq_false (by decide +kernel)
theorem sne_sum_take : ((Str.ofString "sum" : Str) = Str.ofString "take") = False := eq_false (by decide +kernel)
theorem sne_sum_pick : ((Str.ofString "sum" : Str) = Str.ofString "pick") = False := eq_false (by decide +kernel)
theorem sne_sum_by : ((Str.ofString "sum" : Str) = Str.ofString "by") = False := eq_false (by decide +kernel)
theorem sne_sum_less : ((Str.ofString "sum" : Str) = Str.ofString "less") = False := eq_false (by decide +kernel)
theorem sne_sum_same : ((Str.ofString "sum" : Str) = Str.ofString "same") = False := eq_false (by decide +kernel)
theorem sne_sum_if : ((Str.ofString "sum" : Str) = Str.ofString "if") = False := eq_false (by decide +kernel)
theorem sne_sum_again : ((Str.ofString "sum" : Str) = Str.ofString "again") = False := eq_false (by decide +kernel)
theorem sne_by_put : ((Str.ofString "by" : Str) = Str.ofString "put") = False := eq_false (by decide +kernel)
theorem sne_by_take : ((Str.ofString "by" : Str) = Str.ofString "take") = False := eq_false (by decide +kernel)
theorem sne_by_pick : ((Str.ofString "by" : Str) = Str.ofString "pick") = False := eq_false (by decide +kernel)
theorem sne_by_sum : ((Str.ofString "by" : Str) = Str.ofString "sum") = False := eq_false (by decide +kernel)
theorem sne_by_less : ((Str.ofString "by" : Str) = Str.ofString "less") = False := eq_false (by decide +kernel)
theorem sne_by_same : ((Str.ofString "by" : Str) = Str.ofString "same") = False := eq_false (by decide +kernel)
theorem sne_by_if : ((Str.ofString "by" : Str) = Str.ofString "if") = False := eq_false (by decide +kernel)
theorem sne_by_again : ((Str.ofString "by" : Str) = Str.ofString "again") = False := eq_false (by decide +kernel)
theorem sne_less_put : ((Str.ofString "less" : Str) = Str.ofString "put") = False := eq_false (by decide +kernel)
theorem sne_less_take : ((Str.ofString "less" : Str) = Str.ofString "take") = False := eq_false (by decide +kernel)
theorem sne_less_pick : ((Str.ofString "less" : Str) = Str.ofString "pick") = False := eq_false (by decide +kernel)
theorem sne_less_sum : ((Str.ofString "less" : Str) = Str.ofString "sum") = False := eq_false (by decide +kernel)
theorem sne_less_by : ((Str.ofString "less" : Str) = Str.ofString "by") = False := eq_false (by decide +kernel)
theorem sne_less_same : ((Str.ofString "less" : Str) = Str.ofString "same") = False := eq_false (by decide +kernel)
theorem sne_less_if : ((Str.ofString "less" : Str) = Str.ofString "if") = False := eq_false (by decide +kernel)
theorem sne_less_again : ((Str.ofString "less" : Str) = Str.ofString "again") = False := eq_false (by decide +kernel)
theorem sne_same_put : ((Str.ofString "same" : Str) = Str.ofString "put") = False := eq_false (by decide +kernel)
theorem sne_same_take : ((Str.ofString "same" : Str) = Str.ofString "take") = False := eq_false (by decide +kernel)
theorem sne_same_pick : ((Str.ofString "same" : Str) = Str.ofString "pick") = False := eq_false (by decide +kernel)
theorem sne_same_sum : ((Str.ofString "same" : Str) = Str.ofString "sum") = False := eq_false (by decide +kernel)
theorem sne_same_by : ((Str.ofString "same" : Str) = Str.ofString "by") = False := eq_false (by decide +kernel)
theorem sne_same_less : ((Str.ofString "same" : Str) = Str.ofString "less") = False := eq_false (by decide +kernel)
theorem sne_same_if : ((Str.ofString "same" : Str) = Str.ofString "if") = False := eq_false (by decide +kernel)
theorem sne_same_again : ((Str.ofString "same" : Str) = Str.ofString "again") = False := eq_false (by decide +kernel)
theorem sne_if_put : ((Str.ofString "if" : Str) = Str.ofString "put") = False := eq_false (by decide +kernel)
theorem sne_if_take : ((Str.ofString "if" : Str) = Str.ofString "take") = False := eq_false (by decide +kernel)
theorem sne_if_pick : ((Str.ofString "if" : Str) = Str.ofString "pick") = False := eq_false (by decide +kernel)
theorem sne_if_sum : ((Str.ofString "if" : Str) = Str.ofString "sum") = False := eq_false (by decide +kernel)
theorem sne_if_by : ((Str.ofString "if" : Str) = Str.ofString "by") = False := eq_false (by decide +kernel)
theorem sne_if_less : ((Str.ofString "if" : Str) = Str.ofString "less") = False := eq_false (by decide +kernel)
theorem sne_if_same : ((Str.ofString "if" : Str) = Str.ofString "same") = False := eq_false (by decide +kernel)
theorem sne_if_again : ((Str.ofString "if" : Str) = Str.ofString "again") = False := eq_false (by decide +kernel)
theorem sne_again_put : ((Str.ofString "again" : Str) = Str.ofString "put") = False := eq_false (by decide +kernel)
theorem sne_again_take : ((Str.ofString "again" : Str) = Str.ofString "take") = False := eq_false (by decide +kernel)
theorem sne_again_pick : ((Str.ofString "again" : Str) = Str.ofString "pick") = False := eq_false (by decide +kernel)
theorem sne_again_sum : ((Str.ofString "again" : Str) = Str.ofString "sum") = False := eq_false (by decide +kernel)
theorem sne_again_by : ((Str.ofString "again" : Str) = Str.ofString "by") = False := eq_false (by decide +kernel)
theorem sne_again_less : ((Str.ofString "again" : Str) = Str.ofString "less") = False := eq_false (by decide +kernel)
theorem sne_again_same : ((Str.ofString "again" : Str) = Str.ofString "same") = False := eq_false (by decide +kernel)
theorem sne_again_if : ((Str.ofString "again" : Str) = Str.ofString "if") = False := eq_false (by decide +kernel)
end Tw

namespace L3
open PySem L2
theorem ok_nil {xs : List D} {M : Mem} : DIt.ok ⟨xs, []⟩ M := fun _ h => by cases h
end L3
namespace Tw
open PySem L2 L3
noncomputable def RwOk (names : List Str) (m many : Int) : Rw → Prop
  | .put x k => x ∈ names ∧ 0 ≤ k ∧ k < m
  | .take x i => x ∈ names ∧ 0 ≤ i ∧ i < many
  | .pick x y => x ∈ names ∧ y ∈ names ∧ 0 < many
  | .two w x y z => (w = "sum" ∨ w = "by" ∨ w = "less" ∨ w = "same") ∧ x ∈ names ∧ y ∈ names ∧ z ∈ names
  | _ => False
mutual
noncomputable def OkR (names : List Str) (m many : Int) : Rw → Prop
  | .ifr x a b => x ∈ names ∧ OkRs names m many a ∧ OkRs names m many b
  | .again x a => x ∈ names ∧ OkRs names m many a
  | .put x k => RwOk names m many (.put x k)
  | .take x k => RwOk names m many (.take x k)
  | .pick x k => RwOk names m many (.pick x k)
  | .two w x y z => RwOk names m many (.two w x y z)
noncomputable def OkRs (names : List Str) (m many : Int) : List Rw → Prop
  | [] => True
  | r :: rs => OkR names m many r ∧ OkRs names m many rs
end
mutual
noncomputable def hR : Rw → Nat
  | .ifr _ a b => 1 + max (hRs a) (hRs b)
  | .again _ a => 1 + hRs a
  | _ => 0
noncomputable def hRs : List Rw → Nat
  | [] => 0
  | r :: rs => max (hR r) (hRs rs)
end
end Tw

open PySem in
theorem Tw.SNE_all : ((Str.ofString "put" : Str) = Str.ofString "take") = False ∧ ((Str.ofString "put" : Str) = Str.ofString "pick") = False ∧ ((Str.ofString "put" : Str) = Str.ofString "sum") = False ∧ ((Str.ofString "put" : Str) = Str.ofString "by") = False ∧ ((Str.ofString "put" : Str) = Str.ofString "less") = False ∧ ((Str.ofString "put" : Str) = Str.ofString "same") = False ∧ ((Str.ofString "put" : Str) = Str.ofString "if") = False ∧ ((Str.ofString "put" : Str) = Str.ofString "again") = False ∧ ((Str.ofString "take" : Str) = Str.ofString "put") = False ∧ ((Str.ofString "take" : Str) = Str.ofString "pick") = False ∧ ((Str.ofString "take" : Str) = Str.ofString "sum") = False ∧ ((Str.ofString "take" : Str) = Str.ofString "by") = False ∧ ((Str.ofString "take" : Str) = Str.ofString "less") = False ∧ ((Str.ofString "take" : Str) = Str.ofString "same") = False ∧ ((Str.ofString "take" : Str) = Str.ofString "if") = False ∧ ((Str.ofString "take" : Str) = Str.ofString "again") = False ∧ ((Str.ofString "pick" : Str) = Str.ofString "put") = False ∧ ((Str.ofString "pick" : Str) = Str.ofString "take") = False ∧ ((Str.ofString "pick" : Str) = Str.ofString "sum") = False ∧ ((Str.ofString "pick" : Str) = Str.ofString "by") = False ∧ ((Str.ofString "pick" : Str) = Str.ofString "less") = False ∧ ((Str.ofString "pick" : Str) = Str.ofString "same") = False ∧ ((Str.ofString "pick" : Str) = Str.ofString "if") = False ∧ ((Str.ofString "pick" : Str) = Str.ofString "again") = False ∧ ((Str.ofString "sum" : Str) = Str.ofString "put") = False ∧ ((Str.ofString "sum" : Str) = Str.ofString "take") = False ∧ ((Str.ofString "sum" : Str) = Str.ofString "pick") = False ∧ ((Str.ofString "sum" : Str) = Str.ofString "by") = False ∧ ((Str.ofString "sum" : Str) = Str.ofString "less") = False ∧ ((Str.ofString "sum" : Str) = Str.ofString "same") = False ∧ ((Str.ofString "sum" : Str) = Str.ofString "if") = False ∧ ((Str.ofString "sum" : Str) = Str.ofString "again") = False ∧ ((Str.ofString "by" : Str) = Str.ofString "put") = False ∧ ((Str.ofString "by" : Str) = Str.ofString "take") = False ∧ ((Str.ofString "by" : Str) = Str.ofString "pick") = False ∧ ((Str.ofString "by" : Str) = Str.ofString "sum") = False ∧ ((Str.ofString "by" : Str) = Str.ofString "less") = False ∧ ((Str.ofString "by" : Str) = Str.ofString "same") = False ∧ ((Str.ofString "by" : Str) = Str.ofString "if") = False ∧ ((Str.ofString "by" : Str) = Str.ofString "again") = False ∧ ((Str.ofString "less" : Str) = Str.ofString "put") = False ∧ ((Str.ofString "less" : Str) = Str.ofString "take") = False ∧ ((Str.ofString "less" : Str) = Str.ofString "pick") = False ∧ ((Str.ofString "less" : Str) = Str.ofString "sum") = False ∧ ((Str.ofString "less" : Str) = Str.ofString "by") = False ∧ ((Str.ofString "less" : Str) = Str.ofString "same") = False ∧ ((Str.ofString "less" : Str) = Str.ofString "if") = False ∧ ((Str.ofString "less" : Str) = Str.ofString "again") = False ∧ ((Str.ofString "same" : Str) = Str.ofString "put") = False ∧ ((Str.ofString "same" : Str) = Str.ofString "take") = False ∧ ((Str.ofString "same" : Str) = Str.ofString "pick") = False ∧ ((Str.ofString "same" : Str) = Str.ofString "sum") = False ∧ ((Str.ofString "same" : Str) = Str.ofString "by") = False ∧ ((Str.ofString "same" : Str) = Str.ofString "less") = False ∧ ((Str.ofString "same" : Str) = Str.ofString "if") = False ∧ ((Str.ofString "same" : Str) = Str.ofString "again") = False ∧ ((Str.ofString "if" : Str) = Str.ofString "put") = False ∧ ((Str.ofString "if" : Str) = Str.ofString "take") = False ∧ ((Str.ofString "if" : Str) = Str.ofString "pick") = False ∧ ((Str.ofString "if" : Str) = Str.ofString "sum") = False ∧ ((Str.ofString "if" : Str) = Str.ofString "by") = False ∧ ((Str.ofString "if" : Str) = Str.ofString "less") = False ∧ ((Str.ofString "if" : Str) = Str.ofString "same") = False ∧ ((Str.ofString "if" : Str) = Str.ofString "again") = False ∧ ((Str.ofString "again" : Str) = Str.ofString "put") = False ∧ ((Str.ofString "again" : Str) = Str.ofString "take") = False ∧ ((Str.ofString "again" : Str) = Str.ofString "pick") = False ∧ ((Str.ofString "again" : Str) = Str.ofString "sum") = False ∧ ((Str.ofString "again" : Str) = Str.ofString "by") = False ∧ ((Str.ofString "again" : Str) = Str.ofString "less") = False ∧ ((Str.ofString "again" : Str) = Str.ofString "same") = False ∧ ((Str.ofString "again" : Str) = Str.ofString "if") = False :=
  ⟨Tw.sne_put_take, Tw.sne_put_pick, Tw.sne_put_sum, Tw.sne_put_by, Tw.sne_put_less, Tw.sne_put_same, Tw.sne_put_if, Tw.sne_put_again, Tw.sne_take_put, Tw.sne_take_pick, Tw.sne_take_sum, Tw.sne_take_by, Tw.sne_take_less, Tw.sne_take_same, Tw.sne_take_if, Tw.sne_take_again, Tw.sne_pick_put, Tw.sne_pick_take, Tw.sne_pick_sum, Tw.sne_pick_by, Tw.sne_pick_less, Tw.sne_pick_same, Tw.sne_pick_if, Tw.sne_pick_again, Tw.sne_sum_put, Tw.sne_sum_take, Tw.sne_sum_pick, Tw.sne_sum_by, Tw.sne_sum_less, Tw.sne_sum_same, Tw.sne_sum_if, Tw.sne_sum_again, Tw.sne_by_put, Tw.sne_by_take, Tw.sne_by_pick, Tw.sne_by_sum, Tw.sne_by_less, Tw.sne_by_same, Tw.sne_by_if, Tw.sne_by_again, Tw.sne_less_put, Tw.sne_less_take, Tw.sne_less_pick, Tw.sne_less_sum, Tw.sne_less_by, Tw.sne_less_same, Tw.sne_less_if, Tw.sne_less_again, Tw.sne_same_put, Tw.sne_same_take, Tw.sne_same_pick, Tw.sne_same_sum, Tw.sne_same_by, Tw.sne_same_less, Tw.sne_same_if, Tw.sne_same_again, Tw.sne_if_put, Tw.sne_if_take, Tw.sne_if_pick, Tw.sne_if_sum, Tw.sne_if_by, Tw.sne_if_less, Tw.sne_if_same, Tw.sne_if_again, Tw.sne_again_put, Tw.sne_again_take, Tw.sne_again_pick, Tw.sne_again_sum, Tw.sne_again_by, Tw.sne_again_less, Tw.sne_again_same, Tw.sne_again_if⟩
open PySem L2 L3 Tw
local macro_rules | `(tactic| simp_arith only [$a,*]) => do let p ← ("T_are_figures_1 T_number_from_1 T_number_from_2 T_read_stand_1 T_read_stand_2 T_read_stand_3 T_read_stand_4 T_read_stand_5 T_read_stand_6 T__law_stirred_1 T__law_pot_1 T__law_pot_2 T__law_pot_3 T__law_draw_1 T__law_draw_2 T__law_draw_3 T__law_draw_4 T__law_draw_5 T__law_draw_6 T__law_draw_7 T__law_draw_8 T__law_names_1 T__law_names_2 T__law_names_3 T__law_row_1 T__law_row_2 T__law_row_3 T__law_row_4 T__law_row_5 T__law_row_6 T__law_row_7 T__law_row_8 T__law_row_9 T__law_row_10 T__law_row_11 T__law_block_1 T__law_block_2 T__law_block_3 T__law_block_4 T__law_block_5 T__law_block_6 T__law_block_7 T__law_block_8 T__law_block_9 T__law_rows_1 T__law_rows_2 T__law_rows_3 T__law_rows_4 T__law_rows_5 T__law_rows_6 T__law_rows_7 T__law_plan_1 T__law_plan_2 T__law_plan_3 T__law_plan_4 T__law_stand_1 T__law_name_1 T__law_name_2 T__law_kinds_1 T__law_kinds_2 T__law_alike_1 T__law_alike_2 T__law_alike_3 T__law_alike_4 T__law_alike_5 T__law_alike_6 T__law_alike_7 T__law_alike_8 T__law_alike_9 T__law_due_1 T__law_due_2 T__law_due_3 T__law_due_4 T__law_due_5 T__law_due_6 T__law_due_7 T__law_bent_1 T__law_bent_2 T__law_bent_3 T__law_bent_4 T__law_bent_5 T__law_bent_6 T__law_bent_7 T__law_bent_8 T__law_bent_9 T__law_bent_10 T__law_bent_11 T__law_bent_12 T__law_bent_13 T__law_bent_14 T__law_bent_15 T__law_bent_16 T__law_bent_17 T__law_bent_18 T_law_1 T_law_2 T_law_3 T_law_4 T_law_5 T_law_6 T_law_7 T_law_8 T_law_9 T_law_10 T_law_11 T_law_12 cStr mJoin mSplit cIntS oNotInS mCountB mIndexB oLeS wStr dIsE dTryAs bodyD startN dSeq dIfS dTest dTru tru dOp oEq oNe dv fit fits deq deqs dVar dC dRet dIf dNext dNot dAnd dOr dAndV dOrV dNotV oI oI0 oMul oIx seqD seqL dFrz frz oAdd oIsN oNotN isNon dAsg hName hTup hCons hNil hSub sSet dCons dNil dTup dLst dCB cLen cList cTuple cInst tyName cAll bools cMin dDrop dBM mAppend mPop strsOf keysOf keyOf keyT dget dRaise oSl dSl dPart dNoPart dCall wSeq wRng1 wZip srcOf dCompS dAll dThenFrz frzSlot dChain isIn oIn".splitOn " ").toArray.mapM (fun s => `(Lean.Parser.Tactic.simpLemma| ↓$(Lean.mkIdent s.toName):ident)); let q ← ("List.map_cons List.map_nil List.cons_append List.nil_append List.length_cons List.length_nil List.getElem?_cons_succ List.getElem?_cons_zero List.set_cons_succ List.set_cons_zero Nat.zero_add Nat.reduceAdd Nat.reduceSub List.replicate_succ List.replicate_zero List.append_nil true_and and_true if_true if_false Bool.false_eq_true decide_eq_true_eq decide_eq_false_iff_not Bool.not_true Bool.not_false Bool.and_true Bool.true_and Bool.and_false Bool.false_and Mem.upd_same Option.isSome_some Option.isSome_none SNE_all".splitOn " ").toArray.mapM (fun s => `(Lean.Parser.Tactic.simpLemma| $(Lean.mkIdent s.toName):ident)); let r : Lean.TSyntaxArray [`Lean.Parser.Tactic.simpStar, `Lean.Parser.Tactic.simpErase, `Lean.Parser.Tactic.simpLemma] := (p.map (⟨·.raw⟩)) ++ (q.map (⟨·.raw⟩)) ++ a.getElems; `(tactic| simp -dsimp only [$r,*])
namespace Tw
open PySem L2 L3
structure Pt where
  p : Addr
  q : Addr
  ne : p ≠ q
noncomputable def Has (k : Pt) (M : Mem) : Prop := ∃ (cells : List Int) (t h sd : Int), cells.length ≤ 63 ∧ M k.p = some (.lst [.ref k.q, .int t, .int h, .int sd]) ∧ M k.q = some (.lst (cells.map D.int))
noncomputable def Dr (k : Pt) (M M' : Mem) : Prop := Has k M' ∧ ∀ b, b ≠ k.p → b ≠ k.q → M' b = M b
theorem Has.refl {k : Pt} {M : Mem} (h : Has k M) : Dr k M M := ⟨h, fun _ _ _ => rfl⟩
theorem Dr.trans {k : Pt} {M M1 M2 : Mem} (a : Dr k M M1) (b : Dr k M1 M2) : Dr k M M2 := ⟨b.1, fun x h1 h2 => (b.2 x h1 h2).trans (a.2 x h1 h2)⟩
theorem Has.nep {k : Pt} {M : Mem} (h : Has k M) {l : Addr} (hl : M l = none) : l ≠ k.p ∧ l ≠ k.q := by
  obtain ⟨cells, t, hh, sd, _, e1, e2⟩ := h
  exact ⟨fun e => (by rw [e, e1] at hl; cases hl), fun e => (by rw [e, e2] at hl; cases hl)⟩
theorem Has.upd {k : Pt} {M : Mem} {l : Addr} {o : MO} (h : Has k M) (h1 : l ≠ k.p ∧ l ≠ k.q) : Has k (M.upd l o) := by
  obtain ⟨cells, t, hh, sd, hc, e1, e2⟩ := h
  exact ⟨cells, t, hh, sd, hc, by rw [Mem.upd_ne (Ne.symm h1.1)]; exact e1, by rw [Mem.upd_ne (Ne.symm h1.2)]; exact e2⟩
theorem Has.del {k : Pt} {M : Mem} {l : Addr} (h : Has k M) (h1 : l ≠ k.p ∧ l ≠ k.q) : Has k (M.del l) := by
  obtain ⟨cells, t, hh, sd, hc, e1, e2⟩ := h
  refine ⟨cells, t, hh, sd, hc, ?_, ?_⟩
  · unfold Mem.del; rw [if_neg (Ne.symm h1.1)]; exact e1
  · unfold Mem.del; rw [if_neg (Ne.symm h1.2)]; exact e2
theorem Dr.none {k : Pt} {M M' : Mem} (h0 : Has k M) (h : Dr k M M') {l : Addr} (hl : M l = none) : M' l = none := by
  have := h0.nep hl
  rw [h.2 l this.1 this.2]; exact hl
theorem fits_ints : ∀ (n : Nat) (cs : List Int), fits n (cs.map D.int) = true
  | _, [] => by unfold fits; rfl
  | n, c :: cs => by
    rw [List.map_cons]; unfold fits; rw [fits_ints n cs]
    cases n <;> rfl
theorem stirred_spec {ad : Ad} {M : Mem} {Q : DK} {E : DX} {a b : Int} (h : ∀ r, Q (.int r) M) : S__law_stirred ad [.int a, .int b] M Q E := by
  simp_arith only [u__law_stirred, T__law_stirred]
  refine ⟨.inr (by decide), .inr (by decide), by decide, ⟨by decide, by decide⟩, .inr (by decide), by decide, ⟨by decide, by decide⟩, drp_id (h _)⟩
theorem atL0 {α : Type} {x : α} {xs : List α} : atI (x :: xs) 0 = some x := by rw [atI_0]; rfl
theorem emod_rng {a m : Int} (h : 0 < m) : 0 ≤ a % m ∧ a % m < m := ⟨Int.emod_nonneg _ (by lia), Int.emod_lt_of_pos _ h⟩
theorem ixN_nn {n : Nat} {i : Int} (h : 0 ≤ i) (h2 : i < n) : ixN n i = some i.toNat := by unfold ixN; rw [if_pos h, if_pos h2]
theorem ix0 {n : Nat} : ixN (n + 1) 0 = some 0 := ixN_nn (by decide) (by lia)
theorem ix4_2 : ixN 4 2 = some 2 := rfl
theorem seq_go0 {s u : dTS} {D0 : DEnds} {δ : Dl} {M : Mem} (h : s { D0 with nx := u D0 } δ M) : dSeq s u D0 δ M := h
theorem st_tick {D0 : DEnds} {δ : Dl} {M : Mem} {k : Pt} {t hh sd : Int} (h0 : δ[0]? = some (some (.ref k.p))) (e1 : M k.p = some (.lst [.ref k.q, .int t, .int hh, .int sd])) (h : D0.nx δ (M.upd k.p (.lst [.ref k.q, .int (t + 1), .int hh, .int sd]))) :
    dAsg (dOp oAdd (dOp oIx (dVar 0) (dC (.int 1))) (dC (.int 1))) (hSub (dVar 0) (dC (.int 1))) D0 δ M := by
  simp_arith only [h0, e1, atI_1, ixN_nn (n := 4) (i := 1) (by decide) (by decide), show (1 : Int).toNat = 1 from rfl]
  exact h
theorem st_rest {ad : Ad} {EE : DX} {D0 : DEnds} {M : Mem} {k : Pt} {t hh sd many : Int} {c2 : Option D} (h0 : 0 < many) (h1 : many < 2 ^ 62) (e1 : M k.p = some (.lst [.ref k.q, .int t, .int hh, .int sd]))
    (ha : ∀ r, D0.rt (.int (r % many)) M) (hb : D0.rt (.int (hh % many)) (M.upd k.p (.lst [.ref k.q, .int t, .int (hh / many), .int sd]))) :
    (dSeq (dIfS (dTest (dOp oEq (dOp oIx (dVar 0) (dC (.int 2))) (dC (.int 0)))) (dRet (dOp oMod (dFrz (dCall (S__law_stirred ad) EE 2 (dCons (dOp oIx (dVar 0) (dC (.int 3))) (dCons (dOp oIx (dVar 0) (dC (.int 1))) dNil)))) (dVar 1))) dNext)
    (dSeq (dAsg (dOp oMod (dOp oIx (dVar 0) (dC (.int 2))) (dVar 1)) (hName 3))
    (dSeq (dAsg (dOp oFdiv (dOp oIx (dVar 0) (dC (.int 2))) (dVar 1)) (hSub (dVar 0) (dC (.int 2))))
    (dRet (dVar 3))))) D0 [some (.ref k.p), some (.int many), c2, none] M := by
  simp_arith only [e1, atI_1, atI_2, atI_3]
  by_cases ez : hh = 0
  · rw [if_pos ez]
    refine calls_of fun Q' E' hq _ => stirred_spec fun r => hq _ _ ?_
    simp_arith only []
    exact ⟨h0, ha r⟩
  · rw [if_neg ez]
    simp_arith only [e1, ix4_2]
    exact ⟨h0, ⟨h0, by lia⟩, hb⟩
theorem st_take {ad : Ad} {EE : DX} {D0 : DEnds} {M : Mem} {k : Pt} {t hh sd many : Int} {cells : List Int} (h0 : 0 < many) (e1 : M k.p = some (.lst [.ref k.q, .int t, .int hh, .int sd])) (e2 : M k.q = some (.lst (cells.map D.int)))
    (hA : D0.nx [some (.ref k.p), some (.int many), none, none] M)
    (hB : ∀ c cs, hh = 0 → cells = c :: cs → ∀ r, D0.rt (.int (r % many)) (M.upd k.q (.lst (cs.map D.int))))
    (hC : ∀ c cs, hh = 0 → cells = c :: cs → ¬ c < 10 ^ Int.toNat 18 → D0.nx [some (.ref k.p), some (.int many), some (.int c), none] ((M.upd k.q (.lst (cs.map D.int))).upd k.p (.lst [.ref k.q, .int t, .int c, .int sd]))) :
    dIfS (dAnd (dTest (dOp oEq (dOp oIx (dVar 0) (dC (.int 2))) (dC (.int 0)))) (dTest (dOp oNe (dOp oIx (dVar 0) (dC (.int 0))) (dFrz (dLst dNil))))) (dSeq (dAsg (dBM "list" mPop (dOp oIx (dVar 0) (dC (.int 0))) (dCons (dC (.int 0)) dNil)) (hName 2))
      (dSeq (dIfS (dTest (dOp oLt (dVar 2) (dOp oPow (dC (.int 10)) (dC (.int 18))))) (dRet (dOp oMod (dFrz (dCall (S__law_stirred ad) EE 2 (dCons (dVar 2) (dCons (dOp oIx (dVar 0) (dC (.int 1))) dNil)))) (dVar 1))) dNext)
      (dAsg (dVar 2) (hSub (dVar 0) (dC (.int 2)))))) dNext D0 [some (.ref k.p), some (.int many), none, none] M := by
  have hne := k.ne
  simp_arith only [e1, atI_2, atL0]
  by_cases ez : hh = 0
  · rw [if_pos ez]
    refine ⟨szl (by decide), fun p hp => ?_⟩
    simp only [Mem.upd_del, Mem.del_none hp, e2]
    cases cells with
    | nil =>
      simp_arith only []
      exact hA
    | cons c cs =>
      have g2 : ∀ o', (M.upd k.q o') k.p = some (.lst [.ref k.q, .int t, .int hh, .int sd]) := fun o' => by rw [Mem.upd_ne hne, e1]
      simp_arith only [atL0, e1, e2, g2, fits_ints, ix0, ix4_2, List.eraseIdx_zero, List.tail_cons, atI_1, atI_2, atI_3]
      refine ⟨⟨by decide, by decide, by decide⟩, ?_⟩
      by_cases hb : c < 10 ^ Int.toNat 18
      · rw [if_pos hb]
        refine calls_of fun Q' E' hq _ => stirred_spec fun r => hq _ _ ?_
        simp_arith only []
        exact ⟨h0, hB c cs ez rfl r⟩
      · rw [if_neg hb]
        exact hC c cs ez rfl hb
  · rw [if_neg ez]
    exact hA
theorem draw_spec {ad : Ad} {M : Mem} {Q : DK} {E : DX} {k : Pt} {many : Int} (hp : Has k M) (h0 : 0 < many) (h1 : many < 2 ^ 62) (h : ∀ r M', 0 ≤ r → r < many → Dr k M M' → Q (.int r) M') :
    S__law_draw ad [.ref k.p, .int many] M Q E := by
  obtain ⟨cells, t, hh, sd, hc, e1, e2⟩ := hp
  have hne := k.ne
  have fin : ∀ (r : Int) (M' : Mem) (cells' : List Int) (t' hh' sd' : Int), cells'.length ≤ 63 → (∀ b, b ≠ k.p → b ≠ k.q → M' b = M b) → M' k.p = some (.lst [.ref k.q, .int t', .int hh', .int sd']) → M' k.q = some (.lst (cells'.map D.int)) → drp Q (.int (r % many)) M' := by
    intro r M' cells' t' hh' sd' a1 a2 a3 a4
    exact drp_id (h _ _ (emod_rng h0).1 (emod_rng h0).2 ⟨⟨cells', t', hh', sd', a1, a3, a4⟩, a2⟩)
  have g1 : ∀ o, (M.upd k.p o) k.q = some (.lst (cells.map D.int)) := fun o => by rw [Mem.upd_ne (Ne.symm hne)]; exact e2
  rw [u__law_draw (n := 0)]
  unfold T__law_draw
  refine seq_go0 (st_tick rfl e1 ?_)
  dsimp only
  refine seq_go0 (st_take h0 Mem.upd_same (g1 _) ?_ (fun c cs ez ec r => ?_) (fun c cs ez ec hb => ?_))
  · dsimp only
    refine st_rest h0 h1 Mem.upd_same (fun r => ?_) ?_
    · exact fin _ _ cells _ _ _ hc (fun b b1 b2 => Mem.upd_ne b1) Mem.upd_same (g1 _)
    · exact fin _ _ cells _ _ _ hc (fun b b1 b2 => by rw [Mem.upd_ne b1, Mem.upd_ne b1]) Mem.upd_same (by rw [Mem.upd_ne (Ne.symm hne), g1])
  · subst ec
    exact fin _ _ cs _ _ _ (by simp at hc; lia) (fun b b1 b2 => by rw [Mem.upd_ne b2, Mem.upd_ne b1]) (by rw [Mem.upd_ne hne, Mem.upd_same]) Mem.upd_same
  · subst ec
    dsimp only
    refine st_rest h0 h1 Mem.upd_same (fun r => ?_) ?_
    · exact fin _ _ cs _ _ _ (by simp at hc; lia) (fun b b1 b2 => by rw [Mem.upd_ne b1, Mem.upd_ne b2, Mem.upd_ne b1]) Mem.upd_same (by rw [Mem.upd_ne (Ne.symm hne), Mem.upd_same])
    · exact fin _ _ cs _ _ _ (by simp at hc; lia) (fun b b1 b2 => by rw [Mem.upd_ne b1, Mem.upd_ne b1, Mem.upd_ne b2, Mem.upd_ne b1]) Mem.upd_same (by rw [Mem.upd_ne (Ne.symm hne), Mem.upd_ne (Ne.symm hne), Mem.upd_same])
end Tw

namespace Tw
open PySem L2 L3
theorem cutD_hi {xs : List D} {k : Nat} : cutD xs none (some (k : Int)) = xs.take k := by
  unfold cutD
  rw [HT.sIx_none, HT.sIx_nat, List.drop_zero, Nat.sub_zero]
  rcases Nat.le_total k xs.length with h | h
  · rw [Nat.min_eq_left h]
  · rw [Nat.min_eq_right h, List.take_of_length_le (Nat.le_refl _), List.take_of_length_le h]
theorem cutD_lo {xs : List D} {k : Nat} : cutD xs (some (k : Int)) none = xs.drop k := by
  unfold cutD
  rw [HT.sIx_none, HT.sIx_nat]
  rcases Nat.le_total k xs.length with h | h
  · rw [Nat.min_eq_left h, List.take_of_length_le (by simp)]
  · rw [Nat.min_eq_right h, List.drop_of_length_le (Nat.le_refl _), List.drop_of_length_le h]; simp
theorem pot_spec {ad : Ad} {M : Mem} {Q : DK} {E : DX} {ns : List Int} (h : ∀ (k : Pt) M', Has k M' → (∀ b, b ≠ k.p → b ≠ k.q → M' b = M b) → Q (.ref k.p) M') : S__law_pot ad [.ml (ns.map D.int)] M Q E := by
  have c63 : cutD (ns.map D.int) none (some 63) = (ns.take 63).map D.int := by rw [List.map_take]; exact cutD_hi (k := 63)
  simp_arith only [u__law_pot, T__law_pot, dFor, c63]
  intro a ha
  refine forD_inv (fun xs δ M' => ∃ (cs : List Int) (sd : Int) (c2 : Option D), xs = cs.map D.int ∧ δ = [some (.ml (ns.map D.int)), some (.int sd), c2] ∧ M' = M) (fun _ _ _ _ => ok_nil) ?_ ?_ _ _ _ ⟨ns.take 63, 7, none, rfl, rfl, by rw [Mem.upd_del, Mem.del_none ha]⟩
  · rintro δ M' ⟨cs, sd, c2, _, rfl, rfl⟩
    simp_arith only [c63]
    intro b hb
    rw [Mem.upd_del, Mem.del_none hb]
    intro q hq
    refine ⟨szl (by decide), fun p hp => ?_⟩
    have ne : p ≠ q := by intro e; subst e; rw [Mem.upd_same] at hp; cases hp
    refine drp_id (h ⟨p, q, ne⟩ _ ⟨ns.take 63, 0, 0, sd, by simp; lia, Mem.upd_same, ?_⟩ fun b b1 b2 => ?_)
    · show ((M'.upd q _).upd p _) q = _
      rw [Mem.upd_ne (Ne.symm ne), Mem.upd_same]
    · rw [Mem.upd_ne b1, Mem.upd_ne b2]
  · rintro x xs δ M' ⟨cs, sd, c2, e1, rfl, rfl⟩ D' hnx _ _ _
    cases cs with
    | nil => simp at e1
    | cons c cs =>
      simp only [List.map_cons, List.cons.injEq] at e1
      obtain ⟨rfl, rfl⟩ := e1
      simp_arith only []
      exact ⟨.inr (by decide), by decide, hnx _ _ ⟨cs, _, _, rfl, rfl, rfl⟩⟩
noncomputable def alpha : Str := "abcdefghijklmnopqrstuvwxyz"
theorem alpha_at : ∀ i < 26, alpha.cps.toList[i]? = some (97 + i) := by decide +kernel
theorem alpha_len : alpha.length ≤ sizeLine := Nat.le_trans (show alpha.length ≤ 100 by decide +kernel) (by decide)
theorem nodup_first {names : List Str} {t : Nat} (hl : names.length ≤ 12) (h : ∀ (j : Nat) (hj : j < names.length), names[j].cps[0]? = some (97 + (t + 7 * j) % 26)) : names.Nodup := by
  refine List.pairwise_iff_getElem.mpr fun i j hi hj hij e => ?_
  have h1 := h i hi
  have h2 := h j hj
  rw [e, h2] at h1
  have h3 := Option.some.inj h1
  lia
noncomputable def OneC (x : Str) : Prop := ∃ (n c : Nat), 1 ≤ n ∧ n ≤ 8 ∧ 97 ≤ c ∧ c ≤ 122 ∧ x = ⟨Array.replicate n c⟩
theorem names_spec {ad : Ad} {M : Mem} {Q : DK} {E : DX} {k : Pt} {many : Nat} (hp : Has k M) (h1 : many ≤ 12) (h : ∀ (names : List Str) (M' : Mem), names.length = many → names.Nodup → (∀ x ∈ names, OneC x) → Dr k M M' → Q (.tup (names.map D.str)) M') : S__law_names ad [.ref k.p, .int many] M Q E := by
  simp_arith only [u__law_names, T__law_names, dFor]
  refine calls_of fun Q' E' hq _ => draw_spec hp (by decide) (by decide) fun turn M1 t0 t1 d1 => hq _ _ ?_
  simp_arith only []
  refine ⟨szl (by decide), fun l hl => ?_⟩
  have nel := d1.1.nep hl
  refine ⟨by lia, by lia, ?_⟩
  obtain ⟨t, rfl⟩ := Int.eq_ofNat_of_zero_le t0
  refine forD_inv (fun xs δ M' => ∃ (j : Nat) (acc : List Str) (c4 c5 : Option D), j ≤ many ∧ xs = (List.range' j (many - j)).map (fun (i : Nat) => D.int (0 + (i : Int))) ∧ δ = [some (.ref k.p), some (.int (many : Nat)), some (.int (t : Nat)), some (.ref l), c4, c5] ∧ acc.length = j ∧ (∀ (i : Nat) (hi : i < acc.length), acc[i].cps[0]? = some (97 + (t + 7 * i) % 26)) ∧ (∀ x ∈ acc, OneC x) ∧
    Has k M' ∧ M' l = some (.lst (acc.map D.str)) ∧ ∀ b, b ≠ k.p → b ≠ k.q → b ≠ l → M' b = M1 b) (fun _ _ _ _ => ok_nil) ?_ ?_ _ _ _ ⟨0, [], none, none, Nat.zero_le _, ?_, rfl, rfl, ?_, by simp, d1.1.upd nel, Mem.upd_same, fun b _ _ hb => Mem.upd_ne hb⟩
  · rintro δ M' ⟨j, acc, c4, c5, hj, e, rfl, ha, hf, hone, hh, hm, hs⟩
    have : j = many := by
      have := congrArg List.length e
      simp at this; lia
    subst this
    simp_arith only [hm]
    refine ⟨M'.del l, fun b o e => ?_, h acc _ ha (nodup_first (by lia) hf) hone ⟨hh.del nel, fun b b1 b2 => ?_⟩⟩
    · unfold Mem.del at e; split at e
      · cases e
      · exact e
    · unfold Mem.del
      split
      · rename_i e; subst e; rw [← d1.2 b b1 b2]; exact hl.symm
      · rename_i e; rw [hs b b1 b2 e, d1.2 b b1 b2]
  · rintro x xs δ M' ⟨j, acc, c4, c5, hj, e, rfl, ha, hf, hone, hh, hm, hs⟩ D' hnx _ _ _
    have hjl : j < many := by
      have := congrArg List.length e
      simp at this; lia
    obtain ⟨n, hn⟩ : ∃ n, many - j = n + 1 := ⟨many - j - 1, by lia⟩
    rw [hn, List.range'_succ, List.map_cons, List.cons.injEq] at e
    obtain ⟨rfl, rfl⟩ := e
    have hidx : atI alpha.cps.toList (((t : Nat) + 7 * (0 + (j : Int))) % 26) = some (97 + (t + 7 * j) % 26) := by
      have : (((t : Nat) : Int) + 7 * (0 + (j : Int))) % 26 = (((t + 7 * j) % 26 : Nat) : Int) := by lia
      rw [this, atI_nn (by lia), Int.toNat_natCast, alpha_at _ (by lia)]
    simp only [alpha] at hidx
    simp_arith only [hidx, hm]
    refine ⟨.inl (by decide), by decide, alpha_len, ?_⟩
    refine calls_of fun Q' E' hq _ => draw_spec hh (by decide) (by decide) fun r M2 r0 r1 d2 => hq _ _ ?_
    have hm2 : M2 l = some (.lst (acc.map D.str)) := by rw [d2.2 l nel.1 nel.2]; exact hm
    simp_arith only [hm2]
    refine ⟨by lia, by lia, by simp; exact szs (by lia), hnx _ _ ⟨j + 1, acc ++ [⟨Array.replicate (1 + r).toNat (97 + (t + 7 * j) % 26)⟩], _, _, by lia, ?_, rfl, by simp [ha], ?_, ?_, d2.1.upd nel, ?_, ?_⟩⟩
    · rw [show many - (j + 1) = n by lia]
    · intro i hi
      by_cases hij : i < acc.length
      · rw [List.getElem_append_left hij]; exact hf i hij
      · have : i = acc.length := by simp at hi; lia
        subst this
        rw [List.getElem_append_right (Nat.le_refl _)]
        simp only [Nat.sub_self, List.getElem_cons_zero]
        rw [Array.getElem?_replicate, if_pos (by lia), ha]
    · intro x hx
      rcases List.mem_append.mp hx with hx | hx
      · exact hone x hx
      · simp at hx; subst hx
        exact ⟨(1 + r).toNat, 97 + (t + 7 * j) % 26, by lia, by lia, by lia, by lia, rfl⟩
    · rw [Mem.upd_same]; simp
    · intro b b1 b2 b3
      rw [Mem.upd_ne b3, d2.2 b b1 b2, hs b b1 b2 b3]
  · simp [rngD, List.range_eq_range']
  · intro i hi; simp at hi
end Tw

namespace Tw
open PySem L2 L3
@[simp] theorem atI_5 {α : Type} {xs : List α} : atI xs 5 = xs[5]? := atI_nn (by decide)
@[simp] theorem atI_6 {α : Type} {xs : List α} : atI xs 6 = xs[6]? := atI_nn (by decide)
@[simp] theorem atI_7 {α : Type} {xs : List α} : atI xs 7 = xs[7]? := atI_nn (by decide)
@[simp] theorem atI_8 {α : Type} {xs : List α} : atI xs 8 = xs[8]? := atI_nn (by decide)
theorem at_name {names : List Str} {r : Int} (h0 : 0 ≤ r) (h1 : r < names.length) : ∃ y, y ∈ names ∧ atI (names.map D.str) r = some (.str y) := by
  have hr : r.toNat < names.length := by lia
  refine ⟨names[r.toNat], List.getElem_mem hr, ?_⟩
  rw [atI_nn h0, List.getElem?_map, List.getElem?_eq_getElem hr]; rfl
structure ToldOk (names : List Str) (m many : Int) : Prop where
  m2 : 2 ≤ m
  m1 : m ≤ 997
  n0 : 0 < names.length
  n1 : names.length ≤ 12
  k0 : 0 ≤ many
  k1 : many ≤ 40
noncomputable def toldD (names : List Str) (m many : Int) : D := .tup [.int m, .tup (names.map D.str), .int many]
theorem draw_call {ad : Ad} {M : Mem} {Q : DK} {EE : DX} {b : BxQ EE Q} {k : Pt} {many : Int} (hp : Has k M) (h0 : 0 < many) (h1 : many < 2 ^ 62) (h : ∀ r M', 0 ≤ r → r < many → Dr k M M' → Q (.int r) M') : calls (S__law_draw ad) EE [.ref k.p, .int many] M Q b :=
  calls_of fun Q' E' hq _ => draw_spec hp h0 h1 fun r M' r0 r1 d => hq _ _ (h r M' r0 r1 d)
section
variable {ad : Ad} {EE : DX} {D0 : DEnds} {δ : Dl} {M : Mem} {k : Pt}
theorem asg0 {te : dTE} {i : Nat} (h : te δ M fun d M1 => D0.nx (δ.set i (some d)) M1) : dAsg te (hName i) D0 δ M := h
theorem var0 {i : Nat} {d : D} (h : δ[i]? = some (some d)) {K : D → Mem → Prop} (hK : K d M) : dVar i δ M K := by simp only [dVar, h]; exact hK
theorem ifs_go {i : Nat} {w c : Str} {A B : dTS} (hv : δ[i]? = some (some (.str w))) (h1 : w = c → A D0 δ M) (h2 : w ≠ c → B D0 δ M) : dIfS (dTest (dOp oEq (dVar i) (dC (.str c)))) A B D0 δ M := by
  have e : dIfS (dTest (dOp oEq (dVar i) (dC (.str c)))) A B D0 δ M = (if w = c then A D0 δ M else B D0 δ M) := by
    simp [dIfS, dTest, dOp, dVar, dC, oEq, fit, dv, deq, hv]
  rw [e]
  by_cases q : w = c
  · rw [if_pos q]; exact h1 q
  · rw [if_neg q]; exact h2 q
theorem dr_e {te : dTE} {v : Int} {K : D → Mem → Prop} (h0 : δ[0]? = some (some (.ref k.p))) (ht : ∀ K : D → Mem → Prop, K (.int v) M → te δ M K) (hp : Has k M) (v0 : 0 < v) (v1 : v < 2 ^ 62) (h : ∀ r M', 0 ≤ r → r < v → Dr k M M' → K (.int r) M') :
    dCall (S__law_draw ad) EE 2 (dCons (dVar 0) (dCons te dNil)) δ M K := by
  simp only [dCall, dCons, dVar, dNil, h0]
  refine ht _ ?_
  exact ⟨rfl, draw_call hp v0 v1 h⟩
theorem frz_int {K : D → Mem → Prop} {te : dTE} (h : te δ M fun d M' => frz d M' K) : dFrz te δ M K := h
theorem drf_e {te : dTE} {v : Int} {K : D → Mem → Prop} (h0 : δ[0]? = some (some (.ref k.p))) (ht : ∀ K : D → Mem → Prop, K (.int v) M → te δ M K) (hp : Has k M) (v0 : 0 < v) (v1 : v < 2 ^ 62) (h : ∀ r M', 0 ≤ r → r < v → Dr k M M' → K (.int r) M') :
    dFrz (dCall (S__law_draw ad) EE 2 (dCons (dVar 0) (dCons te dNil))) δ M K :=
  frz_int (dr_e h0 ht hp v0 v1 fun r M' a b d => by simp only [frz]; exact h r M' a b d)
theorem nm_e {i : Nat} {names : List Str} {K : D → Mem → Prop} (h0 : δ[0]? = some (some (.ref k.p))) (h3 : δ[i]? = some (some (.tup (names.map D.str)))) (hp : Has k M) (n0 : 0 < names.length) (n1 : names.length ≤ 12) (h : ∀ x M', x ∈ names → Dr k M M' → K (.str x) M') :
    dOp oIx (dVar i) (dFrz (dCall (S__law_draw ad) EE 2 (dCons (dVar 0) (dCons (dCB cLen (dCons (dVar i) dNil)) dNil)))) δ M K := by
  have hl : ∀ K : D → Mem → Prop, K (.int names.length) M → dCB cLen (dCons (dVar i) dNil) δ M K := fun K hK => by
    simp_arith only [h3, List.length_map]; exact hK
  simp only [dOp]
  refine var0 h3 (drf_e h0 hl hp (by lia) (by lia) fun r M' a b d => ?_)
  obtain ⟨x, hx, ex⟩ := at_name a b
  simp_arith only [ex]
  exact h x M' hx d
theorem ret3 {a b : D} {i j : Nat} {te : dTE} (hi : δ[i]? = some (some a)) (hj : δ[j]? = some (some b)) (h : te δ M fun d M' => 3 ≤ sizeLine ∧ D0.rt (.tup [a, b, d]) M') : dRet (dTup (dCons (dVar i) (dCons (dVar j) (dCons te dNil)))) D0 δ M := by
  simp only [dRet, dTup, dCons, dNil, dVar, hi, hj]
  exact h
theorem ret4 {a b c : D} {i j l : Nat} {te : dTE} (hi : δ[i]? = some (some a)) (hj : δ[j]? = some (some b)) (hl : δ[l]? = some (some c)) (h : te δ M fun d M' => 4 ≤ sizeLine ∧ D0.rt (.tup [a, b, c, d]) M') : dRet (dTup (dCons (dVar i) (dCons (dVar j) (dCons (dVar l) (dCons te dNil))))) D0 δ M := by
  simp only [dRet, dTup, dCons, dNil, dVar, hi, hj, hl]
  exact h
theorem told_go {a : Option D} {names : List Str} {m many : Int} {s : Dl} (h : D0.nx (a :: some (toldD names m many) :: some (.int m) :: some (.tup (names.map D.str)) :: some (.int many) :: s) M) {b c d : Option D} :
    dAsg (dVar 1) (hTup 3 (hCons (hName 2) (hCons (hName 3) (hCons (hName 4) hNil)))) D0 (a :: some (toldD names m many) :: b :: c :: d :: s) M := by
  unfold toldD at h ⊢
  simp_arith only []
  exact h
end
noncomputable def waysL : List Str := ["put", "sum", "by", "less", "same", "sum", "put", "take", "pick"]
noncomputable def WayOk (many : Int) (w : Str) : Prop := w = "put" ∨ (w = "sum" ∨ w = "by" ∨ w = "less" ∨ w = "same") ∨ (0 < many ∧ (w = "take" ∨ w = "pick"))
section
variable {ad : Ad} {EE : DX} {D0 : DEnds} {δ : Dl} {M : Mem} {k : Pt} {many : Int}
theorem ways_go (h : D0.nx (δ.set 5 (some (.lst (waysL.map D.str)))) M) :
    dAsg (dFrz (dLst (dCons (dC (.str "put")) (dCons (dC (.str "sum")) (dCons (dC (.str "by")) (dCons (dC (.str "less")) (dCons (dC (.str "same")) (dCons (dC (.str "sum")) (dCons (dC (.str "put")) (dCons (dC (.str "take")) (dCons (dC (.str "pick")) dNil))))))))))) (hName 5) D0 δ M := by
  simp_arith only []
  refine ⟨szl (by decide), fun p hpn => ?_⟩
  rw [Mem.upd_del, Mem.del_none hpn]
  exact h
theorem way_ok (r : Nat) (h1 : r < if 0 < many then 9 else 7) : ∃ w, atI (waysL.map D.str) (r : Int) = some (.str w) ∧ WayOk many w := by
  rw [atI_nn (by lia), Int.toNat_natCast]
  by_cases hm : 0 < many
  · rw [if_pos hm] at h1
    match r, h1 with
    | 0, _ => exact ⟨_, rfl, .inl rfl⟩
    | 1, _ => exact ⟨_, rfl, .inr (.inl (.inl rfl))⟩
    | 2, _ => exact ⟨_, rfl, .inr (.inl (.inr (.inl rfl)))⟩
    | 3, _ => exact ⟨_, rfl, .inr (.inl (.inr (.inr (.inl rfl))))⟩
    | 4, _ => exact ⟨_, rfl, .inr (.inl (.inr (.inr (.inr rfl))))⟩
    | 5, _ => exact ⟨_, rfl, .inr (.inl (.inl rfl))⟩
    | 6, _ => exact ⟨_, rfl, .inl rfl⟩
    | 7, _ => exact ⟨_, rfl, .inr (.inr ⟨hm, .inl rfl⟩)⟩
    | 8, _ => exact ⟨_, rfl, .inr (.inr ⟨hm, .inr rfl⟩)⟩
  · rw [if_neg hm] at h1
    match r, h1 with
    | 0, _ => exact ⟨_, rfl, .inl rfl⟩
    | 1, _ => exact ⟨_, rfl, .inr (.inl (.inl rfl))⟩
    | 2, _ => exact ⟨_, rfl, .inr (.inl (.inr (.inl rfl)))⟩
    | 3, _ => exact ⟨_, rfl, .inr (.inl (.inr (.inr (.inl rfl))))⟩
    | 4, _ => exact ⟨_, rfl, .inr (.inl (.inr (.inr (.inr rfl))))⟩
    | 5, _ => exact ⟨_, rfl, .inr (.inl (.inl rfl))⟩
    | 6, _ => exact ⟨_, rfl, .inl rfl⟩
theorem way_e {K : D → Mem → Prop} (h0 : δ[0]? = some (some (.ref k.p))) (h4 : δ[4]? = some (some (.int many))) (h5 : δ[5]? = some (some (.lst (waysL.map D.str)))) (hp : Has k M) (h : ∀ w M', WayOk many w → Dr k M M' → K (.str w) M') :
    dOp oIx (dVar 5) (dFrz (dCall (S__law_draw ad) EE 2 (dCons (dVar 0) (dCons (dIf (dTest (dOp oGt (dVar 4) (dC (.int 0)))) (dC (.int 9)) (dC (.int 7))) dNil)))) δ M K := by
  have hl : ∀ K : D → Mem → Prop, K (.int (if 0 < many then 9 else 7)) M → dIf (dTest (dOp oGt (dVar 4) (dC (.int 0)))) (dC (.int 9)) (dC (.int 7)) δ M K := fun K hK => by
    simp_arith only [h4]
    by_cases hm : 0 < many
    · rw [if_pos hm] at hK ⊢; exact hK
    · rw [if_neg hm] at hK ⊢; exact hK
  simp only [dOp]
  refine var0 h5 (drf_e h0 hl hp (by split <;> decide) (by split <;> decide) fun r M' a b d => ?_)
  obtain ⟨r, rfl⟩ := Int.eq_ofNat_of_zero_le a
  obtain ⟨w, ew, hw⟩ := way_ok (many := many) r (by split at b <;> (split <;> lia))
  simp_arith only [ew]
  exact h w M' hw d
end
theorem row_spec {ad : Ad} {M : Mem} {Q : DK} {E : DX} {k : Pt} {names : List Str} {m many : Int} (hp : Has k M) (ht : ToldOk names m many) (h : ∀ (r : Rw) M', RwOk names m many r → Dr k M M' → Q r.d M') : S__law_row ad [.ref k.p, toldD names m many] M Q E := by
  obtain ⟨m2, m1, n0, n1, k0, k1⟩ := ht
  rw [u__law_row (n := 0)]
  unfold T__law_row
  refine seq_go0 (told_go ?_)
  dsimp only
  refine seq_go0 (ways_go ?_)
  dsimp only
  refine seq_go0 (asg0 (way_e rfl rfl rfl hp fun w M1 hw d1 => ?_))
  dsimp only
  refine seq_go0 (asg0 (nm_e rfl rfl d1.1 n0 n1 fun x M2 hx d2 => ?_))
  dsimp only
  refine seq_go0 (ifs_go rfl (fun e => ?_) fun e1 => ?_)
  · subst e
    refine ret3 rfl rfl (dr_e rfl (fun K q => var0 rfl q) d2.1 (by lia) (by lia) fun r M3 a b d3 => ?_)
    exact ⟨szl (by decide), drp_id (h (.put x r) M3 ⟨hx, a, b⟩ (d1.trans (d2.trans d3)))⟩
  dsimp only [dNext]
  refine seq_go0 (ifs_go rfl (fun e => ?_) fun e2 => ?_)
  · subst e
    have hm : 0 < many := by
      rcases hw with e | (e | e | e | e) | e
      · exact (e1 e).elim
      · exact absurd e (by decide +kernel)
      · exact absurd e (by decide +kernel)
      · exact absurd e (by decide +kernel)
      · exact absurd e (by decide +kernel)
      · exact e.1
    refine ret3 rfl rfl (dr_e rfl (fun K q => var0 rfl q) d2.1 (by lia) (by lia) fun r M3 a b d3 => ?_)
    exact ⟨szl (by decide), drp_id (h (.take x r) M3 ⟨hx, a, b⟩ (d1.trans (d2.trans d3)))⟩
  dsimp only [dNext]
  refine seq_go0 (asg0 (nm_e rfl rfl d2.1 n0 n1 fun y M3 hy d3 => ?_))
  dsimp only
  refine seq_go0 (ifs_go rfl (fun e => ?_) fun e3 => ?_)
  · subst e
    have hm : 0 < many := by
      rcases hw with e | (e | e | e | e) | e
      · exact (e1 e).elim
      · exact absurd e (by decide +kernel)
      · exact absurd e (by decide +kernel)
      · exact absurd e (by decide +kernel)
      · exact absurd e (by decide +kernel)
      · exact e.1
    exact ret3 rfl rfl (var0 rfl ⟨szl (by decide), drp_id (h (.pick x y) M3 ⟨hx, hy, hm⟩ (d1.trans (d2.trans d3)))⟩)
  dsimp only [dNext]
  have w4 : w = "sum" ∨ w = "by" ∨ w = "less" ∨ w = "same" := by
    rcases hw with e | e | ⟨_, e | e⟩
    · exact (e1 e).elim
    · exact e
    · exact (e2 e).elim
    · exact (e3 e).elim
  refine ret4 rfl rfl rfl (nm_e rfl rfl d3.1 n0 n1 fun z M4 hz d4 => ?_)
  exact ⟨szl (by decide), drp_id (h (.two w x y z) M4 ⟨w4, hx, hy, hz⟩ (d1.trans (d2.trans (d3.trans d4))))⟩
end Tw

namespace Tw
open PySem L2 L3
mutual
noncomputable def LnR : Rw → Prop
  | .ifr _ a b => (a.length ≤ 200 ∧ LnRs a) ∧ b.length ≤ 200 ∧ LnRs b
  | .again _ a => a.length ≤ 200 ∧ LnRs a
  | _ => True
noncomputable def LnRs : List Rw → Prop
  | [] => True
  | r :: rs => LnR r ∧ LnRs rs
end
theorem LnRs_append : ∀ {a b : List Rw}, LnRs (a ++ b) ↔ LnRs a ∧ LnRs b
  | [], b => by simp [LnRs]
  | r :: a, b => by simp [LnRs, LnRs_append, and_assoc]
noncomputable def Kp (k : Pt) (rm : Addr) (M M' : Mem) : Prop := Has k M' ∧ (∃ v : Int, M' rm = some (.lst [.int v])) ∧ ∀ b o, b ≠ k.p → b ≠ k.q → b ≠ rm → M b = some o → M' b = some o
theorem Kp.trans {k : Pt} {rm : Addr} {M M1 M2 : Mem} (a : Kp k rm M M1) (b : Kp k rm M1 M2) : Kp k rm M M2 := ⟨b.1, b.2.1, fun x o h1 h2 h3 h => b.2.2 x o h1 h2 h3 (a.2.2 x o h1 h2 h3 h)⟩
structure Rm (k : Pt) (rm : Addr) (M : Mem) : Prop where
  h : Has k M
  n1 : rm ≠ k.p
  n2 : rm ≠ k.q
  v : ∃ v : Int, M rm = some (.lst [.int v])
theorem Rm.kp {k : Pt} {rm : Addr} {M : Mem} (r : Rm k rm M) : Kp k rm M M := ⟨r.h, r.v, fun _ _ _ _ _ e => e⟩
theorem Rm.go {k : Pt} {rm : Addr} {M M' : Mem} (r : Rm k rm M) (d : Kp k rm M M') : Rm k rm M' := ⟨d.1, r.n1, r.n2, d.2.1⟩
theorem Rm.dr {k : Pt} {rm : Addr} {M M' : Mem} (r : Rm k rm M) (d : Dr k M M') : Kp k rm M M' := ⟨d.1, by obtain ⟨v, e⟩ := r.v; exact ⟨v, by rw [d.2 rm r.n1 r.n2]; exact e⟩, fun b o h1 h2 _ e => by rw [d.2 b h1 h2]; exact e⟩
theorem Rm.new {k : Pt} {rm : Addr} {M : Mem} (r : Rm k rm M) {l : Addr} (hl : M l = none) (o : MO) : Kp k rm M (M.upd l o) := by
  have a := r.h.nep hl
  obtain ⟨v, e⟩ := r.v
  have b : rm ≠ l := Mem.ne e hl
  exact ⟨r.h.upd a, ⟨v, by rw [Mem.upd_ne b]; exact e⟩, fun c o _ _ _ e => by rw [Mem.upd_ne (Mem.ne e hl)]; exact e⟩
theorem Rm.set {k : Pt} {rm : Addr} {M : Mem} (r : Rm k rm M) (v : Int) : Kp k rm M (M.upd rm (.lst [.int v])) :=
  ⟨r.h.upd ⟨r.n1, r.n2⟩, ⟨v, Mem.upd_same⟩, fun c o _ _ h e => by rw [Mem.upd_ne h]; exact e⟩
section
variable {ad : Ad} {k : Pt} {rm : Addr} {names : List Str} {m many : Int}
noncomputable def PRo (ad : Ad) (k : Pt) (rm : Addr) (names : List Str) (m many : Int) (n : Nat) : Prop := ∀ (deep : Nat) (most : Int) (M : Mem) (Q : DK) (E : DX), deep ≤ 4 → 2 * (4 - deep) + 1 ≤ n → 0 < most → most ≤ 30 → Rm k rm M →
  (∀ (rs : List Rw) (M' : Mem), OkRs names m many rs ∧ LnRs rs → hRs rs + deep ≤ 4 → rs.length ≤ 100 → Kp k rm M M' → Q (.tup (rowsD rs)) M') → S__law_rows ad n [.ref k.p, toldD names m many, .ref rm, .int deep, .int most] M Q E
noncomputable def PBl (ad : Ad) (k : Pt) (rm : Addr) (names : List Str) (m many : Int) (n : Nat) : Prop := ∀ (deep : Nat) (M : Mem) (Q : DK) (E : DX), deep < 4 → 2 * (4 - deep) ≤ n → Rm k rm M →
  (∀ (rs : List Rw) (l : Addr) (M' : Mem), OkRs names m many rs ∧ LnRs rs → hRs rs + deep ≤ 4 → rs.length ≤ 3 → Kp k rm M M' → M' l = none → Q (.ref l) (M'.upd l (.lst (rowsD rs)))) → S__law_block ad n [.ref k.p, toldD names m many, .ref rm, .int deep] M Q E
theorem OkRs_append : ∀ {a b : List Rw}, OkRs names m many (a ++ b) ↔ OkRs names m many a ∧ OkRs names m many b
  | [], b => by simp [OkRs]
  | r :: a, b => by simp [OkRs, OkRs_append, and_assoc]
theorem hRs_append : ∀ {a b : List Rw}, hRs (a ++ b) = max (hRs a) (hRs b)
  | [], b => by simp [hRs]
  | r :: a, b => by simp only [List.cons_append, hRs, hRs_append, Nat.max_assoc]
theorem rowsD_append : ∀ {a b : List Rw}, rowsD (a ++ b) = rowsD a ++ rowsD b
  | [], b => rfl
  | r :: a, b => by simp [rowsD, rowsD_append]
theorem rowsD_len : ∀ {a : List Rw}, (rowsD a).length = a.length
  | [] => rfl
  | r :: a => by simp [rowsD, rowsD_len]
theorem OkR_of {r : Rw} (h : RwOk names m many r) : OkR names m many r := by
  cases r with
  | ifr => exact h.elim
  | again => exact h.elim
  | _ => simpa only [OkR] using h
theorem hR_of {r : Rw} (h : RwOk names m many r) : hR r = 0 := by
  cases r with
  | ifr => exact h.elim
  | again => exact h.elim
  | _ => simp only [hR]
theorem LnR_of {r : Rw} (h : RwOk names m many r) : LnR r := by
  cases r with
  | ifr => exact h.elim
  | again => exact h.elim
  | _ => simp only [LnR]
theorem block_step (ht : ToldOk names m many) {n : Nat} (ih : PRo ad k rm names m many n) : PBl ad k rm names m many (n + 1) := by
  intro deep M Q E hd hn r h
  obtain ⟨m2, m1, n0, n1, k0, k1⟩ := ht
  have dd : (deep : Int) + 1 = ((deep + 1 : Nat) : Int) := by lia
  simp_arith only [u__law_block, T__law_block, toldD, List.length_map]
  refine draw_call r.h (by lia) (by lia) fun r1 M1 a1 b1 d1 => ?_
  have R1 := r.go (r.dr d1)
  obtain ⟨x, hx, ex⟩ := at_name a1 b1
  simp_arith only [ex, dd]
  refine calls_of fun Q' E' hq _ => ih (deep + 1) 5 M1 Q' E' (by lia) (by lia) (by decide) (by decide) R1 fun first M2 o2 h2 l2 d2 => hq _ _ ?_
  have R2 := R1.go d2
  simp_arith only []
  refine draw_call R2.h (by decide) (by decide) fun w M3 a3 b3 d3 => ?_
  have R3 := R2.go (R2.dr d3)
  simp_arith only [dd]
  by_cases hw : w < 2
  · rw [if_pos hw]
    refine calls_of fun Q' E' hq _ => ih (deep + 1) 5 M3 Q' E' (by lia) (by lia) (by decide) (by decide) R3 fun second M4 o4 h4 l4 d4 => hq _ _ ?_
    simp_arith only []
    refine ⟨szl (by decide), szl (by decide), fun l hl => drp_id (h [.ifr x first second] l M4 ?_ ?_ (by simp) ((r.dr d1).trans (d2.trans ((R2.dr d3).trans d4))) hl)⟩
    · simp only [OkRs, OkR, LnRs, LnR]; exact ⟨⟨⟨hx, o2.1, o4.1⟩, trivial⟩, ⟨⟨by lia, o2.2⟩, by lia, o4.2⟩, trivial⟩
    · simp only [hRs, hR]; lia
  · rw [if_neg hw]
    by_cases hw2 : w = 2
    · rw [if_pos hw2]
      refine ⟨szl (by decide), szl (by decide), fun l hl => drp_id (h [.again x first] l M3 ?_ ?_ (by simp) ((r.dr d1).trans (d2.trans (R2.dr d3))) hl)⟩
      · simp only [OkRs, OkR, LnRs, LnR]; exact ⟨⟨⟨hx, o2.1⟩, trivial⟩, ⟨by lia, o2.2⟩, trivial⟩
      · simp only [hRs, hR]; lia
    · rw [if_neg hw2]
      simp only [List.length_map]
      refine draw_call R3.h (by lia) (by lia) fun r4 M4 a4 b4 d4 => ?_
      have R4 := R3.go (R3.dr d4)
      obtain ⟨y, hy, ey⟩ := at_name a4 b4
      simp_arith only [ey]
      refine draw_call R4.h (by split <;> lia) (by split <;> lia) fun r5 M5 a5 b5 d5 => ?_
      have b5' : r5 < m := by split at b5 <;> lia
      simp_arith only []
      refine ⟨szl (by decide), szl (by decide), szl (by decide), szl (by decide), szl (by rw [rowsD_len]; lia), szl (by decide), szl (by decide), fun l hl => drp_id ?_⟩
      have := h [.put x r5, .put y (m - 1), .again x (first ++ [.two "sum" x x y])] l M5 ?_ ?_ (by simp) ((r.dr d1).trans (d2.trans ((R2.dr d3).trans ((R3.dr d4).trans (R4.dr d5))))) hl
      · simp only [rowsD, Rw.d, rowsD_append] at this
        exact this
      · simp only [OkRs, OkR, RwOk, OkRs_append, LnRs, LnR, LnRs_append]
        exact ⟨⟨⟨hx, a5, b5'⟩, ⟨hy, by lia, by lia⟩, ⟨hx, o2.1, ⟨.inl trivial, hx, hx, hy⟩, trivial⟩, trivial⟩, trivial, trivial, ⟨by simp; lia, o2.2, trivial, trivial⟩, trivial⟩
      · simp only [hRs, hR, hRs_append]; lia
theorem room_go {c v : Int} {D0 : DEnds} {δ : Dl} {M : Mem} (h2 : δ[2]? = some (some (.ref rm))) (hv : M rm = some (.lst [.int v])) (h : D0.nx δ (M.upd rm (.lst [.int (v - c)]))) :
    dAsg (dOp oSub (dOp oIx (dVar 2) (dC (.int 0))) (dC (.int c))) (hSub (dVar 2) (dC (.int 0))) D0 δ M := by
  simp_arith only [h2, hv, atL0, ix0]
  exact h
theorem rif_go {EE : DX} {A B : dTS} {D0 : DEnds} {δ : Dl} {M : Mem} {v : Int} {deep : Int} (h0 : δ[0]? = some (some (.ref k.p))) (h2 : δ[2]? = some (some (.ref rm))) (h3 : δ[3]? = some (some (.int deep))) (hp : Has k M) (hv : M rm = some (.lst [.int v]))
    (hA : ∀ M', deep < 4 → Dr k M M' → A D0 δ M') (hB : ∀ M', Dr k M M' → B D0 δ M') :
    dIfS (dAnd (dTest (dOp oGt (dOp oIx (dVar 2) (dC (.int 0))) (dC (.int 4)))) (dAnd (dTest (dOp oLt (dVar 3) (dC (.int 4)))) (dTest (dOp oEq (dFrz (dCall (S__law_draw ad) EE 2 (dCons (dVar 0) (dCons (dC (.int 4)) dNil)))) (dC (.int 0)))))) A B D0 δ M := by
  simp_arith only [h0, h2, h3, hv, atL0]
  by_cases h4 : 4 < v
  · rw [if_pos h4]
    by_cases h5 : deep < 4
    · rw [if_pos h5]
      refine draw_call hp (by decide) (by decide) fun w M2 a2 b2 d2 => ?_
      simp_arith only []
      by_cases h6 : w = 0
      · rw [if_pos h6]; exact hA _ h5 d2
      · rw [if_neg h6]; exact hB _ d2
    · rw [if_neg h5]; exact hB _ hp.refl
  · rw [if_neg h4]; exact hB _ hp.refl
theorem rpos_go {A : dTS} {D0 : DEnds} {δ : Dl} {M : Mem} {v : Int} (h2 : δ[2]? = some (some (.ref rm))) (hv : M rm = some (.lst [.int v])) (hA : A D0 δ M) (hB : D0.nx δ M) :
    dIfS (dTest (dOp oGt (dOp oIx (dVar 2) (dC (.int 0))) (dC (.int 0)))) A dNext D0 δ M := by
  simp_arith only [h2, hv, atL0]
  by_cases h4 : 0 < v
  · rw [if_pos h4]; exact hA
  · rw [if_neg h4]; exact hB
theorem rapp_go {EE : DX} {D0 : DEnds} {δ : Dl} {M : Mem} {l : Addr} {acc : List Rw} (h0 : δ[0]? = some (some (.ref k.p))) (h1 : δ[1]? = some (some (toldD names m many))) (h5 : δ[5]? = some (some (.ref l))) (hp : Has k M) (ht : ToldOk names m many) (n1 : l ≠ k.p) (n2 : l ≠ k.q)
    (hl : M l = some (.lst (rowsD acc))) (ha : acc.length ≤ 1000) (h : ∀ (r : Rw) M', RwOk names m many r → Dr k M M' → D0.nx δ (M'.upd l (.lst (rowsD acc ++ [r.d])))) :
    dDrop (dBM "list" mAppend (dVar 5) (dCons (dFrz (dCall (S__law_row ad) EE 2 (dCons (dVar 0) (dCons (dVar 1) dNil)))) dNil)) D0 δ M := by
  simp_arith only [h0, h1, h5, hl]
  refine calls_of fun Q' E' hq _ => row_spec hp ht fun rw1 M3 ok3 d3 => hq _ _ ?_
  have hl3 : M3 l = some (.lst (rowsD acc)) := by rw [d3.2 l n1 n2]; exact hl
  have fin := h rw1 M3 ok3 d3
  have sz : (rowsD acc).length + 1 ≤ sizeLine := by rw [rowsD_len]; exact szs (by lia)
  cases rw1 with
  | put x kk => simp only [Rw.d] at fin ⊢; simp_arith only [hl3]; exact ⟨sz, fin⟩
  | take x kk => simp only [Rw.d] at fin ⊢; simp_arith only [hl3]; exact ⟨sz, fin⟩
  | pick x kk => simp only [Rw.d] at fin ⊢; simp_arith only [hl3]; exact ⟨sz, fin⟩
  | two w x y z => simp only [Rw.d] at fin ⊢; simp_arith only [hl3]; exact ⟨sz, fin⟩
  | ifr => exact ok3.elim
  | again => exact ok3.elim
theorem rblk_go {n : Nat} (ih : PBl ad k rm names m many n) {EE : DX} {D0 : DEnds} {δ : Dl} {M : Mem} {l : Addr} {acc : List Rw} {deep : Nat} (h0 : δ[0]? = some (some (.ref k.p))) (h1 : δ[1]? = some (some (toldD names m many))) (h2 : δ[2]? = some (some (.ref rm))) (h3 : δ[3]? = some (some (.int deep))) (h5 : δ[5]? = some (some (.ref l)))
    (hd : deep < 4) (hn : 2 * (4 - deep) ≤ n) (R : Rm k rm M) (n1 : l ≠ k.p) (n2 : l ≠ k.q) (n3 : l ≠ rm) (hl : M l = some (.lst (rowsD acc))) (ha : acc.length ≤ 1000)
    (h : ∀ (rs : List Rw) (l3 : Addr) (M' : Mem), OkRs names m many rs ∧ LnRs rs → hRs rs + deep ≤ 4 → rs.length ≤ 3 → Kp k rm M M' → M' l3 = none → D0.nx (δ.set 5 (some (.ref l3))) (M'.upd l3 (.lst (rowsD acc ++ rowsD rs)))) :
    dAsg (dOp oAdd (dVar 5) (dFrz (dCall (S__law_block ad n) EE 4 (dCons (dVar 0) (dCons (dVar 1) (dCons (dVar 2) (dCons (dVar 3) dNil))))))) (hName 5) D0 δ M := by
  simp_arith only [h0, h1, h2, h3, h5]
  refine calls_of fun Q' E' hq _ => ih deep M Q' E' hd hn R fun bl l2 M3 ok3 hh len3 k3 nl3 => hq _ _ ?_
  have hm3 : M3 l = some (.lst (rowsD acc)) := k3.2.2 l _ n1 n2 n3 hl
  simp_arith only [Mem.upd_del, Mem.del_none nl3, hm3]
  exact ⟨by rw [rowsD_len, rowsD_len]; exact szl (by lia), fun l3 hl3 => h bl l3 M3 ok3 hh len3 k3 hl3⟩
structure RInv (k : Pt) (rm : Addr) (names : List Str) (m many : Int) (M : Mem) (deep : Nat) (n j : Nat) (acc : List Rw) (l : Addr) (M' : Mem) : Prop where
  hj : n + j ≤ 30
  ha : acc.length ≤ 3 * j
  ok : OkRs names m many acc
  ln : LnRs acc
  hh : hRs acc + deep ≤ 4
  kp : Kp k rm M M'
  hm : M' l = some (.lst (rowsD acc))
  n1 : l ≠ k.p
  n2 : l ≠ k.q
  n3 : l ≠ rm
  h0 : M l = none
theorem RInv.len {M : Mem} {deep n j : Nat} {acc : List Rw} {l : Addr} {M' : Mem} (I : RInv k rm names m many M deep n j acc l M') : acc.length ≤ 100 := by
  have := I.hj; have := I.ha; lia
theorem rows_draw_step (ht : ToldOk names m many) {n : Nat} (ih : PBl ad k rm names m many n) : PRo ad k rm names m many (n + 1) := by
  intro deep most M Q E hd hn h0 h1 r h
  simp_arith only [u__law_rows, T__law_rows, dFor]
  refine ⟨szl (by decide), fun l hl => ?_⟩
  have R1 := r.go (r.new hl (.lst []))
  refine draw_call R1.h h0 (by lia) fun cnt M1 a1 b1 d1 => ?_
  have nel := r.h.nep hl
  simp_arith only []
  refine ⟨by lia, by lia, ?_⟩
  refine forD_inv (fun xs δ M' => ∃ (j : Nat) (acc : List Rw) (l : Addr) (c6 : Option D), RInv k rm names m many M deep xs.length j acc l M' ∧ δ = [some (.ref k.p), some (toldD names m many), some (.ref rm), some (.int deep), some (.int most), some (.ref l), c6]) (fun _ _ _ _ => ok_nil) ?_ ?_ _ _ _ ⟨0, [], l, none, ⟨?_, by simp, by simp only [OkRs], by simp only [LnRs], by simp only [hRs]; lia, (r.new hl _).trans (R1.dr d1), ?_, nel.1, nel.2, ?_, hl⟩, rfl⟩
  · rintro δ M' ⟨j, acc, l, c6, I, rfl⟩
    simp_arith only [I.hm]
    exact drp_id (h acc M' ⟨I.ok, I.ln⟩ I.hh I.len I.kp)
  · rintro x xs δ M' ⟨j, acc, l, c6, I, rfl⟩ D' hnx _ _ _
    have R := r.go I.kp
    have hj := I.hj
    have ha := I.ha
    simp only [List.length_cons] at hj
    obtain ⟨v, hv⟩ := R.v
    refine rif_go rfl rfl rfl R.h hv (fun M2 h5 d2 => ?_) fun M2 d2 => ?_
    · have k2 := I.kp.trans (R.dr d2)
      have R2 := r.go k2
      refine seq_go0 (room_go rfl (by rw [d2.2 rm r.n1 r.n2]; exact hv) ?_)
      have hs := R2.set (v - 4)
      dsimp only
      refine rblk_go (deep := deep) (acc := acc) ih rfl rfl rfl rfl rfl (by lia) (by lia) (R2.go hs) I.n1 I.n2 I.n3 (by rw [Mem.upd_ne I.n3, d2.2 l I.n1 I.n2]; exact I.hm) (by lia) fun bl l3 M3 ok3 hh3 len3 k3 hl3 => ?_
      have hk3 := (k2.trans hs).trans k3
      have R3 := r.go hk3
      have ne3 := R3.h.nep hl3
      have ner : l3 ≠ rm := by
        obtain ⟨u, eu⟩ := R3.v
        exact fun e => by rw [e, eu] at hl3; cases hl3
      have hM3 : M l3 = none := by
        cases e : M l3 with
        | none => rfl
        | some o => rw [hk3.2.2 l3 o ne3.1 ne3.2 ner e] at hl3; cases hl3
      exact hnx _ _ ⟨j + 1, acc ++ bl, l3, _, ⟨by lia, by rw [List.length_append]; lia, OkRs_append.mpr ⟨I.ok, ok3.1⟩, LnRs_append.mpr ⟨I.ln, ok3.2⟩, by rw [hRs_append]; exact Nat.le_trans (Nat.le_of_eq (Nat.add_max_add_right ..).symm) (Nat.max_le.mpr ⟨I.hh, hh3⟩), hk3.trans (R3.new hl3 _), by rw [Mem.upd_same, rowsD_append], ne3.1, ne3.2, ner, hM3⟩, rfl⟩
    · have k2 := I.kp.trans (R.dr d2)
      have R2 := r.go k2
      have hm2 : M2 l = some (.lst (rowsD acc)) := by rw [d2.2 l I.n1 I.n2]; exact I.hm
      refine rpos_go rfl (by rw [d2.2 rm r.n1 r.n2]; exact hv) ?_ ?_
      · refine seq_go0 (room_go rfl (by rw [d2.2 rm r.n1 r.n2]; exact hv) ?_)
        have hs := R2.set (v - 1)
        dsimp only
        refine rapp_go (acc := acc) rfl rfl rfl hs.1 ht I.n1 I.n2 (by rw [Mem.upd_ne I.n3]; exact hm2) (by lia) fun rw1 M3 ok3 d3 => ?_
        have hk3 := (k2.trans hs).trans ((R2.go hs).dr d3)
        refine hnx _ _ ⟨j + 1, acc ++ [rw1], l, _, ⟨by lia, by rw [List.length_append, List.length_singleton]; lia, OkRs_append.mpr ⟨I.ok, by simp only [OkRs]; exact ⟨OkR_of ok3, trivial⟩⟩, LnRs_append.mpr ⟨I.ln, by simp only [LnRs]; exact ⟨LnR_of ok3, trivial⟩⟩, by rw [hRs_append]; simp only [hRs, hR_of ok3, Nat.max_zero, Nat.max_self]; exact I.hh, ?_, by rw [Mem.upd_same, rowsD_append]; rfl, I.n1, I.n2, I.n3, I.h0⟩, rfl⟩
        refine ⟨hk3.1.upd ⟨I.n1, I.n2⟩, ?_, fun b o h1 h2 h3 e => ?_⟩
        · obtain ⟨u, eu⟩ := hk3.2.1
          exact ⟨u, by rw [Mem.upd_ne (Ne.symm I.n3)]; exact eu⟩
        · rw [Mem.upd_ne (Mem.ne e I.h0)]; exact hk3.2.2 b o h1 h2 h3 e
      · exact hnx _ _ ⟨j, acc, l, _, ⟨by lia, ha, I.ok, I.ln, I.hh, k2, hm2, I.n1, I.n2, I.n3, I.h0⟩, rfl⟩
  · simp [rngD]; lia
  · rw [d1.2 l nel.1 nel.2, Mem.upd_same]; rfl
  · obtain ⟨v, e⟩ := r.v
    exact fun e' => by rw [e', e] at hl; cases hl
theorem all_draws (ht : ToldOk names m many) : ∀ n : Nat, PRo ad k rm names m many n ∧ PBl ad k rm names m many n
  | 0 => ⟨fun deep most M Q E _ h => by lia, fun deep M Q E _ h => by lia⟩
  | n + 1 => ⟨rows_draw_step ht (all_draws ht n).2, block_step ht (all_draws ht n).1⟩
end
end Tw

namespace Tw
open PySem L2 L3
noncomputable def standD (nums pieces : List Int) : D := .tup [.tup (nums.map D.int), .tup (pieces.map D.int)]
end Tw
namespace Tw
open PySem L2 L3
section
variable {ad : Ad} {k : Pt} {M : Mem} {Q : DK} {E : DX}
noncomputable def Kq (k : Pt) (M M' : Mem) : Prop := Has k M' ∧ ∀ b o, b ≠ k.p → b ≠ k.q → M b = some o → M' b = some o
theorem Kq.trans {M1 M2 : Mem} (a : Kq k M M1) (b : Kq k M1 M2) : Kq k M M2 := ⟨b.1, fun x o h1 h2 h => b.2 x o h1 h2 (a.2 x o h1 h2 h)⟩
theorem Dr.kq {M' : Mem} (d : Dr k M M') : Kq k M M' := ⟨d.1, fun b o h1 h2 e => by rw [d.2 b h1 h2]; exact e⟩
structure PlG (m many : Int) (names : List Str) (rows : List Rw) (mk : Str) : Prop where
  t : ToldOk names m many
  nd : names.Nodup
  ok : OkRs names m many rows
  h : hRs rows ≤ 4
  l : rows.length ≤ 100
  ln : LnRs rows
  mkm : mk ∈ names
  one : ∀ x ∈ names, OneC x
noncomputable def plnD (m many : Int) (names : List Str) (rows : List Rw) (mk : Str) : D := .tup [.int m, .tup (names.map D.str), .int many, .tup (rowsD rows), .str mk]
theorem plan_spec {v : Int} (hp : Has k M) (h : ∀ (m many : Int) (names : List Str) (rows : List Rw) (mk : Str) (M' : Mem), PlG m many names rows mk → Kq k M M' → Q (plnD m many names rows mk) M') : S__law_plan ad [.ref k.p, .int v] M Q E := by
  simp_arith only [u__law_plan, T__law_plan]
  refine draw_call hp (by decide) (by decide) fun x1 M1 a1 b1 d1 => ?_
  simp_arith only []
  refine draw_call d1.1 (by decide) (by decide) fun x2 M2 a2 b2 d2 => ?_
  simp_arith only []
  refine ⟨szl (by decide), fun p hpn => ?_⟩
  rw [Mem.upd_del, Mem.del_none hpn]
  refine draw_call d2.1 (by decide) (by decide) fun x3 M3 a3 b3 d3 => ?_
  obtain ⟨m, em, m2, m1⟩ : ∃ m : Int, atI [D.int 2, .int 3, .int (2 + x1), .int (2 + x2)] x3 = some (.int m) ∧ 2 ≤ m ∧ m ≤ 997 := by
    have : x3 = 0 ∨ x3 = 1 ∨ x3 = 2 ∨ x3 = 3 := by lia
    rcases this with rfl | rfl | rfl | rfl
    · exact ⟨2, by simp, by lia, by lia⟩
    · exact ⟨3, by simp, by lia, by lia⟩
    · exact ⟨2 + x1, by simp, by lia, by lia⟩
    · exact ⟨2 + x2, by simp, by lia, by lia⟩
  simp_arith only [em]
  refine ⟨szl (by decide), fun p hpn => ?_⟩
  rw [Mem.upd_del, Mem.del_none hpn]
  refine draw_call d3.1 (by decide) (by decide) fun x4 M4 a4 b4 d4 => ?_
  obtain ⟨w, ew, w2, w1⟩ : ∃ m : Int, atI [D.int 3, .int 5, .int 12] x4 = some (.int m) ∧ 0 < m ∧ m ≤ 12 := by
    have : x4 = 0 ∨ x4 = 1 ∨ x4 = 2 := by lia
    rcases this with rfl | rfl | rfl
    · exact ⟨3, by simp, by lia, by lia⟩
    · exact ⟨5, by simp, by lia, by lia⟩
    · exact ⟨12, by simp, by lia, by lia⟩
  simp_arith only [ew]
  refine draw_call d4.1 w2 (by lia) fun x5 M5 a5 b5 d5 => ?_
  simp_arith only []
  obtain ⟨nn, hnn⟩ : ∃ nn : Nat, (1 : Int) + x5 = nn := ⟨(1 + x5).toNat, by lia⟩
  rw [hnn]
  refine calls_of fun Q' E' hq _ => names_spec d5.1 (by lia) fun names M6 n6 nd6 on6 d6 => hq _ _ ?_
  simp_arith only []
  refine draw_call d6.1 (by decide) (by decide) fun x7 M7 a7 b7 d7 => ?_
  simp_arith only []
  refine draw_call d7.1 (by decide) (by decide) fun x8 M8 a8 b8 d8 => ?_
  simp_arith only []
  refine ⟨szl (by decide), fun p hpn => ?_⟩
  rw [Mem.upd_del, Mem.del_none hpn]
  refine draw_call d8.1 (by decide) (by decide) fun x9 M9 a9 b9 d9 => ?_
  obtain ⟨many, ek, k0, k1⟩ : ∃ m : Int, atI [D.int 0, .int (1 + x7), .int x8] x9 = some (.int m) ∧ 0 ≤ m ∧ m ≤ 40 := by
    have : x9 = 0 ∨ x9 = 1 ∨ x9 = 2 := by lia
    rcases this with rfl | rfl | rfl
    · exact ⟨0, by simp, by lia, by lia⟩
    · exact ⟨1 + x7, by simp, by lia, by lia⟩
    · exact ⟨x8, by simp, by lia, by lia⟩
  simp_arith only [ek]
  refine ⟨szl (by decide), szl (by decide), fun rm hrm => ⟨szl (by decide), fun p hpn => ?_⟩⟩
  rw [Mem.upd_del, Mem.del_none hpn]
  have D9 := d1.trans (d2.trans (d3.trans (d4.trans (d5.trans (d6.trans (d7.trans (d8.trans d9)))))))
  have nrm := d9.1.nep hrm
  have R9 : Rm k rm (M9.upd rm (.lst [.int v])) := ⟨d9.1.upd nrm, nrm.1, nrm.2, v, Mem.upd_same⟩
  refine draw_call R9.h (by decide) (by decide) fun x10 M10 a10 b10 d10 => ?_
  have R10 := R9.go (R9.dr d10)
  obtain ⟨most, eo, o0, o1⟩ : ∃ m : Int, atI [D.int 6, .int 12, .int 30] x10 = some (.int m) ∧ 0 < m ∧ m ≤ 30 := by
    have : x10 = 0 ∨ x10 = 1 ∨ x10 = 2 := by lia
    rcases this with rfl | rfl | rfl
    · exact ⟨6, by simp, by lia, by lia⟩
    · exact ⟨12, by simp, by lia, by lia⟩
    · exact ⟨30, by simp, by lia, by lia⟩
  simp_arith only [eo]
  have ht : ToldOk names m many := ⟨m2, m1, by lia, by lia, k0, k1⟩
  refine calls_of fun Q' E' hq _ => (all_draws ht 24).1 0 most M10 Q' E' (by decide) (by decide) o0 o1 R10 fun rows M11 ok11 h11 l11 k11 => hq _ _ ?_
  simp_arith only [List.length_map]
  refine draw_call k11.1 (by lia) (by lia) fun x12 M12 a12 b12 d12 => ?_
  obtain ⟨mk, hmk, emk⟩ := at_name a12 b12
  simp_arith only [emk]
  refine ⟨szl (by decide), drp_id (h m many names rows mk M12 ⟨ht, nd6, ok11.1, by lia, l11, ok11.2, hmk, on6⟩ ?_)⟩
  refine D9.kq.trans (Kq.trans ?_ d12.kq)
  refine ⟨k11.1, fun b o h1 h2 e => ?_⟩
  have hb : b ≠ rm := Mem.ne e hrm
  have := (R9.dr d10).2.2 b o h1 h2 hb (by rw [Mem.upd_ne hb]; exact e)
  exact k11.2.2 b o h1 h2 hb this
theorem stand_spec {m many : Int} {names : List Str} {rows : List Rw} {mk : Str} (hp : Has k M) (pl : PlG m many names rows mk)
    (h : ∀ (nums pieces : List Int) (M' : Mem), nums.length = names.length → (pieces.length : Int) = many → (∀ v ∈ nums, 0 ≤ v ∧ v < m) → (∀ v ∈ pieces, 0 ≤ v ∧ v < m) → Kq k M M' → Q (standD nums pieces) M') : S__law_stand ad [.ref k.p, plnD m many names rows mk] M Q E := by
  have t1 := pl.t.m1
  have t2 := pl.t.m2
  have t3 := pl.t.n1
  have t4 := pl.t.k0
  have t5 := pl.t.k1
  simp_arith only [u__law_stand, T__law_stand, plnD, dComp, atI_1]
  refine compD_inv (fun xs acc δ M' => ∃ (nums : List Int) (c0 : Option D), xs.length + nums.length = names.length ∧ acc = nums.map D.int ∧ δ = [c0, some (.ref k.p), some (plnD m many names rows mk)] ∧ Dr k M M' ∧ ∀ v ∈ nums, 0 ≤ v ∧ v < m) (fun _ _ _ _ _ => ok_nil) ?_ ?_ ?_ _ _ _ _ ⟨[], none, by simp, rfl, rfl, hp.refl, by simp⟩
  · rintro acc δ M' ⟨nums, c0, e1, rfl, rfl, d1, hv⟩
    intro p hpn
    simp_arith only [Mem.upd_del, Mem.del_none hpn, atI_2]
    refine ⟨by lia, by lia, ?_⟩
    refine compD_inv (fun xs acc δ M' => ∃ (ps : List Int) (c0 : Option D), xs.length + ps.length = many.toNat ∧ acc = ps.map D.int ∧ δ = [c0, some (.ref k.p), some (plnD m many names rows mk)] ∧ Dr k M M' ∧ ∀ v ∈ ps, 0 ≤ v ∧ v < m) (fun _ _ _ _ _ => ok_nil) ?_ ?_ ?_ _ _ _ _ ⟨[], none, by simp [rngD], rfl, rfl, d1, by simp⟩
    · rintro acc δ M' ⟨ps, c0, e2, rfl, rfl, d2, hv2⟩
      intro p hpn
      simp_arith only [Mem.upd_del, Mem.del_none hpn]
      refine ⟨szl (by decide), drp_id (h nums ps M' (by simpa using e1) (by simp at e2; lia) hv hv2 d2.kq)⟩
    · rintro x xs acc δ M' ⟨ps, c0, e2, rfl, rfl, d2, hv2⟩ N hN _
      simp_arith only [plnD, atI_0]
      refine draw_call d2.1 (by lia) (by lia) fun r M3 a3 b3 d3 => ?_
      simp_arith only []
      simp only [List.length_cons] at e2
      refine hN _ _ _ (by simp; exact szs (by lia)) ⟨ps ++ [r], _, by simp; lia, by simp, rfl, d2.trans d3, fun v hv => ?_⟩
      rcases List.mem_append.mp hv with hv | hv
      · exact hv2 v hv
      · simp at hv; subst hv; exact ⟨a3, b3⟩
    · rintro x xs acc δ M' ⟨ps, c0, e2, rfl, rfl, d2, hv2⟩
      simp at e2 ⊢
      exact szs (by lia)
  · rintro x xs acc δ M' ⟨ps, c0, e2, rfl, rfl, d2, hv2⟩ N hN _
    simp_arith only [plnD, atI_0]
    refine draw_call d2.1 (by lia) (by lia) fun r M3 a3 b3 d3 => ?_
    simp_arith only []
    simp only [List.length_cons] at e2
    refine hN _ _ _ (by simp; exact szs (by lia)) ⟨ps ++ [r], _, by simp; lia, by simp, rfl, d2.trans d3, fun v hv => ?_⟩
    rcases List.mem_append.mp hv with hv | hv
    · exact hv2 v hv
    · simp at hv; subst hv; exact ⟨a3, b3⟩
  · rintro x xs acc δ M' ⟨ps, c0, e2, rfl, rfl, d2, hv2⟩
    simp at e2 ⊢
    exact szs (by lia)
end
end Tw

namespace Tw
open PySem L2 L3
noncomputable def okv : Nat → D → Prop
  | _, .non => True
  | _, .bl _ => True
  | _, .int _ => True
  | _, .str _ => True
  | n + 1, .tup xs => xs.length ≤ 100000 ∧ ∀ x ∈ xs, okv n x
  | n + 1, .lst xs => xs.length ≤ 100000 ∧ ∀ x ∈ xs, okv n x
  | _, _ => False
theorem bools_true : ∀ n : Nat, bools (List.replicate n (.bl true)) = some (List.replicate n true)
  | 0 => rfl
  | n + 1 => by rw [List.replicate_succ, bools, bools_true n]; rfl
theorem all_true {n : Nat} : (List.replicate n true).all id = true := by simp
theorem i1 : isInst "tuple" "bool" = false := by decide +kernel
theorem i2 : isInst "tuple" "int" = false := by decide +kernel
theorem i3 : isInst "tuple" "str" = false := by decide +kernel
theorem i4 : isInst "tuple" "tuple" = true := by decide +kernel
theorem i5 : isInst "tuple" "list" = false := by decide +kernel
theorem i6 : isInst "list" "bool" = false := by decide +kernel
theorem i7 : isInst "list" "int" = false := by decide +kernel
theorem i8 : isInst "list" "str" = false := by decide +kernel
theorem i9 : isInst "list" "tuple" = false := by decide +kernel
theorem i10 : isInst "list" "list" = true := by decide +kernel
theorem i11 : isInst "bool" "bool" = true := by decide +kernel
theorem i12 : isInst "int" "bool" = false := by decide +kernel
theorem i13 : isInst "int" "int" = true := by decide +kernel
theorem i14 : isInst "str" "bool" = false := by decide +kernel
theorem i15 : isInst "str" "int" = false := by decide +kernel
theorem i16 : isInst "str" "str" = true := by decide +kernel
theorem t1 : tyOk "bool" = true := by decide +kernel
theorem t2 : tyOk "int" = true := by decide +kernel
theorem t3 : tyOk "str" = true := by decide +kernel
theorem t4 : tyOk "tuple" = true := by decide +kernel
theorem t5 : tyOk "list" = true := by decide +kernel
theorem zip_self : ∀ xs : List D, zipD xs xs = xs.map (fun z => D.tup [z, z])
  | [] => rfl
  | x :: xs => by
    have := zip_self xs
    simp only [zipD] at this ⊢
    simp [this]
theorem alike_spec {ad : Ad} : ∀ (n : Nat) (x : D) (M : Mem) (Q : DK) (E : DX), okv n x → Q (.bl true) M → S__law_alike ad (n + 1) [x, x] M Q E
  | n, x, M, Q, E, hx, h => by
    cases x with
    | non => simp_arith only [u__law_alike, T__law_alike]; exact drp_id h
    | bl b => simp_arith only [u__law_alike, T__law_alike, i11, t1, beq_self_eq_true]; exact drp_id h
    | int i => simp_arith only [u__law_alike, T__law_alike, i12, i13, t1, t2]; exact drp_id h
    | str i => simp_arith only [u__law_alike, T__law_alike, i14, i15, i16, t1, t2, t3]; exact drp_id h
    | tup xs =>
      cases n with
      | zero => exact hx.elim
      | succ n =>
        obtain ⟨hl, hx⟩ := hx
        simp_arith only [u__law_alike, T__law_alike, i1, i2, i3, i4, i5, t1, t2, t3, t4, t5, dComp]
        rw [if_neg (by decide), if_neg (by decide), if_neg (by decide)]
        refine compD_inv (fun ys acc δ M' => ∃ (zs : List D) (j : Nat) (c0 c1 : Option D), ys = zs.map (fun z => D.tup [z, z]) ∧ (∀ z ∈ zs, okv n z) ∧ zs.length + j ≤ 100000 ∧ acc = List.replicate j (.bl true) ∧ δ = [c0, c1] ∧ M' = M) (fun _ _ _ _ _ => ok_nil) ?_ ?_ ?_ _ _ _ _ ⟨xs, 0, none, none, zip_self xs, hx, by omega, rfl, rfl, rfl⟩
        · rintro acc δ M' ⟨zs, j, c0, c1, e1, e2, e3, rfl, rfl, rfl⟩ p hpn
          simp_arith only [Mem.upd_del, Mem.del_none hpn, bools_true, all_true]
          exact drp_id h
        · rintro y ys acc δ M' ⟨zs, j, c0, c1, e1, e2, e3, rfl, rfl, rfl⟩ N hN _
          cases zs with
          | nil => simp at e1
          | cons z zs =>
            simp only [List.map_cons, List.cons.injEq] at e1
            obtain ⟨rfl, rfl⟩ := e1
            simp only [List.length_cons] at e3
            simp_arith only []
            refine calls_ro (d := .bl true) (fun Q' E' q => alike_spec n z M' Q' E' (e2 z (List.mem_cons_self ..)) q) ?_
            simp_arith only []
            exact hN _ _ _ (by simp; exact szs (by omega)) ⟨zs, j + 1, _, _, rfl, fun w hw => e2 w (List.mem_cons_of_mem _ hw), by omega, by rw [List.replicate_succ'], rfl, rfl⟩
        · rintro y ys acc δ M' ⟨zs, j, c0, c1, e1, e2, e3, rfl, rfl, rfl⟩
          simp
          exact szs (by omega)
    | lst xs =>
      cases n with
      | zero => exact hx.elim
      | succ n =>
        obtain ⟨hl, hx⟩ := hx
        simp_arith only [u__law_alike, T__law_alike, i6, i7, i8, i9, i10, t1, t2, t3, t4, t5, dComp]
        rw [if_neg (by decide), if_neg (by decide), if_neg (by decide)]
        refine compD_inv (fun ys acc δ M' => ∃ (zs : List D) (j : Nat) (c0 c1 : Option D), ys = zs.map (fun z => D.tup [z, z]) ∧ (∀ z ∈ zs, okv n z) ∧ zs.length + j ≤ 100000 ∧ acc = List.replicate j (.bl true) ∧ δ = [c0, c1] ∧ M' = M) (fun _ _ _ _ _ => ok_nil) ?_ ?_ ?_ _ _ _ _ ⟨xs, 0, none, none, zip_self xs, hx, by omega, rfl, rfl, rfl⟩
        · rintro acc δ M' ⟨zs, j, c0, c1, e1, e2, e3, rfl, rfl, rfl⟩ p hpn
          simp_arith only [Mem.upd_del, Mem.del_none hpn, bools_true, all_true]
          exact drp_id h
        · rintro y ys acc δ M' ⟨zs, j, c0, c1, e1, e2, e3, rfl, rfl, rfl⟩ N hN _
          cases zs with
          | nil => simp at e1
          | cons z zs =>
            simp only [List.map_cons, List.cons.injEq] at e1
            obtain ⟨rfl, rfl⟩ := e1
            simp only [List.length_cons] at e3
            simp_arith only []
            refine calls_ro (d := .bl true) (fun Q' E' q => alike_spec n z M' Q' E' (e2 z (List.mem_cons_self ..)) q) ?_
            simp_arith only []
            exact hN _ _ _ (by simp; exact szs (by omega)) ⟨zs, j + 1, _, _, rfl, fun w hw => e2 w (List.mem_cons_of_mem _ hw), by omega, by rw [List.replicate_succ'], rfl, rfl⟩
        · rintro y ys acc δ M' ⟨zs, j, c0, c1, e1, e2, e3, rfl, rfl, rfl⟩
          simp
          exact szs (by omega)
    | _ => cases n <;> exact hx.elim
end Tw

namespace Tw
open PySem L2 L3
section
variable {ad : Ad} {c : Cf} {names : List Str} {rows : List Rw} {mk : Str} {M : Mem} {nums : List Int}
end
section
variable {ad : Ad} {M : Mem} {Q : DK} {EE : DX} {b : BxQ EE Q} {k : Pt}
theorem pot_call {ns : List Int} (h : ∀ (k : Pt) M', Has k M' → (∀ b, b ≠ k.p → b ≠ k.q → M' b = M b) → Q (.ref k.p) M') : calls (S__law_pot ad) EE [.ml (ns.map D.int)] M Q b :=
  calls_of fun Q' E' hq _ => pot_spec fun k M1 h1 h2 => hq _ _ (h k M1 h1 h2)
theorem plan_call {v : Int} (hp : Has k M) (h : ∀ (m many : Int) (names : List Str) (rows : List Rw) (mk : Str) (M' : Mem), PlG m many names rows mk → Kq k M M' → Q (plnD m many names rows mk) M') : calls (S__law_plan ad) EE [.ref k.p, .int v] M Q b :=
  calls_of fun Q' E' hq _ => plan_spec hp fun m many names rows mk M2 pl k2 => hq _ _ (h m many names rows mk M2 pl k2)
theorem stand_call {m many : Int} {names : List Str} {rows : List Rw} {mk : Str} (hp : Has k M) (pl : PlG m many names rows mk)
    (h : ∀ (nums pieces : List Int) (M' : Mem), nums.length = names.length → (pieces.length : Int) = many → (∀ v ∈ nums, 0 ≤ v ∧ v < m) → (∀ v ∈ pieces, 0 ≤ v ∧ v < m) → Kq k M M' → Q (standD nums pieces) M') : calls (S__law_stand ad) EE [.ref k.p, plnD m many names rows mk] M Q b :=
  calls_of fun Q' E' hq _ => stand_spec hp pl fun nums pieces M3 ln lp rn rp k3 => hq _ _ (h nums pieces M3 ln lp rn rp k3)
theorem alike_call {n : Nat} {x y : D} (e : x = y) (hx : okv n x) (h : Q (.bl true) M) : calls (S__law_alike ad (n + 1)) EE [x, y] M Q b := by
  subst e
  exact calls_ro (fun Q' E' q => alike_spec n x M Q' E' hx q) h
end
end Tw


namespace Tw
open PySem L2 L3
noncomputable def SP : Str := " "
noncomputable def cat : List (List Nat) → List Nat
  | [] => []
  | [w] => w
  | w :: v :: r => w ++ 32 :: cat (v :: r)
theorem first_cut : ∀ (a b : List Nat) {x y : List Nat}, 32 ∉ a → 32 ∉ b → a ++ 32 :: x = b ++ 32 :: y → a = b ∧ x = y
  | [], [], _, _, _, _, h => by simpa using h
  | [], c :: b, _, _, _, hb, h => by simp at h; exact absurd (by simp [← h.1]) hb
  | c :: a, [], _, _, ha, _, h => by simp at h; exact absurd (by simp [h.1]) ha
  | c :: a, d :: b, _, _, ha, hb, h => by
    simp only [List.cons_append, List.cons.injEq] at h
    obtain ⟨rfl, h⟩ := h
    obtain ⟨e, f⟩ := first_cut a b (fun z => ha (List.mem_cons_of_mem _ z)) (fun z => hb (List.mem_cons_of_mem _ z)) h
    exact ⟨by rw [e], f⟩
theorem cat_inj : ∀ (a b : List (List Nat)), a ≠ [] → b ≠ [] → (∀ w ∈ a, 32 ∉ w) → (∀ w ∈ b, 32 ∉ w) → cat a = cat b → a = b
  | [], _, h, _, _, _, _ => absurd rfl h
  | _, [], _, h, _, _, _ => absurd rfl h
  | [w], [v], _, _, _, _, h => by simp only [cat] at h; rw [h]
  | [w], v :: u :: r, _, _, ha, _, h => by
    simp only [cat] at h
    exact absurd (by rw [h]; simp) (ha w (by simp))
  | w :: u :: r, [v], _, _, _, hb, h => by
    simp only [cat] at h
    exact absurd (by rw [← h]; simp) (hb v (by simp))
  | w :: u :: r, v :: t :: q, _, _, ha, hb, h => by
    simp only [cat] at h
    obtain ⟨e, f⟩ := first_cut w v (ha w (by simp)) (hb v (by simp)) h
    have := cat_inj (u :: r) (t :: q) (by simp) (by simp) (fun x hx => ha x (List.mem_cons_of_mem _ hx)) (fun x hx => hb x (List.mem_cons_of_mem _ hx)) f
    rw [e, this]
theorem join_cat : ∀ ws : List Str, (PySem.Str.join SP ws).cps.toList = cat (ws.map (·.cps.toList))
  | [] => by unfold Str.join; rfl
  | [w] => by unfold Str.join; rfl
  | w :: v :: r => by
    have ih := join_cat (v :: r)
    unfold Str.join
    have e : SP.cps.toList = [32] := by decide
    have : (w ++ SP ++ Str.join SP (v :: r)).cps.toList = w.cps.toList ++ SP.cps.toList ++ (Str.join SP (v :: r)).cps.toList := by
      show (w.cps ++ SP.cps ++ (Str.join SP (v :: r)).cps).toList = _
      simp
    rw [this, ih, e]
    simp [cat]
theorem split_join {ws : List Str} (h : ws ≠ []) (hf : ∀ w ∈ ws, 32 ∉ w.cps.toList) : PySem.Txt.split (PySem.Txt.join SP ws) SP = ws := by
  have e1 : PySem.Txt.join SP ws = Str.join SP ws := StrLaws.glued_eq_join SP ws
  rw [e1]
  have hs : SP = ⟨#[32]⟩ := by decide
  have e2 : Str.join SP (PySem.Txt.split (Str.join SP ws) SP) = Str.join SP ws := StrLaws.join_split _ _
  have e3 := congrArg (fun s : Str => s.cps.toList) e2
  simp only [join_cat] at e3
  have hne : PySem.Txt.split (Str.join SP ws) SP ≠ [] := by
    intro z
    have := PyProof.Rows.split_pos (Str.join SP ws) SP
    rw [z] at this
    exact absurd this (by decide)
  have e4 := cat_inj _ _ (by simpa using hne) (by simpa using h) (fun w hw => by
    obtain ⟨p, hp, rfl⟩ := List.mem_map.mp hw
    rw [hs] at hp
    exact StrLaws.split_free _ _ p hp) (fun w hw => by
    obtain ⟨p, hp, rfl⟩ := List.mem_map.mp hw
    exact hf p hp) e3
  have inj : ∀ (a b : List Str), a.map (·.cps.toList) = b.map (·.cps.toList) → a = b := by
    intro a
    induction a with
    | nil => intro b h; cases b with
      | nil => rfl
      | cons _ _ => cases h
    | cons x a ih => intro b h; cases b with
      | nil => cases h
      | cons y b =>
        simp only [List.map_cons, List.cons.injEq] at h
        rw [ih b h.2]
        have : x = y := by
          cases x; cases y
          simp only [Str.mk.injEq]
          exact Array.toList_inj.mp h.1
        rw [this]
  exact inj _ _ e4
end Tw

namespace Tw
open PySem L2 L3 PySem.NumText
noncomputable def sg (w : Str) : List Nat := w.cps.toList
theorem sg_inj {a b : Str} (h : sg a = sg b) : a = b := by
  cases a; cases b
  simp only [Str.mk.injEq]
  exact Array.toList_inj.mp h
theorem sg_len (w : Str) : (sg w).length = w.length := Array.length_toList
theorem sg_itx (n : Nat) : sg (itx (n : Int)) = (Nat.toDigits 10 n).map Char.toNat := PySem.W.KIN.signs_num n
theorem rev_ind {P : List Nat → Prop} (h0 : P []) (h1 : ∀ l c, P l → P (l ++ [c])) : ∀ l, P l := fun l => by
  have : ∀ r : List Nat, P r.reverse := fun r => by
    induction r with
    | nil => simpa using h0
    | cons c r ih => rw [List.reverse_cons]; exact h1 _ _ ih
  have := this l.reverse
  rwa [List.reverse_reverse] at this
noncomputable def Can (cs : List Nat) : Prop := cs = [48] ∨ cs.head? ≠ some 48
theorem dval_lt : ∀ (cs : List Nat), AllDigits cs → digitsVal cs < 10 ^ cs.length := by
  refine rev_ind (fun _ => by decide) fun cs c ih h => ?_
  rw [digitsVal_snoc]
  have h1 := ih fun d hd => h d (by simp [hd])
  have h2 := h c (by simp)
  simp only [List.length_append, List.length_cons, List.length_nil, Nat.pow_add, Nat.zero_add, Nat.pow_one]
  lia
theorem dval_ge : ∀ (cs : List Nat), AllDigits cs → cs ≠ [] → cs.head? ≠ some 48 → 10 ^ (cs.length - 1) ≤ digitsVal cs := by
  refine rev_ind (fun _ h => absurd rfl h) fun cs c ih h _ hh => ?_
  rw [digitsVal_snoc]
  have h2 := h c (by simp)
  by_cases hz : cs = []
  · subst hz
    have : c ≠ 48 := fun e => hh (by simp [e])
    show 1 ≤ 0 * 10 + (c - 48)
    lia
  · have h1 := ih (fun d hd => h d (by simp [hd])) hz (by
      cases cs with
      | nil => exact absurd rfl hz
      | cons a r => simpa using hh)
    have hl : 0 < cs.length := by cases cs with
      | nil => exact absurd rfl hz
      | cons _ _ => simp
    have e : (cs ++ [c]).length - 1 = (cs.length - 1) + 1 := by simp; lia
    rw [e, Nat.pow_succ]
    lia
theorem can_back : ∀ (cs : List Nat), AllDigits cs → cs ≠ [] → Can cs → (Nat.toDigits 10 (digitsVal cs)).map Char.toNat = cs := by
  refine rev_ind (fun _ h => absurd rfl h) fun cs c ih hd _ hc => ?_
  · have hcd := hd c (by simp)
    have hch : ∀ d : Nat, d < 10 → (Nat.digitChar d).toNat = d + 48 := by decide
    rw [digitsVal_snoc]
    by_cases hz : cs = []
    · subst hz
      show (Nat.toDigits 10 (0 * 10 + (c - 48))).map Char.toNat = [c]
      rw [Nat.toDigits_of_lt_base (by lia)]
      simp only [List.map_cons, List.map_nil, Nat.zero_mul, Nat.zero_add]
      rw [hch _ (by lia)]
      congr 1
      lia
    · have hcs : AllDigits cs := fun d h => hd d (by simp [h])
      have hcan : Can cs := by
        right
        rcases hc with h | h
        · exfalso
          cases cs with
          | nil => exact hz rfl
          | cons a r => simp at h
        · cases cs with
          | nil => exact absurd rfl hz
          | cons a r => simpa using h
      have e := ih hcs hz hcan
      have hpos : 0 < digitsVal cs := by
        cases h0 : digitsVal cs with
        | succ n => lia
        | zero =>
          rw [h0] at e
          have e' : cs = [48] := by rw [← e]; decide
          subst e'
          rcases hc with h | h
          · simp at h
          · exact absurd rfl h
      have t : Nat.toDigits 10 (digitsVal cs) ++ Nat.toDigits 10 (c - 48) = Nat.toDigits 10 (10 * digitsVal cs + (c - 48)) := Nat.toDigits_append_toDigits (by decide) hpos (by lia)
      rw [Nat.mul_comm (digitsVal cs) 10, ← t, List.map_append, e, Nat.toDigits_of_lt_base (by lia)]
      simp only [List.map_cons, List.map_nil]
      rw [hch _ (by lia)]
      congr 2
      lia
theorem head_pos : ∀ n : Nat, 0 < n → ((Nat.toDigits 10 n).map Char.toNat).head? ≠ some 48 := by
  intro n
  induction n using Nat.strongRecOn with
  | _ n ih =>
    intro hn
    have hch : ∀ d : Nat, d < 10 → (Nat.digitChar d).toNat = d + 48 := by decide
    by_cases h : n < 10
    · rw [Nat.toDigits_of_lt_base h]
      simp only [List.map_cons, List.head?_cons, ne_eq, Option.some.injEq]
      rw [hch n h]
      lia
    · have t : Nat.toDigits 10 (n / 10) ++ Nat.toDigits 10 (n % 10) = Nat.toDigits 10 (10 * (n / 10) + n % 10) := Nat.toDigits_append_toDigits (by decide) (by lia) (Nat.mod_lt n (by decide))
      rw [Nat.div_add_mod] at t
      have i := ih (n / 10) (by lia) (by lia)
      rw [← t, List.map_append]
      cases e : (Nat.toDigits 10 (n / 10)).map Char.toNat with
      | nil =>
        have := congrArg List.length e
        have h1 := PySem.W.KIN.val_back (n / 10)
        rw [e] at h1
        have : n / 10 = 0 := h1.symm
        lia
      | cons a r => rw [e] at i; simpa using i
theorem back_can (n : Nat) : Can ((Nat.toDigits 10 n).map Char.toNat) := by
  by_cases h : n = 0
  · subst h; left; decide
  · exact .inr (head_pos n (by lia))
theorem digs_all (n : Nat) : AllDigits ((Nat.toDigits 10 n).map Char.toNat) := by
  intro c hc
  obtain ⟨ch, hch, e⟩ := List.mem_map.mp hc
  have r := Nat.isDigit_of_mem_toDigits (b := 10) (by decide) (by decide) hch
  subst e
  simp only [Char.isDigit, Bool.and_eq_true, decide_eq_true_eq] at r
  exact ⟨r.1, r.2⟩
theorem digs_ne (n : Nat) : (Nat.toDigits 10 n).map Char.toNat ≠ [] := by
  intro e
  have h1 := PySem.W.KIN.val_back n
  rw [e] at h1
  have h2 : n = 0 := h1.symm
  subst h2
  exact absurd e (by decide)
noncomputable def wv (m : Nat) (w : Str) : Option Nat := open Classical in if AllDigits (sg w) ∧ sg w ≠ [] ∧ Can (sg w) ∧ digitsVal (sg w) < m then some (digitsVal (sg w)) else none
theorem wv_itx {m n : Nat} (h : n < m) : wv m (itx (n : Int)) = some n := by
  unfold wv
  rw [sg_itx]
  rw [if_pos ⟨digs_all n, digs_ne n, back_can n, by rw [PySem.W.KIN.val_back]; exact h⟩, PySem.W.KIN.val_back]
theorem long_more {m : Nat} {w : Str} (hd : AllDigits (sg w)) (hn : sg w ≠ []) (hc : Can (sg w)) (hl : (itx (m : Int)).length < w.length) : m < digitsVal (sg w) := by
  rw [← sg_len, ← sg_len, sg_itx] at hl
  have h1 : m < 10 ^ ((Nat.toDigits 10 m).map Char.toNat).length := by
    have := dval_lt _ (digs_all m)
    rwa [PySem.W.KIN.val_back] at this
  have hp : 0 < ((Nat.toDigits 10 m).map Char.toNat).length := List.length_pos_iff.mpr (digs_ne m)
  rcases hc with h | h
  · rw [h] at hl
    simp only [List.length_cons, List.length_nil] at hl
    lia
  · have h2 := dval_ge _ hd hn h
    exact Nat.lt_of_lt_of_le h1 (Nat.le_trans (Nat.pow_le_pow_right (by decide) (by lia)) h2)
theorem own_text {w : Str} (hd : AllDigits (sg w)) (hn : sg w ≠ []) : itx ((digitsVal (sg w) : Nat) : Int) = w ↔ Can (sg w) := by
  constructor
  · intro e
    have := back_can (digitsVal (sg w))
    rw [← sg_itx, e] at this
    exact this
  · intro h
    apply sg_inj
    rw [sg_itx]
    exact can_back _ hd hn h
end Tw

namespace Tw
open PySem L2 L3 LS PySem.NumText
noncomputable def Wd (w : Str) : Prop := w.length ≤ 6 ∧ ∀ c ∈ sg w, c < 128 ∧ c ≠ 32
noncomputable def dg (c : Nat) : Bool := decide (48 ≤ c) && decide (c ≤ 57)
noncomputable def figB (w : Str) : Bool := !(sg w == []) && (sg w).all dg && (sg w == [48] || !((sg w).head? == some 48))
theorem Wd.ascii {x : Str} (h : Wd x) : x.cps.all (· < 128) = true := by
  rw [← Array.all_toList, List.all_eq_true]
  intro c hc
  have := h.2 c hc
  simp; lia
theorem sgn_lo {c : Nat} : (!decide (([c] : List Nat) < (Str.ofString "0").cps.toList)) = decide (48 ≤ c) := by
  have e : (Str.ofString "0").cps.toList = [48] := by decide +kernel
  rw [e]
  by_cases h : 48 ≤ c
  · rw [decide_eq_true h, Bool.not_eq_true', decide_eq_false_iff_not]
    intro z
    rcases (List.cons_lt_cons_iff).mp z with y | ⟨_, y⟩
    · lia
    · exact absurd y (by simp)
  · rw [decide_eq_false h, Bool.not_eq_false', decide_eq_true_iff]
    exact List.cons_lt_cons_iff.mpr (.inl (by lia))
theorem sgn_hi {c : Nat} : (!decide ((Str.ofString "9").cps.toList < ([c] : List Nat))) = decide (c ≤ 57) := by
  have e : (Str.ofString "9").cps.toList = [57] := by decide +kernel
  rw [e]
  by_cases h : c ≤ 57
  · rw [decide_eq_true h, Bool.not_eq_true', decide_eq_false_iff_not]
    intro z
    rcases (List.cons_lt_cons_iff).mp z with y | ⟨_, y⟩
    · lia
    · exact absurd y (by simp)
  · rw [decide_eq_false h, Bool.not_eq_false', decide_eq_true_iff]
    exact List.cons_lt_cons_iff.mpr (.inl (by lia))
theorem bools_map (f : Nat → Bool) : ∀ l : List Nat, bools (l.map fun c => D.bl (f c)) = some (l.map f)
  | [] => rfl
  | c :: l => by simp only [List.map_cons, bools, bools_map f l]
theorem all_id (f : Nat → Bool) (l : List Nat) : (l.map f).all id = l.all f := by rw [List.all_map]; rfl
theorem fig_iff {w : Str} : figB w = true ↔ AllDigits (sg w) ∧ sg w ≠ [] ∧ Can (sg w) := by
  unfold figB Can
  rw [Bool.and_eq_true, Bool.and_eq_true, List.all_eq_true]
  simp only [Bool.not_eq_true', beq_eq_false_iff_ne, ne_eq, Bool.or_eq_true, beq_iff_eq, dg, Bool.and_eq_true, decide_eq_true_iff]
  constructor
  · rintro ⟨⟨a, b⟩, c⟩; exact ⟨b, a, c⟩
  · rintro ⟨b, a, c⟩; exact ⟨⟨a, b⟩, c⟩
section
variable {ad : Ad} {M : Mem} {Q : DK} {E : DX}
theorem figures_spec {w : Str} (hw : Wd w) (h : Q (.bl (figB w)) M) : S_are_figures ad [.str w] M Q E := by
  simp_arith only [u_are_figures, T_are_figures, ↓dComp]
  by_cases h0 : w = Str.ofString ""
  · rw [if_pos h0]
    have e : sg w = [] := by rw [h0]; decide +kernel
    have ef : figB w = false := by unfold figB; rw [e]; rfl
    rw [ef] at h
    exact drp_id h
  rw [if_neg h0]
  have hne : sg w ≠ [] := fun e => h0 (sg_inj (by rw [e]; decide +kernel))
  refine ⟨hw.ascii, ?_⟩
  have hxl : (sg w).length ≤ 6 := by rw [sg_len]; exact hw.1
  refine compD_inv (fun ys acc δ M' => ∃ (vs zs : List Nat) (c0 : Option D), sg w = vs ++ zs ∧ ys = zs.map (fun c => D.str ⟨#[c]⟩) ∧ acc = vs.map (fun c => D.bl (dg c)) ∧ δ = [c0] ∧ M' = M) (fun _ _ _ _ _ => ok_nil) ?_ ?_ ?_ _ _ _ _ ⟨[], sg w, none, rfl, rfl, rfl, rfl, rfl⟩
  · rintro acc δ M' ⟨vs, zs, c0, e1, e2, rfl, rfl, rfl⟩ p hpn
    have ez : zs = [] := by simpa using e2.symm
    subst ez
    rw [List.append_nil] at e1
    subst e1
    simp_arith only [Mem.upd_del, Mem.del_none hpn, bools_map, all_id]
    cases ha : (sg w).all dg with
    | false =>
      have ef : figB w = false := by unfold figB; rw [ha]; simp
      rw [ef] at h
      simp only [Bool.not_false, if_true]
      exact drp_id h
    | true =>
      simp only [Bool.not_true, Bool.false_eq_true, if_false]
      by_cases h1 : w = Str.ofString "0"
      · have ef : figB w = true := by rw [h1]; decide +kernel
        rw [ef] at h
        simp only [h1, if_true, decide_true]
        exact drp_id h
      · have hne1 : sg w ≠ [48] := fun e => h1 (sg_inj (by rw [e]; decide +kernel))
        rw [decide_eq_false h1]
        obtain ⟨a, r, ea⟩ : ∃ a r, sg w = a :: r := by
          cases e : sg w with
          | nil => exact absurd e hne
          | cons a r => exact ⟨a, r, rfl⟩
        have ew : w.cps.toList = a :: r := ea
        refine ⟨szl (Nat.le_trans hw.1 (by decide)), ?_⟩
        rw [ew, atI_0]
        have e0 : sg (Str.ofString "0") = [48] := by decide +kernel
        have ef : figB w = !decide ((⟨#[a]⟩ : Str) = Str.ofString "0") := by
          unfold figB
          rw [ha, ea]
          by_cases h48 : a = 48
          · subst h48
            have : r ≠ [] := fun z => hne1 (by rw [ea, z])
            rw [decide_eq_true (sg_inj (by rw [e0]; rfl))]
            simp [this]
          · rw [decide_eq_false (fun z => h48 (by have := congrArg sg z; rw [e0] at this; simpa [sg] using this))]
            simp [h48]
        rw [ef] at h
        exact drp_id h
  · rintro y ys acc δ M' ⟨vs, zs, c0, e1, e2, rfl, rfl, rfl⟩ N hN _
    cases zs with
    | nil => simp at e2
    | cons z zs =>
      simp only [List.map_cons, List.cons.injEq] at e2
      obtain ⟨rfl, rfl⟩ := e2
      have hl := congrArg List.length e1
      simp only [List.length_append, List.length_cons] at hl
      simp_arith only [sgn_lo, sgn_hi]
      have go := hN (D.bl (dg z)) [some (D.str ⟨#[z]⟩)] M' (by simp; exact szs (by lia)) ⟨vs ++ [z], zs, some (D.str ⟨#[z]⟩), by rw [e1]; simp, rfl, by simp, rfl, rfl⟩
      by_cases hz : 48 ≤ z
      · rw [decide_eq_true hz]
        have e : dg z = decide (z ≤ 57) := by unfold dg; rw [decide_eq_true hz, Bool.true_and]
        rw [e] at go
        exact go
      · rw [decide_eq_false hz]
        have e : dg z = false := by unfold dg; rw [decide_eq_false hz, Bool.false_and]
        rw [e] at go
        exact go
  · rintro y ys acc δ M' ⟨vs, zs, c0, e1, e2, rfl, rfl, rfl⟩
    have hl := congrArg List.length e1
    simp only [List.length_append] at hl
    simp
    exact szs (by lia)
noncomputable def ovD : Option Nat → D
  | none => .non
  | some n => .int ((n : Nat) : Int)
theorem wv_none {m : Nat} {w : Str} (h : figB w = false) : wv m w = none := by
  unfold wv
  rw [if_neg]
  rintro ⟨a, b, c, _⟩
  rw [fig_iff.mpr ⟨a, b, c⟩] at h
  cases h
theorem itx_len {n : Nat} (h : n < 1000) : (itx ((n : Nat) : Int)).length ≤ 10 := PySem.W.KT.len_num (by lia) (by lia)
theorem number_spec {w : Str} {m : Nat} (hw : Wd w) (h1 : 1 ≤ m) (h2 : m ≤ 998) (h : Q (ovD (wv m w)) M) : S_number_from ad [.str w, .int 0, .int (((m : Nat) : Int) - 1)] M Q E := by
  simp_arith only [u_number_from, T_number_from]
  have em : ((m : Nat) : Int) - 1 = ((m - 1 : Nat) : Int) := by lia
  rw [em]
  refine calls_ro (d := .bl (figB w)) (fun Q' E' q => figures_spec hw q) ?_
  simp_arith only []
  cases hf : figB w with
  | false =>
    rw [wv_none hf] at h
    simp only [Bool.not_false, if_true]
    exact drp_id h
  | true =>
    obtain ⟨hd, hne, hc⟩ := fig_iff.mp hf
    simp only [Bool.not_true, Bool.false_eq_true, if_false]
    refine ⟨szl (Nat.le_trans hw.1 (by decide)), ⟨by lia, by lia⟩, szl (Nat.le_trans (itx_len (by lia)) (by decide)), ?_⟩
    by_cases hl : ((itx ((m - 1 : Nat) : Int)).length : Int) < (w.length : Int)
    · rw [if_pos hl]
      have hv : wv m w = none := by
        unfold wv
        rw [if_neg]
        rintro ⟨_, _, _, hx⟩
        have := long_more (m := m - 1) hd hne hc (by lia)
        lia
      rw [hv] at h
      exact drp_id h
    · rw [if_neg hl]
      have hl6 := hw.1
      refine ⟨by lia, ?_⟩
      rw [intText_digits hd hne (by lia)]
      dsimp only
      rw [decide_eq_true (by lia)]
      dsimp only
      show if ((digitsVal (sg w) : Nat) : Int) ≤ ((m - 1 : Nat) : Int) then _ else _
      by_cases hx : digitsVal (sg w) < m
      · have hv : wv m w = some (digitsVal (sg w)) := by unfold wv; rw [if_pos ⟨hd, hne, hc, hx⟩]
        rw [hv] at h
        rw [if_pos (by lia)]
        exact drp_id h
      · have hv : wv m w = none := by
          unfold wv
          rw [if_neg]
          rintro ⟨_, _, _, z⟩
          exact hx z
        rw [hv] at h
        rw [if_neg (by lia)]
        exact drp_id h
end
end Tw

namespace Tw
open PySem L2 L3 LS PySem.NumText
structure Ws (ws : List Str) : Prop where
  ne : ws ≠ []
  len : ws.length ≤ 60
  ok : ∀ w ∈ ws, Wd w
noncomputable def txt (ws : List Str) : Str := PySem.Txt.join SP ws
theorem txt_split {ws : List Str} (h : Ws ws) : PySem.Txt.split (txt ws) SP = ws := split_join h.ne fun w hw z => (h.ok w hw).2 32 z |>.2 rfl
theorem sum_len : ∀ {ws : List Str}, (∀ w ∈ ws, Wd w) → (ws.map (·.length)).sum ≤ 6 * ws.length
  | [], _ => by simp
  | w :: ws, h => by
    have h1 := (h w (by simp)).1
    have h2 := sum_len fun x hx => h x (List.mem_cons_of_mem _ hx)
    simp only [List.map_cons, List.sum_cons, List.length_cons]
    lia
theorem txt_len {ws : List Str} (h : Ws ws) : (txt ws).length ≤ 420 := by
  have e : (txt ws).length = (ws.map (·.length)).sum + (ws.length - 1) * SP.length := PySem.size_glued SP ws
  have h1 := sum_len h.ok
  have h2 := h.len
  have h3 : SP.length = 1 := by decide
  rw [e, h3]
  lia
theorem pb_len {ws : List Str} (h : Ws ws) : (Builtin.Str.partsBetween (txt ws) (Builtin.Str.occurrences (txt ws) SP 0 (txt ws).length ((txt ws).length + 1)) SP.length).length ≤ 1000 := by
  have hl := txt_len h
  generalize txt ws = x at hl
  by_cases c1 : (decide (x.length < SP.length) || decide (Builtin.Str.strKind x < Builtin.Str.strKind SP)) = true
  · have hx : x = Str.ofString "" := by
      rw [Bool.or_eq_true, decide_eq_true_iff, decide_eq_true_iff] at c1
      rcases c1 with h | h
      · have h3 : SP.length = 1 := by decide
        have : x.cps.size = 0 := by have : x.cps.size = x.length := rfl; lia
        cases x
        rename_i a
        have ea : a = #[] := Array.eq_empty_of_size_eq_zero this
        rw [ea]; decide
      · have h1 : Builtin.Str.strKind SP = 1 := by decide +kernel
        rw [h1] at h
        unfold Builtin.Str.strKind at h
        split at h
        · lia
        · split at h <;> lia
    rw [hx]
    decide +kernel
  · by_cases c2 : (Builtin.Str.occurrences x SP 0 x.length (x.length + 1)).isEmpty = true
    · rw [List.isEmpty_iff.mp c2]
      simp [Builtin.Str.partsBetween]
    · have := PyProof.Rows.split_le x SP
      unfold PySem.Txt.split at this
      rw [if_neg c1, if_neg c2] at this
      lia
noncomputable def readW (m mid many : Nat) (ws : List Str) : Option (List Nat × List Nat) :=
  if ws.length = mid + 1 + many ∧ ws[mid]? = some (Str.ofString "|") then
    if none ∈ (ws.take mid).map (wv m) ++ (ws.drop (mid + 1)).map (wv m) then none
    else some (((ws.take mid).map (wv m)).filterMap id, ((ws.drop (mid + 1)).map (wv m)).filterMap id)
  else none
theorem map_some : ∀ {l : List (Option Nat)}, none ∉ l → l.map ovD = (l.filterMap id).map fun n => D.int ((n : Nat) : Int)
  | [], _ => rfl
  | none :: l, h => absurd (List.mem_cons_self ..) h
  | some a :: l, h => by
    have := map_some fun z => h (List.mem_cons_of_mem _ z)
    simp only [List.map_cons, List.filterMap_cons, id]
    rw [this]; rfl
theorem any_non (l : List (Option Nat)) : (l.map ovD).any (fun d => deq d .non) = decide (none ∈ l) := by
  induction l with
  | nil => rfl
  | cons a l ih =>
    rw [List.map_cons, List.any_cons, ih]
    cases a with
    | none => simp [ovD, deq]
    | some n => simp [ovD, deq]
theorem fits_ov (n : Nat) : ∀ l : List (Option Nat), fits (n + 1) (l.map ovD) = true
  | [] => rfl
  | none :: l => by simp [fits, ovD, fit, fits_ov n l]
  | some a :: l => by simp [fits, ovD, fit, fits_ov n l]
noncomputable def natsD (l : List Nat) : List D := l.map fun n => D.int ((n : Nat) : Int)
section
variable {ad : Ad} {M : Mem} {Q : DK} {E : DX}
theorem st_split {D0 : DEnds} {δ : Dl} {ws : List Str} (hw : Ws ws) (hδ : δ[1]? = some (some (.str (txt ws)))) (h : D0.nx (δ.set 2 (some (.lst (ws.map D.str)))) M) :
    dAsg (dFrz (dBM "str" mSplit (dVar 1) (dCons (dC (.str " ")) dNil))) (hName 2) D0 δ M := by
  have eSP : Str.ofString " " = SP := rfl
  have hSP : (SP.length == 0) = false := by decide
  have hwl := hw.len
  simp_arith only [hδ, eSP, hSP, txt_split hw]
  refine ⟨⟨szl (by have := txt_len hw; lia), szl (by lia), szl (by have := pb_len hw; lia)⟩, fun p hpn => ?_⟩
  rw [Mem.upd_del, Mem.del_none hpn]
  exact h
theorem st_mid {D0 : DEnds} {δ : Dl} {m many : Int} {names : List Str} {rows : List Rw} {mk : Str} (hδ : δ[0]? = some (some (plnD m many names rows mk))) (h : D0.nx (δ.set 3 (some (.int ((names.length : Nat) : Int)))) M) :
    dAsg (dCB cLen (dCons (dOp oIx (dVar 0) (dC (.int 1))) dNil)) (hName 3) D0 δ M := by
  simp_arith only [hδ, plnD, atI_1, List.length_map]
  exact h
noncomputable def okW (mid many : Nat) (ws : List Str) : Prop := ws.length = mid + 1 + many ∧ ws[mid]? = some (Str.ofString "|")
theorem st_chk {A : dTS} {D0 : DEnds} {δ : Dl} {m many : Int} {names : List Str} {rows : List Rw} {mk : Str} {ws : List Str} (pl : PlG m many names rows mk) (h0 : δ[0]? = some (some (plnD m many names rows mk))) (h2 : δ[2]? = some (some (.lst (ws.map D.str)))) (h3 : δ[3]? = some (some (.int ((names.length : Nat) : Int))))
    (hb : ¬ okW names.length many.toNat ws → A D0 δ M) (hg : okW names.length many.toNat ws → D0.nx δ M) :
    dIfS (dOr (dTest (dOp oNe (dCB cLen (dCons (dVar 2) dNil)) (dFrz (dOp oAdd (dOp oAdd (dVar 3) (dC (.int 1))) (dOp oIx (dVar 0) (dC (.int 2))))))) (dTest (dOp oNe (dOp oIx (dVar 2) (dVar 3)) (dC (.str "|"))))) A dNext D0 δ M := by
  have t4 := pl.t.k0
  simp_arith only [h0, h2, h3, plnD, atI_2, List.length_map]
  by_cases c : ¬ ((ws.length : Nat) : Int) = ((names.length : Nat) : Int) + 1 + many
  · rw [decide_eq_false c]
    simp only [Bool.not_false, if_true]
    exact hb fun z => c (by have := z.1; lia)
  have c := Classical.not_not.mp c
  rw [decide_eq_true c]
  simp only [Bool.not_true, Bool.false_eq_true, if_false]
  obtain ⟨w, hwm⟩ : ∃ w, ws[names.length]? = some w := ⟨ws[names.length]'(by lia), List.getElem?_eq_getElem (by lia)⟩
  have hat : atI (ws.map D.str) ((names.length : Nat) : Int) = some (.str w) := by
    rw [atI_nn (by lia), Int.toNat_natCast, List.getElem?_map, hwm]; rfl
  simp_arith only [hat]
  by_cases c2 : w = Str.ofString "|"
  · simp only [decide_eq_true c2, Bool.not_true, Bool.false_eq_true, if_false]
    rw [c2] at hwm
    exact hg ⟨by lia, hwm⟩
  · simp only [decide_eq_false c2, Bool.not_false, if_true]
    exact hb fun z => c2 (by have := z.2; rw [hwm] at this; exact Option.some.inj this)
theorem st_nums {D0 : DEnds} {δ : Dl} {i : Nat} {te : dTE} {m many : Int} {names : List Str} {rows : List Rw} {mk : Str} {us : List Str} (pl : PlG m many names rows mk) (h0 : δ[0]? = some (some (plnD m many names rows mk))) (hi : i < δ.length) (hu : ∀ w ∈ us, Wd w) (hl : us.length ≤ 60)
    (ht : ∀ K : D → Mem → Prop, K (.lst (us.map D.str)) M → te δ M K) (h : D0.nx (δ.set i (some (.lst ((us.map (wv m.toNat)).map ovD)))) M) :
    dThenFrz (dCompS i (dComp (wSeq te) ["word"] [0] (hName 0) dAll (dFrz (dCall (S_number_from ad) NoX 3 (dCons (dVar 0) (dCons (dC (.int 0)) (dCons (dOp oSub (dOp oIx (dVar 1) (dC (.int 0))) (dC (.int 1))) dNil))))))) i D0 δ M := by
  have t1 := pl.t.m1
  have t2 := pl.t.m2
  have emN : m - 1 = ((m.toNat : Nat) : Int) - 1 := by lia
  simp_arith only [↓dComp]
  refine ht _ ?_
  have es : startD ["word"] [0] δ = [none, some (plnD m many names rows mk)] := by simp [startD, h0]
  rw [es]
  refine compD_inv (fun ys acc δ M' => ∃ (vs zs : List Str) (c0 : Option D), us = vs ++ zs ∧ ys = zs.map D.str ∧ acc = (vs.map (wv m.toNat)).map ovD ∧ δ = [c0, some (plnD m many names rows mk)] ∧ M = M') (fun _ _ _ _ _ => ok_nil) ?_ ?_ ?_ _ _ _ _ ⟨[], us, none, rfl, rfl, rfl, rfl, rfl⟩
  · rintro acc δ' M' ⟨vs, zs, c0, e1, e2, rfl, rfl, rfl⟩ p hp
    have ez : zs = [] := by simpa using e2.symm
    subst ez
    rw [List.append_nil] at e1
    subst e1
    simp only [frzSlot, List.getElem?_set_self hi, Mem.upd_same, Mem.upd_del, Mem.del_none hp, List.set_set]
    exact h
  · rintro y ys acc δ' M' ⟨vs, zs, c0, e1, e2, rfl, rfl, rfl⟩ N hN _
    cases zs with
    | nil => simp at e2
    | cons z zs =>
      simp only [List.map_cons, List.cons.injEq] at e2
      obtain ⟨rfl, rfl⟩ := e2
      have hl := congrArg List.length e1
      simp only [List.length_append, List.length_cons] at hl
      have hz : Wd z := hu z (by rw [e1]; simp)
      simp_arith only [plnD, atI_0, emN]
      refine calls_ro (d := ovD (wv m.toNat z)) (fun Q' E' q => number_spec hz (by lia) (by lia) q) ?_
      have go := hN (ovD (wv m.toNat z)) [some (D.str z), some (plnD m many names rows mk)] M (by simp; exact szs (by lia)) ⟨vs ++ [z], zs, some (D.str z), by rw [e1]; simp, rfl, by simp, rfl, rfl⟩
      cases hv : wv m.toNat z with
      | none => rw [hv] at go; simp only [ovD, frz]; exact go
      | some n => rw [hv] at go; simp only [ovD, frz]; exact go
  · rintro y ys acc δ' M' ⟨vs, zs, c0, e1, e2, rfl, rfl, rfl⟩
    have hl := congrArg List.length e1
    simp only [List.length_append] at hl
    simp
    exact szs (by lia)
theorem seq_go {s u : dTS} {D0 : DEnds} {δ : Dl} {M : Mem} (h : s { D0 with nx := u D0 } δ M) : dSeq s u D0 δ M := h
theorem read_spec {m many : Int} {names : List Str} {rows : List Rw} {mk : Str} {ws : List Str} (pl : PlG m many names rows mk) (hw : Ws ws)
    (hs : ∀ a b, readW m.toNat names.length many.toNat ws = some (a, b) → Q (.tup [.tup (natsD a), .tup (natsD b)]) M) (hn : readW m.toNat names.length many.toNat ws = none → E ad.C_NoText M) :
    S_read_stand ad [plnD m many names rows mk, .str (txt ws)] M Q E := by
  have t3 := pl.t.n1
  have t4 := pl.t.k0
  have t5 := pl.t.k1
  have hwl := hw.len
  rw [u_read_stand (n := 0)]
  unfold T_read_stand
  refine seq_go (st_split hw rfl ?_)
  dsimp only
  refine seq_go (st_mid rfl ?_)
  dsimp only
  refine seq_go (st_chk pl rfl rfl rfl (fun hb => ?_) fun hg => ?_)
  · exact drpX_id (hn (by unfold readW; rw [if_neg]; exact hb))
  dsimp only
  refine seq_go (st_nums (us := ws.take names.length) pl rfl (by simp) (fun w h => hw.ok w (List.mem_of_mem_take h)) (by simp; lia) (fun K hK => ?_) ?_)
  · have e1c : cutD (ws.map D.str) none (some ((names.length : Nat) : Int)) = (ws.take names.length).map D.str := by
      rw [List.map_take]; exact cutD_hi
    simp_arith only [e1c]
    intro p hp
    rw [Mem.upd_del, Mem.del_none hp]
    exact hK
  dsimp only
  refine seq_go (st_nums (us := ws.drop (names.length + 1)) pl rfl (by simp) (fun w h => hw.ok w (List.mem_of_mem_drop h)) (by simp; lia) (fun K hK => ?_) ?_)
  · have e2c : cutD (ws.map D.str) (some (((names.length : Nat) : Int) + 1)) none = (ws.drop (names.length + 1)).map D.str := by
      rw [List.map_drop]; exact cutD_lo (k := names.length + 1)
    simp_arith only [e2c]
    intro p hp
    rw [Mem.upd_del, Mem.del_none hp]
    exact hK
  dsimp only
  simp_arith only []
  refine ⟨szl (by simp; lia), fun p4 hp4 => ?_⟩
  rw [← List.map_append, fits_ov, any_non]
  simp only [if_true]
  by_cases hno : none ∈ (ws.take names.length).map (wv m.toNat) ++ (ws.drop (names.length + 1)).map (wv m.toNat)
  · rw [decide_eq_true hno]
    simp only [if_true, Mem.upd_del, Mem.del_none hp4]
    exact drpX_id (hn (by unfold readW; unfold okW at hg; rw [if_pos hg, if_pos hno]))
  · rw [decide_eq_false hno]
    simp only [Bool.false_eq_true, if_false, Mem.upd_del, Mem.del_none hp4]
    have r := hs _ _ (by unfold readW; unfold okW at hg; rw [if_pos hg, if_neg hno])
    unfold natsD at r
    rw [← map_some (fun z => hno (List.mem_append_left _ z)), ← map_some (fun z => hno (List.mem_append_right _ z))] at r
    exact ⟨szl (by decide), drp_id r⟩
end
end Tw

namespace Tw
open PySem L2 L3 LS PySem.NumText
section
variable {ad : Ad} {M : Mem} {Q : DK} {E : DX}
theorem drp_new {Q : DK} {d : D} {M : Mem} {p : Addr} {o : MO} (hp : M p = none) (h : Q d M) : drp Q d (M.upd p o) :=
  ⟨M, fun b u e => by rw [Mem.upd_ne (fun z => by rw [z, hp] at e; cases e)]; exact e, h⟩
theorem fits_sg {n : Nat} : ∀ l : List Nat, fits n (l.map fun c => D.str ⟨#[c]⟩) = true
  | [] => rfl
  | x :: ss => by rw [List.map_cons, fits, fits_sg ss, fit]; rfl
noncomputable def dueD : Option (List Nat × List Nat) → D
  | some (a, b) => .tup [.tup (natsD a), .tup (natsD b)]
  | none => .non
theorem in_digits : ∀ c < 128, PySem.Txt.contains (Str.ofString "0123456789") ⟨#[c]⟩ = dg c := by decide +kernel
theorem fig_go {D0 : DEnds} {δ : Dl} {z : Str} (h5 : δ[5]? = some (some (.str z))) (hz : Wd z) (hbad : ¬ (sg z ≠ [] ∧ AllDigits (sg z)) → D0.rt .non M) (hok : sg z ≠ [] → AllDigits (sg z) → D0.nx δ M) :
    dIfS (dOr (dTest (dOp oEq (dVar 5) (dC (.str "")))) (dTest (dOp oNe (dFrz (dComp (wStr (dVar 5)) ["sign"] [] (hName 0) (dTest (dOp oNotInS (dVar 0) (dC (.str "0123456789")))) (dVar 0))) (dFrz (dLst dNil))))) (dRet (dC .non)) dNext D0 δ M := by
  simp_arith only [h5, ↓dComp]
  by_cases h0 : z = Str.ofString ""
  · rw [if_pos h0]
    exact hbad fun q => q.1 (by rw [h0]; decide +kernel)
  rw [if_neg h0]
  have hne : sg z ≠ [] := fun e => h0 (sg_inj (by rw [e]; decide +kernel))
  have hzl : (sg z).length ≤ 6 := by rw [sg_len]; exact hz.1
  refine ⟨hz.ascii, ?_⟩
  refine compD_inv (fun ys acc δ N => ∃ (us2 zs2 : List Nat) (c0 : Option D), sg z = us2 ++ zs2 ∧ ys = zs2.map (fun c => D.str ⟨#[c]⟩) ∧ acc = (us2.filter (fun c => !dg c)).map (fun c => D.str ⟨#[c]⟩) ∧ δ = [c0] ∧ M = N) (fun _ _ _ _ _ => ok_nil) ?_ ?_ ?_ _ _ _ _ ⟨[], sg z, none, rfl, rfl, rfl, rfl, rfl⟩
  · rintro acc δ N ⟨us2, zs2, c0, f1, f2, rfl, rfl, rfl⟩ q1 hq1
    have ez : zs2 = [] := by simpa using f2.symm
    subst ez
    rw [List.append_nil] at f1
    subst f1
    simp_arith only [Mem.upd_del, Mem.del_none hq1, Mem.upd_same]
    refine ⟨szl (by decide), fun q2 hq2 => ⟨fits_sg _, ?_⟩⟩
    simp only [Mem.del_none hq2]
    by_cases hall : ¬ (sg z).all dg = true
    · have hfn : (sg z).filter (fun c => !dg c) ≠ [] := fun e => hall (by
        rw [List.all_eq_true]
        intro c hc
        have := List.filter_eq_nil_iff.mp e c hc
        simpa using this)
      obtain ⟨a, r, ea⟩ : ∃ a r, (sg z).filter (fun c => !dg c) = a :: r := by
        cases e : (sg z).filter (fun c => !dg c) with
        | nil => exact absurd e hfn
        | cons a r => exact ⟨a, r, rfl⟩
      rw [ea]
      simp only [List.map_cons, deqs, Bool.not_false, if_true]
      exact hbad fun q => hall (List.all_eq_true.mpr fun c hc => by have := q.2 c hc; simp [dg]; lia)
    have hall := Classical.not_not.mp hall
    have hfn : (sg z).filter (fun c => !dg c) = [] := List.filter_eq_nil_iff.mpr fun c hc => by
      have := List.all_eq_true.mp hall c hc
      simp [this]
    rw [hfn]
    simp only [List.map_nil, deqs, Bool.not_true, Bool.false_eq_true, if_false]
    exact hok hne fun c hc => by
      have := List.all_eq_true.mp hall c hc
      simp [dg] at this
      exact this
  · rintro y ys acc δ N ⟨us2, zs2, c0, f1, f2, rfl, rfl, rfl⟩ N' hN1 hN2
    cases zs2 with
    | nil => simp at f2
    | cons c zs2 =>
      simp only [List.map_cons, List.cons.injEq] at f2
      obtain ⟨rfl, rfl⟩ := f2
      have hcl := congrArg List.length f1
      simp only [List.length_append, List.length_cons] at hcl
      have hc := (hz.2 c (by rw [f1]; simp)).1
      have hfl : (us2.filter fun c => !dg c).length ≤ us2.length := List.length_filter_le ..
      simp_arith only [in_digits c hc]
      cases hd : dg c with
      | true =>
        simp only [Bool.not_true, Bool.false_eq_true, if_false]
        exact hN2 _ _ _ ⟨us2 ++ [c], zs2, _, by rw [f1]; simp, rfl, by simp [hd], rfl, rfl⟩
      | false =>
        simp only [Bool.not_false, if_true]
        exact hN1 _ _ _ (by simp; exact szs (by lia)) ⟨us2 ++ [c], zs2, _, by rw [f1]; simp, rfl, by simp [hd], rfl, rfl⟩
  · rintro y ys acc δ N ⟨us2, zs2, c0, f1, f2, rfl, rfl, rfl⟩
    have hcl := congrArg List.length f1
    simp only [List.length_append] at hcl
    have hfl : (us2.filter fun c => !dg c).length ≤ us2.length := List.length_filter_le ..
    simp
    exact szs (by lia)
theorem num_go {D0 : DEnds} {δ : Dl} {z : Str} {m many : Int} {names : List Str} {rows : List Rw} {mk : Str} (h5 : δ[5]? = some (some (.str z))) (hp0 : δ[0]? = some (some (plnD m many names rows mk))) (hz : Wd z) (hne : sg z ≠ []) (hd : AllDigits (sg z)) (t2 : 2 ≤ m)
    (hbad : ¬ (Can (sg z) ∧ digitsVal (sg z) < m.toNat) → D0.rt .non M) (hok : Can (sg z) → digitsVal (sg z) < m.toNat → D0.nx δ M) :
    dIfS (dOr (dTest (dOp oNe (dVar 5) (dCB cStr (dCons (dCB cIntS (dCons (dVar 5) dNil)) dNil)))) (dTest (dOp oGe (dCB cIntS (dCons (dVar 5) dNil)) (dOp oIx (dVar 0) (dC (.int 0)))))) (dRet (dC .non)) dNext D0 δ M := by
  have hz6 := hz.1
  have hzl : (sg z).length ≤ 6 := by rw [sg_len]; exact hz.1
  have hv6 : digitsVal (sg z) < 1000000 := Nat.lt_of_lt_of_le (dval_lt _ hd) (Nat.le_trans (Nat.pow_le_pow_right (by decide) hzl) (by decide))
  have eI : intText? z = some ((digitsVal (sg z) : Nat) : Int) := intText_digits hd hne (by lia)
  simp_arith only [h5, hp0, eI]
  refine ⟨by lia, ⟨by lia, by lia⟩, ?_⟩
  by_cases hc : ¬ Can (sg z)
  · have hne2 : ¬ z = itx ((digitsVal (sg z) : Nat) : Int) := fun e => hc ((own_text hd hne).mp e.symm)
    rw [decide_eq_false hne2]
    simp only [Bool.not_false, if_true]
    exact hbad fun q => hc q.1
  have hc := Classical.not_not.mp hc
  have hz2 : z = itx ((digitsVal (sg z) : Nat) : Int) := ((own_text hd hne).mpr hc).symm
  rw [decide_eq_true hz2]
  simp only [Bool.not_true, Bool.false_eq_true, if_false]
  refine ⟨by lia, ?_⟩
  simp_arith only [plnD, atI_0]
  by_cases hm : m ≤ ((digitsVal (sg z) : Nat) : Int)
  · rw [if_pos hm]
    exact hbad fun q => by lia
  · rw [if_neg hm]
    exact hok hc (by lia)
theorem napp_go {D0 : DEnds} {δ : Dl} {z : Str} {p0 : Addr} {xs : List D} (h5 : δ[5]? = some (some (.str z))) (h4 : δ[4]? = some (some (.ref p0))) (hl : M p0 = some (.lst xs)) (hx : xs.length ≤ 1000) (hz : Wd z) (hne : sg z ≠ []) (hd : AllDigits (sg z))
    (h : D0.nx δ (M.upd p0 (.lst (xs ++ [.int ((digitsVal (sg z) : Nat) : Int)])))) : dDrop (dBM "list" mAppend (dVar 4) (dCons (dCB cIntS (dCons (dVar 5) dNil)) dNil)) D0 δ M := by
  have hz6 := hz.1
  have eI : intText? z = some ((digitsVal (sg z) : Nat) : Int) := intText_digits hd hne (by lia)
  simp_arith only [h5, h4, eI, hl]
  exact ⟨by lia, szs (by lia), h⟩
theorem due_spec {m many : Int} {names : List Str} {rows : List Rw} {mk : Str} {ws : List Str} (pl : PlG m many names rows mk) (hw : Ws ws)
    (h : Q (dueD (readW m.toNat names.length many.toNat ws)) M) :
    S__law_due ad [plnD m many names rows mk, .str (txt ws)] M Q E := by
  have t1 := pl.t.m1
  have t2 := pl.t.m2
  have t3 := pl.t.n1
  have t4 := pl.t.k0
  have t5 := pl.t.k1
  have hwl := hw.len
  rw [u__law_due (n := 0)]
  unfold T__law_due
  refine seq_go (st_split hw rfl ?_)
  dsimp only
  refine seq_go (st_mid rfl ?_)
  dsimp only
  refine seq_go (st_chk pl rfl rfl rfl (fun hb => ?_) fun hif => ?_)
  · have e : readW m.toNat names.length many.toNat ws = none := by unfold readW; rw [if_neg]; exact hb
    rw [e] at h
    exact drp_id h
  unfold okW at hif
  dsimp only
  simp_arith only [↓dFor]
  refine ⟨szl (by decide), fun p0 hp0 p1 hp1 p2 hp2 => ?_⟩
  have e1c : cutD (ws.map D.str) none (some ((names.length : Nat) : Int)) = (ws.take names.length).map D.str := by
    rw [List.map_take]; exact cutD_hi
  have e2c : cutD (ws.map D.str) (some (((names.length : Nat) : Int) + 1)) none = (ws.drop (names.length + 1)).map D.str := by
    rw [List.map_drop]; exact cutD_lo (k := names.length + 1)
  rw [e1c, e2c]
  refine ⟨szl (by simp; lia), fun p3 hp3 => ?_⟩
  simp only [Mem.upd_del, Mem.del_none hp1] at hp2 hp3 ⊢
  simp only [Mem.del_none hp2] at hp3 ⊢
  simp only [Mem.del_none hp3, ← List.map_append]
  have hus : (ws.take names.length ++ ws.drop (names.length + 1)).length ≤ 60 := by simp; lia
  have hwu : ∀ w ∈ ws.take names.length ++ ws.drop (names.length + 1), Wd w := fun w hm => by
    rcases List.mem_append.mp hm with z | z
    · exact hw.ok w (List.mem_of_mem_take z)
    · exact hw.ok w (List.mem_of_mem_drop z)
  have nonR : ∀ z ∈ ws.take names.length ++ ws.drop (names.length + 1), wv m.toNat z = none → drp Q .non (M.upd p0 (.lst [])) ∧ ∀ l, drp Q .non (M.upd p0 (.lst l)) := fun z hm e => by
    have er : readW m.toNat names.length many.toNat ws = none := by
      unfold readW
      rw [if_pos hif, if_pos]
      rw [← List.map_append]
      exact List.mem_map.mpr ⟨z, hm, e⟩
    rw [er] at h
    exact ⟨drp_new hp0 h, fun l => drp_new hp0 h⟩
  generalize hU : ws.take names.length ++ ws.drop (names.length + 1) = us at hus hwu nonR ⊢
  refine forD_inv (fun ys δ N => ∃ (vs zs : List Str) (c5 : Option D), us = vs ++ zs ∧ ys = zs.map D.str ∧ none ∉ vs.map (wv m.toNat) ∧ δ = [some (plnD m many names rows mk), some (.str (txt ws)), some (.lst (ws.map D.str)), some (.int ((names.length : Nat) : Int)), some (.ref p0), c5] ∧ N = M.upd p0 (.lst ((vs.map (wv m.toNat)).map ovD))) (fun _ _ _ _ => ok_nil) ?_ ?_ _ _ _ ⟨[], us, _, rfl, rfl, by simp, rfl, rfl⟩
  · rintro δ N ⟨vs, zs, c5, e1, e2, e3, rfl, rfl⟩
    have ez : zs = [] := by simpa using e2.symm
    subst ez
    rw [List.append_nil] at e1
    subst e1
    simp_arith only [Mem.upd_same]
    intro q1 hq1
    simp only [Mem.upd_del, Mem.del_none hq1, Mem.upd_same]
    intro q2 hq2
    simp only [Mem.del_none hq2]
    have hno : none ∉ (ws.take names.length).map (wv m.toNat) ++ (ws.drop (names.length + 1)).map (wv m.toNat) := by
      rw [← List.map_append, hU]; exact e3
    have er : readW m.toNat names.length many.toNat ws = some (((ws.take names.length).map (wv m.toNat)).filterMap id, ((ws.drop (names.length + 1)).map (wv m.toNat)).filterMap id) := by
      unfold readW
      rw [if_pos hif, if_neg hno]
    rw [er] at h
    have ec1 : cutD ((us.map (wv m.toNat)).map ovD) none (some ((names.length : Nat) : Int)) = natsD (((ws.take names.length).map (wv m.toNat)).filterMap id) := by
      rw [cutD_hi, ← hU, List.map_append, List.map_append, List.take_left' (by simp; lia)]
      exact map_some fun z => hno (List.mem_append_left _ z)
    have ec2 : cutD ((us.map (wv m.toNat)).map ovD) (some ((names.length : Nat) : Int)) none = natsD (((ws.drop (names.length + 1)).map (wv m.toNat)).filterMap id) := by
      rw [cutD_lo, ← hU, List.map_append, List.map_append, List.drop_left' (by simp; lia)]
      exact map_some fun z => hno (List.mem_append_right _ z)
    rw [ec1, ec2]
    exact ⟨szl (by decide), drp_new hp0 h⟩
  · rintro y ys δ N ⟨vs, zs, c5, e1, e2, e3, rfl, rfl⟩ D' hN _ hR _
    cases zs with
    | nil => simp at e2
    | cons z zs =>
      simp only [List.map_cons, List.cons.injEq] at e2
      obtain ⟨rfl, rfl⟩ := e2
      have hzm : z ∈ us := by rw [e1]; simp
      have hz := hwu z hzm
      have hl := congrArg List.length e1
      simp only [List.length_append, List.length_cons] at hl
      have no := fun e => (nonR z hzm e).2 ((vs.map (wv m.toNat)).map ovD)
      unfold wv at no
      dsimp only [hName, List.set]
      refine seq_go (fig_go rfl hz (fun q => ?_) fun hne hd => ?_)
      · rw [hR]
        exact no (if_neg fun b => q ⟨b.2.1, b.1⟩)
      dsimp only
      refine seq_go (num_go rfl rfl hz hne hd t2 (fun q => ?_) fun hc hv => ?_)
      · rw [hR]
        exact no (if_neg fun b => q ⟨b.2.2.1, b.2.2.2⟩)
      dsimp only
      have hv : wv m.toNat z = some (digitsVal (sg z)) := by unfold wv; rw [if_pos ⟨hd, hne, hc, hv⟩]
      refine napp_go rfl rfl Mem.upd_same (by simp; lia) hz hne hd (hN _ _ ⟨vs ++ [z], zs, some (.str z), by rw [e1]; simp, rfl, ?_, rfl, ?_⟩)
      · rw [List.map_append, List.mem_append]
        rintro (q | q)
        · exact e3 q
        · simp [hv] at q
      · rw [Mem.upd_upd, List.map_append, List.map_append]
        simp [hv, ovD]
end
end Tw

namespace Tw
open PySem L2 L3 LS PySem.NumText
noncomputable def flagsD : List D := [.bl false, .bl false, .bl false, .bl false, .bl false, .bl false, .bl false, .bl true, .bl false, .bl false, .bl true]
noncomputable def wordsOf (nums pieces : List Int) : List Str := nums.map itx ++ [Str.ofString "|"] ++ pieces.map itx
noncomputable def Wd3 (w : Str) : Prop := w.length ≤ 3 ∧ ∀ c ∈ sg w, c < 128 ∧ c ≠ 32
theorem itx3 : ∀ n < 1000, (itx ((n : Nat) : Int)).length ≤ 3 := by decide +kernel
theorem wd3_itx {v : Int} (h0 : 0 ≤ v) (h1 : v < 998) : Wd3 (itx v) := by
  obtain ⟨n, rfl⟩ := Int.eq_ofNat_of_zero_le h0
  refine ⟨itx3 n (by lia), fun c hc => ?_⟩
  rw [sg_itx] at hc
  have := digs_all n c hc
  lia
theorem wd3_bar : Wd3 (Str.ofString "|") := ⟨by decide +kernel, by decide +kernel⟩
theorem strsOf_map : ∀ ss : List Str, strsOf (ss.map D.str) = some ss
  | [] => rfl
  | s :: ss => by simp only [List.map_cons, strsOf, strsOf_map ss]
theorem Wd3.wd {w : Str} (h : Wd3 w) : Wd w := ⟨Nat.le_trans h.1 (by decide), h.2⟩
theorem words3 {nums pieces : List Int} (r1 : ∀ v ∈ nums, 0 ≤ v ∧ v < 998) (r2 : ∀ v ∈ pieces, 0 ≤ v ∧ v < 998) : ∀ w ∈ wordsOf nums pieces, Wd3 w := by
  intro w hw
  unfold wordsOf at hw
  rcases List.mem_append.mp hw with hw | hw
  · rcases List.mem_append.mp hw with hw | hw
    · obtain ⟨v, hv, rfl⟩ := List.mem_map.mp hw
      exact wd3_itx (r1 v hv).1 (r1 v hv).2
    · rw [List.mem_singleton.mp hw]; exact wd3_bar
  · obtain ⟨v, hv, rfl⟩ := List.mem_map.mp hw
    exact wd3_itx (r2 v hv).1 (r2 v hv).2
theorem words_len (nums pieces : List Int) : (wordsOf nums pieces).length = nums.length + 1 + pieces.length := by simp [wordsOf]; lia
theorem words_fit {nums pieces : List Int} (hn : nums.length ≤ 12) (hp : pieces.length ≤ 40) (r1 : ∀ v ∈ nums, 0 ≤ v ∧ v < 998) (r2 : ∀ v ∈ pieces, 0 ≤ v ∧ v < 998) : ((wordsOf nums pieces).map (·.length)).sum + (wordsOf nums pieces).length ≤ 1048576 := by
  have h1 := sum_len fun w hw => (words3 r1 r2 w hw).wd
  have h2 := words_len nums pieces
  lia
section
variable {ad : Ad} {M : Mem} {Q : DK} {E : DX}
theorem kinds_spec {ea : Addr} (h : ∀ p, M p = none → Q (.ref p) (M.upd p (.lst flagsD))) : S__law_kinds ad ea [.ref ea] M Q E := by
  simp_arith only [u__law_kinds, T__law_kinds]
  refine ⟨szl (by decide), fun p1 h1 => ⟨szl (by decide), fun p2 h2 => ⟨szl (by decide), fun p3 h3 => ⟨szl (by decide), fun p4 h4 => ⟨szl (by decide), fun p5 h5 => ?_⟩⟩⟩⟩⟩
  simp only [Mem.upd_del, Mem.del_none h1] at h2 h3 h4 h5 ⊢
  simp only [Mem.del_none h2] at h3 h4 h5 ⊢
  simp only [Mem.del_none h3] at h4 h5 ⊢
  simp only [Mem.del_none h4] at h5 ⊢
  exact drp_id (h p5 h5)
theorem name_spec {p : Addr} (hp : M p = some (.lst flagsD)) (h : Q (.str (Str.ofString "text")) M) : S__law_name ad [.ref p] M Q E := by
  have ec : cutD flagsD none (some (10 : Int)) = flagsD.take 10 := cutD_hi (k := 10)
  have eb : bools (flagsD.take 10) = some [false, false, false, false, false, false, false, true, false, false] := rfl
  have eb2 : bools flagsD = some [false, false, false, false, false, false, false, true, false, false, true] := rfl
  have el : flagsD.length = 11 := rfl
  have e10 : atI flagsD 10 = some (.bl true) := by rw [atI_nn (by lia)]; rfl
  have ecn : List.countP (fun x => x == true) [false, false, false, false, false, false, false, true, false, false] = 1 := by decide
  have eix : List.findIdx? (fun x => x == true) [false, false, false, false, false, false, false, true, false, false, true] = some 7 := by decide
  simp_arith only [u__law_name, T__law_name, hp]
  refine ⟨szl (by decide), fun p1 h1 => ?_⟩
  simp only [Mem.upd_del, Mem.del_none h1, hp, el]
  simp only [show decide (((11 : Nat) : Int) = 11) = true from rfl, Bool.not_true, Bool.false_eq_true, if_false]
  intro p2 h2
  simp only [Mem.del_none h2, hp, ec, eb, ecn, e10]
  simp only [show decide (((1 : Nat) : Int) = 1) = true from rfl, Bool.not_true, Bool.false_eq_true, if_false, eb2, eix]
  refine ⟨trivial, by decide, ?_⟩
  rw [atI_nn (by lia)]
  exact drp_id h
theorem strs_comp {δ : Dl} {te : dTE} {vs : List Int} {K : D → Mem → Prop} (ht : ∀ K : D → Mem → Prop, K (.tup (vs.map D.int)) M → te δ M K) (hl : vs.length ≤ 60) (r : ∀ v ∈ vs, 0 ≤ v ∧ v < 998) (h : K (.lst ((vs.map itx).map D.str)) M) :
    dFrz (dComp (wSeq te) ["number"] [] (hName 0) dAll (dCB cStr (dCons (dVar 0) dNil))) δ M K := by
  simp_arith only [↓dComp]
  refine ht _ ?_
  dsimp only
  refine compD_inv (fun ys acc δ M' => ∃ (us zs : List Int) (c0 : Option D), vs = us ++ zs ∧ ys = zs.map D.int ∧ acc = (us.map itx).map D.str ∧ δ = [c0] ∧ M = M') (fun _ _ _ _ _ => ok_nil) ?_ ?_ ?_ _ _ _ _ ⟨[], vs, none, rfl, rfl, rfl, rfl, rfl⟩
  · rintro acc δ M' ⟨us, zs, c0, e1, e2, rfl, rfl, rfl⟩ p1 hp1
    have ez : zs = [] := by simpa using e2.symm
    subst ez
    rw [List.append_nil] at e1
    subst e1
    simp_arith only [Mem.upd_del, Mem.del_none hp1, Mem.upd_same]
    exact h
  · rintro y ys acc δ M' ⟨us, zs, c0, e1, e2, rfl, rfl, rfl⟩ N hN _
    cases zs with
    | nil => simp at e2
    | cons z zs =>
      simp only [List.map_cons, List.cons.injEq] at e2
      obtain ⟨rfl, rfl⟩ := e2
      have hl := congrArg List.length e1
      simp only [List.length_append, List.length_cons] at hl
      have hz := r z (by rw [e1]; simp)
      simp_arith only []
      exact ⟨⟨by lia, by lia⟩, hN _ _ _ (by simp; exact szs (by lia)) ⟨us ++ [z], zs, _, by rw [e1]; simp, rfl, by simp, rfl, rfl⟩⟩
  · rintro y ys acc δ M' ⟨us, zs, c0, e1, e2, rfl, rfl, rfl⟩
    have hl := congrArg List.length e1
    simp only [List.length_append] at hl
    simp
    exact szs (by lia)
theorem add_e {δ : Dl} {A B : dTE} {l1 l2 : List D} {K : D → Mem → Prop} (hA : ∀ K : D → Mem → Prop, K (.lst l1) M → A δ M K) (hB : ∀ K : D → Mem → Prop, K (.lst l2) M → B δ M K) (hl : l1.length + l2.length ≤ 1000) (h : K (.lst (l1 ++ l2)) M) : dFrz (dOp oAdd A B) δ M K := by
  show A δ M _
  refine hA _ ?_
  show B δ M _
  refine hB _ ?_
  simp_arith only []
  refine ⟨szl (by lia), fun p hp => ?_⟩
  rw [Mem.upd_del, Mem.del_none hp]
  exact h
theorem words_e {i : Nat} {δ : Dl} {nums pieces : List Int} {K : D → Mem → Prop} (hδ : δ[i]? = some (some (standD nums pieces))) (hn : nums.length ≤ 12) (hp : pieces.length ≤ 40) (r1 : ∀ v ∈ nums, 0 ≤ v ∧ v < 998) (r2 : ∀ v ∈ pieces, 0 ≤ v ∧ v < 998) (h : K (.lst ((wordsOf nums pieces).map D.str)) M) :
    dFrz (dOp oAdd (dFrz (dOp oAdd (dFrz (dComp (wSeq (dOp oIx (dVar i) (dC (.int 0)))) ["number"] [] (hName 0) dAll (dCB cStr (dCons (dVar 0) dNil)))) (dFrz (dLst (dCons (dC (.str "|")) dNil))))) (dFrz (dComp (wSeq (dOp oIx (dVar i) (dC (.int 1)))) ["number"] [] (hName 0) dAll (dCB cStr (dCons (dVar 0) dNil))))) δ M K := by
  refine add_e (l1 := (nums.map itx).map D.str ++ [D.str (Str.ofString "|")]) (l2 := (pieces.map itx).map D.str) (fun K hK => add_e (fun K hK => strs_comp (fun K hK => ?_) (by lia) r1 hK) (fun K hK => ?_) (by simp; lia) hK) (fun K hK => strs_comp (fun K hK => ?_) (by lia) r2 hK) (by simp; lia) (by simpa [wordsOf] using h)
  · simp_arith only [hδ, standD, atI_0]
    exact hK
  · simp_arith only []
    refine ⟨szl (by decide), fun p hp => ?_⟩
    rw [Mem.upd_del, Mem.del_none hp]
    exact hK
  · simp_arith only [hδ, standD, atI_1]
    exact hK
theorem text_spec {nums pieces : List Int} (hn : nums.length ≤ 12) (hp : pieces.length ≤ 40) (r1 : ∀ v ∈ nums, 0 ≤ v ∧ v < 998) (r2 : ∀ v ∈ pieces, 0 ≤ v ∧ v < 998) (h : Q (.str (txt (wordsOf nums pieces))) M) :
    S_stand_text ad [standD nums pieces] M Q E := by
  have eSP : Str.ofString " " = SP := rfl
  have key : ∀ K : D → Mem → Prop, K (.lst ((wordsOf nums pieces).map D.str)) M → _ := fun K hK => words_e (i := 0) (δ := [some (standD nums pieces)]) (K := K) rfl hn hp r1 r2 hK
  rw [u_stand_text (n := 0)]
  unfold T_stand_text
  generalize dFrz (dOp oAdd (dFrz (dOp oAdd (dFrz (dComp (wSeq (dOp oIx (dVar 0) (dC (.int 0)))) ["number"] [] (hName 0) dAll (dCB cStr (dCons (dVar 0) dNil)))) (dFrz (dLst (dCons (dC (.str "|")) dNil))))) (dFrz (dComp (wSeq (dOp oIx (dVar 0) (dC (.int 1)))) ["number"] [] (hName 0) dAll (dCB cStr (dCons (dVar 0) dNil))))) = Z at key ⊢
  simp_arith only [eSP]
  refine key _ ?_
  simp_arith only [strsOf_map]
  exact ⟨⟨by decide, words_fit hn hp r1 r2⟩, drp_id h⟩
end
end Tw

namespace Tw
open PySem L2 L3 LS PySem.NumText
section
variable {ad : Ad} {M : Mem} {Q : DK} {E : DX} {k : Pt}
structure W3 (ws : List Str) : Prop where
  l0 : 2 ≤ ws.length
  l1 : ws.length ≤ 53
  ok : ∀ w ∈ ws, Wd3 w
theorem W3.ws {ws : List Str} (h : W3 ws) : Ws ws := ⟨fun e => by have := h.l0; rw [e] at this; simp at this, by have := h.l1; lia, fun w hw => (h.ok w hw).wd⟩
theorem ws_fit {ws : List Str} (h : Ws ws) : (ws.map (·.length)).sum + ws.length ≤ 1048576 := by
  have h1 := sum_len h.ok
  have h2 := h.len
  lia
theorem cut_hi {ws : List Str} {a : Nat} : cutD (ws.map D.str) none (some (a : Int)) = (ws.take a).map D.str := by rw [List.map_take]; exact cutD_hi
theorem cut_lo {ws : List Str} {a : Nat} : cutD (ws.map D.str) (some (a : Int)) none = (ws.drop a).map D.str := by rw [List.map_drop]; exact cutD_lo
theorem cut_lo1 {ws : List Str} {a : Nat} : cutD (ws.map D.str) (some ((a : Int) + 1)) none = (ws.drop (a + 1)).map D.str := by rw [List.map_drop]; exact cutD_lo (k := a + 1)
theorem mkWs {l : List Str} (h0 : 0 < l.length) (h1 : l.length ≤ 60) (h2 : ∀ w ∈ l, Wd w) : Ws l := ⟨fun e => by rw [e] at h0; simp at h0, h1, h2⟩
theorem okT {ws : List Str} {a : Nat} (h : ∀ w ∈ ws, Wd w) : ∀ w ∈ ws.take a, Wd w := fun w hw => h w (List.mem_of_mem_take hw)
theorem okDr {ws : List Str} {a : Nat} (h : ∀ w ∈ ws, Wd w) : ∀ w ∈ ws.drop a, Wd w := fun w hw => h w (List.mem_of_mem_drop hw)
theorem okA {l l' : List Str} (h : ∀ w ∈ l, Wd w) (h' : ∀ w ∈ l', Wd w) : ∀ w ∈ l ++ l', Wd w := fun w hw => (List.mem_append.mp hw).elim (h w) (h' w)
theorem ok1 {x : Str} (h : Wd x) : ∀ w ∈ [x], Wd w := fun w hw => by rw [List.mem_singleton.mp hw]; exact h
theorem wd_cat {u v : Str} (hu : Wd3 u) (hv : Wd3 v) : Wd (u ++ v) := by
  have e : sg (u ++ v) = sg u ++ sg v := by
    show (u.cps ++ v.cps).toList = _
    simp [sg]
  refine ⟨?_, fun c hc => ?_⟩
  · rw [← sg_len, e, List.length_append, sg_len, sg_len]
    have := hu.1
    have := hv.1
    lia
  · rw [e] at hc
    rcases List.mem_append.mp hc with z | z
    · exact hu.2 c z
    · exact hv.2 c z
theorem wd3_0 : Wd3 (Str.ofString "0") := ⟨by decide +kernel, by decide +kernel⟩
theorem wd3_m : Wd3 (Str.ofString "-") := ⟨by decide +kernel, by decide +kernel⟩
theorem wd3_a : Wd3 (Str.ofString "a") := ⟨by decide +kernel, by decide +kernel⟩
theorem wd3_p : Wd3 (Str.ofString "+1") := ⟨by decide +kernel, by decide +kernel⟩
noncomputable def some9 (m : Int) (x : Str) : List Str := [itx m, Str.ofString "0" ++ x, Str.ofString "-" ++ x, x ++ Str.ofString "a", Str.ofString "", Str.ofString "|", Str.ofString "0", itx (m - 1), Str.ofString "+1"]
theorem wd_nil : Wd (Str.ofString "") := ⟨by decide +kernel, by decide +kernel⟩
theorem dIf_go {i : Nat} {n c : Int} {A B : dTS} {D0 : DEnds} {δ : Dl} {M : Mem} (hv : δ[i]? = some (some (.int c))) (h1 : c = n → A D0 δ M) (h2 : c ≠ n → B D0 δ M) : dIfS (dTest (dOp oEq (dVar i) (dC (.int n)))) A B D0 δ M := by
  have e : dIfS (dTest (dOp oEq (dVar i) (dC (.int n)))) A B D0 δ M = (if c = n then A D0 δ M else B D0 δ M) := by
    simp [dIfS, dTest, dOp, dVar, dC, oEq, fit, dv, deq, hv]
  rw [e]
  split
  · rename_i q; exact h1 q
  · rename_i q; exact h2 q
theorem fin_txt {l : List D} {ws' : List Str} (e : l = ws'.map D.str) (h : Ws ws') (hq : Q (.str (txt ws')) M) :
    (match strsOf l with
      | some ss => (SP.length ≤ 16 ∧ (List.map (fun x => x.length) ss).sum + ss.length ≤ 1048576) ∧ drp Q (D.str (Txt.join SP ss)) M
      | none => False) := by
  subst e
  rw [strsOf_map]
  exact ⟨⟨by decide, ws_fit h⟩, drp_id hq⟩
theorem ins_e {δ : Dl} {te ti tj : dTE} {ws : List Str} {a b : Nat} {x : Str} {K : D → Mem → Prop} (h2 : δ[2]? = some (some (.lst (ws.map D.str)))) (hi : ∀ K : D → Mem → Prop, K (.int ((a : Nat) : Int)) M → ti δ M K) (hj : ∀ K : D → Mem → Prop, K (.int ((b : Nat) : Int)) M → tj δ M K)
    (hx : ∀ K : D → Mem → Prop, K (.str x) M → te δ M K) (hl : ws.length ≤ 60) (h : K (.lst ((ws.take a ++ [x] ++ ws.drop b).map D.str)) M) :
    dFrz (dOp oAdd (dFrz (dOp oAdd (dFrz (dSl (dVar 2) dNoPart (dPart ti))) (dFrz (dLst (dCons te dNil))))) (dFrz (dSl (dVar 2) (dPart tj) dNoPart))) δ M K := by
  simp_arith only [h2]
  refine hi _ ?_
  simp_arith only [cut_hi]
  intro p1 hp1
  rw [Mem.upd_del, Mem.del_none hp1]
  refine hx _ ?_
  refine ⟨szl (by decide), fun p2 hp2 => ⟨szl (by simp; lia), fun p3 hp3 => ?_⟩⟩
  simp only [Mem.upd_del, Mem.del_none hp2] at hp3 ⊢
  rw [Mem.del_none hp3]
  refine hj _ ?_
  simp_arith only [cut_lo]
  intro p4 hp4
  rw [Mem.del_none hp4]
  refine ⟨szl (by simp; lia), fun p5 hp5 => ?_⟩
  rw [Mem.del_none hp5]
  simpa using h
theorem asg_e {te : dTE} {i : Nat} {D0 : DEnds} {δ : Dl} (h : te δ M fun d M1 => D0.nx (δ.set i (some d)) M1) : dAsg te (hName i) D0 δ M := h
theorem var_e {i : Nat} {δ : Dl} {d : D} (h : δ[i]? = some (some d)) : ∀ K : D → Mem → Prop, K d M → dVar i δ M K := fun K hK => by simp only [dVar, h]; exact hK
theorem var1_e {i a : Nat} {δ : Dl} (h : δ[i]? = some (some (.int ((a : Nat) : Int)))) : ∀ K : D → Mem → Prop, K (.int ((a + 1 : Nat) : Int)) M → dOp oAdd (dVar i) (dC (.int 1)) δ M K := fun K hK => by simp_arith only [h]; exact hK
theorem at_e {i a : Nat} {δ : Dl} {ws : List Str} {x : Str} (h2 : δ[2]? = some (some (.lst (ws.map D.str)))) (h : δ[i]? = some (some (.int ((a : Nat) : Int)))) (hx : atI (ws.map D.str) ((a : Nat) : Int) = some (.str x)) : ∀ K : D → Mem → Prop, K (.str x) M → dOp oIx (dVar 2) (dVar i) δ M K := fun K hK => by simp_arith only [h2, h, hx]; exact hK
theorem bent_spec {m many : Int} {names : List Str} {rows : List Rw} {mk : Str} {ws : List Str} (pl : PlG m many names rows mk) (hp : Has k M) (hw : W3 ws)
    (h : ∀ ws' M', Ws ws' → Dr k M M' → Q (.str (txt ws')) M') : S__law_bent ad [.ref k.p, plnD m many names rows mk, .lst (ws.map D.str)] M Q E := by
  have t1 := pl.t.m1
  have t2 := pl.t.m2
  have l0 := hw.l0
  have l1 := hw.l1
  have eSP : Str.ofString " " = SP := rfl
  simp_arith only [u__law_bent, T__law_bent, List.length_map]
  refine draw_call hp (by lia) (by lia) fun at_ M1 a1 b1 d1 => ?_
  simp_arith only [List.length_map]
  refine draw_call d1.1 (by lia) (by lia) fun to M2 a2 b2 d2 => ?_
  simp_arith only []
  refine draw_call d2.1 (by lia) (by lia) fun way M3 a3 b3 d3 => ?_
  obtain ⟨a, rfl⟩ := Int.eq_ofNat_of_zero_le a1
  obtain ⟨b, rfl⟩ := Int.eq_ofNat_of_zero_le a2
  have dr := (d1.trans d2).trans d3
  have hway : way = 0 ∨ way = 1 ∨ way = 2 ∨ way = 3 ∨ way = 4 ∨ way = 5 ∨ way = 6 ∨ way = 7 := by lia
  simp only [frz, hName, dSeq, List.set, T__law_bent_16, T__law_bent_15]
  have okw : ∀ w ∈ ws, Wd w := fun w hm => (hw.ok w hm).wd
  obtain ⟨x, hx⟩ : ∃ x, ws[a]? = some x := ⟨ws[a]'(by lia), List.getElem?_eq_getElem (by lia)⟩
  obtain ⟨y, hy⟩ : ∃ y, ws[b]? = some y := ⟨ws[b]'(by lia), List.getElem?_eq_getElem (by lia)⟩
  have hxa : atI (ws.map D.str) ((a : Nat) : Int) = some (.str x) := by rw [atI_nn (by lia), Int.toNat_natCast, List.getElem?_map, hx]; rfl
  have hyb : atI (ws.map D.str) ((b : Nat) : Int) = some (.str y) := by rw [atI_nn (by lia), Int.toNat_natCast, List.getElem?_map, hy]; rfl
  have hx3 := hw.ok x (List.mem_of_getElem? hx)
  have hy3 := hw.ok y (List.mem_of_getElem? hy)
  have fin : ∀ (l : List D) (ws' : List Str) (M' : Mem) (c6 c7 : Option D), l = ws'.map D.str → Ws ws' → Dr k M M' → (dRet (dBM "str" mJoin (dC (.str " ")) (dCons (dVar 2) dNil)) { nx := fun _ M' => drp Q .non M', rt := drp Q }) [some (.ref k.p), some (plnD m many names rows mk), some (.lst l), some (.int ((a : Nat) : Int)), some (.int ((b : Nat) : Int)), some (.int way), c6, c7] M' := by
    intro l ws' M' c6 c7 e g d
    simp_arith only [eSP]
    exact fin_txt e g (h _ _ g d)
  generalize (dRet (dBM "str" mJoin (dC (.str " ")) (dCons (dVar 2) dNil)) { nx := fun _ M' => drp Q .non M', rt := drp Q }) = X at fin ⊢
  refine dIf_go rfl (fun _ => ?_) fun _ => ?_
  · simp_arith only [cut_hi, cut_lo, cut_lo1, eSP]
    simp +contextual only [Mem.upd_del, Mem.del_none]
    exact fun _ _ _ _ => ⟨szl (by simp; lia), fun _ _ => fin _ (ws.take a ++ ws.drop (a + 1)) _ _ _ (by simp) (mkWs (by simp; lia) (by simp; lia) (okA (okT okw) (okDr okw))) dr⟩
  refine dIf_go rfl (fun _ => ?_) fun _ => ?_
  · refine asg_e (ins_e rfl (var_e rfl) (var_e rfl) (at_e rfl rfl hxa) (by lia) ?_)
    have g := mkWs (l := ws.take a ++ [x] ++ ws.drop a) (by simp; lia) (by simp; lia) (okA (okA (okT okw) (ok1 hx3.wd)) (okDr okw))
    exact fin _ _ _ _ _ rfl g dr
  refine dIf_go rfl (fun _ => ?_) fun _ => ?_
  · refine seq_go (asg_e (at_e rfl rfl hxa _ ?_))
    dsimp only
    refine seq_go (asg_e (ins_e rfl (var_e rfl) (var1_e rfl) (at_e rfl rfl hyb) (by lia) ?_))
    dsimp only
    have o1 := okA (okA (okT (a := a) okw) (ok1 hy3.wd)) (okDr (a := a + 1) okw)
    have len1 : (ws.take a ++ [y] ++ ws.drop (a + 1)).length = ws.length := by simp; lia
    generalize ws.take a ++ [y] ++ ws.drop (a + 1) = l1 at o1 len1 ⊢
    have g := mkWs (l := l1.take b ++ [x] ++ l1.drop (b + 1)) (by simp; lia) (by simp; lia) (okA (okA (okT o1) (ok1 hx3.wd)) (okDr o1))
    refine asg_e (ins_e (ws := l1) rfl (var_e rfl) (var1_e rfl) (var_e rfl) (by lia) ?_)
    exact fin _ _ _ _ _ rfl g dr
  refine dIf_go rfl (fun _ => ?_) fun _ => ?_
  · simp_arith only [cut_hi, cut_lo, cut_lo1, eSP, ↓dComp]
    refine compD_inv (fun ys acc δ M' => ∃ (vs zs us : List Str) (c0 : Option D), ws = vs ++ zs ∧ ys = zs.map D.str ∧ us.length ≤ vs.length ∧ (∀ w ∈ us, Wd w) ∧ acc = us.map D.str ∧ δ = [c0] ∧ M3 = M') (fun _ _ _ _ _ => ok_nil) ?_ ?_ ?_ _ _ _ _ ⟨[], ws, [], none, rfl, rfl, by simp, by simp, rfl, rfl, rfl⟩
    · rintro acc δ M' ⟨vs, zs, us, c0, e1, e2, e3, e4, rfl, rfl, rfl⟩ p hp
      have hvl := congrArg List.length e1
      simp only [List.length_append] at hvl
      simp_arith only [cut_hi, cut_lo, cut_lo1, eSP, Mem.upd_same]
      simp +contextual only [Mem.upd_del, Mem.del_none, hp]
      have g := mkWs (l := us.take b ++ [Str.ofString "|"] ++ us.drop b) (by simp; lia) (by simp; lia) (okA (okA (okT e4) (ok1 wd3_bar.wd)) (okDr e4))
      exact fun _ _ => ⟨szl (by decide), fun _ _ => ⟨szl (by simp; lia), fun _ _ _ _ => ⟨szl (by simp; lia), fun _ _ => fin _ _ _ _ _ (by simp) g dr⟩⟩⟩
    · rintro y' ys acc δ M' ⟨vs, zs, us, c0, e1, e2, e3, e4, rfl, rfl, rfl⟩ N hN1 hN2
      cases zs with
      | nil => simp at e2
      | cons z zs =>
        simp only [List.map_cons, List.cons.injEq] at e2
        obtain ⟨rfl, rfl⟩ := e2
        have hl := congrArg List.length e1
        simp only [List.length_append, List.length_cons] at hl
        simp_arith only []
        by_cases hz : z = Str.ofString "|"
        · rw [decide_eq_true hz]
          simp only [Bool.not_true, Bool.false_eq_true, if_false]
          exact hN2 _ _ _ ⟨vs ++ [z], zs, us, _, by rw [e1]; simp, rfl, by simp; lia, e4, rfl, rfl, rfl⟩
        · rw [decide_eq_false hz]
          simp only [Bool.not_false, if_true]
          exact hN1 _ _ _ (by simp; exact szs (by lia)) ⟨vs ++ [z], zs, us ++ [z], _, by rw [e1]; simp, rfl, by simp; lia, okA e4 (ok1 (okw z (by rw [e1]; simp))), by simp, rfl, rfl⟩
    · rintro y' ys acc δ M' ⟨vs, zs, us, c0, e1, e2, e3, e4, rfl, rfl, rfl⟩
      have hl := congrArg List.length e1
      simp only [List.length_append] at hl
      simp
      exact szs (by lia)
  refine dIf_go rfl (fun _ => ?_) fun _ => ?_
  · refine asg_e (ins_e (x := Str.ofString "") rfl (var_e rfl) (var_e rfl) (fun K hK => hK) (by lia) ?_)
    have g := mkWs (l := ws.take a ++ [Str.ofString ""] ++ ws.drop a) (by simp; lia) (by simp; lia) (okA (okA (okT okw) (ok1 wd_nil)) (okDr okw))
    exact fin _ _ _ _ _ rfl g dr
  · have s9 : ∀ K : D → Mem → Prop, K (.lst ((some9 m x).map D.str)) M3 → dFrz (dLst (dCons (dCB cStr (dCons (dOp oIx (dVar 1) (dC (.int 0))) dNil)) (dCons (dOp oAdd (dC (.str "0")) (dOp oIx (dVar 2) (dVar 3))) (dCons (dOp oAdd (dC (.str "-")) (dOp oIx (dVar 2) (dVar 3))) (dCons (dOp oAdd (dOp oIx (dVar 2) (dVar 3)) (dC (.str "a"))) (dCons (dC (.str "")) (dCons (dC (.str "|")) (dCons (dC (.str "0")) (dCons (dCB cStr (dCons (dOp oSub (dOp oIx (dVar 1) (dC (.int 0))) (dC (.int 1))) dNil)) (dCons (dC (.str "+1")) dNil))))))))))
        [some (D.ref k.p), some (plnD m many names rows mk), some (D.lst (List.map D.str ws)), some (D.int ((a : Nat) : Int)), some (D.int ((b : Nat) : Int)), some (D.int way), none, none] M3 K := by
      intro K hK
      have h3 := hx3.1
      have c1 : (Str.ofString "0").length = 1 := by decide +kernel
      have c2 : (Str.ofString "-").length = 1 := by decide +kernel
      have c3 : (Str.ofString "a").length = 1 := by decide +kernel
      simp_arith only [plnD, atI_0, hxa, c1, c2, c3]
      refine ⟨⟨by lia, by lia⟩, szl (by lia), szl (by lia), szl (by lia), ⟨by lia, by lia⟩, szl (by decide), fun p hp => ?_⟩
      rw [Mem.upd_del, Mem.del_none hp]
      exact hK
    refine seq_go (asg_e (s9 _ ?_))
    simp_arith only []
    intro p1 hp1
    rw [Mem.upd_del, Mem.del_none hp1]
    refine draw_call d3.1 (by decide) (by decide) fun r M4 a4 b4 d4 => ?_
    obtain ⟨r, rfl⟩ := Int.eq_ofNat_of_zero_le a4
    have l9 : (some9 m x).length = 9 := rfl
    obtain ⟨u, hu⟩ : ∃ u, (some9 m x)[r]? = some u := ⟨(some9 m x)[r]'(by lia), List.getElem?_eq_getElem (by lia)⟩
    have hua : atI ((some9 m x).map D.str) ((r : Nat) : Int) = some (.str u) := by rw [atI_nn (by lia), Int.toNat_natCast, List.getElem?_map, hu]; rfl
    have hu6 : Wd u := by
      have := List.mem_of_getElem? hu
      simp only [some9, List.mem_cons, List.not_mem_nil, or_false] at this
      rcases this with rfl | rfl | rfl | rfl | rfl | rfl | rfl | rfl | rfl
      · exact (wd3_itx (by lia) (by lia)).wd
      · exact wd_cat wd3_0 hx3
      · exact wd_cat wd3_m hx3
      · exact wd_cat hx3 wd3_a
      · exact wd_nil
      · exact wd3_bar.wd
      · exact wd3_0.wd
      · exact (wd3_itx (by lia) (by lia)).wd
      · exact wd3_p.wd
    simp_arith only [cut_hi, cut_lo, cut_lo1, eSP, hua]
    simp +contextual only [Mem.upd_del, Mem.del_none]
    have g := mkWs (l := ws.take a ++ [u] ++ ws.drop (a + 1)) (by simp; lia) (by simp; lia) (okA (okA (okT okw) (ok1 hu6)) (okDr okw))
    exact ⟨szl (by decide), fun _ _ => ⟨szl (by simp; lia), fun _ _ _ _ => ⟨szl (by simp; lia), fun _ _ => fin _ _ _ _ _ (by simp) g (dr.trans d4)⟩⟩⟩
end
end Tw

namespace Tw
open PySem L2 L3 LS PySem.NumText
theorem okv_nats {n : Nat} {l : List Nat} (h : l.length ≤ 1000) : okv (n + 1) (.tup (natsD l)) := by
  refine ⟨by simp [natsD]; lia, fun x hx => ?_⟩
  simp only [natsD, List.mem_map] at hx
  obtain ⟨y, _, rfl⟩ := hx
  cases n <;> trivial
theorem okv_two {n : Nat} {a b : List Nat} (h1 : a.length ≤ 1000) (h2 : b.length ≤ 1000) : okv (n + 2) (.tup [.tup (natsD a), .tup (natsD b)]) := by
  refine ⟨by simp, fun x hx => ?_⟩
  simp only [List.mem_cons, List.not_mem_nil, or_false] at hx
  rcases hx with rfl | rfl
  · exact okv_nats h1
  · exact okv_nats h2
theorem nats_toNat : ∀ {l : List Int}, (∀ v ∈ l, 0 ≤ v) → natsD (l.map Int.toNat) = l.map D.int
  | [], _ => rfl
  | v :: l, h => by
    have h1 := h v (by simp)
    have h2 := nats_toNat fun w hw => h w (List.mem_cons_of_mem _ hw)
    unfold natsD at h2 ⊢
    simp only [List.map_cons, h2]
    rw [show ((v.toNat : Nat) : Int) = v by lia]
theorem wv_nums {m : Nat} : ∀ {l : List Int}, (∀ v ∈ l, 0 ≤ v ∧ v < ((m : Nat) : Int)) → (l.map itx).map (wv m) = (l.map Int.toNat).map some
  | [], _ => rfl
  | v :: l, h => by
    have h1 := h v (by simp)
    have h2 := wv_nums fun w hw => h w (List.mem_cons_of_mem _ hw)
    have h3 := wv_itx (m := m) (n := v.toNat) (by lia)
    rw [show ((v.toNat : Nat) : Int) = v by lia] at h3
    simp only [List.map_cons, h2, h3]
theorem fm_some : ∀ l : List Nat, (l.map some).filterMap id = l
  | [] => rfl
  | a :: l => by simp only [List.map_cons, List.filterMap_cons, id, fm_some l]
theorem readW_words {m many : Nat} {nums pieces : List Int} (hp : pieces.length = many) (r1 : ∀ v ∈ nums, 0 ≤ v ∧ v < ((m : Nat) : Int)) (r2 : ∀ v ∈ pieces, 0 ≤ v ∧ v < ((m : Nat) : Int)) :
    readW m nums.length many (wordsOf nums pieces) = some (nums.map Int.toNat, pieces.map Int.toNat) := by
  have e1 : (wordsOf nums pieces).take nums.length = nums.map itx := by
    unfold wordsOf
    rw [List.append_assoc, List.take_left' (by simp)]
  have e2 : (wordsOf nums pieces).drop (nums.length + 1) = pieces.map itx := by
    unfold wordsOf
    rw [List.drop_left' (by simp)]
  unfold readW
  rw [e1, e2, wv_nums r1, wv_nums r2, if_pos, if_neg, fm_some, fm_some]
  · simp
  · refine ⟨by rw [words_len]; lia, ?_⟩
    unfold wordsOf
    rw [List.append_assoc, List.getElem?_append_right (by simp)]
    simp
theorem readW_len {m mid many : Nat} {ws : List Str} {a b : List Nat} (h : readW m mid many ws = some (a, b)) (hl : ws.length ≤ 60) : a.length ≤ 1000 ∧ b.length ≤ 1000 := by
  unfold readW at h
  split at h
  · split at h
    · cases h
    · cases h
      constructor
      · refine Nat.le_trans (List.length_filterMap_le ..) ?_
        simp; lia
      · refine Nat.le_trans (List.length_filterMap_le ..) ?_
        simp; lia
  · cases h
theorem join_e {M : Mem} {i : Nat} {δ : Dl} {ws : List Str} {K : D → Mem → Prop} (hδ : δ[i]? = some (some (.lst (ws.map D.str)))) (hw : Ws ws) (h : K (.str (txt ws)) M) : dBM "str" mJoin (dC (.str " ")) (dCons (dVar i) dNil) δ M K := by
  have eSP : Str.ofString " " = SP := rfl
  simp_arith only [hδ, eSP, strsOf_map]
  exact ⟨⟨by decide, ws_fit hw⟩, h⟩
theorem law_holds (ad : Ad) (ns : List Int) (hl : ns.length ≤ 63) : S_law ad [.ml (ns.map D.int)] (fun _ => none) (fun d _ => d = .bl true) NoX := by
  have eSP : Str.ofString " " = SP := rfl
  simp_arith only [u_law, T_law]
  refine pot_call fun k M1 h1 _ => ?_
  simp_arith only []
  refine plan_call h1 fun m many names rows mk M2 pl k2 => ?_
  simp_arith only []
  refine stand_call k2.1 pl fun nums pieces M3 ln lp r1 r2 k3 => ?_
  have t1 := pl.t.m1
  have t2 := pl.t.m2
  have t3 := pl.t.n1
  have t4 := pl.t.k0
  have t5 := pl.t.k1
  have t6 := pl.t.n0
  have r1' : ∀ v ∈ nums, 0 ≤ v ∧ v < 998 := fun v hv => by have := r1 v hv; lia
  have r2' : ∀ v ∈ pieces, 0 ≤ v ∧ v < 998 := fun v hv => by have := r2 v hv; lia
  have hw3 : W3 (wordsOf nums pieces) := ⟨by rw [words_len]; lia, by rw [words_len]; lia, words3 r1' r2'⟩
  have erd : readW m.toNat names.length many.toNat (wordsOf nums pieces) = some (nums.map Int.toNat, pieces.map Int.toNat) := by
    rw [← ln]
    exact readW_words (by lia) (fun v hv => by have := r1 v hv; lia) (fun v hv => by have := r2 v hv; lia)
  simp only [standD, frz, hName]
  refine seq_go (asg_e (words_e (i := 3) rfl (by lia) (by lia) r1' r2' ?_))
  dsimp only
  refine seq_go (asg_e (join_e rfl hw3.ws ?_))
  dsimp only
  simp_arith only []
  refine calls_ro (d := .str (txt (wordsOf nums pieces))) (fun Q' E' q => text_spec (by lia) (by lia) r1' r2' q) ?_
  simp_arith only []
  refine alike_call rfl trivial ?_
  simp_arith only []
  refine calls_of fun Q' E' hq _ => read_spec pl hw3.ws (fun a b e => ?_) (fun e => by rw [erd] at e; cases e)
  rw [erd] at e
  cases e
  refine hq _ _ ?_
  simp_arith only []
  refine alike_call (by rw [nats_toNat fun v hv => (r1 v hv).1, nats_toNat fun v hv => (r2 v hv).1]) (okv_two (n := 21) (by simp; lia) (by simp; lia)) ?_
  simp_arith only [↓dFor]
  refine ⟨by decide, by decide, ?_⟩
  refine forD_inv (fun ys δ N => ∃ (c6 c7 c8 c9 c10 c11 : Option D), δ = [some (.ml (ns.map D.int)), some (.ref k.p), some (plnD m many names rows mk), some (standD nums pieces), some (.lst ((wordsOf nums pieces).map D.str)), some (.str (txt (wordsOf nums pieces))), c6, c7, c8, c9, c10, c11] ∧ Has k N) (fun _ _ _ _ => ok_nil) ?_ ?_ _ _ _ ⟨_, _, _, _, _, _, rfl, k3.1⟩
  · rintro δ N ⟨c6, c7, c8, c9, c10, c11, rfl, hN⟩
    simp_arith only []
    exact drp_id rfl
  · rintro y ys δ N ⟨c6, c7, c8, c9, c10, c11, rfl, hN⟩ D' hD _ hR _
    simp_arith only []
    refine calls_of fun Q' E' hq _ => bent_spec pl hN hw3 fun ws' M5 hws d5 => hq _ _ ?_
    simp_arith only []
    refine calls_ro (d := dueD (readW m.toNat names.length many.toNat ws')) (fun Q' E' q => due_spec pl hws q) ?_
    cases hr : readW m.toNat names.length many.toNat ws' with
    | none =>
      simp_arith only [dueD]
      refine ⟨szl (by decide), fun q1 hq1 => ?_⟩
      rw [Mem.upd_del, Mem.del_none hq1]
      refine calls_of fun Q' E' _ he => read_spec pl hws (fun a b e => by rw [hr] at e; cases e) (fun _ => he _ _ ⟨rfl, fun ea => ?_⟩)
      refine calls_of fun Q' E' hq _ => kinds_spec fun p hp => hq _ _ ?_
      simp_arith only [dueD]
      refine calls_ro (d := .str (Str.ofString "text")) (fun Q' E' q => name_spec Mem.upd_same q) ?_
      simp_arith only [dueD]
      exact hD _ _ ⟨_, _, _, _, _, _, rfl, d5.1.upd (d5.1.nep hp)⟩
    | some ab =>
      obtain ⟨a, b⟩ := ab
      simp_arith only [dueD]
      refine ⟨szl (by decide), fun q1 hq1 => ?_⟩
      rw [Mem.upd_del, Mem.del_none hq1]
      refine calls_of fun Q' E' hq _ => read_spec pl hws (fun a' b' e => ?_) (fun e => by rw [hr] at e; cases e)
      rw [hr] at e
      cases e
      refine hq _ _ ?_
      simp_arith only [dueD]
      refine ⟨szl (by decide), fun q2 hq2 => ?_⟩
      rw [Mem.upd_del, Mem.del_none hq2]
      have hla := readW_len hr hws.len
      refine alike_call rfl (okv_two (n := 21) hla.1 hla.2) ?_
      simp_arith only []
      exact hD _ _ ⟨_, _, _, _, _, _, rfl, d5.1⟩
end Tw

namespace Tw
open PySem L2 L3
noncomputable def spTop (K : PySem.W.Frag) : Sp := fun vs H Q _ => ∃ (a : Addr) (ns : List Int), vs = [.ref a] ∧ Only H ∧ SqL K H a (ns.map V.int) ∧ ns.length ≤ 63 ∧ ∀ H', Q (.bl true) H'
theorem us1 {α : Type} {P : List α → Prop} (h : ∀ a0, P [a0]) : ∀ us : List α, us.length = 1 → P us
  | [a0], _ => h a0
theorem us2 {α : Type} {P : List α → Prop} (h : ∀ a0 a1, P [a0, a1]) : ∀ us : List α, us.length = 2 → P us
  | [a0, a1], _ => h a0 a1
theorem us3 {α : Type} {P : List α → Prop} (h : ∀ a0 a1 a2, P [a0, a1, a2]) : ∀ us : List α, us.length = 3 → P us
  | [a0, a1, a2], _ => h a0 a1 a2
theorem us4 {α : Type} {P : List α → Prop} (h : ∀ a0 a1 a2 a3, P [a0, a1, a2, a3]) : ∀ us : List α, us.length = 4 → P us
  | [a0, a1, a2, a3], _ => h a0 a1 a2 a3
theorem us5 {α : Type} {P : List α → Prop} (h : ∀ a0 a1 a2 a3 a4, P [a0, a1, a2, a3, a4]) : ∀ us : List α, us.length = 5 → P us
  | [a0, a1, a2, a3, a4], _ => h a0 a1 a2 a3 a4
theorem all_mk {l : PySem.W.OpenLaw} {w : World} {K : PySem.W.Frag} {h : Heap} {mg : Str → Option Value} {fa C_Dry C_NoBuild C_NoCase C_NoLine C_NoMoment C_NoPlace C_NoRow C_NoText C_StrideError C_TooBig C_TooMany f1 f2 f3 f4 f5 f6 f7 f8 f9 f10 f11 f12 f13 f14 f15 f16 f17 f18 f19 : Addr} (X : K.In h) (G : h.Ns mainGlobals mg) (hfa : mg "law" = some (.ref fa))
    {od1 an1 od2 an2 od3 an3 od4 an4 od5 an5 od6 an6 od7 an7 od8 an8 od9 an9 od10 an10 od11 an11 od12 an12 od13 an13 od14 an14 od15 an15 od16 an16 od17 an17 od18 an18 od19 an19 : Option Addr} {sl1 sl2 sl3 sl4 sl5 sl6 sl7 sl8 sl9 sl10 sl11 sl12 sl13 sl14 sl15 sl16 sl17 sl18 sl19 : Array (Option Value)} {oc1 kV1 dc1 pm1 cd1 ct1 oc2 kV2 dc2 pm2 cd2 ct2 oc3 kV3 dc3 pm3 cd3 ct3 oc4 kV4 dc4 pm4 cd4 ct4 oc5 kV5 dc5 pm5 cd5 ct5 oc6 kV6 dc6 pm6 cd6 ct6 oc7 kV7 dc7 pm7 cd7 ct7 oc8 kV8 dc8 pm8 cd8 ct8 oc9 kV9 dc9 pm9 cd9 ct9 oc10 kV10 dc10 pm10 cd10 ct10 oc11 kV11 dc11 pm11 cd11 ct11 oc12 kV12 dc12 pm12 cd12 ct12 oc13 kV13 dc13 pm13 cd13 ct13 oc14 kV14 dc14 pm14 cd14 ct14 oc15 kV15 dc15 pm15 cd15 ct15 oc16 kV16 dc16 pm16 cd16 ct16 oc17 kV17 dc17 pm17 cd17 ct17 oc18 kV18 dc18 pm18 cd18 ct18 oc19 kV19 dc19 pm19 cd19 ct19 : Value}
    (aC_Dry : PySem.W.nsIn K mainGlobals "Dry" = some (some (.ref C_Dry)))
    (aC_NoBuild : PySem.W.nsIn K mainGlobals "NoBuild" = some (some (.ref C_NoBuild)))
    (aC_NoCase : PySem.W.nsIn K mainGlobals "NoCase" = some (some (.ref C_NoCase)))
    (aC_NoLine : PySem.W.nsIn K mainGlobals "NoLine" = some (some (.ref C_NoLine)))
    (aC_NoMoment : PySem.W.nsIn K mainGlobals "NoMoment" = some (some (.ref C_NoMoment)))
    (aC_NoPlace : PySem.W.nsIn K mainGlobals "NoPlace" = some (some (.ref C_NoPlace)))
    (aC_NoRow : PySem.W.nsIn K mainGlobals "NoRow" = some (some (.ref C_NoRow)))
    (aC_NoText : PySem.W.nsIn K mainGlobals "NoText" = some (some (.ref C_NoText)))
    (aC_StrideError : PySem.W.nsIn K mainGlobals "StrideError" = some (some (.ref C_StrideError)))
    (aC_TooBig : PySem.W.nsIn K mainGlobals "TooBig" = some (some (.ref C_TooBig)))
    (aC_TooMany : PySem.W.nsIn K mainGlobals "TooMany" = some (some (.ref C_TooMany)))
    (a1 : PySem.W.nsIn K mainGlobals "are_figures" = some (some (.ref f1)))
    (l1 : K.lookup f1 = some ⟨oc1, od1, .func (PySem.W.fnOf "are_figures" "are_figures" (defArgs s_are_figures) (defBody s_are_figures) (defScope s_are_figures) .none kV1 dc1 pm1 an1 cd1 ct1), sl1⟩)
    (c1 : PySem.W.codeIn K cd1 "are_figures" = true)
    (k1 : PySem.W.keepIn K (.ref f1) = true)
    (a2 : PySem.W.nsIn K mainGlobals "number_from" = some (some (.ref f2)))
    (l2 : K.lookup f2 = some ⟨oc2, od2, .func (PySem.W.fnOf "number_from" "number_from" (defArgs s_number_from) (defBody s_number_from) (defScope s_number_from) .none kV2 dc2 pm2 an2 cd2 ct2), sl2⟩)
    (c2 : PySem.W.codeIn K cd2 "number_from" = true)
    (k2 : PySem.W.keepIn K (.ref f2) = true)
    (a3 : PySem.W.nsIn K mainGlobals "stand_text" = some (some (.ref f3)))
    (l3 : K.lookup f3 = some ⟨oc3, od3, .func (PySem.W.fnOf "stand_text" "stand_text" (defArgs s_stand_text) (defBody s_stand_text) (defScope s_stand_text) .none kV3 dc3 pm3 an3 cd3 ct3), sl3⟩)
    (c3 : PySem.W.codeIn K cd3 "stand_text" = true)
    (k3 : PySem.W.keepIn K (.ref f3) = true)
    (a4 : PySem.W.nsIn K mainGlobals "read_stand" = some (some (.ref f4)))
    (l4 : K.lookup f4 = some ⟨oc4, od4, .func (PySem.W.fnOf "read_stand" "read_stand" (defArgs s_read_stand) (defBody s_read_stand) (defScope s_read_stand) .none kV4 dc4 pm4 an4 cd4 ct4), sl4⟩)
    (c4 : PySem.W.codeIn K cd4 "read_stand" = true)
    (k4 : PySem.W.keepIn K (.ref f4) = true)
    (a5 : PySem.W.nsIn K mainGlobals "_law_stirred" = some (some (.ref f5)))
    (l5 : K.lookup f5 = some ⟨oc5, od5, .func (PySem.W.fnOf "_law_stirred" "_law_stirred" (defArgs s__law_stirred) (defBody s__law_stirred) (defScope s__law_stirred) .none kV5 dc5 pm5 an5 cd5 ct5), sl5⟩)
    (c5 : PySem.W.codeIn K cd5 "_law_stirred" = true)
    (k5 : PySem.W.keepIn K (.ref f5) = true)
    (a6 : PySem.W.nsIn K mainGlobals "_law_pot" = some (some (.ref f6)))
    (l6 : K.lookup f6 = some ⟨oc6, od6, .func (PySem.W.fnOf "_law_pot" "_law_pot" (defArgs s__law_pot) (defBody s__law_pot) (defScope s__law_pot) .none kV6 dc6 pm6 an6 cd6 ct6), sl6⟩)
    (c6 : PySem.W.codeIn K cd6 "_law_pot" = true)
    (k6 : PySem.W.keepIn K (.ref f6) = true)
    (a7 : PySem.W.nsIn K mainGlobals "_law_draw" = some (some (.ref f7)))
    (l7 : K.lookup f7 = some ⟨oc7, od7, .func (PySem.W.fnOf "_law_draw" "_law_draw" (defArgs s__law_draw) (defBody s__law_draw) (defScope s__law_draw) .none kV7 dc7 pm7 an7 cd7 ct7), sl7⟩)
    (c7 : PySem.W.codeIn K cd7 "_law_draw" = true)
    (k7 : PySem.W.keepIn K (.ref f7) = true)
    (a8 : PySem.W.nsIn K mainGlobals "_law_names" = some (some (.ref f8)))
    (l8 : K.lookup f8 = some ⟨oc8, od8, .func (PySem.W.fnOf "_law_names" "_law_names" (defArgs s__law_names) (defBody s__law_names) (defScope s__law_names) .none kV8 dc8 pm8 an8 cd8 ct8), sl8⟩)
    (c8 : PySem.W.codeIn K cd8 "_law_names" = true)
    (k8 : PySem.W.keepIn K (.ref f8) = true)
    (a9 : PySem.W.nsIn K mainGlobals "_law_row" = some (some (.ref f9)))
    (l9 : K.lookup f9 = some ⟨oc9, od9, .func (PySem.W.fnOf "_law_row" "_law_row" (defArgs s__law_row) (defBody s__law_row) (defScope s__law_row) .none kV9 dc9 pm9 an9 cd9 ct9), sl9⟩)
    (c9 : PySem.W.codeIn K cd9 "_law_row" = true)
    (k9 : PySem.W.keepIn K (.ref f9) = true)
    (a10 : PySem.W.nsIn K mainGlobals "_law_block" = some (some (.ref f10)))
    (l10 : K.lookup f10 = some ⟨oc10, od10, .func (PySem.W.fnOf "_law_block" "_law_block" (defArgs s__law_block) (defBody s__law_block) (defScope s__law_block) .none kV10 dc10 pm10 an10 cd10 ct10), sl10⟩)
    (c10 : PySem.W.codeIn K cd10 "_law_block" = true)
    (k10 : PySem.W.keepIn K (.ref f10) = true)
    (a11 : PySem.W.nsIn K mainGlobals "_law_rows" = some (some (.ref f11)))
    (l11 : K.lookup f11 = some ⟨oc11, od11, .func (PySem.W.fnOf "_law_rows" "_law_rows" (defArgs s__law_rows) (defBody s__law_rows) (defScope s__law_rows) .none kV11 dc11 pm11 an11 cd11 ct11), sl11⟩)
    (c11 : PySem.W.codeIn K cd11 "_law_rows" = true)
    (k11 : PySem.W.keepIn K (.ref f11) = true)
    (a12 : PySem.W.nsIn K mainGlobals "_law_plan" = some (some (.ref f12)))
    (l12 : K.lookup f12 = some ⟨oc12, od12, .func (PySem.W.fnOf "_law_plan" "_law_plan" (defArgs s__law_plan) (defBody s__law_plan) (defScope s__law_plan) .none kV12 dc12 pm12 an12 cd12 ct12), sl12⟩)
    (c12 : PySem.W.codeIn K cd12 "_law_plan" = true)
    (k12 : PySem.W.keepIn K (.ref f12) = true)
    (a13 : PySem.W.nsIn K mainGlobals "_law_stand" = some (some (.ref f13)))
    (l13 : K.lookup f13 = some ⟨oc13, od13, .func (PySem.W.fnOf "_law_stand" "_law_stand" (defArgs s__law_stand) (defBody s__law_stand) (defScope s__law_stand) .none kV13 dc13 pm13 an13 cd13 ct13), sl13⟩)
    (c13 : PySem.W.codeIn K cd13 "_law_stand" = true)
    (k13 : PySem.W.keepIn K (.ref f13) = true)
    (a14 : PySem.W.nsIn K mainGlobals "_law_name" = some (some (.ref f14)))
    (l14 : K.lookup f14 = some ⟨oc14, od14, .func (PySem.W.fnOf "_law_name" "_law_name" (defArgs s__law_name) (defBody s__law_name) (defScope s__law_name) .none kV14 dc14 pm14 an14 cd14 ct14), sl14⟩)
    (c14 : PySem.W.codeIn K cd14 "_law_name" = true)
    (k14 : PySem.W.keepIn K (.ref f14) = true)
    (a15 : PySem.W.nsIn K mainGlobals "_law_kinds" = some (some (.ref f15)))
    (l15 : K.lookup f15 = some ⟨oc15, od15, .func (PySem.W.fnOf "_law_kinds" "_law_kinds" (defArgs s__law_kinds) (defBody s__law_kinds) (defScope s__law_kinds) .none kV15 dc15 pm15 an15 cd15 ct15), sl15⟩)
    (c15 : PySem.W.codeIn K cd15 "_law_kinds" = true)
    (k15 : PySem.W.keepIn K (.ref f15) = true)
    (a16 : PySem.W.nsIn K mainGlobals "_law_alike" = some (some (.ref f16)))
    (l16 : K.lookup f16 = some ⟨oc16, od16, .func (PySem.W.fnOf "_law_alike" "_law_alike" (defArgs s__law_alike) (defBody s__law_alike) (defScope s__law_alike) .none kV16 dc16 pm16 an16 cd16 ct16), sl16⟩)
    (c16 : PySem.W.codeIn K cd16 "_law_alike" = true)
    (k16 : PySem.W.keepIn K (.ref f16) = true)
    (a17 : PySem.W.nsIn K mainGlobals "_law_due" = some (some (.ref f17)))
    (l17 : K.lookup f17 = some ⟨oc17, od17, .func (PySem.W.fnOf "_law_due" "_law_due" (defArgs s__law_due) (defBody s__law_due) (defScope s__law_due) .none kV17 dc17 pm17 an17 cd17 ct17), sl17⟩)
    (c17 : PySem.W.codeIn K cd17 "_law_due" = true)
    (k17 : PySem.W.keepIn K (.ref f17) = true)
    (a18 : PySem.W.nsIn K mainGlobals "_law_bent" = some (some (.ref f18)))
    (l18 : K.lookup f18 = some ⟨oc18, od18, .func (PySem.W.fnOf "_law_bent" "_law_bent" (defArgs s__law_bent) (defBody s__law_bent) (defScope s__law_bent) .none kV18 dc18 pm18 an18 cd18 ct18), sl18⟩)
    (c18 : PySem.W.codeIn K cd18 "_law_bent" = true)
    (k18 : PySem.W.keepIn K (.ref f18) = true)
    (a19 : PySem.W.nsIn K mainGlobals "law" = some (some (.ref f19)))
    (l19 : K.lookup f19 = some ⟨oc19, od19, .func (PySem.W.fnOf "law" "law" (defArgs s_law) (defBody s_law) (defScope s_law) .none kV19 dc19 pm19 an19 cd19 ct19), sl19⟩)
    (c19 : PySem.W.codeIn K cd19 "law" = true)
    (k19 : PySem.W.keepIn K (.ref f19) = true)
    (x_NoText : PySem.W.excIn K C_NoText [.type "ValueError", .type "Exception", .type "BaseException", .type "object"] "ValueError.__new__" = true)
    (xg : PySem.W.findIn K (.ref C_NoText) "__getattribute__" = some (some (.builtin "BaseException.__getattribute__")))
    (xh : PySem.W.findIn K (.ref C_NoText) "__getattr__" = some none)
    (xk : PySem.W.findIn K (.ref C_NoText) "__class__" = some (some (.builtin "object.__class__")))
    (xsp : PySem.W.specialIn K (.builtin "object.__class__") "__get__" = some (some (.builtin "getset_descriptor.__get__")))
    (xtk : PySem.W.takesIn K (.builtin "object.__class__") = some true)
    (xob : PySem.W.mroIn K C_NoText (.type "object") = some true)
    (xbe : PySem.W.mroIn K C_NoText (.type "BaseException") = some true)
    (xse : PySem.W.mroIn K C_NoText (.ref C_NoText) = some true)
    (xd_Dry : PySem.W.hasDictIn K C_Dry = true)
    (xd_NoBuild : PySem.W.hasDictIn K C_NoBuild = true)
    (xd_NoCase : PySem.W.hasDictIn K C_NoCase = true)
    (xd_NoLine : PySem.W.hasDictIn K C_NoLine = true)
    (xd_NoMoment : PySem.W.hasDictIn K C_NoMoment = true)
    (xd_NoPlace : PySem.W.hasDictIn K C_NoPlace = true)
    (xd_NoRow : PySem.W.hasDictIn K C_NoRow = true)
    (xd_NoText : PySem.W.hasDictIn K C_NoText = true)
    (xd_StrideError : PySem.W.hasDictIn K C_StrideError = true)
    (xd_TooBig : PySem.W.hasDictIn K C_TooBig = true)
    (xd_TooMany : PySem.W.hasDictIn K C_TooMany = true)
    (xt_StrideError : PySem.W.instIn K (.ref C_StrideError) (.type "tuple") = some false)
    (xw_StrideError : PySem.W.mroIn K C_StrideError (.type "BaseException") = some true)
    (xm_StrideError : PySem.W.mroIn K C_NoText (.ref C_StrideError) = some true)
    (xy_Dry : PySem.W.typeIn K (.ref C_Dry) = some (.type "type"))
    (xq_Dry : PySem.W.mroIn K C_NoText (.ref C_Dry) = some false)
    (xy_NoBuild : PySem.W.typeIn K (.ref C_NoBuild) = some (.type "type"))
    (xq_NoBuild : PySem.W.mroIn K C_NoText (.ref C_NoBuild) = some false)
    (xy_NoCase : PySem.W.typeIn K (.ref C_NoCase) = some (.type "type"))
    (xq_NoCase : PySem.W.mroIn K C_NoText (.ref C_NoCase) = some false)
    (xy_NoLine : PySem.W.typeIn K (.ref C_NoLine) = some (.type "type"))
    (xq_NoLine : PySem.W.mroIn K C_NoText (.ref C_NoLine) = some false)
    (xy_NoMoment : PySem.W.typeIn K (.ref C_NoMoment) = some (.type "type"))
    (xq_NoMoment : PySem.W.mroIn K C_NoText (.ref C_NoMoment) = some false)
    (xy_NoPlace : PySem.W.typeIn K (.ref C_NoPlace) = some (.type "type"))
    (xq_NoPlace : PySem.W.mroIn K C_NoText (.ref C_NoPlace) = some false)
    (xy_NoRow : PySem.W.typeIn K (.ref C_NoRow) = some (.type "type"))
    (xq_NoRow : PySem.W.mroIn K C_NoText (.ref C_NoRow) = some false)
    (xy_NoText : PySem.W.typeIn K (.ref C_NoText) = some (.type "type"))
    (xq_NoText : PySem.W.mroIn K C_NoText (.ref C_NoText) = some true)
    (xy_TooBig : PySem.W.typeIn K (.ref C_TooBig) = some (.type "type"))
    (xq_TooBig : PySem.W.mroIn K C_NoText (.ref C_TooBig) = some false)
    (xy_TooMany : PySem.W.typeIn K (.ref C_TooMany) = some (.type "type"))
    (xq_TooMany : PySem.W.mroIn K C_NoText (.ref C_TooMany) = some false)
    (xq_ValueError : PySem.W.mroIn K C_NoText (.type "ValueError") = some true)
    (z_ValueError : PySem.W.nsIn K mainGlobals "ValueError" = some none)
    (z_all : PySem.W.nsIn K mainGlobals "all" = some none)
    (z_bool : PySem.W.nsIn K mainGlobals "bool" = some none)
    (z_int : PySem.W.nsIn K mainGlobals "int" = some none)
    (z_isinstance : PySem.W.nsIn K mainGlobals "isinstance" = some none)
    (z_len : PySem.W.nsIn K mainGlobals "len" = some none)
    (z_list : PySem.W.nsIn K mainGlobals "list" = some none)
    (z_min : PySem.W.nsIn K mainGlobals "min" = some none)
    (z_range : PySem.W.nsIn K mainGlobals "range" = some none)
    (z_str : PySem.W.nsIn K mainGlobals "str" = some none)
    (z_tuple : PySem.W.nsIn K mainGlobals "tuple" = some none)
    (z_zip : PySem.W.nsIn K mainGlobals "zip" = some none) :
    ∃ fd : FuncData, (∀ (s : Shared) (v : Value), BindsTo s fd ⟨[v], []⟩ [("script", v)]) ∧ ∀ base : Heap, K.In base → base.Ns mainGlobals mg → FnOk l.prog w K mg base CX0 29 fa fd ["script"] (spTop K) := by
  have e := hfa.symm.trans (PySem.W.mg_of X G a19)
  cases e
  have F1 := fun_mk (st := s_are_figures) l1 c1 k1
  have b1 := F1.binds (ps := ["text"]) fun _ _ _ _ _ _ => us1 fun _ => rfl
  have F2 := fun_mk (st := s_number_from) l2 c2 k2
  have b2 := F2.binds (ps := ["text", "least", "most"]) fun _ _ _ _ _ _ => us3 fun _ _ _ => rfl
  have F3 := fun_mk (st := s_stand_text) l3 c3 k3
  have b3 := F3.binds (ps := ["stand"]) fun _ _ _ _ _ _ => us1 fun _ => rfl
  have F4 := fun_mk (st := s_read_stand) l4 c4 k4
  have b4 := F4.binds (ps := ["plan", "text"]) fun _ _ _ _ _ _ => us2 fun _ _ => rfl
  have F5 := fun_mk (st := s__law_stirred) l5 c5 k5
  have b5 := F5.binds (ps := ["cell", "turn"]) fun _ _ _ _ _ _ => us2 fun _ _ => rfl
  have F6 := fun_mk (st := s__law_pot) l6 c6 k6
  have b6 := F6.binds (ps := ["script"]) fun _ _ _ _ _ _ => us1 fun _ => rfl
  have F7 := fun_mk (st := s__law_draw) l7 c7 k7
  have b7 := F7.binds (ps := ["pot", "many"]) fun _ _ _ _ _ _ => us2 fun _ _ => rfl
  have F8 := fun_mk (st := s__law_names) l8 c8 k8
  have b8 := F8.binds (ps := ["pot", "many"]) fun _ _ _ _ _ _ => us2 fun _ _ => rfl
  have F9 := fun_mk (st := s__law_row) l9 c9 k9
  have b9 := F9.binds (ps := ["pot", "told"]) fun _ _ _ _ _ _ => us2 fun _ _ => rfl
  have F10 := fun_mk (st := s__law_block) l10 c10 k10
  have b10 := F10.binds (ps := ["pot", "told", "room", "deep"]) fun _ _ _ _ _ _ => us4 fun _ _ _ _ => rfl
  have F11 := fun_mk (st := s__law_rows) l11 c11 k11
  have b11 := F11.binds (ps := ["pot", "told", "room", "deep", "most"]) fun _ _ _ _ _ _ => us5 fun _ _ _ _ _ => rfl
  have F12 := fun_mk (st := s__law_plan) l12 c12 k12
  have b12 := F12.binds (ps := ["pot", "most"]) fun _ _ _ _ _ _ => us2 fun _ _ => rfl
  have F13 := fun_mk (st := s__law_stand) l13 c13 k13
  have b13 := F13.binds (ps := ["pot", "plan"]) fun _ _ _ _ _ _ => us2 fun _ _ => rfl
  have F14 := fun_mk (st := s__law_name) l14 c14 k14
  have b14 := F14.binds (ps := ["flags"]) fun _ _ _ _ _ _ => us1 fun _ => rfl
  have F15 := fun_mk (st := s__law_kinds) l15 c15 k15
  have b15 := F15.binds (ps := ["e"]) fun _ _ _ _ _ _ => us1 fun _ => rfl
  have F16 := fun_mk (st := s__law_alike) l16 c16 k16
  have b16 := F16.binds (ps := ["found", "due"]) fun _ _ _ _ _ _ => us2 fun _ _ => rfl
  have F17 := fun_mk (st := s__law_due) l17 c17 k17
  have b17 := F17.binds (ps := ["plan", "text"]) fun _ _ _ _ _ _ => us2 fun _ _ => rfl
  have F18 := fun_mk (st := s__law_bent) l18 c18 k18
  have b18 := F18.binds (ps := ["pot", "plan", "words"]) fun _ _ _ _ _ _ => us3 fun _ _ _ => rfl
  have F19 := fun_mk (st := s_law) l19 c19 k19
  have b19 := F19.binds (ps := ["script"]) fun _ _ _ _ _ _ => us1 fun _ => rfl
  let ad : Ad := { C_Dry := C_Dry, C_NoBuild := C_NoBuild, C_NoCase := C_NoCase, C_NoLine := C_NoLine, C_NoMoment := C_NoMoment, C_NoPlace := C_NoPlace, C_NoRow := C_NoRow, C_NoText := C_NoText, C_StrideError := C_StrideError, C_TooBig := C_TooBig, C_TooMany := C_TooMany, a_are_figures := f1, d_are_figures := PySem.W.fnOf "are_figures" "are_figures" (defArgs s_are_figures) (defBody s_are_figures) (defScope s_are_figures) .none kV1 dc1 pm1 an1 cd1 ct1, a_number_from := f2, d_number_from := PySem.W.fnOf "number_from" "number_from" (defArgs s_number_from) (defBody s_number_from) (defScope s_number_from) .none kV2 dc2 pm2 an2 cd2 ct2, a_stand_text := f3, d_stand_text := PySem.W.fnOf "stand_text" "stand_text" (defArgs s_stand_text) (defBody s_stand_text) (defScope s_stand_text) .none kV3 dc3 pm3 an3 cd3 ct3, a_read_stand := f4, d_read_stand := PySem.W.fnOf "read_stand" "read_stand" (defArgs s_read_stand) (defBody s_read_stand) (defScope s_read_stand) .none kV4 dc4 pm4 an4 cd4 ct4, a__law_stirred := f5, d__law_stirred := PySem.W.fnOf "_law_stirred" "_law_stirred" (defArgs s__law_stirred) (defBody s__law_stirred) (defScope s__law_stirred) .none kV5 dc5 pm5 an5 cd5 ct5, a__law_pot := f6, d__law_pot := PySem.W.fnOf "_law_pot" "_law_pot" (defArgs s__law_pot) (defBody s__law_pot) (defScope s__law_pot) .none kV6 dc6 pm6 an6 cd6 ct6, a__law_draw := f7, d__law_draw := PySem.W.fnOf "_law_draw" "_law_draw" (defArgs s__law_draw) (defBody s__law_draw) (defScope s__law_draw) .none kV7 dc7 pm7 an7 cd7 ct7, a__law_names := f8, d__law_names := PySem.W.fnOf "_law_names" "_law_names" (defArgs s__law_names) (defBody s__law_names) (defScope s__law_names) .none kV8 dc8 pm8 an8 cd8 ct8, a__law_row := f9, d__law_row := PySem.W.fnOf "_law_row" "_law_row" (defArgs s__law_row) (defBody s__law_row) (defScope s__law_row) .none kV9 dc9 pm9 an9 cd9 ct9, a__law_block := f10, d__law_block := PySem.W.fnOf "_law_block" "_law_block" (defArgs s__law_block) (defBody s__law_block) (defScope s__law_block) .none kV10 dc10 pm10 an10 cd10 ct10, a__law_rows := f11, d__law_rows := PySem.W.fnOf "_law_rows" "_law_rows" (defArgs s__law_rows) (defBody s__law_rows) (defScope s__law_rows) .none kV11 dc11 pm11 an11 cd11 ct11, a__law_plan := f12, d__law_plan := PySem.W.fnOf "_law_plan" "_law_plan" (defArgs s__law_plan) (defBody s__law_plan) (defScope s__law_plan) .none kV12 dc12 pm12 an12 cd12 ct12, a__law_stand := f13, d__law_stand := PySem.W.fnOf "_law_stand" "_law_stand" (defArgs s__law_stand) (defBody s__law_stand) (defScope s__law_stand) .none kV13 dc13 pm13 an13 cd13 ct13, a__law_name := f14, d__law_name := PySem.W.fnOf "_law_name" "_law_name" (defArgs s__law_name) (defBody s__law_name) (defScope s__law_name) .none kV14 dc14 pm14 an14 cd14 ct14, a__law_kinds := f15, d__law_kinds := PySem.W.fnOf "_law_kinds" "_law_kinds" (defArgs s__law_kinds) (defBody s__law_kinds) (defScope s__law_kinds) .none kV15 dc15 pm15 an15 cd15 ct15, a__law_alike := f16, d__law_alike := PySem.W.fnOf "_law_alike" "_law_alike" (defArgs s__law_alike) (defBody s__law_alike) (defScope s__law_alike) .none kV16 dc16 pm16 an16 cd16 ct16, a__law_due := f17, d__law_due := PySem.W.fnOf "_law_due" "_law_due" (defArgs s__law_due) (defBody s__law_due) (defScope s__law_due) .none kV17 dc17 pm17 an17 cd17 ct17, a__law_bent := f18, d__law_bent := PySem.W.fnOf "_law_bent" "_law_bent" (defArgs s__law_bent) (defBody s__law_bent) (defScope s__law_bent) .none kV18 dc18 pm18 an18 cd18 ct18, a_law := fa, d_law := PySem.W.fnOf "law" "law" (defArgs s_law) (defBody s_law) (defScope s_law) .none kV19 dc19 pm19 an19 cd19 ct19 }
  have T : En K mg ad := {
    xc_NoText := ⟨xg, xh, xd_NoText, xk, xsp, xtk, xob, xbe⟩
    xs_StrideError := ⟨xt_StrideError, cls_some xd_StrideError, xw_StrideError, xm_StrideError⟩
    kt_Dry := kit_of xse xd_Dry xy_Dry xq_Dry
    kt_NoBuild := kit_of xse xd_NoBuild xy_NoBuild xq_NoBuild
    kt_NoCase := kit_of xse xd_NoCase xy_NoCase xq_NoCase
    kt_NoLine := kit_of xse xd_NoLine xy_NoLine xq_NoLine
    kt_NoMoment := kit_of xse xd_NoMoment xy_NoMoment xq_NoMoment
    kt_NoPlace := kit_of xse xd_NoPlace xy_NoPlace xq_NoPlace
    kt_NoRow := kit_of xse xd_NoRow xy_NoRow xq_NoRow
    kt_NoText := kit_of xse xd_NoText xy_NoText xq_NoText
    kt_TooBig := kit_of xse xd_TooBig xy_TooBig xq_TooBig
    kt_TooMany := kit_of xse xd_TooMany xy_TooMany xq_TooMany
    kt_ValueError := kit_ty xq_ValueError
    mC_Dry := PySem.W.mg_of X G aC_Dry
    mC_NoBuild := PySem.W.mg_of X G aC_NoBuild
    mC_NoCase := PySem.W.mg_of X G aC_NoCase
    mC_NoLine := PySem.W.mg_of X G aC_NoLine
    mC_NoMoment := PySem.W.mg_of X G aC_NoMoment
    mC_NoPlace := PySem.W.mg_of X G aC_NoPlace
    mC_NoRow := PySem.W.mg_of X G aC_NoRow
    x_NoText := exc_of_inD X x_NoText
    mC_NoText := PySem.W.mg_of X G aC_NoText
    mC_StrideError := PySem.W.mg_of X G aC_StrideError
    mC_TooBig := PySem.W.mg_of X G aC_TooBig
    mC_TooMany := PySem.W.mg_of X G aC_TooMany
    F_are_figures := F1
    b_are_figures := b1
    k_are_figures := k1
    m_are_figures := PySem.W.mg_of X G a1
    F_number_from := F2
    b_number_from := b2
    k_number_from := k2
    m_number_from := PySem.W.mg_of X G a2
    F_stand_text := F3
    b_stand_text := b3
    k_stand_text := k3
    m_stand_text := PySem.W.mg_of X G a3
    F_read_stand := F4
    b_read_stand := b4
    k_read_stand := k4
    m_read_stand := PySem.W.mg_of X G a4
    F__law_stirred := F5
    b__law_stirred := b5
    k__law_stirred := k5
    m__law_stirred := PySem.W.mg_of X G a5
    F__law_pot := F6
    b__law_pot := b6
    k__law_pot := k6
    m__law_pot := PySem.W.mg_of X G a6
    F__law_draw := F7
    b__law_draw := b7
    k__law_draw := k7
    m__law_draw := PySem.W.mg_of X G a7
    F__law_names := F8
    b__law_names := b8
    k__law_names := k8
    m__law_names := PySem.W.mg_of X G a8
    F__law_row := F9
    b__law_row := b9
    k__law_row := k9
    m__law_row := PySem.W.mg_of X G a9
    F__law_block := F10
    b__law_block := b10
    k__law_block := k10
    m__law_block := PySem.W.mg_of X G a10
    F__law_rows := F11
    b__law_rows := b11
    k__law_rows := k11
    m__law_rows := PySem.W.mg_of X G a11
    F__law_plan := F12
    b__law_plan := b12
    k__law_plan := k12
    m__law_plan := PySem.W.mg_of X G a12
    F__law_stand := F13
    b__law_stand := b13
    k__law_stand := k13
    m__law_stand := PySem.W.mg_of X G a13
    F__law_name := F14
    b__law_name := b14
    k__law_name := k14
    m__law_name := PySem.W.mg_of X G a14
    F__law_kinds := F15
    b__law_kinds := b15
    k__law_kinds := k15
    m__law_kinds := PySem.W.mg_of X G a15
    F__law_alike := F16
    b__law_alike := b16
    k__law_alike := k16
    m__law_alike := PySem.W.mg_of X G a16
    F__law_due := F17
    b__law_due := b17
    k__law_due := k17
    m__law_due := PySem.W.mg_of X G a17
    F__law_bent := F18
    b__law_bent := b18
    k__law_bent := k18
    m__law_bent := PySem.W.mg_of X G a18
    F_law := F19
    b_law := b19
    k_law := k19
    m_law := PySem.W.mg_of X G a19
    z_ValueError := PySem.W.mg_none_of X G z_ValueError
    z_all := PySem.W.mg_none_of X G z_all
    z_bool := PySem.W.mg_none_of X G z_bool
    z_int := PySem.W.mg_none_of X G z_int
    z_isinstance := PySem.W.mg_none_of X G z_isinstance
    z_len := PySem.W.mg_none_of X G z_len
    z_list := PySem.W.mg_none_of X G z_list
    z_min := PySem.W.mg_none_of X G z_min
    z_range := PySem.W.mg_none_of X G z_range
    z_str := PySem.W.mg_none_of X G z_str
    z_tuple := PySem.W.mg_none_of X G z_tuple
    z_zip := PySem.W.mg_none_of X G z_zip
  }
  refine ⟨PySem.W.fnOf "law" "law" (defArgs s_law) (defBody s_law) (defScope s_law) .none kV19 dc19 pm19 an19 cd19 ct19, fun s v => .of_eq rfl, fun base _ _ => ?_⟩
  exact (fn_top (ok_all (P := l.prog) (w := w) (base := base) T)).imp fun vs H Q E ⟨a, ns, e, hO, hS, hl, k⟩ => by subst e; exact law_of2 hO hS (law_holds ad ns hl) k
theorem walk {l : PySem.W.OpenLaw} {q : Program} {loose : List Str} {XP : (Str → Option Value) → Heap → Prop} {YP : World → Heap → Prop} {d : DefRec} {K : Params → PySem.W.Frag} (hn : l.most = some 63) (hdf : d.params.defaults = [])
    (hY : ∀ (w : World) (h : Heap), YP w h → (K w.params).In h)
    (F : ∀ (w : World) (mg : Str → Option Value) (fa : Addr) (h : Heap), (K w.params).In h → h.Ns mainGlobals mg → mg d.name = some (.ref fa) →
      ∃ fd : FuncData, (∀ (s : Shared) (u : Value), BindsTo s fd ⟨[u], []⟩ [("script", u)]) ∧ ∀ base : Heap, (K w.params).In base → base.Ns mainGlobals mg → FnOk l.prog w (K w.params) mg base CX0 29 fa fd ["script"] (spTop (K w.params))) :
    PySem.W.WalkO q loose XP YP l.row.toRowW d [] (fun f vs => PySem.call f vs) :=
  L2.walk_of (n := 63) (k := 29) (x := "script") (CX := fun _ => CX0) (sp := fun w => spTop (K w.params)) hn (by decide) hdf ⟨rfl, by decide, by decide, rfl⟩ hY F (fun _ _ a ns hl hO hS => ⟨a, ns, rfl, hO, hS, hl, fun _ => rfl⟩) fun _ _ _ _ _ z => z
end Tw

open PySem PySem.W PyProof.Rows
set_option maxRecDepth 100000 in
set_option maxHeartbeats 0 in
theorem PySem.Challenge.cw_twinstride_k90_stands_written_and_read_holds : PySem.Challenge.rw_twinstride_k90_stands_written_and_read.Holds := by
  w_on; o_law; k_head; (case hw => w_witness2)
  k_fill
  refine Tw.walk (l := PySem.Challenge.rw_twinstride_k90_stands_written_and_read) rfl rfl (fun w h Y => PySem.W.kIn_of Y) ?F
  case F =>
    intro w mg fa h KX G hmg
    refine' Tw.all_mk KX G hmg ?aC_Dry ?aC_NoBuild ?aC_NoCase ?aC_NoLine ?aC_NoMoment ?aC_NoPlace ?aC_NoRow ?aC_NoText ?aC_StrideError ?aC_TooBig ?aC_TooMany ?a1 ?l1 ?c1 ?k1 ?a2 ?l2 ?c2 ?k2 ?a3 ?l3 ?c3 ?k3 ?a4 ?l4 ?c4 ?k4 ?a5 ?l5 ?c5 ?k5 ?a6 ?l6 ?c6 ?k6 ?a7 ?l7 ?c7 ?k7 ?a8 ?l8 ?c8 ?k8 ?a9 ?l9 ?c9 ?k9 ?a10 ?l10 ?c10 ?k10 ?a11 ?l11 ?c11 ?k11 ?a12 ?l12 ?c12 ?k12 ?a13 ?l13 ?c13 ?k13 ?a14 ?l14 ?c14 ?k14 ?a15 ?l15 ?c15 ?k15 ?a16 ?l16 ?c16 ?k16 ?a17 ?l17 ?c17 ?k17 ?a18 ?l18 ?c18 ?k18 ?a19 ?l19 ?c19 ?k19 ?x_NoText ?xg ?xh ?xk ?xsp ?xtk ?xob ?xbe ?xse ?xd_Dry ?xd_NoBuild ?xd_NoCase ?xd_NoLine ?xd_NoMoment ?xd_NoPlace ?xd_NoRow ?xd_NoText ?xd_StrideError ?xd_TooBig ?xd_TooMany ?xt_StrideError ?xw_StrideError ?xm_StrideError ?xy_Dry ?xq_Dry ?xy_NoBuild ?xq_NoBuild ?xy_NoCase ?xq_NoCase ?xy_NoLine ?xq_NoLine ?xy_NoMoment ?xq_NoMoment ?xy_NoPlace ?xq_NoPlace ?xy_NoRow ?xq_NoRow ?xy_NoText ?xq_NoText ?xy_TooBig ?xq_TooBig ?xy_TooMany ?xq_TooMany ?xq_ValueError ?z_ValueError ?z_all ?z_bool ?z_int ?z_isinstance ?z_len ?z_list ?z_min ?z_range ?z_str ?z_tuple ?z_zip
    (case aC_Dry => k_is)
    (case aC_NoBuild => k_is)
    (case aC_NoCase => k_is)
    (case aC_NoLine => k_is)
    (case aC_NoMoment => k_is)
    (case aC_NoPlace => k_is)
    (case aC_NoRow => k_is)
    (case aC_NoText => k_is)
    (case aC_StrideError => k_is)
    (case aC_TooBig => k_is)
    (case aC_TooMany => k_is)
    (case a1 => k_is)
    (case l1 => k_is)
    (case c1 => k_is)
    (case k1 => k_is)
    (case a2 => k_is)
    (case l2 => k_is)
    (case c2 => k_is)
    (case k2 => k_is)
    (case a3 => k_is)
    (case l3 => k_is)
    (case c3 => k_is)
    (case k3 => k_is)
    (case a4 => k_is)
    (case l4 => k_is)
    (case c4 => k_is)
    (case k4 => k_is)
    (case a5 => k_is)
    (case l5 => k_is)
    (case c5 => k_is)
    (case k5 => k_is)
    (case a6 => k_is)
    (case l6 => k_is)
    (case c6 => k_is)
    (case k6 => k_is)
    (case a7 => k_is)
    (case l7 => k_is)
    (case c7 => k_is)
    (case k7 => k_is)
    (case a8 => k_is)
    (case l8 => k_is)
    (case c8 => k_is)
    (case k8 => k_is)
    (case a9 => k_is)
    (case l9 => k_is)
    (case c9 => k_is)
    (case k9 => k_is)
    (case a10 => k_is)
    (case l10 => k_is)
    (case c10 => k_is)
    (case k10 => k_is)
    (case a11 => k_is)
    (case l11 => k_is)
    (case c11 => k_is)
    (case k11 => k_is)
    (case a12 => k_is)
    (case l12 => k_is)
    (case c12 => k_is)
    (case k12 => k_is)
    (case a13 => k_is)
    (case l13 => k_is)
    (case c13 => k_is)
    (case k13 => k_is)
    (case a14 => k_is)
    (case l14 => k_is)
    (case c14 => k_is)
    (case k14 => k_is)
    (case a15 => k_is)
    (case l15 => k_is)
    (case c15 => k_is)
    (case k15 => k_is)
    (case a16 => k_is)
    (case l16 => k_is)
    (case c16 => k_is)
    (case k16 => k_is)
    (case a17 => k_is)
    (case l17 => k_is)
    (case c17 => k_is)
    (case k17 => k_is)
    (case a18 => k_is)
    (case l18 => k_is)
    (case c18 => k_is)
    (case k18 => k_is)
    (case a19 => k_is)
    (case l19 => k_is)
    (case c19 => k_is)
    (case k19 => k_is)
    (case x_NoText => k_exc)
    (case xg => k_is)
    (case xh => k_is)
    (case xk => k_is)
    (case xsp => k_is)
    (case xtk => k_is)
    (case xob => k_is)
    (case xbe => k_is)
    (case xse => k_is)
    (case xd_Dry => k_is)
    (case xd_NoBuild => k_is)
    (case xd_NoCase => k_is)
    (case xd_NoLine => k_is)
    (case xd_NoMoment => k_is)
    (case xd_NoPlace => k_is)
    (case xd_NoRow => k_is)
    (case xd_NoText => k_is)
    (case xd_StrideError => k_is)
    (case xd_TooBig => k_is)
    (case xd_TooMany => k_is)
    (case xt_StrideError => k_is)
    (case xw_StrideError => k_is)
    (case xm_StrideError => k_is)
    (case xy_Dry => k_is)
    (case xq_Dry => k_is)
    (case xy_NoBuild => k_is)
    (case xq_NoBuild => k_is)
    (case xy_NoCase => k_is)
    (case xq_NoCase => k_is)
    (case xy_NoLine => k_is)
    (case xq_NoLine => k_is)
    (case xy_NoMoment => k_is)
    (case xq_NoMoment => k_is)
    (case xy_NoPlace => k_is)
    (case xq_NoPlace => k_is)
    (case xy_NoRow => k_is)
    (case xq_NoRow => k_is)
    (case xy_NoText => k_is)
    (case xq_NoText => k_is)
    (case xy_TooBig => k_is)
    (case xq_TooBig => k_is)
    (case xy_TooMany => k_is)
    (case xq_TooMany => k_is)
    (case xq_ValueError => k_is)
    (case z_ValueError => k_is)
    (case z_all => k_is)
    (case z_bool => k_is)
    (case z_int => k_is)
    (case z_isinstance => k_is)
    (case z_len => k_is)
    (case z_list => k_is)
    (case z_min => k_is)
    (case z_range => k_is)
    (case z_str => k_is)
    (case z_tuple => k_is)
    (case z_zip => k_is)
