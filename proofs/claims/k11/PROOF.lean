import PyProof.Rows.All
import Wide.All
import OpenK.AllK
import Wide.FinOn
import Lean
import PyProof.EqAt
import PyProof.EqKinds
import PyProof.TupleCall
import PySem.Challenge.RW_twinstride_k11_marks
set_option Elab.async false
set_option linter.all false
set_option maxRecDepth 100000
set_option maxHeartbeats 4000000
set_option Elab.async false
set_option linter.all false
set_option maxRecDepth 100000
/-! THE HAND LAYER, for ints, bools, texts, own classes, LISTS and tuples (index, slices, in, append, pop ..), calls, loops. Paste it whole ahead of your own text; what your proof does not reach may be deleted. -/
namespace L2
open PySem PySem.Spec PyProof.Rows

/-- a key: an int or a str -/
abbrev Key := Sum Int Str
def keyIs : Key → Value → Bool
  | .inl k, v => Value.isInt k v
  | .inr x, v => Value.isStrOf x v
def keyH (w : World) : Key → Int
  | .inl k => hashInt k
  | .inr x => hashStr w x
theorem keyIs_shape : ∀ {k : Key} {v : Value}, keyIs k v = true → (∃ i t, k = Sum.inl i ∧ v = Value.int i t) ∨ (∃ x t, k = Sum.inr x ∧ v = Value.str x t)
  | .inl i, v, h => by
    obtain ⟨t, e⟩ := Value.isInt_shape (k := i) (v := v) h
    exact .inl ⟨i, t, rfl, e⟩
  | .inr x, v, h => by
    obtain ⟨t, e⟩ := Value.isStrOf_shape (x := x) (v := v) h
    exact .inr ⟨x, t, rfl, e⟩
theorem keyIs_int (i : Int) (t : Tok) : keyIs (.inl i) (.int i t) = true := by simp [keyIs, Value.isInt]
theorem keyIs_str (x : Str) (t : Tok) : keyIs (.inr x) (.str x t) = true := by simp [keyIs, Value.isStrOf]
theorem key_ll (a b : Int) : decide ((Sum.inl a : Key) = Sum.inl b) = (a == b) := by
  by_cases e : a = b
  · subst e; simp
  · have h : ¬ (Sum.inl a : Key) = Sum.inl b := fun q => e (Sum.inl.inj q)
    rw [decide_eq_false h]
    exact (beq_eq_false_iff_ne.mpr e).symm
theorem key_rr (a b : Str) : decide ((Sum.inr a : Key) = Sum.inr b) = decide (a = b) := by
  by_cases e : a = b
  · subst e; simp
  · have h : ¬ (Sum.inr a : Key) = Sum.inr b := fun q => e (Sum.inr.inj q)
    rw [decide_eq_false h, decide_eq_false e]
theorem key_lr (a : Int) (b : Str) : decide ((Sum.inl a : Key) = Sum.inr b) = false := decide_eq_false (fun q => nomatch q)
theorem key_rl (a : Str) (b : Int) : decide ((Sum.inr a : Key) = Sum.inl b) = false := decide_eq_false (fun q => nomatch q)

def mixKind (prog : Program) (w : World) : PySem.KeyKind prog w Key where
  is := keyIs
  hash := keyH w
  inj := fun v a b ha hb => by
    rcases keyIs_shape ha with ⟨i, t, rfl, rfl⟩ | ⟨x, t, rfl, rfl⟩
    · rcases keyIs_shape hb with ⟨j, u, rfl, e⟩ | ⟨y, u, rfl, e⟩
      · injection e with e1 _; rw [e1]
      · exact nomatch e
    · rcases keyIs_shape hb with ⟨j, u, rfl, e⟩ | ⟨y, u, rfl, e⟩
      · exact nomatch e
      · injection e with e1 _; rw [e1]
  byValue := fun k v h => by
    rcases keyIs_shape h with ⟨i, t, rfl, rfl⟩ | ⟨x, t, rfl, rfl⟩ <;> rfl
  pyHash := fun hv h => by
    rcases keyIs_shape hv with ⟨i, t, rfl, rfl⟩ | ⟨x, t, rfl, rfl⟩
    · exact wpAny_pyHash_int h
    · exact wpAny_pyHash_str h
  eqBool := fun hu hv h => by
    rcases keyIs_shape hu with ⟨i, t, rfl, rfl⟩ | ⟨x, t, rfl, rfl⟩
    · rcases keyIs_shape hv with ⟨j, u, rfl, rfl⟩ | ⟨y, u, rfl, rfl⟩
      · rw [key_ll] at h; exact wpAny_eqBool_int h
      · rw [key_lr] at h; exact SeqAt.EqAt.int_str i t y u _ _ _ _ h
    · rcases keyIs_shape hv with ⟨j, u, rfl, rfl⟩ | ⟨y, u, rfl, rfl⟩
      · rw [key_rl] at h; exact SeqAt.EqAt.str_int x t j u _ _ _ _ h
      · rw [key_rr] at h; exact wpAny_eqBool_str h
  «strs» := fun k x t v h => by
    rcases keyIs_shape h with ⟨i, u, rfl, e⟩ | ⟨y, u, rfl, e⟩
    · exact nomatch e
    · injection e with e1 _
      subst e1
      cases v <;> rfl

theorem mixKind_is (prog : Program) (w : World) (k : Key) (v : Value) : (mixKind prog w).is k v = keyIs k v := rfl
theorem mixKind_int (prog : Program) (w : World) (i : Int) (t : Tok) : (mixKind prog w).is (.inl i) (.int i t) = true := keyIs_int i t
theorem mixKind_str (prog : Program) (w : World) (x : Str) (t : Tok) : (mixKind prog w).is (.inr x) (.str x t) = true := keyIs_str x t
end L2

namespace L2
open PySem PySem.Spec PyProof.Rows

/-- a value, without the heap -/
inductive V where
  | non | bl (b : Bool) | int (i : Int) | str (x : Str) | byt (b : Array UInt8) | flt (b : UInt64) | ref (a : Addr) | ty (n : String)
  deriving DecidableEq

def RelV : V → Value → Prop
  | .non, u => u = Value.none
  | .bl b, u => u = Value.bool b
  | .int i, u => ∃ t, u = Value.int i t
  | .str x, u => ∃ t, u = Value.str x t
  | .byt b, u => ∃ t, u = Value.bytes b t
  | .flt b, u => ∃ t, u = Value.float b t
  | .ref a, u => u = Value.ref a
  | .ty n, u => u = Value.type n

abbrev Vals : List V → List Value → Prop := Paired RelV
theorem Vals.length {xs : List V} {us : List Value} (r : Vals xs us) : xs.length = us.length := Paired.length r
theorem Vals.get : ∀ {xs : List V} {us : List Value} {i : Nat} {x : V}, Vals xs us → xs[i]? = some x → ∃ u, us[i]? = some u ∧ RelV x u
  | _, _, _, _, .nil, e => by simp at e
  | _, _, 0, _, .cons r _, e => by simp at e; subst e; exact ⟨_, rfl, r⟩
  | _, _, i + 1, x, .cons _ t, e => by
    obtain ⟨u, h1, h2⟩ := Vals.get (i := i) (x := x) t (by simpa using e)
    exact ⟨u, by simpa using h1, h2⟩
theorem Vals.set {x : V} {u : Value} (r : RelV x u) : ∀ {xs : List V} {us : List Value} (i : Nat), Vals xs us → Vals (xs.set i x) (us.set i u)
  | _, _, _, .nil => .nil
  | _, _, 0, .cons _ t => .cons r t
  | _, _, i + 1, .cons q t => .cons q (Vals.set r i t)
theorem Vals.append : ∀ {xs ys : List V} {us ws : List Value}, Vals xs us → Vals ys ws → Vals (xs ++ ys) (us ++ ws)
  | _, _, _, _, .nil, s => s
  | _, _, _, _, .cons r t, s => .cons r (Vals.append t s)
theorem Vals.take : ∀ {xs : List V} {us : List Value} (n : Nat), Vals xs us → Vals (xs.take n) (us.take n)
  | _, _, 0, _ => .nil
  | _, _, _ + 1, .nil => .nil
  | _, _, n + 1, .cons r t => .cons r (Vals.take n t)
theorem Vals.drop : ∀ {xs : List V} {us : List Value} (n : Nat), Vals xs us → Vals (xs.drop n) (us.drop n)
  | _, _, 0, r => r
  | _, _, _ + 1, .nil => .nil
  | _, _, n + 1, .cons _ t => Vals.drop n t
theorem Vals.none_of : ∀ {xs : List V} {us : List Value} {i : Nat}, Vals xs us → xs[i]? = none → us[i]? = none := fun {xs us i} r e => by
  have h1 := r.length
  have h2 : xs.length ≤ i := List.getElem?_eq_none_iff.mp e
  exact List.getElem?_eq_none_iff.mpr (by omega)

def RelO : Option V → Option Value → Prop
  | some v, some u => RelV v u
  | none, none => True
  | _, _ => False
def KV {κ : Type} : List (κ × V) → List (κ × Value) → Prop := Paired fun (p : κ × V) (q : κ × Value) => p.1 = q.1 ∧ RelV p.2 q.2

/-- a key of a dict (00_mix): an int or a text -/
def kV : Key → V
  | .inl i => .int i
  | .inr x => .str x

/-- what stands at a tracked address -/
inductive HO where
  /-- a list -/
  | lst (xs : List V)
  /-- a tuple (never changes) -/
  | tup (xs : List V)
  /-- a dict whose keys are ints and texts; one whose keys are tuples of ints and texts (the empty one is both) -/
  | dK (kvs : List (Key × V)) | dT (kvs : List (List Key × V))
  /-- a set of ints: its members, its size -/
  | set (S : Int → Bool) (n : Nat)
  /-- an instance of the class at C, its dict at dx, its attributes -/
  | ins (C dx : Addr) (fs : List (Str × V))
  /-- the dict of the instance at x -/
  | own (x : Addr)
  /-- the dict of an exception -/
  | xd (fs : List (Str × V))
  /-- a bound method, f of x -/
  | met (f x : Addr)
  /-- a range object lo, lo + 1, .. below hi -/
  | rng (lo hi : Int)
  /-- a thing that is known to the object (the script; a dict while a loop walks it): read, never written while it is so -/
  | frz (o : Obj) (u : HO)
  /-- a code object's table -/
  | tbl (ps : Array Value)
  /-- any other thing, by what is true of its one object (a def of one's own: SetO a S n := HO.ext fun h => ..) -/
  | ext (φ : Heap → Prop)

abbrev Hp := Addr → Option HO
def upd (H : Hp) (a : Addr) (o : HO) : Hp := fun b => if b = a then some o else H b
theorem upd_same {H : Hp} {a : Addr} {o : HO} : upd H a o a = some o := by unfold upd; rw [if_pos rfl]
theorem upd_ne {H : Hp} {a b : Addr} {o : HO} (h : b ≠ a) : upd H a o b = H b := by unfold upd; rw [if_neg h]
theorem upd_upd {H : Hp} {a : Addr} {o u : HO} : upd (upd H a o) a u = upd H a u := by
  funext b; unfold upd; split <;> rfl
/-- two objects of different content stand apart -/
theorem ne_of {H : Hp} {a b : Addr} {o u : HO} (h : H a = some o) (h' : H b = some u) (d : o ≠ u) : a ≠ b := by
  intro e; subst e; rw [h] at h'; exact d (Option.some.inj h')
theorem ne_of_none {H : Hp} {a b : Addr} {o : HO} (h : H a = some o) (h' : H b = none) : a ≠ b := by
  intro e; subst e; rw [h] at h'; cases h'

section
variable (P : Program) (w : World)
def ObjOk (H : Hp) (h : Heap) (a : Addr) : HO → Prop
  | .lst xs => xs.length ≤ sizeLine ∧ ∃ (its : List Value) (n : Nat), Vals xs its ∧ h.get? a = some { cls := .type "list", data := .seq its.toArray n }
  | .tup xs => xs.length ≤ sizeLine ∧ ∃ its : List Value, Vals xs its ∧ ∃ o, h.get? a = some o ∧ (o.cls = .type "tuple" ∧ ∃ n, o.data = .seq its.toArray n) ∧ o.dict = none
  | .dK kvs => kvs.length ≤ sizeLine ∧ (a == sysModules) = false ∧ ∃ vs, KV kvs vs ∧ h.DictOf (mixKind P w) a vs
  | .dT kvs => kvs.length ≤ sizeLine ∧ (a == sysModules) = false ∧ ∃ xs : List (List Key × Addr × Value),
      Paired (fun (p : List Key × V) (q : List Key × Addr × Value) => p.1 = q.1 ∧ H q.2.1 = some (.tup (p.1.map kV)) ∧ RelV p.2 q.2.2) kvs xs ∧
      ∃ o es ep, h.get? a = some o ∧ o.ExactDict ∧ o.data = .dict es ep ∧ es.toList = xs.map (entryOfKey (tupleKind (mixKind P w))) ∧ (xs.map (·.1)).Nodup
  | .set S n => h.SetOf (intKind P w) a S n
  | .ins C dx fs => H dx = some (.own a) ∧ fs.length ≤ 1000 ∧ dx ≠ a ∧ h.get? a = some (PySem.W.instObj C dx) ∧
      ∃ mA, h.Ns1 dx mA ∧ (∀ f, RelO (fs.lookup f) (mA f)) ∧ PySem.Within mA (fs.map (·.1))
  | .own _ => ∃ o, h.get? a = some o
  | .xd fs => ∃ mA, h.Ns1 a mA ∧ ∀ f, RelO (fs.lookup f) (mA f)
  | .rng lo hi => ∃ t u v, h.get? a = some { cls := .type "range", data := .fields #[.int lo t, .int hi u, .int 1 v] }
  | .frz o u => h.get? a = some o ∧ ObjOk H h a u
  | .tbl ps => h.get? a = some { cls := .none, data := .fields ps }
  | .met f x => h.get? a = some (PySem.W.methodObj (.ref f) (.ref x))
  | .ext φ => φ h ∧ (∃ o, h.get? a = some o) ∧ ∀ h1 h2 : Heap, φ h1 → (∀ o, h1.get? a = some o → h2.get? a = some o) → φ h2
/-- the abstract heap is held -/
def HOk (H : Hp) (h : Heap) : Prop := ∀ a o, H a = some o → ObjOk P w H h a o
end

section
variable {P : Program} {w : World} {H H' : Hp} {h h' : Heap} {a : Addr} {o : HO}
theorem ObjOk.lt (x : ObjOk P w H h a o) : a < h.objs.size := by
  cases o with
  | lst xs => obtain ⟨_, _, _, _, e⟩ := x; exact Heap.lt_size e
  | tup xs => obtain ⟨_, _, _, _, e, _⟩ := x; exact Heap.lt_size e
  | dK kvs => obtain ⟨_, _, _, _, o, _, _, e, _⟩ := x; exact Heap.lt_size e
  | dT kvs => obtain ⟨_, _, _, _, o, _, _, e, _⟩ := x; exact Heap.lt_size e
  | set S n => obtain ⟨o, _, _, _, e, _⟩ := x; exact Heap.lt_size e
  | ins C dx fs => obtain ⟨_, _, _, e, _⟩ := x; exact Heap.lt_size e
  | own y => obtain ⟨_, e⟩ := x; exact Heap.lt_size e
  | xd fs => obtain ⟨_, ⟨_, _, _, e, _⟩, _⟩ := x; exact Heap.lt_size e
  | rng lo hi => obtain ⟨_, _, _, e⟩ := x; exact Heap.lt_size e
  | frz ob u => obtain ⟨e, _⟩ := x; exact Heap.lt_size e
  | tbl ps => exact Heap.lt_size (show h.get? a = some _ from x)
  | met f y => exact Heap.lt_size (show h.get? a = some _ from x)
  | ext φ => obtain ⟨_, ⟨_, e⟩, _⟩ := x; exact Heap.lt_size e
theorem Paired.mapP {α β : Type} {F G : α → β → Prop} : ∀ {l₁ : List α} {l₂ : List β}, Paired F l₁ l₂ → (∀ a b, F a b → G a b) → Paired G l₁ l₂
  | _, _, .nil, _ => .nil
  | _, _, .cons r t, f => .cons (f _ _ r) (Paired.mapP t f)
theorem Paired.imp' {α β : Type} {F G : α → β → Prop} (f : ∀ a b, F a b → G a b) {l₁ : List α} {l₂ : List β} (r : Paired F l₁ l₂) : Paired G l₁ l₂ := Paired.mapP r f
/-- what an object's description leans on: its own object, its own dict, the tuples -/
theorem ObjOk.stay (x : ObjOk P w H h a o) (k : ∀ b u, (b = a ∨ H b = some (.own a)) → h.get? b = some u → h'.get? b = some u)
    (ho : ∀ b, H b = some (.own a) → H' b = some (.own a)) (ht : ∀ b xs, H b = some (.tup xs) → H' b = some (.tup xs)) : ObjOk P w H' h' a o := by
  induction o with
  | lst xs => obtain ⟨z, its, n, r, e⟩ := x; exact ⟨z, its, n, r, k _ _ (.inl rfl) e⟩
  | tup xs => obtain ⟨z, its, r, ob, e, c⟩ := x; exact ⟨z, its, r, ob, k _ _ (.inl rfl) e, c⟩
  | dK kvs => obtain ⟨z, y, vs, r, ob, es, ep, e, c⟩ := x; exact ⟨z, y, vs, r, ob, es, ep, k _ _ (.inl rfl) e, c⟩
  | dT kvs =>
    obtain ⟨z, y, xs, r, ob, es, ep, e, c⟩ := x
    exact ⟨z, y, xs, Paired.mapP r fun p q z => ⟨z.1, ht _ _ z.2.1, z.2.2⟩, ob, es, ep, k _ _ (.inl rfl) e, c⟩
  | set S n => obtain ⟨ob, es, ep, t, e, c⟩ := x; exact ⟨ob, es, ep, t, k _ _ (.inl rfl) e, c⟩
  | ins C dx fs =>
    obtain ⟨d, z, ne, e, mA, ⟨od, es, ep, e2, c⟩, r⟩ := x
    exact ⟨ho _ d, z, ne, k _ _ (.inl rfl) e, mA, ⟨od, es, ep, k _ _ (.inr d) e2, c⟩, r⟩
  | own y => obtain ⟨ob, e⟩ := x; exact ⟨ob, k _ _ (.inl rfl) e⟩
  | xd fs => obtain ⟨mA, ⟨od, es, ep, e, c⟩, r⟩ := x; exact ⟨mA, ⟨od, es, ep, k _ _ (.inl rfl) e, c⟩, r⟩
  | rng lo hi => obtain ⟨t, u, v, e⟩ := x; exact ⟨t, u, v, k _ _ (.inl rfl) e⟩
  | frz ob u ih => obtain ⟨e, q⟩ := x; exact ⟨k _ _ (.inl rfl) e, ih q⟩
  | tbl ps =>
    have e : h.get? a = some { cls := .none, data := .fields ps } := x
    show h'.get? a = some { cls := .none, data := .fields ps }
    exact k a _ (.inl rfl) e
  | met f y =>
    have e : h.get? a = some (PySem.W.methodObj (.ref f) (.ref y)) := x
    show h'.get? a = some (PySem.W.methodObj (.ref f) (.ref y))
    exact k a _ (.inl rfl) e
  | ext φ => obtain ⟨p, ⟨o, e⟩, st⟩ := x; exact ⟨st _ _ p fun o q => k _ _ (.inl rfl) q, ⟨o, k _ _ (.inl rfl) e⟩, st⟩
theorem HOk.lt (x : HOk P w H h) (e : H a = some o) : a < h.objs.size := (x a o e).lt
theorem HOk.fresh (x : HOk P w H h) (e : h.objs.size ≤ a) : H a = none := by
  cases q : H a with
  | none => rfl
  | some u => exact absurd (Nat.lt_of_lt_of_le (x.lt q) e) (Nat.lt_irrefl _)
/-- every object of the heap is kept -/
theorem HOk.kept (x : HOk P w H h) (k : ∀ b u, h.get? b = some u → h'.get? b = some u) : HOk P w H h' := fun a o e =>
  (x a o e).stay (fun b u _ q => k b u q) (fun _ q => q) fun _ _ q => q
/-- a new object is laid and tracked -/
theorem HOk.laid (x : HOk P w H h) (k : ∀ b u, h.get? b = some u → h'.get? b = some u) (hp : h.objs.size ≤ a) (new : ObjOk P w (upd H a o) h' a o) : HOk P w (upd H a o) h' := fun b u e => by
  have hn := x.fresh hp
  by_cases hb : b = a
  · subst hb; rw [upd_same] at e; cases e; exact new
  · rw [upd_ne hb] at e
    exact (x b u e).stay (fun c v _ q => k c v q) (fun c q => by rw [upd_ne (ne_of_none q hn)]; exact q) fun c xs q => by rw [upd_ne (ne_of_none q hn)]; exact q
end

/-- what may be read as u: it is u, or a known u -/
def Rd (H : Hp) (a : Addr) (u : HO) : Prop := H a = some u ∨ ∃ o, H a = some (.frz o u)
theorem Rd.of {H : Hp} {a : Addr} {u : HO} (h : H a = some u) : Rd H a u := .inl h
theorem Rd.ok {P : Program} {w : World} {H : Hp} {h : Heap} {a : Addr} {u : HO} (r : Rd H a u) (x : HOk P w H h) : ObjOk P w H h a u := by
  rcases r with r | ⟨o, r⟩
  · exact x a u r
  · obtain ⟨_, q⟩ := x a _ r
    exact q
/-- what may be written -/
def Mut : Option HO → Prop
  | some (.lst _) => True
  | some (.dK _) => True
  | some (.dT _) => True
  | some (.set _ _) => True
  | some (.ins _ _ _) => True
  | some (.ext _) => True
  | _ => False
section
variable {P : Program} {w : World} {H : Hp} {h h' : Heap} {x e : Addr} {o' : HO}
/-- the object at e is changed: x itself, or the dict of the instance x -/
theorem HOk.write (ok : HOk P w H h) (mu : Mut (H x)) (he : e = x ∨ H e = some (.own x)) (k : ∀ b u, b ≠ e → h.get? b = some u → h'.get? b = some u) (heo : ∃ u, h'.get? e = some u)
    (new : ObjOk P w (upd H x o') h' x o') : HOk P w (upd H x o') h' := fun b u q => by
  have nown : ∀ c y, H c = some (.own y) → c ≠ x := fun c y r z => by subst z; rw [r] at mu; exact mu
  have ntup : ∀ c xs, H c = some (.tup xs) → c ≠ x := fun c xs r z => by subst z; rw [r] at mu; exact mu
  by_cases hb : b = x
  · subst hb; rw [upd_same] at q; cases q; exact new
  · rw [upd_ne hb] at q
    by_cases hbe : b = e
    · have q' : H b = some (.own x) := by
        rcases he with z | z
        · exact absurd (hbe.trans z) hb
        · rw [hbe]; exact z
      rw [q] at q'; cases q'
      obtain ⟨v, hv⟩ := heo
      exact ⟨v, by rw [hbe]; exact hv⟩
    · refine (ok b u q).stay (fun c v hc r => k c v ?_ r) (fun c r => by rw [upd_ne (nown c b r)]; exact r) fun c xs r => by rw [upd_ne (ntup c xs r)]; exact r
      rcases hc with rfl | hc
      · exact hbe
      · rintro rfl
        rcases he with z | z
        · exact nown c b hc z
        · rw [hc] at z; cases z; exact hb rfl
end

/-! ### kept unless tracked; of the frames at fs (the callers') the slots may change (an exception that passes writes there); of the records at ex (iterators) nothing is said -/
structure Un (fs ex : List Addr) (H H' : Hp) (h h' : Heap) : Prop where
  keep : ∀ b o, h.get? b = some o → H b = none → b ∉ fs → b ∉ ex → h'.get? b = some o
  slot : ∀ b o, h.get? b = some o → H b = none → b ∈ fs → b ∉ ex → ∃ sl, h'.get? b = some { o with slots := sl }
  free : ∀ b o, h.get? b = some o → H b = none → b ∉ ex → H' b = none
  there : ∀ b o, h.get? b = some o → b ∉ ex → ∃ o', h'.get? b = some o'
  tups : ∀ b xs, H b = some (.tup xs) → H' b = some (.tup xs)
  frzs : ∀ b o u, H b = some (.frz o u) → H' b = some (.frz o u)
  tbls : ∀ b ps, H b = some (.tbl ps) → ∃ more, H' b = some (.tbl (ps ++ more))
section
variable {fs fs' ex ex' : List Addr} {H H1 H2 : Hp} {h h1 h2 h' : Heap} {a x e : Addr} {o : HO}
theorem Un.any (u : Un fs ex H H1 h h1) {b : Addr} {ob : Obj} (q : h.get? b = some ob) (n : H b = none) (hx : b ∉ ex) : ∃ sl, h1.get? b = some { ob with slots := sl } := by
  by_cases hb : b ∈ fs
  · exact u.slot b ob q n hb hx
  · exact ⟨ob.slots, u.keep b ob q n hb hx⟩
theorem Un.trans (a : Un fs ex H H1 h h1) (b : Un fs ex H1 H2 h1 h2) : Un fs ex H H2 h h2 where
  keep := fun c ob q n hc hx => b.keep c ob (a.keep c ob q n hc hx) (a.free c ob q n hx) hc hx
  slot := fun c ob q n hc hx => by
    obtain ⟨sl, e1⟩ := a.slot c ob q n hc hx
    obtain ⟨sl', e2⟩ := b.slot c _ e1 (a.free c ob q n hx) hc hx
    exact ⟨sl', e2⟩
  free := fun c ob q n hx => by
    obtain ⟨o', e1⟩ := a.there c ob q hx
    exact b.free c o' e1 (a.free c ob q n hx) hx
  there := fun c ob q hx => by
    obtain ⟨o', e1⟩ := a.there c ob q hx
    exact b.there c o' e1 hx
  tups := fun c xs q => b.tups c xs (a.tups c xs q)
  frzs := fun c ob xs q => b.frzs c ob xs (a.frzs c ob xs q)
  tbls := fun c ps q => by
    obtain ⟨m1, e1⟩ := a.tbls c ps q
    obtain ⟨m2, e2⟩ := b.tbls c _ e1
    exact ⟨m1 ++ m2, by rw [e2, Array.append_assoc]⟩
theorem Un.kept (k : ∀ b u, h.get? b = some u → h'.get? b = some u) : Un fs ex H H h h' :=
  ⟨fun b ob q _ _ _ => k b ob q, fun b ob q _ _ _ => ⟨ob.slots, k b ob q⟩, fun _ _ _ n _ => n, fun b ob q _ => ⟨ob, k b ob q⟩, fun _ _ q => q, fun _ _ _ q => q, fun _ ps q => ⟨#[], by rw [q]; simp⟩⟩
theorem Un.refl : Un fs ex H H h h := Un.kept fun _ _ q => q
theorem Un.laid (k : ∀ b u, h.get? b = some u → h'.get? b = some u) (hp : h.objs.size ≤ a) (hn : H a = none) : Un fs ex H (upd H a o) h h' where
  keep := fun b u q _ _ _ => k b u q
  slot := fun b u q _ _ _ => ⟨u.slots, k b u q⟩
  free := fun b u q n _ => by rw [upd_ne (Nat.ne_of_lt (Nat.lt_of_lt_of_le (Heap.lt_size q) hp))]; exact n
  there := fun b u q _ => ⟨u, k b u q⟩
  tups := fun b xs q => by rw [upd_ne (ne_of_none q hn)]; exact q
  frzs := fun b u xs q => by rw [upd_ne (ne_of_none q hn)]; exact q
  tbls := fun b ps q => ⟨#[], by rw [upd_ne (ne_of_none q hn), q]; simp⟩
theorem Un.write (mu : Mut (H x)) (he : e = x ∨ H e = some (.own x)) (k : ∀ b u, b ≠ e → h.get? b = some u → h'.get? b = some u) (heo : ∃ u, h'.get? e = some u) : Un fs ex H (upd H x o) h h' := by
  have hx : ∀ b, H b = none → b ≠ x := fun b n z => by subst z; rw [n] at mu; exact mu
  have hb : ∀ b, H b = none → b ≠ e := fun b n z => by
    subst z
    rcases he with r | r
    · exact hx b n r
    · rw [n] at r; cases r
  have hm : ∀ b u, H b = some u → ¬ Mut (some u) → b ≠ x := fun b u q nm z => by subst z; rw [q] at mu; exact nm mu
  refine ⟨fun b u q n _ _ => k b u (hb b n) q, fun b u q n _ _ => ⟨u.slots, k b u (hb b n) q⟩, fun b u q n _ => by rw [upd_ne (hx b n)]; exact n, fun b u q _ => ?_,
    fun b xs q => by rw [upd_ne (hm b _ q fun z => z)]; exact q, fun b u xs q => by rw [upd_ne (hm b _ q fun z => z)]; exact q, fun b ps q => ⟨#[], by rw [upd_ne (hm b _ q fun z => z), q]; simp⟩⟩
  by_cases hbe : b = e
  · subst hbe; exact heo
  · exact ⟨u, k b u hbe q⟩
theorem Un.mono (u : Un fs ex H H1 h h1) (hs : ∀ b ∈ fs, b ∈ fs') (hx : ∀ b ∈ ex, b ∈ ex') : Un fs' ex' H H1 h h1 :=
  ⟨fun b ob q n hb he => u.keep b ob q n (fun z => hb (hs b z)) fun z => he (hx b z), fun _ _ q n _ he => u.any q n fun z => he (hx _ z), fun b ob q n he => u.free b ob q n fun z => he (hx b z), fun b ob q he => u.there b ob q fun z => he (hx b z), u.tups, u.frzs, u.tbls⟩
end

/-! ### the heap without what is tracked -/
def trk (h : Heap) (H : Hp) : List Addr := (List.range h.objs.size).filter fun a => (H a).isSome
def hidT (h : Heap) (H : Hp) : Heap := PySem.W.hideAll h (trk h H)
theorem hidT_size (h : Heap) (H : Hp) : (hidT h H).objs.size = h.objs.size := PySem.W.hideAll_size _ _
theorem hidT_get {h : Heap} {H : Hp} {b : Addr} {o : Obj} (e : h.get? b = some o) (n : H b = none) : (hidT h H).get? b = some o :=
  PySem.W.hideAll_get _ e fun hm => by
    have q : (H b).isSome = true := (List.mem_filter.mp hm).2
    rw [n] at q; simp at q
theorem of_hidT {h : Heap} {H : Hp} {b : Addr} {o : Obj} (e : (hidT h H).get? b = some o) : h.get? b = some o ∧ H b = none := by
  have e' : h.get? b = some o := PySem.W.of_hideAll (trk h H) e
  refine ⟨e', ?_⟩
  cases q : H b with
  | none => rfl
  | some x =>
    have hm : b ∈ trk h H := List.mem_filter.mpr ⟨List.mem_range.mpr (Heap.lt_size e'), by simp [q]⟩
    have z : (hidT h H).get? b = none := PySem.W.hideAll_none (trk h H) hm
    rw [z] at e; cases e

/-! ### OpenK's ledger, filled with every new object but one -/
def allNews (g h : Heap) (L : Addr) : List (Addr × Obj) := (List.range h.objs.size).filterMap fun a => if a = L ∨ (g.get? a).isSome = true then none else (h.get? a).map fun o => (a, o)
theorem mem_allNews {g h : Heap} {L a : Addr} {o : Obj} (h1 : a ≠ L) (h2 : g.get? a = none) (h3 : h.get? a = some o) : (a, o) ∈ allNews g h L :=
  List.mem_filterMap.mpr ⟨a, List.mem_range.mpr (Heap.lt_size h3), by simp [h1, h2, h3]⟩
theorem of_mem_allNews {g h : Heap} {L : Addr} {p : Addr × Obj} (hp : p ∈ allNews g h L) : p.1 ≠ L ∧ g.get? p.1 = none ∧ h.get? p.1 = some p.2 := by
  obtain ⟨b, _, e⟩ := List.mem_filterMap.mp hp
  split at e
  · cases e
  · rename_i hn
    cases q : h.get? b with
    | none => rw [q] at e; simp at e
    | some u =>
      rw [q] at e
      simp only [Option.map_some, Option.some.injEq] at e
      subst e
      refine ⟨fun z => hn (.inl z), ?_, q⟩
      show g.get? b = none
      cases r : g.get? b with
      | none => rfl
      | some v => exact (hn (.inr (by simp [r]))).elim
def rest (g h : Heap) (L d : Addr) : List (Addr × Obj) := (allNews g h L).filter fun p => decide (p.1 ≠ d)
theorem rest_ne {g h : Heap} {L d : Addr} : ∀ p ∈ rest g h L d, p.1 ≠ d := fun p hp => of_decide_eq_true (List.mem_filter.mp hp).2
theorem mem_rest {g h : Heap} {L d a : Addr} {o : Obj} (h1 : a ≠ L) (h2 : g.get? a = none) (h3 : h.get? a = some o) (h4 : a ≠ d) : (a, o) ∈ rest g h L d :=
  List.mem_filter.mpr ⟨mem_allNews h1 h2 h3, decide_eq_true h4⟩
theorem news_all {g h : Heap} {L : Addr} : News g L h (allNews g h L) := fun p hp => let ⟨a, b, c⟩ := of_mem_allNews hp; ⟨c, a, b⟩
theorem news_at {g h : Heap} {L d : Addr} {o : Obj} (h1 : d ≠ L) (h2 : g.get? d = none) (h3 : h.get? d = some o) : News g L h ((d, o) :: rest g h L d) := fun p hp => by
  rcases List.mem_cons.mp hp with rfl | hp
  · exact ⟨h3, h1, h2⟩
  · exact news_all p (List.mem_filter.mp hp).1
/-- behind a rule that changed d alone: all else but the frame is kept -/
theorem kept_of_news {g h h' : Heap} {L d : Addr} {m : Str → Option Value} (k : ∀ b o, g.get? b = some o → h.get? b = some o) (F : Fr g L h' m) (N : News g L h' (rest g h L d)) :
    ∀ b o, b ≠ L → b ≠ d → h.get? b = some o → h'.get? b = some o := fun b o h1 h2 e => by
  cases q : g.get? b with
  | some u =>
    have := k b u q
    rw [e] at this; cases this
    exact F.keep b _ q
  | none => exact (N (b, o) (mem_rest h1 q e h2)).1
end L2

namespace L2
open PySem PySem.Spec PyProof.Rows

/-- the module's facts, over the base: the heap at the law's entry without what is tracked there -/
structure Mod (K : PySem.W.Frag) (mg : Str → Option Value) (base : Heap) : Prop where
  kin : K.In base
  glob : base.Ns mainGlobals mg
  blt : ∃ mb, base.Ns builtinsNs mb ∧ ∀ x : Str, x ≠ "__name__" → mb x = bootBuiltins x
  nolimit : base.NoLimit

/-- the context: a def's body (or a comprehension's block) running. base: fixed through the whole law; s₀, H₀: the entry; outer: the frames whose slots others may change (a def's callers); stack: all frames that run;
   ex: iterators that were made ahead of the entry and are walked here (a comprehension's); fn: the names whose cells were made at the entry (a def: all; a comprehension's block: its own); calm: not within an except suite; pn: pins that every state bears; xe: what is wanted of an exception that leaves the code -/
structure Cx where
  prog : Program
  w : World
  K : PySem.W.Frag
  mg : Str → Option Value
  base : Heap
  A : Around
  N : List Str
  s₀ : Shared
  H₀ : Hp
  env : Env
  outer : List Env
  stack : List Env
  ex : List Addr
  fn : Str → Bool
  calm : Bool
  pn : List (Addr × Obj)
  xe : Value → Shared → Prop
/-- the callers' frames -/
def frs (l : List Env) : List Addr := l.filterMap (·.frame)
abbrev Cx.fs (X : Cx) : List Addr := frs X.outer

def Vis (sc : Scope) (x : Str) : Prop := sc.names.lookup x = some .local ∨ sc.names.lookup x = some .cell ∨ sc.names.lookup x = some .free
def Loc (sc : Scope) (x : Str) : Prop := sc.names.lookup x = some .local ∨ sc.names.lookup x = some .cell
def Look (env : Env) (h : Heap) (m : Str → Option Value) (x : Str) (u : Value) : Prop :=
  (env.kindOf x = some .local ∧ m x = some u) ∨ ((env.kindOf x = some .cell ∨ env.kindOf x = some .free) ∧ ∃ c, env.cells.lookup x = some c ∧ h.IsCell c (some u))

structure Cx.Ok (X : Cx) : Prop where
  mod : Mod X.K X.mg X.base
  kind : X.env.scope.kind = .function
  glob : X.env.globals = mainGlobals
  blt : X.env.builtins = builtinsNs
  above : X.s₀.heap.objs.size ≤ X.env.locals
  inj : ∀ x y c, X.env.cells.lookup x = some c → X.env.cells.lookup y = some c → x = y
  has : ∀ x, (X.env.kindOf x = some .cell ∨ X.env.kindOf x = some .free) → ∃ c, X.env.cells.lookup x = some c
  cab : ∀ x c, X.fn x = true → X.env.cells.lookup x = some c → X.s₀.heap.objs.size ≤ c
  hd : X.calm = true → X.A.handled = none
  frames : X.A.frames = some X.stack
  stk : X.stack = X.outer ∨ (X.stack = X.env :: X.outer ∧ X.env.frame = some X.env.locals)
  exf : ∀ b ∈ X.ex, b ≠ X.env.locals ∧ ∀ x c, X.env.cells.lookup x = some c → c ≠ b
  bs : ∀ b o, X.base.get? b = some o → X.s₀.heap.get? b = some o ∧ X.H₀ b = none
  bsz : X.base.objs.size ≤ X.s₀.heap.objs.size
  noex : ∀ b o, X.base.get? b = some o → b ∉ X.ex
  exfs : ∀ b ∈ X.ex, b ∉ X.fs
  funs : X.s₀.heap.FunFrames X.base X.outer
  frf : ∀ b ∈ X.fs, X.H₀ b = none

structure Inv (X : Cx) (pins : List (Addr × Obj)) (σ : List (Option V)) (H : Hp) (s : Shared) : Prop where
  ok : X.Ok
  os : s.os = X.s₀.os
  bare : AllBare s.gens
  base : Un X.fs X.ex X.H₀ H X.s₀.heap s.heap
  loc : ∃ m, s.heap.Ns X.env.locals m ∧ ∀ (i : Nat) (x : Str) (v : V), X.N[i]? = some x → σ[i]? = some (some v) → Vis X.env.scope x → ∃ u, RelV v u ∧ Look X.env s.heap m x u
  cell : ∀ x c, X.env.cells.lookup x = some c → ∃ v, s.heap.IsCell c v
  free : H X.env.locals = none
  freeC : ∀ x c, X.env.cells.lookup x = some c → H c = none
  pin : ∀ p ∈ X.pn ++ pins, s.heap.get? p.1 = some p.2 ∧ H p.1 = none ∧ p.1 ≠ X.env.locals ∧ p.1 ∉ X.fs ∧ ∀ v, p.2.data ≠ .cell v
  hok : HOk X.prog X.w H s.heap
  len : σ.length = X.N.length

section
variable {X : Cx} {pins : List (Addr × Obj)} {σ : List (Option V)} {H H' : Hp} {s : Shared} {h' : Heap}

theorem Cx.Ok.nofr (ok : X.Ok) {b : Addr} {o : Obj} (e : X.base.get? b = some o) : b ∉ X.fs := fun hb => by
  have := (ok.funs.mem hb).1
  rw [e] at this; cases this
theorem Inv.bs (I : Inv X pins σ H s) : ∀ b o, X.base.get? b = some o → s.heap.get? b = some o ∧ H b = none := fun b o e =>
  ⟨I.base.keep b o (I.ok.bs b o e).1 (I.ok.bs b o e).2 (I.ok.nofr e) (I.ok.noex b o e), I.base.free b o (I.ok.bs b o e).1 (I.ok.bs b o e).2 (I.ok.noex b o e)⟩
theorem Inv.bk (I : Inv X pins σ H s) : ∀ b o, X.base.get? b = some o → s.heap.get? b = some o := fun b o e => (I.bs b o e).1
theorem Inv.mod (I : Inv X pins σ H s) : Mod X.K X.mg X.base := I.ok.mod
theorem Inv.kIn (I : Inv X pins σ H s) : X.K.In s.heap := I.ok.mod.kin.keeps I.bk
theorem Inv.nolimit (I : Inv X pins σ H s) : s.heap.NoLimit := I.ok.mod.nolimit.keeps I.bk
/-- the frame over the base: for OpenK's rules (K.In X.base is I.mod.kin) -/
theorem Inv.fr (I : Inv X pins σ H s) : ∃ m, Fr X.base X.env.locals s.heap m :=
  let ⟨m, hn, _⟩ := I.loc
  ⟨m, hn, I.bk, Nat.le_trans I.ok.bsz I.ok.above⟩
theorem Inv.lt (I : Inv X pins σ H s) : X.env.locals < s.heap.objs.size := let ⟨_, hn, _⟩ := I.loc; hn.lt
theorem Inv.sz (I : Inv X pins σ H s) : X.s₀.heap.objs.size ≤ s.heap.objs.size := Nat.le_trans I.ok.above (Nat.le_of_lt I.lt)
theorem Inv.nofs (I : Inv X pins σ H s) {a : Addr} (h : s.heap.objs.size ≤ a) : a ∉ X.fs := fun hb => by
  obtain ⟨_, o, ho, _⟩ := I.ok.funs.mem hb
  exact absurd (Nat.lt_of_lt_of_le (Heap.lt_size ho) (Nat.le_trans I.sz h)) (Nat.lt_irrefl _)
theorem Inv.cne (I : Inv X pins σ H s) : ∀ x c, X.env.cells.lookup x = some c → c ≠ X.env.locals := fun x c e z => by
  obtain ⟨v, o, ho, hd⟩ := I.cell x c e
  obtain ⟨m, ⟨o', es, ep, ho', hd', _⟩, _⟩ := I.loc
  rw [z, ho'] at ho; cases ho; rw [hd'] at hd; cases hd
theorem Inv.funs (I : Inv X pins σ H s) : s.heap.FunFrames X.base X.outer := by
  have all : ∀ (l : List Env), (∀ b ∈ frs l, b ∈ X.fs) → X.s₀.heap.FunFrames X.base l → s.heap.FunFrames X.base l := by
    intro l
    induction l with
    | nil => intro _ _; trivial
    | cons env r ih =>
      intro hs hl
      obtain ⟨hk, ⟨L, o, hf, hn, ho, hd⟩, hr⟩ := hl
      have hL : L ∈ X.fs := hs L (by unfold frs; rw [List.filterMap_cons, hf]; exact List.mem_cons_self)
      obtain ⟨sl, e⟩ := I.base.slot L o ho (I.ok.frf L hL) hL fun z => I.ok.exfs L z hL
      exact ⟨hk, ⟨L, _, hf, hn, e, hd⟩, ih (fun b hb => hs b (by unfold frs; rw [List.filterMap_cons, hf]; exact List.mem_cons_of_mem _ hb)) hr⟩
  exact all X.outer (fun _ hb => hb) I.ok.funs

/-- the frames that run, for a call -/
theorem Inv.stack (I : Inv X pins σ H s) : s.heap.FunFrames X.base X.stack := by
  rcases I.ok.stk with e | ⟨e, hf⟩
  · rw [e]; exact I.funs
  · rw [e]
    obtain ⟨m, hn, _⟩ := I.loc
    refine .cons (by rw [I.ok.kind]; decide) hf hn ?_ I.funs
    exact Heap.get?_none_of_le (Nat.le_trans I.ok.bsz I.ok.above)
theorem Inv.stkSub (I : Inv X pins σ H s) : ∀ b ∈ frs X.stack, b ∈ X.env.locals :: X.fs := fun b hb => by
  rcases I.ok.stk with e | ⟨e, hf⟩
  · rw [e] at hb; exact List.mem_cons_of_mem _ hb
  · rw [e] at hb
    unfold frs at hb
    rw [List.filterMap_cons, hf] at hb
    exact hb
theorem Inv.stkFree (I : Inv X pins σ H s) : ∀ b ∈ frs X.stack, H b = none := fun b hb => by
  rcases List.mem_cons.mp (I.stkSub b hb) with e | hb
  · rw [e]; exact I.free
  · obtain ⟨_, o, ho, _⟩ := I.ok.funs.mem hb
    exact I.base.free b o ho (I.ok.frf b hb) fun z => I.ok.exfs b z hb

/-- THE STEP: the untracked objects but the frame and the records at ch are kept (the callers' frames up to slots), the frame's map is kept, the new abstract heap is held -/
theorem Inv.step {g' : Array GenState} {t' : Nat} {d' : Drawn} {ch : List Addr} (I : Inv X pins σ H s)
    (hch : ∀ b ∈ ch, (b ∈ X.ex ∨ X.s₀.heap.objs.size ≤ b) ∧ b ≠ X.env.locals ∧ (∀ x c, X.env.cells.lookup x = some c → c ≠ b) ∧ ∀ p ∈ X.pn ++ pins, p.1 ≠ b)
    (keep : ∀ b o, b ≠ X.env.locals → b ∉ X.fs → b ∉ ch → s.heap.get? b = some o → H b = none → h'.get? b = some o)
    (slot : ∀ b o, b ≠ X.env.locals → b ∈ X.fs → b ∉ ch → s.heap.get? b = some o → H b = none → ∃ sl, h'.get? b = some { o with slots := sl }) (free : ∀ b o, b ∉ ch → s.heap.get? b = some o → H b = none → H' b = none)
    (there : ∀ b o, b ∉ ch → s.heap.get? b = some o → ∃ o', h'.get? b = some o')
    (tups : ∀ b xs, H b = some (.tup xs) → H' b = some (.tup xs)) (frzs : ∀ b o u, H b = some (.frz o u) → H' b = some (.frz o u)) (tbls : ∀ b ps, H b = some (.tbl ps) → ∃ more, H' b = some (.tbl (ps ++ more)))
    (ns : ∀ m, s.heap.Ns X.env.locals m → h'.Ns X.env.locals m) (hok : HOk X.prog X.w H' h') (hg : AllBare g') :
    Inv X pins σ H' { s with heap := h', gens := g', drawn := d', toks := t' } := by
  have neL : ∀ b o, X.s₀.heap.get? b = some o → b ≠ X.env.locals := fun b o e => Nat.ne_of_lt (Nat.lt_of_lt_of_le (Heap.lt_size e) I.ok.above)
  have neC : ∀ b o, X.s₀.heap.get? b = some o → b ∉ X.ex → b ∉ ch := fun b o e hx hb => by
    rcases (hch b hb).1 with z | z
    · exact hx z
    · exact absurd (Nat.lt_of_lt_of_le (Heap.lt_size e) z) (Nat.lt_irrefl _)
  have cellK : ∀ x c, X.env.cells.lookup x = some c → ∀ v, s.heap.IsCell c v → h'.IsCell c v := fun x c e v ⟨o, ho, hd⟩ => by
    have nch : c ∉ ch := fun z => (hch c z).2.2.1 x c e rfl
    by_cases hc : c ∈ X.fs
    · obtain ⟨sl, q⟩ := slot c o (I.cne x c e) hc nch ho (I.freeC x c e)
      exact ⟨_, q, hd⟩
    · exact ⟨o, keep c o (I.cne x c e) hc nch ho (I.freeC x c e), hd⟩
  refine ⟨I.ok, I.os, hg, ⟨fun b o e n hb hx => ?_, fun b o e n hb hx => ?_, fun b o e n hx => ?_, fun b o e hx => ?_, fun b xs e => tups b xs (I.base.tups b xs e), fun b o xs e => frzs b o xs (I.base.frzs b o xs e), fun b ps e => ?_⟩, ?_, fun x c e => ?_, ?_, fun x c e => ?_, fun p hp => ?_, hok, I.len⟩
  · exact keep b o (neL b o e) hb (neC b o e hx) (I.base.keep b o e n hb hx) (I.base.free b o e n hx)
  · obtain ⟨sl, e1⟩ := I.base.slot b o e n hb hx
    obtain ⟨sl', e2⟩ := slot b _ (neL b o e) hb (neC b o e hx) e1 (I.base.free b o e n hx)
    exact ⟨sl', e2⟩
  · obtain ⟨o', e1⟩ := I.base.there b o e hx
    exact free b o' (neC b o e hx) e1 (I.base.free b o e n hx)
  · obtain ⟨o', e1⟩ := I.base.there b o e hx
    exact there b o' (neC b o e hx) e1
  · obtain ⟨m1, e1⟩ := I.base.tbls b ps e
    obtain ⟨m2, e2⟩ := tbls b _ e1
    exact ⟨m1 ++ m2, by rw [e2, Array.append_assoc]⟩
  · obtain ⟨m, hn, hl⟩ := I.loc
    refine ⟨m, ns m hn, fun i x v e1 e2 e3 => ?_⟩
    obtain ⟨u, r, l⟩ := hl i x v e1 e2 e3
    refine ⟨u, r, ?_⟩
    rcases l with l | ⟨k, c, e, z⟩
    · exact .inl l
    · exact .inr ⟨k, c, e, cellK x c e _ z⟩
  · obtain ⟨v, z⟩ := I.cell x c e
    exact ⟨v, cellK x c e v z⟩
  · obtain ⟨m, ⟨o, _, _, ho, _⟩, _⟩ := I.loc
    exact free _ o (fun z => (hch _ z).2.1 rfl) ho I.free
  · obtain ⟨v, o, ho, hd⟩ := I.cell x c e
    exact free c o (fun z => (hch c z).2.2.1 x c e rfl) ho (I.freeC x c e)
  · obtain ⟨e, n, ne, nf, d⟩ := I.pin p hp
    have nch : p.1 ∉ ch := fun z => (hch p.1 z).2.2.2 p hp rfl
    exact ⟨keep p.1 p.2 ne nf nch e n, free p.1 p.2 nch e n, ne, nf, d⟩
/-- .. where the frame's own object is kept too -/
theorem Inv.un {t' : Nat} (I : Inv X pins σ H s) (u : Un X.fs [] H H' s.heap h') (hok : HOk X.prog X.w H' h') : Inv X pins σ H' { s with heap := h', toks := t' } := by
  obtain ⟨m, ⟨o, es, ep, ho, r⟩, _⟩ := id I.loc
  obtain ⟨sl, hL⟩ := u.any ho I.free (by simp)
  exact I.step (g' := s.gens) (d' := s.drawn) (ch := []) (fun _ z => nomatch z) (fun b o _ hb _ e n => u.keep b o e n hb (by simp)) (fun b o _ hb _ e n => u.slot b o e n hb (by simp)) (fun b o _ e n => u.free b o e n (by simp)) (fun b o _ e => u.there b o e (by simp)) u.tups u.frzs u.tbls (fun m' hm => by
    obtain ⟨o', es', ep', ho', r'⟩ := hm
    rw [ho] at ho'; cases ho'
    exact ⟨_, es', ep', hL, r'⟩) hok I.bare
/-- behind a call (or a comprehension's block): the slots of this frame may have changed too, the records at ch may have turned -/
theorem Inv.call {g' : Array GenState} {t' : Nat} {d' : Drawn} {ch : List Addr} (I : Inv X pins σ H s) (u : Un (frs X.stack) ch H H' s.heap h') (hok : HOk X.prog X.w H' h') (hg : AllBare g')
    (hch : ∀ b ∈ ch, (b ∈ X.ex ∨ X.s₀.heap.objs.size ≤ b) ∧ b ≠ X.env.locals ∧ (∀ x c, X.env.cells.lookup x = some c → c ≠ b) ∧ ∀ p ∈ X.pn ++ pins, p.1 ≠ b) :
    Inv X pins σ H' { s with heap := h', gens := g', drawn := d', toks := t' } := by
  obtain ⟨m, ⟨o, es, ep, ho, r⟩, _⟩ := id I.loc
  obtain ⟨sl, hL⟩ := u.any ho I.free fun z => (hch _ z).2.1 rfl
  exact I.step (ch := ch) hch (fun b o hL hb hc e n => u.keep b o e n (fun z => (List.mem_cons.mp (I.stkSub b z)).elim hL hb) hc) (fun b o _ _ hc e n => u.any e n hc) (fun b o hc e n => u.free b o e n hc) (fun b o hc e => u.there b o e hc) u.tups u.frzs u.tbls (fun m' hm => by
    obtain ⟨o', es', ep', ho', r'⟩ := hm
    rw [ho] at ho'; cases ho'
    exact ⟨_, es', ep', hL, r'⟩) hok hg
/-- an untracked record of ours (an iterator) has turned -/
theorem Inv.turned {t' : Nat} {it : Addr} (I : Inv X pins σ H s) (k : ∀ b o, b ≠ it → s.heap.get? b = some o → h'.get? b = some o) (hn : H it = none) (hL : it ≠ X.env.locals)
    (h1 : it ∈ X.ex ∨ X.s₀.heap.objs.size ≤ it) (h2 : ∀ x c, X.env.cells.lookup x = some c → c ≠ it) (h3 : ∀ p ∈ X.pn ++ pins, p.1 ≠ it) : Inv X pins σ H { s with heap := h', toks := t' } := by
  have nit : ∀ b u, H b = some u → b ≠ it := fun b u e z => by rw [z, hn] at e; cases e
  refine I.step (g' := s.gens) (d' := s.drawn) (ch := [it]) (fun b hb => ?_) (fun b o _ _ hc e _ => k b o (fun z => hc (by simp [z])) e) (fun b o _ _ hc e _ => ⟨o.slots, k b o (fun z => hc (by simp [z])) e⟩) (fun _ _ _ _ n => n)
    (fun b o hc e => ⟨o, k b o (fun z => hc (by simp [z])) e⟩) (fun _ _ e => e) (fun _ _ _ e => e) (fun b ps e => ⟨#[], by rw [e]; simp⟩) (fun m hm => ?_) (fun b u e => ?_) I.bare
  · have e : b = it := by simpa using hb
    subst e
    exact ⟨h1, hL, h2, h3⟩
  · obtain ⟨o, es, ep, ho, r⟩ := hm
    exact ⟨o, es, ep, k _ o (Ne.symm hL) ho, r⟩
  · refine (I.hok b u e).stay (fun c v hc q => k c v ?_ q) (fun _ q => q) fun _ _ q => q
    rcases hc with z | z
    · rw [z]; exact nit b u e
    · exact nit c _ z
theorem Inv.tok (I : Inv X pins σ H s) (t : Nat) : Inv X pins σ H { s with toks := t } := I.un (h' := s.heap) (t' := t) Un.refl I.hok
/-- all objects kept -/
theorem Inv.kept {t' : Nat} (I : Inv X pins σ H s) (k : ∀ b u, s.heap.get? b = some u → h'.get? b = some u) : Inv X pins σ H { s with heap := h', toks := t' } := I.un (Un.kept k) (I.hok.kept k)
/-- a new object laid and tracked -/
theorem Inv.laid {a : Addr} {o : HO} {t' : Nat} (I : Inv X pins σ H s) (k : ∀ b u, s.heap.get? b = some u → h'.get? b = some u) (hp : s.heap.objs.size ≤ a) (new : ObjOk X.prog X.w (upd H a o) h' a o) :
    Inv X pins σ (upd H a o) { s with heap := h', toks := t' } := I.un (Un.laid k hp (I.hok.fresh hp)) (I.hok.laid k hp new)
/-- an object written -/
theorem Inv.write {x e : Addr} {o : HO} {t' : Nat} (I : Inv X pins σ H s) (mu : Mut (H x)) (he : e = x ∨ H e = some (.own x)) (k : ∀ b u, b ≠ e → s.heap.get? b = some u → h'.get? b = some u) (heo : ∃ u, h'.get? e = some u)
    (new : ObjOk X.prog X.w (upd H x o) h' x o) : Inv X pins σ (upd H x o) { s with heap := h', toks := t' } := I.un (Un.write mu he k heo) (I.hok.write mu he k heo new)
/-- forgetting slots, pins -/
theorem Inv.weak {σ' : List (Option V)} (I : Inv X pins σ H s) (hl : σ'.length = σ.length) (w : ∀ (i : Nat) v, σ'[i]? = some (some v) → σ[i]? = some (some v)) : Inv X pins σ' H s :=
  ⟨I.ok, I.os, I.bare, I.base, let ⟨m, hn, hl'⟩ := I.loc; ⟨m, hn, fun i x v e1 e2 e3 => hl' i x v e1 (w i v e2) e3⟩, I.cell, I.free, I.freeC, I.pin, I.hok, hl.trans I.len⟩
theorem Inv.pins_of {pins' : List (Addr × Obj)} (I : Inv X pins σ H s) (h : ∀ p ∈ pins', s.heap.get? p.1 = some p.2 ∧ H p.1 = none ∧ p.1 ≠ X.env.locals ∧ p.1 ∉ X.fs ∧ ∀ v, p.2.data ≠ .cell v) : Inv X pins' σ H s :=
  ⟨I.ok, I.os, I.bare, I.base, I.loc, I.cell, I.free, I.freeC, fun p hp => (List.mem_append.mp hp).elim (fun z => I.pin p (List.mem_append_left _ z)) (h p), I.hok, I.len⟩

theorem nodup_ix {N : List Str} (hN : N.Nodup) {i j : Nat} {x : Str} (a : N[i]? = some x) (b : N[j]? = some x) : i = j := by
  obtain ⟨h1, e1⟩ := List.getElem?_eq_some_iff.mp a
  obtain ⟨h2, e2⟩ := List.getElem?_eq_some_iff.mp b
  exact (List.getElem_inj hN).mp (e1.trans e2.symm)

/-- a name is stored; what changed -/
theorem store_ok2 {M : Model} {A : Around} {E : Value → Shared → Prop} {i : Nat} {x : Str} {v : V} {u : Value} {Q : Unit → Shared → Prop} (I : Inv X pins σ H s) (hN : X.N.Nodup) (hi : X.N[i]? = some x) (hx : Loc X.env.scope x) (r : RelV v u)
    (h : ∀ s', Inv X pins (σ.set i (some v)) H s' → (∃ a, Heap.SameBut a s.heap s'.heap ∧ (a = X.env.locals ∨ X.env.cells.lookup x = some a)) → Q () s') (hf : X.fn x = true ∨ X.env.scope.names.lookup x = some .local := by first | exact .inl rfl | exact .inr rfl | assumption) : wpAny M A (storeName X.env x u) Q E s := by
  obtain ⟨m, hn, hl⟩ := id I.loc
  have hcls : (X.env.scope.kind == .class || (X.env.scope.kind == .module && X.env.locals != X.env.globals)) = false := by rw [I.ok.kind]; rfl
  have hiσ : i < σ.length := by rw [I.len]; exact (List.getElem?_eq_some_iff.mp hi).1
  have cne := I.cne
  have tracked : ∀ {a : Addr} {h' : Heap}, (∃ o, s.heap.get? a = some o ∧ H a = none) → Heap.SameBut a s.heap h' → HOk X.prog X.w H h' := fun {a h'} ha hs b ob e => by
    obtain ⟨_, _, hfree⟩ := ha
    refine (I.hok b ob e).stay (fun c w' hc q => (hs.2 c ?_).trans q) (fun _ q => q) fun _ _ q => q
    rintro rfl
    rcases hc with rfl | hc
    · rw [hfree] at e; cases e
    · rw [hfree] at hc; cases hc
  rcases hx with hk | hk
  · refine wpAny_storeName_local hk hn (fun h' hn' hs => ?_) hcls
    obtain ⟨oL, _, _, hoL, _⟩ := id hn
    refine h _ ⟨I.ok, I.os, I.bare, ⟨fun b o e n hb hx => ?_, fun b o e n hb hx => ?_, I.base.free, fun b o e hx => ?_, I.base.tups, I.base.frzs, I.base.tbls⟩, ⟨_, hn', fun j y v' e1 e2 e3 => ?_⟩, fun y c e => ?_, I.free, I.freeC, fun p hp => ?_, tracked ⟨oL, hoL, I.free⟩ hs, by simpa using I.len⟩ ⟨_, hs, .inl rfl⟩
    · exact (hs.2 b (Nat.ne_of_lt (Nat.lt_of_lt_of_le (Heap.lt_size e) I.ok.above))).trans (I.base.keep b o e n hb hx)
    · obtain ⟨sl, e1⟩ := I.base.slot b o e n hb hx
      exact ⟨sl, (hs.2 b (Nat.ne_of_lt (Nat.lt_of_lt_of_le (Heap.lt_size e) I.ok.above))).trans e1⟩
    · obtain ⟨o', e1⟩ := I.base.there b o e hx
      exact ⟨o', (hs.2 b (Nat.ne_of_lt (Nat.lt_of_lt_of_le (Heap.lt_size e) I.ok.above))).trans e1⟩
    · by_cases hj : j = i
      · subst hj
        rw [hi] at e1; cases e1
        rw [List.getElem?_set_self hiσ] at e2
        cases e2
        exact ⟨u, r, .inl ⟨hk, by simp⟩⟩
      · rw [List.getElem?_set_ne (Ne.symm hj)] at e2
        obtain ⟨u', r', q⟩ := hl j y v' e1 e2 e3
        refine ⟨u', r', ?_⟩
        rcases q with ⟨k, e⟩ | ⟨k, c, e, z⟩
        · refine .inl ⟨k, ?_⟩
          have : y ≠ x := fun e => hj (nodup_ix hN e1 (e ▸ hi))
          simp [this, e]
        · exact .inr ⟨k, c, e, z.sameBut hs (cne y c e)⟩
    · obtain ⟨w', z⟩ := I.cell y c e
      exact ⟨w', z.sameBut hs (cne y c e)⟩
    · obtain ⟨e, n, ne, nf, d⟩ := I.pin p hp
      exact ⟨(hs.2 p.1 ne).trans e, n, ne, nf, d⟩
  · have hfn : X.fn x = true := by
      rcases hf with z | z
      · exact z
      · rw [z] at hk; cases hk
    obtain ⟨c, hc⟩ := I.ok.has x (.inl hk)
    obtain ⟨w', z⟩ := I.cell x c hc
    refine wpAny_storeName_cell I.ok.kind hk hc z (fun h' hc' hs => ?_)
    obtain ⟨oc, hoc, hocd⟩ := id z
    refine h { s with heap := h' } ⟨I.ok, I.os, I.bare, ⟨fun b o e n hb hx => ?_, fun b o e n hb hx => ?_, I.base.free, fun b o e hx => ?_, I.base.tups, I.base.frzs, I.base.tbls⟩, ⟨m, hn.sameBut hs (Ne.symm (cne x c hc)), fun j y v' e1 e2 e3 => ?_⟩, fun y c' e => ?_, I.free, I.freeC, fun p hp => ?_, tracked ⟨oc, hoc, I.freeC x c hc⟩ hs, by simpa using I.len⟩ ⟨c, hs, .inr hc⟩
    · exact (hs.2 b (Nat.ne_of_lt (Nat.lt_of_lt_of_le (Heap.lt_size e) (I.ok.cab x c hfn hc)))).trans (I.base.keep b o e n hb hx)
    · obtain ⟨sl, e1⟩ := I.base.slot b o e n hb hx
      exact ⟨sl, (hs.2 b (Nat.ne_of_lt (Nat.lt_of_lt_of_le (Heap.lt_size e) (I.ok.cab x c hfn hc)))).trans e1⟩
    · obtain ⟨o', e1⟩ := I.base.there b o e hx
      exact ⟨o', (hs.2 b (Nat.ne_of_lt (Nat.lt_of_lt_of_le (Heap.lt_size e) (I.ok.cab x c hfn hc)))).trans e1⟩
    · by_cases hj : j = i
      · subst hj
        rw [hi] at e1; cases e1
        rw [List.getElem?_set_self hiσ] at e2
        cases e2
        exact ⟨u, r, .inr ⟨.inl hk, c, hc, hc'⟩⟩
      · rw [List.getElem?_set_ne (Ne.symm hj)] at e2
        obtain ⟨u', r', q⟩ := hl j y v' e1 e2 e3
        refine ⟨u', r', ?_⟩
        rcases q with q | ⟨k, c', e, z'⟩
        · exact .inl q
        · refine .inr ⟨k, c', e, z'.sameBut hs ?_⟩
          rintro rfl
          exact hj (nodup_ix hN e1 (I.ok.inj _ _ _ e hc ▸ hi))
    · by_cases hcc : c' = c
      · subst hcc; exact ⟨_, hc'⟩
      · obtain ⟨w2, z2⟩ := I.cell y c' e
        exact ⟨w2, z2.sameBut hs hcc⟩
    · obtain ⟨e, n, ne, nf, d⟩ := I.pin p hp
      refine ⟨(hs.2 p.1 ?_).trans e, n, ne, nf, d⟩
      intro q
      rw [q, hoc] at e
      have q' : oc = p.2 := Option.some.inj e
      exact d w' (by rw [← q']; exact hocd)
theorem store_ok {M : Model} {A : Around} {E : Value → Shared → Prop} {i : Nat} {x : Str} {v : V} {u : Value} {Q : Unit → Shared → Prop} (I : Inv X pins σ H s) (hN : X.N.Nodup) (hi : X.N[i]? = some x) (hx : Loc X.env.scope x) (r : RelV v u)
    (h : ∀ s', Inv X pins (σ.set i (some v)) H s' → Q () s') (hf : X.fn x = true ∨ X.env.scope.names.lookup x = some .local := by first | exact .inl rfl | exact .inr rfl | assumption) : wpAny M A (storeName X.env x u) Q E s :=
  store_ok2 I hN hi hx r (fun s' I' _ => h s' I') hf
/-- behind a call or a block, the state as it is -/
theorem Inv.call' {s' : Shared} {ch : List Addr} (I : Inv X pins σ H s) (ho : s'.os = s.os) (u : Un (frs X.stack) ch H H' s.heap s'.heap) (hok : HOk X.prog X.w H' s'.heap) (hg : AllBare s'.gens)
    (hch : ∀ b ∈ ch, (b ∈ X.ex ∨ X.s₀.heap.objs.size ≤ b) ∧ b ≠ X.env.locals ∧ (∀ x c, X.env.cells.lookup x = some c → c ≠ b) ∧ ∀ p ∈ X.pn ++ pins, p.1 ≠ b) : Inv X pins σ H' s' := by
  obtain ⟨h', g', d', t', o'⟩ := s'
  have e : o' = s.os := ho
  subst e
  exact I.call (g' := g') (t' := t') (d' := d') u hok hg hch
end

/-! ### the judgements -/
/-- an exception: its class, its own dict's address (where it has one), the abstract heap behind it -/
abbrev XK := Value → Option Addr → Hp → Prop
abbrev St := List (Option V)
abbrev VK := V → Hp → Prop
/-- an expression's reading; a test's; an argument list's -/
abbrev TE := St → Hp → VK → Prop
abbrev TT := St → Hp → (Bool → Hp → Prop) → Prop
abbrev TA := St → Hp → (List V → Hp → Prop) → Prop
/-- what is wanted behind a statement -/
structure Ends where
  nx : St → Hp → Prop
  rt : VK
  bk : St → Hp → Prop := fun _ _ => False
  ct : St → Hp → Prop := fun _ _ => False
abbrev TS := Ends → St → Hp → Prop

def EP (X : Cx) (pins : List (Addr × Obj)) (σ : St) (Q : VK) (u : Value) (s' : Shared) : Prop := ∃ v H', Inv X pins σ H' s' ∧ RelV v u ∧ Q v H'
def TP (X : Cx) (pins : List (Addr × Obj)) (σ : St) (Q : Bool → Hp → Prop) (b : Bool) (s' : Shared) : Prop := ∃ H', Inv X pins σ H' s' ∧ Q b H'
def AP (X : Cx) (pins : List (Addr × Obj)) (σ : St) (Q : List V → Hp → Prop) (us : List Value) (s' : Shared) : Prop := ∃ vs H', Inv X pins σ H' s' ∧ Vals vs us ∧ Q vs H'
def SP (X : Cx) (pins : List (Addr × Obj)) (D : Ends) (f : Flow) (s' : Shared) : Prop :=
  match f with
  | .next => ∃ σ' H', Inv X pins σ' H' s' ∧ D.nx σ' H'
  | .brk => ∃ σ' H', Inv X pins σ' H' s' ∧ D.bk σ' H'
  | .cont => ∃ σ' H', Inv X pins σ' H' s' ∧ D.ct σ' H'
  | .ret u => ∃ v σ' H', Inv X pins σ' H' s' ∧ RelV v u ∧ D.rt v H'

def PE (X : Cx) (e : Expr) (t : TE) : Prop :=
  ∀ (pins : List (Addr × Obj)) (s : Shared) (σ : St) (H : Hp) (Q : VK), Inv X pins σ H s → t σ H Q → wpAny (model X.prog X.w) X.A (eval e X.env) (EP X pins σ Q) X.xe s
def PT (X : Cx) (e : Expr) (t : TT) : Prop :=
  ∀ (pins : List (Addr × Obj)) (s : Shared) (σ : St) (H : Hp) (Q : Bool → Hp → Prop), Inv X pins σ H s → t σ H Q → wpAny (model X.prog X.w) X.A (isTrue e X.env (eval e X.env)) (TP X pins σ Q) X.xe s
/-- a test whatever its 'whole' is (and, or) -/
def PW (X : Cx) (e : Expr) (t : TT) : Prop :=
  ∀ (whole : Sem Value) (pins : List (Addr × Obj)) (s : Shared) (σ : St) (H : Hp) (Q : Bool → Hp → Prop), Inv X pins σ H s → t σ H Q → wpAny (model X.prog X.w) X.A (isTrue e X.env whole) (TP X pins σ Q) X.xe s
theorem PW.pt {X : Cx} {e : Expr} {t : TT} (h : PW X e t) : PT X e t := h _
/-- an argument list (no star), from the left -/
def PA (X : Cx) (es : List Expr) (t : TA) : Prop :=
  ∀ (pos : Pos) (pins : List (Addr × Obj)) (s : Shared) (σ : St) (H : Hp) (Q : List V → Hp → Prop), Inv X pins σ H s → t σ H Q → wpAny (model X.prog X.w) X.A (spliced (backTo pos (starEach es X.env))) (AP X pins σ Q) X.xe s
def PS (X : Cx) (st : Stmt) (t : TS) : Prop :=
  ∀ (pins : List (Addr × Obj)) (s : Shared) (σ : St) (H : Hp) (D : Ends), Inv X pins σ H s → t D σ H → wpAny (model X.prog X.w) X.A (exec st X.env) (SP X pins D) X.xe s
def PSs (X : Cx) (st : List Stmt) (t : TS) : Prop :=
  ∀ (pins : List (Addr × Obj)) (s : Shared) (σ : St) (H : Hp) (D : Ends), Inv X pins σ H s → t D σ H → wpAny (model X.prog X.w) X.A (execs st X.env) (SP X pins D) X.xe s
/-- weaken the end -/
theorem thn {α : Type} {t : Sem α} {Q Q' : α → Shared → Prop} {M : Model} {A : Around} {E : Value → Shared → Prop} {s : Shared} (h : wpAny M A t Q E s) (hQ : ∀ a s, Q a s → Q' a s) : wpAny M A t Q' E s := wpAny_mono h hQ fun _ _ x => x
end L2

namespace L2
open PySem PySem.Spec PyProof.Rows
section
variable {X : Cx}

/-- two expressions in a row -/
theorem bin {a b : Expr} {ta tb : TE} (ha : PE X a ta) (hb : PE X b tb) {pins : List (Addr × Obj)} {s : Shared} {σ : St} {H : Hp} {R : V → V → Hp → Prop} (I : Inv X pins σ H s) (h : ta σ H fun x H1 => tb σ H1 fun y H2 => R x y H2)
    {α : Type} {Q : α → Shared → Prop} {f : Value → Value → Sem α}
    (hf : ∀ v u s2 x y H2, Inv X pins σ H2 s2 → RelV x v → RelV y u → R x y H2 → wpAny (model X.prog X.w) X.A (f v u) Q X.xe s2) :
    wpAny (model X.prog X.w) X.A (eval a X.env) (fun v s₁ => wpAny (model X.prog X.w) X.A (eval b X.env) (fun u s₂ => wpAny (model X.prog X.w) X.A (f v u) Q X.xe s₂) X.xe s₁) X.xe s := by
  refine thn (ha pins s σ H _ I h) fun v s1 ⟨x, H1, I1, r1, q1⟩ => ?_
  refine thn (hb pins s1 σ H1 _ I1 q1) fun u s2 ⟨y, H2, I2, r2, q2⟩ => ?_
  exact hf v u s2 x y H2 I2 r1 r2 q2

/-! ### names and constants -/
def tVar (i : Nat) : TE := fun σ H Q => ∃ v, σ[i]? = some (some v) ∧ Q v H
def tC (v : V) : TE := fun _ H Q => Q v H
theorem pe_var {i : Nat} {x : Str} {pos : Pos} (hN : X.N[i]? = some x) (hv : Vis X.env.scope x) (hd : (x == ("__debug__" : Str)) = false := by decide) (hcd : (x == ("__classdict__" : Str)) = false := by decide) : PE X (.Name x pos) (tVar i) := by
  intro pins s σ H Q I h
  obtain ⟨v, e, h⟩ := h
  obtain ⟨m, hn, hl⟩ := I.loc
  obtain ⟨u, r, l⟩ := hl i x v hN e hv
  have fin : EP X pins σ Q u s := ⟨v, H, I, r, h⟩
  rcases l with ⟨hk, hm⟩ | ⟨hk, c, hc, hcell⟩
  · exact wpAny_Name (wpAny_loadName_local I.ok.kind hk hn hm fin) hd
  · rcases hk with hk | hk
    · exact wpAny_Name (wpAny_loadName_cell I.ok.kind hk hc hcell fin) hd
    · exact wpAny_Name (wpAny_loadName_free I.ok.kind hk hc hcell fin hcd) hd
theorem pe_int {i j pos} : PE X (.Constant (.int i) j pos) (tC (.int i)) := fun _ _ _ H _ I h => wpAny_Constant_int ⟨.int i, H, I.tok _, ⟨_, rfl⟩, h⟩
theorem pe_bl {b j pos} : PE X (.Constant (.bool b) j pos) (tC (.bl b)) := fun _ _ _ H _ I h => Constant_bool ⟨.bl b, H, I, rfl, h⟩
theorem pe_non {j pos} : PE X (.Constant .none j pos) (tC .non) := fun _ _ _ H _ I h => Constant_none ⟨.non, H, I, rfl, h⟩
theorem pe_str {x j pos} : PE X (.Constant (.str x) j pos) (tC (.str x)) := fun _ _ _ H _ I h => Calls.Constant_str ⟨.str x, H, I.tok _, ⟨_, rfl⟩, h⟩

/-- a global name of the def -/
def Gl (X : Cx) (x : Str) : Prop := X.env.kindOf x = some .globalImplicit
theorem ld_glob {E : Value → Shared → Prop} {pins : List (Addr × Obj)} {s : Shared} {σ : St} {H : Hp} {x : Str} {u : Value} {pos : Pos} {Q : Value → Shared → Prop} (I : Inv X pins σ H s) (hg : Gl X x) (hm : X.mg x = some u) (h : Q u s)
    (hd : (x == ("__debug__" : Str)) = false := by decide) : wpAny (model X.prog X.w) X.A (eval (.Name x pos) X.env) Q E s :=
  Calls.Name_function_global I.ok.kind hg (Calls.loadGlobal_global (by rw [I.ok.glob]; exact I.mod.glob.keeps I.bk) hm h) hd
theorem ld_blt {E : Value → Shared → Prop} {pins : List (Addr × Obj)} {s : Shared} {σ : St} {H : Hp} {x : Str} {u : Value} {pos : Pos} {Q : Value → Shared → Prop} (I : Inv X pins σ H s) (hg : Gl X x) (hm : X.mg x = none) (hv : bootBuiltins x = some u) (h : Q u s)
    (hn : x ≠ "__name__" := by decide) (hd : (x == ("__debug__" : Str)) = false := by decide) : wpAny (model X.prog X.w) X.A (eval (.Name x pos) X.env) Q E s := by
  obtain ⟨mb, h1, h2⟩ := I.mod.blt
  exact Calls.Name_function_global I.ok.kind hg (Calls.loadGlobal_builtin (by rw [I.ok.glob]; exact I.mod.glob.keeps I.bk) hm (by rw [I.ok.blt]; exact h1.keeps I.bk) ((h2 x hn).trans hv) h) hd
/-- a module's constant, a class, a function, as a value -/
theorem pe_glob {x : Str} {v : V} {u : Value} {pos : Pos} (hg : Gl X x) (hm : X.mg x = some u) (r : RelV v u) (hd : (x == ("__debug__" : Str)) = false := by decide) : PE X (.Name x pos) (tC v) :=
  fun _ _ _ H _ I h => ld_glob I hg hm ⟨v, H, I, r, h⟩ hd
theorem pe_bltn {x : Str} {v : V} {u : Value} {pos : Pos} (hg : Gl X x) (hm : X.mg x = none) (hv : bootBuiltins x = some u) (r : RelV v u) (hn : x ≠ "__name__" := by decide) (hd : (x == ("__debug__" : Str)) = false := by decide) : PE X (.Name x pos) (tC v) :=
  fun _ _ _ H _ I h => ld_blt I hg hm hv ⟨v, H, I, r, h⟩ hn hd

/-! ### arithmetic -/
/-- two ints -/
def t2I (ta tb : TE) (k : Int → Int → Hp → Prop) : St → Hp → Prop := fun σ H => ta σ H fun x H1 => tb σ H1 fun y H2 => ∃ i j, x = .int i ∧ y = .int j ∧ k i j H2
def tAdd (ta tb : TE) : TE := fun σ H Q => t2I ta tb (fun i j H2 => Q (.int (i + j)) H2) σ H
def tSub (ta tb : TE) : TE := fun σ H Q => t2I ta tb (fun i j H2 => Q (.int (i - j)) H2) σ H
/-- the left factor below 2^64 -/
def tMul (ta tb : TE) : TE := fun σ H Q => t2I ta tb (fun i j H2 => (-(2 ^ 64) < i ∧ i < 2 ^ 64) ∧ Q (.int (i * j)) H2) σ H
variable {a b : Expr} {ta tb : TE} {pos : Pos}
theorem pe_add (ha : PE X a ta) (hb : PE X b tb) : PE X (.BinOp a .Add b pos) (tAdd ta tb) := by
  intro pins s σ H Q I h
  refine wpAny_BinOp (bin ha hb I h fun v u s2 x y H2 I2 rx ry q => ?_)
  obtain ⟨i, j, rfl, rfl, q⟩ := q
  obtain ⟨t, rfl⟩ := rx
  obtain ⟨t', rfl⟩ := ry
  exact add_int ⟨.int _, H2, I2.tok _, ⟨_, rfl⟩, q⟩
theorem pe_sub (ha : PE X a ta) (hb : PE X b tb) : PE X (.BinOp a .Sub b pos) (tSub ta tb) := by
  intro pins s σ H Q I h
  refine wpAny_BinOp (bin ha hb I h fun v u s2 x y H2 I2 rx ry q => ?_)
  obtain ⟨i, j, rfl, rfl, q⟩ := q
  obtain ⟨t, rfl⟩ := rx
  obtain ⟨t', rfl⟩ := ry
  exact sub_int ⟨.int _, H2, I2.tok _, ⟨_, rfl⟩, q⟩
theorem pe_mul (ha : PE X a ta) (hb : PE X b tb) : PE X (.BinOp a .Mult b pos) (tMul ta tb) := by
  intro pins s σ H Q I h
  refine wpAny_BinOp (bin ha hb I h fun v u s2 x y H2 I2 rx ry q => ?_)
  obtain ⟨i, j, rfl, rfl, ⟨q1, q2⟩, q⟩ := q
  obtain ⟨t, rfl⟩ := rx
  obtain ⟨t', rfl⟩ := ry
  exact mul_int ⟨.int _, H2, I2.tok _, ⟨_, rfl⟩, q⟩ (.of_left (intBits_le_64 q1 q2))

/-! ### comparisons -/
def PC (X : Cx) (op : CmpOp) (a b : Expr) (t : TE) : Prop :=
  ∀ (pins : List (Addr × Obj)) (s : Shared) (σ : St) (H : Hp) (Q : VK), Inv X pins σ H s → t σ H Q →
    wpAny (model X.prog X.w) X.A (eval a X.env) (fun v s₁ => wpAny (model X.prog X.w) X.A (eval b X.env) (fun u s₂ => wpAny (model X.prog X.w) X.A (compareOp op v u) (EP X pins σ Q) X.xe s₂) X.xe s₁) X.xe s
theorem nobehind (b : Expr) {op : CmpOp} (h : op ≠ .In) (h2 : op ≠ .NotIn) : behindInMarks op b = false := by
  have e1 : (op == CmpOp.In) = false := by cases op <;> first | rfl | exact absurd rfl h
  have e2 : (op == CmpOp.NotIn) = false := by cases op <;> first | rfl | exact absurd rfl h2
  cases b <;> simp [behindInMarks, e1, e2]
def tCmp (p : Int → Int → Bool) (ta tb : TE) : TE := fun σ H Q => t2I ta tb (fun i j H2 => Q (.bl (p i j)) H2) σ H
abbrev tLt : TE → TE → TE := tCmp fun i j => decide (i < j)
abbrev tLe : TE → TE → TE := tCmp fun i j => decide (i ≤ j)
abbrev tGt : TE → TE → TE := tCmp fun i j => decide (j < i)
abbrev tGe : TE → TE → TE := tCmp fun i j => decide (j ≤ i)
abbrev tEqI : TE → TE → TE := tCmp fun i j => decide (i = j)
abbrev tNeI : TE → TE → TE := tCmp fun i j => !decide (i = j)
/-- a comparison of two ints, by its rule -/
theorem pc_int {op : CmpOp} {p : Int → Int → Bool} (ha : PE X a ta) (hb : PE X b tb)
    (rule : ∀ (i j : Int) (t u : Tok) (Q : Value → Shared → Prop) (s : Shared), Q (.bool (p i j)) s → wpAny (model X.prog X.w) X.A (compareOp op (.int i t) (.int j u)) Q X.xe s) : PC X op a b (tCmp p ta tb) := by
  intro pins s σ H Q I h
  refine bin ha hb I h fun v u s2 x y H2 I2 rx ry q => ?_
  obtain ⟨i, j, rfl, rfl, q⟩ := q
  obtain ⟨t, rfl⟩ := rx
  obtain ⟨t', rfl⟩ := ry
  exact rule i j t t' _ s2 ⟨.bl _, H2, I2, rfl, q⟩
theorem pc_lt (ha : PE X a ta) (hb : PE X b tb) : PC X .Lt a b (tLt ta tb) := pc_int ha hb fun _ _ _ _ _ _ h => lt_int h
theorem pc_le (ha : PE X a ta) (hb : PE X b tb) : PC X .LtE a b (tLe ta tb) := pc_int ha hb fun _ _ _ _ _ _ h => le_int h
theorem pc_gt (ha : PE X a ta) (hb : PE X b tb) : PC X .Gt a b (tGt ta tb) := pc_int ha hb fun _ _ _ _ _ _ h => gt_int h
theorem pc_ge (ha : PE X a ta) (hb : PE X b tb) : PC X .GtE a b (tGe ta tb) := pc_int ha hb fun _ _ _ _ _ _ h => ge_int h
theorem pc_eqI (ha : PE X a ta) (hb : PE X b tb) : PC X .Eq a b (tEqI ta tb) := pc_int ha hb fun _ _ _ _ _ _ h => eq_int (by rw [Bool.beq_eq_decide_eq]; exact h)
theorem pc_neI (ha : PE X a ta) (hb : PE X b tb) : PC X .NotEq a b (tNeI ta tb) := pc_int ha hb fun _ _ _ _ _ _ h => ne_int (by rw [bne, Bool.beq_eq_decide_eq]; exact h)
/-- is None -/
def tIsN (ta : TE) : TE := fun σ H Q => ta σ H fun x H1 => Q (.bl (decide (x = .non))) H1
def tNotN (ta : TE) : TE := fun σ H Q => ta σ H fun x H1 => Q (.bl (!decide (x = .non))) H1
theorem RelV.none_iff {x : V} {v : Value} (r : RelV x v) : (v == Value.none) = decide (x = .non) := by
  cases x with
  | non => cases r; rfl
  | bl _ => cases r; rfl
  | int _ => obtain ⟨t, rfl⟩ := r; rfl
  | str _ => obtain ⟨t, rfl⟩ := r; rfl
  | byt _ => obtain ⟨t, rfl⟩ := r; rfl
  | flt _ => obtain ⟨t, rfl⟩ := r; rfl
  | ref _ => cases r; rfl
  | ty _ => cases r; rfl
theorem pc_isN {j pos'} (ha : PE X a ta) : PC X .Is a (.Constant .none j pos') (tIsN ta) := by
  intro pins s σ H Q I h
  refine thn (ha pins s σ H _ I h) fun v s1 ⟨x, H1, I1, r1, q1⟩ => ?_
  exact Constant_none (is_none_gen ⟨.bl _, H1, I1, by rw [r1.none_iff]; rfl, q1⟩)
theorem pc_notN {j pos'} (ha : PE X a ta) : PC X .IsNot a (.Constant .none j pos') (tNotN ta) := by
  intro pins s σ H Q I h
  refine thn (ha pins s σ H _ I h) fun v s1 ⟨x, H1, I1, r1, q1⟩ => ?_
  exact Constant_none (isnot_none_gen ⟨.bl _, H1, I1, by rw [r1.none_iff]; rfl, q1⟩)
/-- a comparison as a value, as a test -/
def tB (t : TE) : TT := fun σ H Q => t σ H fun x H1 => ∃ c, x = .bl c ∧ Q c H1
theorem pe_cmp {op : CmpOp} {t : TE} (h : PC X op a b t) (h1 : behindInMarks op b = false := by first | exact nobehind _ (by decide) (by decide) | rfl) : PE X (.Compare a [op] [b] pos) t := fun pins s σ H Q I hw => wpAny_Compare1 (h pins s σ H Q I hw) h1
theorem pt_cmp {op : CmpOp} {t : TE} (h : PC X op a b t) (h1 : behindInMarks op b = false := by first | exact nobehind _ (by decide) (by decide) | rfl) : PT X (.Compare a [op] [b] pos) (tB t) := by
  intro pins s σ H Q I hw
  refine wpAny_isTrue_Compare1 (thn (h pins s σ H _ I hw) fun v s1 h1 => thn h1 fun u s2 h2 => thn h2 fun c s3 ⟨x, H1, I1, r1, q1⟩ => ?_) h1
  obtain ⟨d, rfl, q⟩ := q1
  cases r1
  exact wpAny_truthy_bool ⟨H1, I1, q⟩
/-- an expression whose value is a bool, as a test -/
theorem pt_val {e : Expr} {t : TE} (h : PE X e t) (he : ∀ whole, isTrue e X.env whole = (do let v ← whole; standAt e.pos; holding [v] (truthy v)) := by intro _; rfl) : PT X e (tB t) := by
  intro pins s σ H Q I hw
  refine isTrue_plain (thn (h pins s σ H _ I hw) fun v s1 ⟨x, H1, I1, r1, q1⟩ => ?_) (he _)
  obtain ⟨d, rfl, q⟩ := q1
  cases r1
  exact wpAny_truthy_bool ⟨H1, I1, q⟩

/-! ### and, or, not -/
variable {tA tB' : TT} {rest : List Expr}
def tAnd (t u : TT) : TT := fun σ H Q => t σ H fun c H1 => if c = true then u σ H1 Q else Q false H1
def tOr (t u : TT) : TT := fun σ H Q => t σ H fun c H1 => if c = true then Q true H1 else u σ H1 Q
def tNot (t : TT) : TT := fun σ H Q => t σ H fun c H1 => Q (!c) H1
theorem pw_and1 (ha : PT X a tA) : PW X (.BoolOp .And [a] pos) tA := by
  intro wh pins s σ H Q I h
  refine isTrue_and (thn (ha pins s σ H Q I h) fun c s1 e => ?_)
  cases c with
  | true => exact isTrue_and_nil e
  | false => exact e
theorem pw_or1 (ha : PT X a tA) : PW X (.BoolOp .Or [a] pos) tA := by
  intro wh pins s σ H Q I h
  refine isTrue_or (thn (ha pins s σ H Q I h) fun c s1 e => ?_)
  cases c with
  | false => exact isTrue_or_nil e
  | true => exact e
theorem pw_and (ha : PT X a tA) (hb : PW X (.BoolOp .And (b :: rest) pos) tB') : PW X (.BoolOp .And (a :: b :: rest) pos) (tAnd tA tB') := by
  intro wh pins s σ H Q I h
  refine isTrue_and (thn (ha pins s σ H _ I h) fun c s1 ⟨H1, I1, q1⟩ => ?_)
  cases c with
  | true => exact hb wh pins s1 σ H1 Q I1 q1
  | false => exact ⟨H1, I1, q1⟩
theorem pw_or (ha : PT X a tA) (hb : PW X (.BoolOp .Or (b :: rest) pos) tB') : PW X (.BoolOp .Or (a :: b :: rest) pos) (tOr tA tB') := by
  intro wh pins s σ H Q I h
  refine isTrue_or (thn (ha pins s σ H _ I h) fun c s1 ⟨H1, I1, q1⟩ => ?_)
  cases c with
  | true => exact ⟨H1, I1, q1⟩
  | false => exact hb wh pins s1 σ H1 Q I1 q1
theorem pt_not (ha : PT X a tA) : PT X (.UnaryOp .Not a pos) (tNot tA) := by
  intro pins s σ H Q I h
  exact isTrue_not (ha pins s σ H (fun c H1 => Q (!c) H1) I h)
/-- .. as values (bools) -/
def tAndV (ta tb : TE) : TE := fun σ H Q => ta σ H fun x H1 => ∃ c, x = .bl c ∧ if c = true then tb σ H1 Q else Q (.bl false) H1
def tOrV (ta tb : TE) : TE := fun σ H Q => ta σ H fun x H1 => ∃ c, x = .bl c ∧ if c = true then Q (.bl true) H1 else tb σ H1 Q
def tNotV (ta : TE) : TE := fun σ H Q => ta σ H fun x H1 => ∃ c, x = .bl c ∧ Q (.bl (!c)) H1
theorem pe_one {op} {t : TE} (h : PE X a t) : PE X (.BoolOp op [a] pos) t := fun pins s σ H Q I hw => BoolOp_one (h pins s σ H Q I hw)
theorem pe_and (ha : PE X a ta) (hb : PE X (.BoolOp .And (b :: rest) pos) tb) : PE X (.BoolOp .And (a :: b :: rest) pos) (tAndV ta tb) := by
  intro pins s σ H Q I h
  refine BoolOp_and (thn (ha pins s σ H _ I h) fun v s1 ⟨x, H1, I1, r1, q1⟩ => ?_)
  obtain ⟨c, rfl, q1⟩ := q1
  cases r1
  refine wpAny_truthy_bool ?_
  cases c with
  | true => exact hb pins s1 σ H1 Q I1 q1
  | false => exact ⟨.bl false, H1, I1, rfl, q1⟩
theorem pe_or (ha : PE X a ta) (hb : PE X (.BoolOp .Or (b :: rest) pos) tb) : PE X (.BoolOp .Or (a :: b :: rest) pos) (tOrV ta tb) := by
  intro pins s σ H Q I h
  refine BoolOp_or (thn (ha pins s σ H _ I h) fun v s1 ⟨x, H1, I1, r1, q1⟩ => ?_)
  obtain ⟨c, rfl, q1⟩ := q1
  cases r1
  refine wpAny_truthy_bool ?_
  cases c with
  | false => exact hb pins s1 σ H1 Q I1 q1
  | true => exact ⟨.bl true, H1, I1, rfl, q1⟩
theorem pe_not (ha : PE X a ta) : PE X (.UnaryOp .Not a pos) (tNotV ta) := by
  intro pins s σ H Q I h
  refine UnaryOp_ (thn (ha pins s σ H _ I h) fun v s1 ⟨x, H1, I1, r1, q1⟩ => ?_)
  obtain ⟨c, rfl, q1⟩ := q1
  cases r1
  exact not_of (wpAny_truthy_bool ⟨.bl (!c), H1, I1, rfl, q1⟩)
/-- a if t else b -/
def tIf (t : TT) (ta tb : TE) : TE := fun σ H Q => t σ H fun c H1 => if c = true then ta σ H1 Q else tb σ H1 Q
theorem pe_ifExp {c : Expr} (hc : PT X c tA) (ha : PE X a ta) (hb : PE X b tb) : PE X (.IfExp c a b pos) (tIf tA ta tb) := by
  intro pins s σ H Q I h
  refine wpAny_IfExp (thn (hc pins s σ H _ I h) fun d s1 ⟨H1, I1, q1⟩ => ?_)
  cases d with
  | true => exact ha pins s1 σ H1 Q I1 q1
  | false => exact hb pins s1 σ H1 Q I1 q1
end
end L2

namespace L2
open PySem PySem.Spec PyProof.Rows

/-! ### a list, a tuple that is read: tracked, frozen, or an object of the module -/
def SqL (K : PySem.W.Frag) (H : Hp) (a : Addr) (xs : List V) : Prop :=
  Rd H a (.lst xs) ∨
    ∃ (o : Obj) (its : Array Value) (n : Nat), K.lookup a = some o ∧ o.cls = .type "list" ∧ o.dict = none ∧ o.data = .seq its n ∧ its.size ≤ sizeLine ∧ Vals xs its.toList
def SqT (K : PySem.W.Frag) (H : Hp) (a : Addr) (xs : List V) : Prop :=
  Rd H a (.tup xs) ∨
    ∃ (o : Obj) (its : Array Value) (n : Nat), K.lookup a = some o ∧ o.cls = .type "tuple" ∧ o.data = .seq its n ∧ its.size ≤ sizeLine ∧ Vals xs its.toList
def absV : Value → Option V
  | .none => some .non
  | .bool b => some (.bl b)
  | .int i _ => some (.int i)
  | .str x _ => some (.str x)
  | .bytes b _ => some (.byt b)
  | .float b _ => some (.flt b)
  | .ref a => some (.ref a)
  | .type n => some (.ty n)
  | _ => none
theorem RelV.abs {x : V} {u : Value} (r : RelV x u) : absV u = some x := by
  cases x with
  | non => cases r; rfl
  | bl _ => cases r; rfl
  | int _ => obtain ⟨t, rfl⟩ := r; rfl
  | str _ => obtain ⟨t, rfl⟩ := r; rfl
  | byt _ => obtain ⟨t, rfl⟩ := r; rfl
  | flt _ => obtain ⟨t, rfl⟩ := r; rfl
  | ref _ => cases r; rfl
  | ty _ => cases r; rfl
theorem RelV.inj {x y : V} {u : Value} (r : RelV x u) (q : RelV y u) : x = y := Option.some.inj (r.abs.symm.trans q.abs)
theorem Vals.inj : ∀ {xs ys : List V} {us : List Value}, Vals xs us → Vals ys us → xs = ys
  | _, _, _, .nil, .nil => rfl
  | _, _, _, .cons r t, .cons r' t' => by rw [r.inj r', Vals.inj t t']
section
variable {X : Cx} {pins : List (Addr × Obj)} {σ : St} {H : Hp} {s : Shared} {a : Addr} {xs ys : List V}
theorem SqL.of {K : PySem.W.Frag} (h : H a = some (.lst xs)) : SqL K H a xs := .inl (.inl h)
theorem SqT.of {K : PySem.W.Frag} (h : H a = some (.tup xs)) : SqT K H a xs := .inl (.inl h)
theorem Inv.list (I : Inv X pins σ H s) (h : SqL X.K H a xs) : ∃ its : List Value, Vals xs its ∧ PlainL s.heap a its.toArray ∧ xs.length ≤ sizeLine := by
  rcases h with h | ⟨o, its, n, hk, hc, hd, hs, hz, r⟩
  · obtain ⟨z, its, n, r, e⟩ := h.ok I.hok
    exact ⟨its, r, ⟨_, n, e, rfl, rfl, rfl⟩, z⟩
  · refine ⟨its.toList, r, ⟨o, n, I.kIn a o hk, hc, hd, by simpa using hs⟩, ?_⟩
    have e := r.length
    simp only [Array.length_toList] at e
    omega
theorem Inv.tuple (I : Inv X pins σ H s) (h : SqT X.K H a xs) : ∃ its : List Value, Vals xs its ∧ IsTup s.heap a its.toArray ∧ xs.length ≤ sizeLine := by
  rcases h with h | ⟨o, its, n, hk, hc, hs, hz, r⟩
  · obtain ⟨z, its, r, ob, e, c, _⟩ := h.ok I.hok
    exact ⟨its, r, ⟨ob, e, c⟩, z⟩
  · refine ⟨its.toList, r, ⟨o, I.kIn a o hk, hc, n, by simpa using hs⟩, ?_⟩
    have e := r.length
    simp only [Array.length_toList] at e
    omega
theorem Inv.list_inj (I : Inv X pins σ H s) (h : SqL X.K H a xs) (h' : SqL X.K H a ys) : xs = ys := by
  obtain ⟨its, r, ⟨o, n, e, _, _, d⟩, _⟩ := I.list h
  obtain ⟨its', r', ⟨o', n', e', _, _, d'⟩, _⟩ := I.list h'
  rw [e] at e'; cases e'
  rw [d] at d'
  injection d' with d1 _
  have : its = its' := by simpa using congrArg Array.toList d1
  subst this
  exact r.inj r'
theorem Inv.tuple_inj (I : Inv X pins σ H s) (h : SqT X.K H a xs) (h' : SqT X.K H a ys) : xs = ys := by
  obtain ⟨its, r, ⟨o, e, _, n, d⟩, _⟩ := I.tuple h
  obtain ⟨its', r', ⟨o', e', _, n', d'⟩, _⟩ := I.tuple h'
  rw [e] at e'; cases e'
  rw [d] at d'
  injection d' with d1 _
  have : its = its' := by simpa using congrArg Array.toList d1
  subst this
  exact r.inj r'
end

/-! ### another wish about exceptions -/
abbrev Cx.wish (X : Cx) (E : Value → Shared → Prop) : Cx := { X with xe := E }
/-- no exception leaves -/
abbrev Cx.nox (X : Cx) : Cx := X.wish fun _ _ => False
theorem Cx.Ok.wish {X : Cx} (ok : X.Ok) (E : Value → Shared → Prop) : (X.wish E).Ok :=
  ⟨ok.mod, ok.kind, ok.glob, ok.blt, ok.above, ok.inj, ok.has, ok.cab, ok.hd, ok.frames, ok.stk, ok.exf, ok.bs, ok.bsz, ok.noex, ok.exfs, ok.funs, ok.frf⟩
theorem Cx.Ok.unwish {X : Cx} {E : Value → Shared → Prop} (ok : (X.wish E).Ok) : X.Ok :=
  ⟨ok.mod, ok.kind, ok.glob, ok.blt, ok.above, ok.inj, ok.has, ok.cab, ok.hd, ok.frames, ok.stk, ok.exf, ok.bs, ok.bsz, ok.noex, ok.exfs, ok.funs, ok.frf⟩
section
variable {X : Cx} {pins : List (Addr × Obj)} {σ : St} {H : Hp} {s : Shared} {E : Value → Shared → Prop}
theorem Inv.wish (I : Inv X pins σ H s) (E : Value → Shared → Prop) : Inv (X.wish E) pins σ H s := ⟨I.ok.wish E, I.os, I.bare, I.base, I.loc, I.cell, I.free, I.freeC, I.pin, I.hok, I.len⟩
theorem Inv.unwish (I : Inv (X.wish E) pins σ H s) : Inv X pins σ H s := ⟨I.ok.unwish, I.os, I.bare, I.base, I.loc, I.cell, I.free, I.freeC, I.pin, I.hok, I.len⟩
theorem SP.unwish {D : Ends} {f : Flow} {s' : Shared} (h : SP (X.wish E) pins D f s') : SP X pins D f s' := by
  cases f with
  | next => obtain ⟨σ', H', I, q⟩ := h; exact ⟨σ', H', I.unwish, q⟩
  | brk => obtain ⟨σ', H', I, q⟩ := h; exact ⟨σ', H', I.unwish, q⟩
  | cont => obtain ⟨σ', H', I, q⟩ := h; exact ⟨σ', H', I.unwish, q⟩
  | ret u => obtain ⟨v, σ', H', I, r, q⟩ := h; exact ⟨v, σ', H', I.unwish, r, q⟩
theorem PE.nox {e : Expr} {t : TE} (h : PE X.nox e t) : PE X e t := fun pins s σ H Q I hw =>
  wpAny_mono (h pins s σ H Q (I.wish _) hw) (fun _ _ ⟨v, H', I', r, q⟩ => ⟨v, H', I'.unwish, r, q⟩) fun _ _ z => False.elim z
theorem PT.nox {e : Expr} {t : TT} (h : PT X.nox e t) : PT X e t := fun pins s σ H Q I hw =>
  wpAny_mono (h pins s σ H Q (I.wish _) hw) (fun _ _ ⟨H', I', q⟩ => ⟨H', I'.unwish, q⟩) fun _ _ z => False.elim z
theorem PSs.nox {st : List Stmt} {t : TS} (h : PSs X.nox st t) : PSs X st t := fun pins s σ H D I hw =>
  wpAny_mono (h pins s σ H D (I.wish _) hw) (fun _ _ q => q.unwish) fun _ _ z => False.elim z
end

/-! ### blocks and small statements -/
section
variable {X : Cx} {st : Stmt} {rest : List Stmt} {t u : TS} {e : Expr} {te : TE} {pos : Pos}
def tNext : TS := fun D σ H => D.nx σ H
def tSeq (t u : TS) : TS := fun D σ H => t { D with nx := u D } σ H
theorem pss_nil : PSs X [] tNext := fun _ _ σ H _ I h => wpAny_execs_nil ⟨σ, H, I, h⟩
theorem pss_cons (h1 : PS X st t) (h2 : PSs X rest u) : PSs X (st :: rest) (tSeq t u) := by
  intro pins s σ H D I h
  refine wpAny_execs_cons (thn (h1 pins s σ H { D with nx := u D } I h) fun f s1 q => ?_)
  cases f with
  | next =>
    obtain ⟨σ', H', I', q⟩ := q
    exact h2 pins s1 σ' H' D I' q
  | ret v => exact q
  | brk => exact q
  | cont => exact q
theorem pss_one (h1 : PS X st t) : PSs X [st] t := by
  intro pins s σ H D I h
  refine wpAny_execs_cons (thn (h1 pins s σ H D I h) fun f s1 q => ?_)
  cases f with
  | next => exact wpAny_execs_nil q
  | ret v => exact q
  | brk => exact q
  | cont => exact q
def tBreak : TS := fun D σ H => D.bk σ H
def tCont : TS := fun D σ H => D.ct σ H
theorem ps_pass : PS X (.Pass pos) tNext := fun _ _ σ H _ I h => wpAny_Pass ⟨σ, H, I, h⟩
theorem ps_break : PS X (.Break pos) tBreak := fun _ _ σ H _ I h => wpAny_Break ⟨σ, H, I, h⟩
theorem ps_continue : PS X (.Continue pos) tCont := fun _ _ σ H _ I h => wpAny_Continue ⟨σ, H, I, h⟩
/-- in a def's body nothing is shown -/
theorem Inv.quiet {pins : List (Addr × Obj)} {σ : St} {H : Hp} {s : Shared} (I : Inv X pins σ H s) : interactive X.env = false := by simp [interactive, I.ok.kind]
/-- a docstring -/
theorem ps_doc {x j pos pos'} : PS X (.Expr (.Constant (.str x) j pos) pos') tNext := fun _ s σ H _ I h => wpAny_Expr (Calls.Constant_str (show SP X _ _ .next { s with toks := s.toks + 1 } from ⟨σ, H, I.tok _, h⟩)) I.quiet
/-- an expression whose value is dropped -/
def tDrop (te : TE) : TS := fun D σ H => te σ H fun _ H1 => D.nx σ H1
theorem ps_expr (he : PE X e te) (hs : swapsWith e none pos.line X.env = pure false := by rfl) : PS X (.Expr e pos) (tDrop te) := by
  intro pins s σ H D I h
  exact wpAny_Expr_any (thn (he pins s σ H _ I h) fun v s1 ⟨x, H1, I1, r1, q1⟩ => ⟨σ, H1, I1, q1⟩) I.quiet hs
def tRet (te : TE) : TS := fun D σ H => te σ H D.rt
theorem ps_ret (he : PE X e te) : PS X (.Return (some e) pos) (tRet te) := by
  intro pins s σ H D I h
  exact wpAny_Return_some (thn (he pins s σ H _ I h) fun v s1 ⟨x, H1, I1, r1, q1⟩ => ⟨x, σ, H1, I1, r1, q1⟩)
def tRetN : TS := fun D _ H => D.rt .non H
theorem ps_retN : PS X (.Return none pos) tRetN := fun _ _ σ H _ I h => wpAny_Return_none ⟨.non, σ, H, I, rfl, h⟩
def tIfS (c : TT) (t u : TS) : TS := fun D σ H => c σ H fun b H1 => if b = true then t D σ H1 else u D σ H1
theorem ps_if {c : Expr} {a b : List Stmt} {tc : TT} (hc : PT X c tc) (ha : PSs X a t) (hb : PSs X b u) : PS X (.If c a b pos) (tIfS tc t u) := by
  intro pins s σ H D I h
  refine wpAny_If (thn (hc pins s σ H _ I h) fun d s1 ⟨H1, I1, q1⟩ => ?_)
  cases d with
  | true => exact ha pins s1 σ H1 D I1 q1
  | false => exact hb pins s1 σ H1 D I1 q1
/-- code that the proof never comes to -/
def tNever : TS := fun _ _ _ => False
theorem ps_never : PS X st tNever := fun _ _ _ _ _ _ h => h.elim
theorem pss_never {sts : List Stmt} : PSs X sts tNever := fun _ _ _ _ _ _ h => h.elim
end

/-! ### targets -/
abbrev TG := V → St → Hp → (St → Hp → Prop) → Prop
abbrev TGs := List V → St → Hp → (St → Hp → Prop) → Prop
def PG (X : Cx) (target : Expr) (t : TG) : Prop :=
  ∀ (pins : List (Addr × Obj)) (s : Shared) (σ : St) (H : Hp) (v : V) (u : Value) (Q : St → Hp → Prop), Inv X pins σ H s → RelV v u → t v σ H Q →
    wpAny (model X.prog X.w) X.A (assign target X.env u) (fun _ s' => ∃ σ' H', Inv X pins σ' H' s' ∧ Q σ' H') X.xe s
/-- several targets, one after another -/
def PGs (X : Cx) (ts : List Expr) (t : TGs) : Prop :=
  ∀ (pins : List (Addr × Obj)) (s : Shared) (σ : St) (H : Hp) (vs : List V) (us : List Value) (Q : St → Hp → Prop), Inv X pins σ H s → Vals vs us → t vs σ H Q →
    wpAny (model X.prog X.w) X.A (assignInOrder ((assignEach ts X.env).map (·.2)) us) (fun _ s' => ∃ σ' H', Inv X pins σ' H' s' ∧ Q σ' H') X.xe s
/-- o[i] = v, by values -/
abbrev TSet := V → V → V → Hp → (Hp → Prop) → Prop
def PSet (X : Cx) (t : TSet) : Prop :=
  ∀ (pins : List (Addr × Obj)) (s : Shared) (σ : St) (H : Hp) (o i v : V) (ov iv u : Value) (Q : Hp → Prop), Inv X pins σ H s → RelV o ov → RelV i iv → RelV v u → t o i v H Q →
    wpAny (model X.prog X.w) X.A (setItem ov iv u) (fun _ s' => ∃ H', Inv X pins σ H' s' ∧ Q H') X.xe s
/-- a op= b, by values -/
abbrev TIp := V → V → Hp → VK → Prop
def PIp (X : Cx) (op : Operator) (t : TIp) : Prop :=
  ∀ (pins : List (Addr × Obj)) (s : Shared) (σ : St) (H : Hp) (x y : V) (v u : Value) (Q : VK), Inv X pins σ H s → RelV x v → RelV y u → t x y H Q →
    wpAny (model X.prog X.w) X.A (inplaceOp op v u) (EP X pins σ Q) X.xe s
section
variable {X : Cx} {pos : Pos}
def gName (i : Nat) : TG := fun v σ H Q => Q (σ.set i (some v)) H
theorem pg_name {i : Nat} {x : Str} (hN : X.N.Nodup) (hi : X.N[i]? = some x) (hx : Loc X.env.scope x) (hf : X.fn x = true ∨ X.env.scope.names.lookup x = some .local := by first | exact .inl rfl | exact .inr rfl | assumption) : PG X (.Name x pos) (gName i) := by
  intro pins s σ H v u Q I r h
  exact wpAny_assign_Name (store_ok I hN hi hx r (fun s' I' => ⟨_, H, I', h⟩) hf)
def gNil : TGs := fun vs σ H Q => vs = [] ∧ Q σ H
def gCons (t : TG) (u : TGs) : TGs := fun vs σ H Q => ∃ v r, vs = v :: r ∧ t v σ H fun σ' H' => u r σ' H' Q
theorem pgs_nil : PGs X [] gNil := by
  intro pins s σ H vs us Q I r h
  obtain ⟨e, h⟩ := h
  subst e
  cases r
  exact assignInOrder_nil ⟨σ, H, I, h⟩
theorem pgs_cons {e : Expr} {es : List Expr} {t : TG} {u : TGs} (h1 : PG X e t) (h2 : PGs X es u)
    (hs : (assignEach (e :: es) X.env).map (·.2) = assign e X.env :: (assignEach es X.env).map (·.2) := by rfl) : PGs X (e :: es) (gCons t u) := by
  intro pins s σ H vs us Q I r h
  obtain ⟨v, vr, e1, h⟩ := h
  subst e1
  cases r with
  | cons r rr =>
    rw [hs]
    refine assignInOrder_cons (thn (h1 pins s σ H _ _ _ I r h) fun _ s1 ⟨σ1, H1, I1, q1⟩ => ?_)
    exact h2 pins s1 σ1 H1 _ _ Q I1 rr q1
/-- (a, b, ..) = a tuple of that length -/
def gTup (K : PySem.W.Frag) (n : Nat) (t : TGs) : TG := fun v σ H Q => ∃ a xs, v = .ref a ∧ SqT K H a xs ∧ xs.length = n ∧ t xs σ H Q
theorem pg_tup {es : List Expr} {k : Nat} {t : TGs} {n : Nat} (hc : X.calm = true) (h : PGs X es t)
    (hn : (assignEach es X.env).length = n := by rfl) (hst : (assignEach es X.env).findIdx? (·.1) = none := by rfl) : PG X (.Tuple es k pos) (gTup X.K n t) := by
  intro pins s σ H v u Q I r hw
  obtain ⟨a, xs, e1, hq, hl, hw⟩ := hw
  subst e1
  cases r
  obtain ⟨its, rv, ht, hz⟩ := I.tuple hq
  refine assign_Tuple_tuple (I.ok.hd hc) ht (by simp [hn, ← hl, rv.length]) hst fun h' hx => ?_
  have I1 : Inv X pins σ H { s with heap := h' } := I.kept (t' := s.toks) fun b o e => hx b o (Nat.ne_of_lt (Heap.lt_size e)) e
  exact h pins _ σ H xs _ Q I1 (by simpa using rv) hw
/-- o[i] = .. -/
def gSub (to ti : TE) (t : TSet) : TG := fun v σ H Q => to σ H fun o H1 => ti σ H1 fun i H2 => t o i v H2 fun H3 => Q σ H3
theorem pg_sub {o i : Expr} {to ti : TE} {t : TSet} (ho : PE X o to) (hi : PE X i ti) (hs : PSet X t)
    (ha : ∀ v, assign (.Subscript o i pos) X.env v = (do
      let ov ← holding [v] (eval o X.env)
      let iv ← holding [v, ov] (eval i X.env)
      standAt pos
      holding [v, ov, iv] (setItem ov iv v)
      release [v, ov, iv] []) := by intro _; rfl) : PG X (.Subscript o i pos) (gSub to ti t) := by
  intro pins s σ H v u Q I r h
  rw [ha]
  refine wpAny_bind (wpAny_holding (thn (ho pins s σ H _ I h) fun ov s1 ⟨x, H1, I1, r1, q1⟩ => ?_))
  refine wpAny_bind (wpAny_holding (thn (hi pins s1 σ H1 _ I1 q1) fun iv s2 ⟨y, H2, I2, r2, q2⟩ => ?_))
  refine wpAny_bind (wpAny_standAt (wpAny_bind (wpAny_holding (thn (hs pins s2 σ H2 x y v ov iv u _ I2 r1 r2 r q2) fun _ s3 ⟨H3, I3, q3⟩ => ?_))))
  exact wpAny_release ⟨σ, H3, I3, q3⟩
/-- target = value -/
def tAsg (te : TE) (g : TG) : TS := fun D σ H => te σ H fun x H1 => g x σ H1 D.nx
theorem ps_asg {tg e : Expr} {te : TE} {g : TG} (he : PE X e te) (hg : PG X tg g) (hs : swapsWithSole [tg] e pos.line X.env = pure false := by rfl) (hw : swappedStores [tg] e X.env = pure none := by rfl)
    (h1 : (assignEach [tg] X.env).map (·.2) = [assign tg X.env] := by rfl) : PS X (.Assign [tg] e pos) (tAsg te g) := by
  intro pins s σ H D I h
  refine wpAny_Assign_stores (thn (he pins s σ H _ I h) fun v s1 ⟨x, H1, I1, r1, q1⟩ => ?_) hs hw
  rw [h1]
  exact thn (hg pins s1 σ H1 x v _ I1 r1 q1) fun _ s2 q => q
/-- name = value -/
theorem ps_set {i : Nat} {x : Str} {e : Expr} {te : TE} {pos' : Pos} (hN : X.N.Nodup) (hi : X.N[i]? = some x) (hx : Loc X.env.scope x) (he : PE X e te) (hs : swapsWith e (some (.Name x pos')) pos.line X.env = pure false := by rfl) (hf : X.fn x = true ∨ X.env.scope.names.lookup x = some .local := by first | exact .inl rfl | exact .inr rfl | assumption) :
    PS X (.Assign [.Name x pos'] e pos) (tAsg te (gName i)) := by
  intro pins s σ H D I h
  refine wpAny_Assign_Name (thn (he pins s σ H _ I h) fun v s1 ⟨y, H1, I1, r1, q1⟩ => ?_) hs
  exact store_ok I1 hN hi hx r1 (fun s2 I2 => ⟨_, H1, I2, q1⟩) hf
/-- a, b = x, y with plain local names: stored from the right; the pair itself is not tracked (the opening rows as in PyProof/Rows/TupAssign.lean:23) -/
def tPar (i j : Nat) (ta : TA) : TS := fun D σ H => ta σ H fun vs H1 => ∃ v w, vs = [v, w] ∧ D.nx ((σ.set i (some v)).set j (some w)) H1
theorem ps_par {i j : Nat} {x y : Str} {a b : Expr} {ta : TA} {px py pt : Pos} {kt k2 pt2} (hc : X.calm = true) (hN : X.N.Nodup) (hi : X.N[i]? = some x) (hj : X.N[j]? = some y) (hij : i ≠ j)
    (hx : X.env.scope.names.lookup x = some .local) (hy : X.env.scope.names.lookup y = some .local) (ha : PA X [a, b] ta)
    (hw : swappedStores [.Tuple [.Name x px, .Name y py] kt pt] (.Tuple [a, b] k2 pt2) X.env = pure (some [x, y]))
    (hs : swapsWithSole [.Tuple [.Name x px, .Name y py] kt pt] (.Tuple [a, b] k2 pt2) pos.line X.env = pure false := by rfl) :
    PS X (.Assign [.Tuple [.Name x px, .Name y py] kt pt] (.Tuple [a, b] k2 pt2) pos) (tPar i j ta) := by
  intro pins s σ H D I h
  rw [exec_Assign_arm]
  refine wpAny_bind (wpAny_standAt ?_)
  rw [hs]
  refine wpAny_bind (wpAny_pure ?_)
  rw [if_neg (by decide)]
  refine wpAny_bind (Tuple_ (thn (ha _ pins s σ H _ I h) fun us s1 ⟨vs, H1, I1, r1, q1⟩ => ?_))
  obtain ⟨v, w, e1, q1⟩ := q1
  subst e1
  obtain ⟨u1, u2, rfl, rv, rw'⟩ : ∃ u1 u2, us = [u1, u2] ∧ RelV v u1 ∧ RelV w u2 := by
    cases r1 with
    | cons p q =>
      cases q with
      | cons p' q' =>
        cases q'
        exact ⟨_, _, rfl, p, p'⟩
  refine wpAny_newObj_type ?_ (by show 2 ≤ sizeLine; decide)
  have I2 : Inv X pins σ H1 { s1 with heap := s1.heap.push { cls := .type "tuple", data := .seq [u1, u2].toArray } } := I1.kept (t' := s1.toks) fun b o e => Heap.get?_push_of_some _ e
  rw [hw]
  refine wpAny_bind (wpAny_pure ?_)
  show wpAny (model X.prog X.w) X.A (do rule "assign.swapped-stores"; let items ← unpackItems (.ref s1.heap.objs.size) 2 none; assignInOrder [fun v => bindName X.env y v, fun v => bindName X.env x v] items.reverse; pure Flow.next) _ _ _
  refine wpAny_bind (wpAny_rule (wpAny_bind (unpackItems_tuple (items := #[u1, u2]) (I.ok.hd hc) (IsTup.new s1.heap _) fun h' hx' => ?_)))
  have I3 := I2.kept (h' := h') (t' := s1.toks) fun b o e => hx' b o (Nat.ne_of_lt (Heap.lt_size e)) e
  show wpAny _ _ (assignInOrder [fun v => bindName X.env y v, fun v => bindName X.env x v] [u2, u1] >>= fun _ => pure Flow.next) _ _ _
  refine wpAny_bind (assignInOrder_cons (wpAny_bindName (store_ok I3 hN hj (.inl hy) rw' (fun s2 I4 => ?_) (.inr hy))))
  refine assignInOrder_cons (wpAny_bindName (store_ok I4 hN hi (.inl hx) rv (fun s3 I5 => assignInOrder_nil (wpAny_pure ?_)) (.inr hx)))
  rw [List.set_comm _ _ (Ne.symm hij)] at I5
  exact ⟨_, H1, I5, q1⟩
/-- name op= e -/
def tAug (i : Nat) (te : TE) (ti : TIp) : TS := fun D σ H => ∃ x, σ[i]? = some (some x) ∧ te σ H fun y H1 => ti x y H1 fun z H2 => D.nx (σ.set i (some z)) H2
theorem ps_aug {i : Nat} {x : Str} {e : Expr} {te : TE} {op : Operator} {ti : TIp} {pos' : Pos} (hN : X.N.Nodup) (hi : X.N[i]? = some x) (hx : Loc X.env.scope x) (he : PE X e te) (ho : PIp X op ti) (hf : X.fn x = true ∨ X.env.scope.names.lookup x = some .local := by first | exact .inl rfl | exact .inr rfl | assumption) :
    PS X (.AugAssign (.Name x pos') op e pos) (tAug i te ti) := by
  intro pins s σ H D I h
  obtain ⟨v, e1, h⟩ := h
  obtain ⟨m, hn, hl⟩ := I.loc
  have vis : Vis X.env.scope x := by rcases hx with k | k; exact .inl k; exact .inr (.inl k)
  obtain ⟨u, r, l⟩ := hl i x v hi e1 vis
  refine wpAny_AugAssign_Name ?_
  have go : wpAny (model X.prog X.w) X.A (eval e X.env) (fun w s₂ => wpAny (model X.prog X.w) X.A (inplaceOp op u w) (fun r s₃ => wpAny (model X.prog X.w) X.A (storeName X.env x r) (fun _ => SP X pins D .next) X.xe s₃) X.xe s₂) X.xe s := by
    refine thn (he pins s σ H _ I h) fun w s1 ⟨y, H1, I1, r1, q1⟩ => ?_
    refine thn (ho pins s1 σ H1 v y u w _ I1 r r1 q1) fun z s2 ⟨zv, H2, I2, r2, q2⟩ => ?_
    exact store_ok I2 hN hi hx r2 (fun s3 I3 => ⟨_, H2, I3, q2⟩) hf
  rcases l with ⟨hk, hm⟩ | ⟨hk, c, hc, hcell⟩
  · exact wpAny_loadName_local I.ok.kind hk hn hm go
  · rcases hk with hk | hk
    · exact wpAny_loadName_cell I.ok.kind hk hc hcell go
    · rcases hx with k | k
      · have : X.env.scope.names.lookup x = some .free := hk
        rw [k] at this; cases this
      · have : X.env.scope.names.lookup x = some .free := hk
        rw [k] at this; cases this
/-- o[i] op= e -/
def tAugS (to ti te : TE) (tget : V → V → Hp → VK → Prop) (tip : TIp) (tset : TSet) : TS := fun D σ H => to σ H fun o H1 => ti σ H1 fun i H2 => tget o i H2 fun x H3 => te σ H3 fun y H4 => tip x y H4 fun z H5 => tset o i z H5 fun H6 => D.nx σ H6
/-- o[i], by values -/
def PGet (X : Cx) (t : V → V → Hp → VK → Prop) : Prop :=
  ∀ (pins : List (Addr × Obj)) (s : Shared) (σ : St) (H : Hp) (o i : V) (ov iv : Value) (Q : VK), Inv X pins σ H s → RelV o ov → RelV i iv → t o i H Q →
    wpAny (model X.prog X.w) X.A (getItem ov iv) (EP X pins σ Q) X.xe s
theorem ps_augS {o i e : Expr} {to ti te : TE} {tget : V → V → Hp → VK → Prop} {tip : TIp} {tset : TSet} {op : Operator} {tpos : Pos} (ho : PE X o to) (hi : PE X i ti) (hg : PGet X tget) (he : PE X e te) (hp : PIp X op tip) (hs : PSet X tset)
    (ha : ∀ ov iv new, augStore i ov iv new = (do holding [new, ov, iv] (setItem ov iv new); release [new, ov, iv] []; pure .next) := by intros; rfl) : PS X (.AugAssign (.Subscript o i tpos) op e pos) (tAugS to ti te tget tip tset) := by
  intro pins s σ H D I h
  refine wpAny_AugAssign_SubscriptAny (thn (ho pins s σ H _ I h) fun ov s1 ⟨x1, H1, I1, r1, q1⟩ => ?_) ha
  refine thn (hi pins s1 σ H1 _ I1 q1) fun iv s2 ⟨x2, H2, I2, r2, q2⟩ => ?_
  refine thn (hg pins s2 σ H2 x1 x2 ov iv _ I2 r1 r2 q2) fun old s3 ⟨x3, H3, I3, r3, q3⟩ => ?_
  refine thn (he pins s3 σ H3 _ I3 q3) fun v s4 ⟨x4, H4, I4, r4, q4⟩ => ?_
  refine thn (hp pins s4 σ H4 x3 x4 old v _ I4 r3 r4 q4) fun new s5 ⟨x5, H5, I5, r5, q5⟩ => ?_
  exact thn (hs pins s5 σ H5 x1 x2 x5 ov iv new _ I5 r1 r2 r5 q5) fun _ s6 ⟨H6, I6, q6⟩ => ⟨σ, H6, I6, q6⟩
/-- ints -/
def ipI (f : Int → Int → Int) : TIp := fun x y H Q => ∃ i j, x = .int i ∧ y = .int j ∧ Q (.int (f i j)) H
theorem ip_add : PIp X .Add (ipI fun i j => i + j) := by
  intro pins s σ H x y v u Q I r1 r2 h
  obtain ⟨i, j, e1, e2, q⟩ := h
  subst e1; subst e2
  obtain ⟨t, rfl⟩ := r1
  obtain ⟨t', rfl⟩ := r2
  exact iadd_int ⟨.int _, H, I.tok _, ⟨_, rfl⟩, q⟩
theorem ip_sub : PIp X .Sub (ipI fun i j => i - j) := by
  intro pins s σ H x y v u Q I r1 r2 h
  obtain ⟨i, j, e1, e2, q⟩ := h
  subst e1; subst e2
  obtain ⟨t, rfl⟩ := r1
  obtain ⟨t', rfl⟩ := r2
  exact isub_int ⟨.int _, H, I.tok _, ⟨_, rfl⟩, q⟩
end

/-! ### while -/
section
variable {X : Cx} {pos : Pos}
/-- the invariant W with its measure -/
def tWhile (c : TT) (tb : TS) : TS := fun D σ H => ∃ W : Nat → St → Hp → Prop, (∃ m, W m σ H) ∧ ∀ m σ H, W m σ H →
  c σ H fun b H1 => if b = true then ∃ N : St → Hp → Prop, (∀ σ' H', N σ' H' → ∃ m', m' < m ∧ W m' σ' H') ∧ tb { D with nx := N, ct := N, bk := D.nx } σ H1 else D.nx σ H1
theorem ps_while {c : Expr} {body : List Stmt} {tc : TT} {tb : TS} (hp : PassesOwn (model X.prog X.w) X.A X.env X.xe) (hc : PT X c tc) (hb : PSs X body tb) : PS X (.While c body [] pos) (tWhile tc tb) := by
  intro pins s σ H D I h
  obtain ⟨W, ⟨m0, w0⟩, turn⟩ := h
  refine wpAny_While (codeAny_whileLoop (fun n s' => ∃ σ' H', Inv X pins σ' H' s' ∧ W n σ' H') ?_ m0 ⟨σ, H, I, w0⟩)
  rintro n s1 ⟨σ1, H1, I1, w1⟩
  refine wpAny_passesOwn hp (thn (hc pins s1 σ1 H1 _ I1 (turn n σ1 H1 w1)) fun b s2 ⟨H2, I2, q2⟩ => ?_)
  cases b with
  | true =>
    obtain ⟨N, hN, q2⟩ := q2
    rw [if_pos rfl]
    refine wpAny_passesOwn hp (thn (hb pins s2 σ1 H2 _ I2 q2) fun f s3 q3 => ?_)
    cases f with
    | next =>
      obtain ⟨σ3, H3, I3, n3⟩ := q3
      obtain ⟨m', hm, w3⟩ := hN σ3 H3 n3
      exact ⟨m', hm, σ3, H3, I3, w3⟩
    | cont =>
      obtain ⟨σ3, H3, I3, n3⟩ := q3
      obtain ⟨m', hm, w3⟩ := hN σ3 H3 n3
      exact ⟨m', hm, σ3, H3, I3, w3⟩
    | brk => exact q3
    | ret v => exact q3
  | false =>
    rw [if_neg Bool.false_ne_true]
    exact wpAny_execs_nil ⟨σ1, H2, I2, q2⟩
end

/-! ### what a loop or a comprehension walks -/
/-- at turn i: it yields x (the heap may grow), or it stops -/
structure It where
  go : Nat → Hp → Prop
  yld : Nat → Hp → V → Hp → Prop
  stop : Nat → Hp → Prop
/-- the iterator's own objects may turn: they are not the frame's, not pinned, younger than the entry (or a comprehension's own) -/
def FpOk (X : Cx) (pins : List (Addr × Obj)) (H : Hp) (b : Addr) : Prop :=
  H b = none ∧ b ≠ X.env.locals ∧ b ∉ X.fs ∧ (b ∈ X.ex ∨ X.s₀.heap.objs.size ≤ b) ∧ (∀ x c, X.env.cells.lookup x = some c → c ≠ b) ∧ ∀ p ∈ X.pn ++ pins, p.1 ≠ b
theorem Inv.fpOk {X : Cx} {pins : List (Addr × Obj)} {σ : St} {H H' : Hp} {s : Shared} {b : Addr} (I : Inv X pins σ H s) (hb : s.heap.objs.size ≤ b) (hn : H' b = none) : FpOk X pins H' b := by
  refine ⟨hn, Nat.ne_of_gt (Nat.lt_of_lt_of_le I.lt hb), I.nofs hb, .inr (Nat.le_trans I.sz hb), fun x c e z => ?_, fun p hp z => ?_⟩
  · obtain ⟨v, q⟩ := I.cell x c e
    exact absurd (Nat.lt_of_lt_of_le q.lt (by rw [z]; exact hb)) (Nat.lt_irrefl _)
  · exact absurd (Nat.lt_of_lt_of_le (Heap.lt_size (I.pin p hp).1) (by rw [z]; exact hb)) (Nat.lt_irrefl _)
structure Turn (P : Program) (w : World) (K : PySem.W.Frag) (tg : Expr) (J : It) (fp : List Addr) (it : Addr) (tn : Nat → Heap → Prop) : Prop where
  mem : it ∈ fp
  obj : ∀ i h, tn i h → ∀ b ∈ fp, ∃ o, h.get? b = some o ∧ ∀ v, o.data ≠ .cell v
  keep : ∀ i h h', tn i h → (∀ b ∈ fp, ∀ o, h.get? b = some o → h'.get? b = some o) → tn i h'
  item : ∀ (X : Cx), X.prog = P → X.w = w → X.K = K → X.calm = true → ∀ (i : Nat) (pins : List (Addr × Obj)) (s : Shared) (σ : St) (H : Hp) (E : Value → Shared → Prop), Inv X pins σ H s → (∀ b ∈ fp, FpOk X pins H b) → tn i s.heap → J.go i H →
    wpAny (model P w) X.A (pyNext (.ref it)) (fun r s1 => ∃ u, r = some u ∧
      wpAny (model P w) X.A (letOwnedTupleGo tg (.ref it) u) (fun _ s2 => ∃ x H', Inv X pins σ H' s2 ∧ RelV x u ∧ J.yld i H x H' ∧ tn (i + 1) s2.heap ∧ ∀ b ∈ fp, H' b = none) E s1) E s
  done : ∀ (X : Cx), X.prog = P → X.w = w → X.K = K → X.calm = true → ∀ (i : Nat) (pins : List (Addr × Obj)) (s : Shared) (σ : St) (H : Hp) (E : Value → Shared → Prop), Inv X pins σ H s → (∀ b ∈ fp, FpOk X pins H b) → tn i s.heap → J.stop i H →
    wpAny (model P w) X.A (pyNext (.ref it)) (fun r s1 => r = none ∧ Inv X pins σ H s1) E s
  self : ∀ (A : Around) (i : Nat) (s : Shared) (Q : Value → Shared → Prop) (E : Value → Shared → Prop), tn i s.heap → Q (.ref it) s → wpAny (model P w) A (pyIter (.ref it)) Q E s
abbrev TI := St → Hp → (It → Hp → Prop) → Prop
/-- an iterator has come -/
def PIE (X : Cx) (pins : List (Addr × Obj)) (σ : St) (tg : Expr) (R : It → Hp → Prop) (itv : Value) (s2 : Shared) : Prop :=
  ∃ (it : Addr) (fp : List Addr) (tn : Nat → Heap → Prop) (J : It) (H' : Hp), itv = .ref it ∧ Inv X pins σ H' s2 ∧ Turn X.prog X.w X.K tg J fp it tn ∧ tn 0 s2.heap ∧ (∀ b ∈ fp, FpOk X pins H' b) ∧ R J H'
def PI (X : Cx) (tg iter : Expr) (wi : TI) : Prop :=
  ∀ (pins : List (Addr × Obj)) (s : Shared) (σ : St) (H : Hp) (R : It → Hp → Prop), Inv X pins σ H s → wi σ H R →
    wpAny (model X.prog X.w) X.A (eval iter X.env) (fun v s1 => wpAny (model X.prog X.w) X.A (pyIter v) (PIE X pins σ tg R) X.xe s1) X.xe s

/-- the step ahead of the store is nothing for an iterator that keeps no tuple -/
theorem go_of {M : Model} {A : Around} {E : Value → Shared → Prop} {s : Shared} {tg : Expr} {it : Addr} {u : Value} {o : Obj} {n : String} {vs : Array Value} {Q : Unit → Shared → Prop} (ho : s.heap.get? it = some o) (hc : o.cls = .type n) (hd : o.data = .fields vs)
    (hn : ["enumerate", "zip", "dict_itemiterator", "dict_reverseitemiterator", "odict_iterator", "itertools.zip_longest", "itertools.pairwise"].contains n = false) (hQ : Q () s) : wpAny M A (letOwnedTupleGo tg (.ref it) u) Q E s := by
  unfold letOwnedTupleGo
  cases tg <;> first
    | exact wpAny_pure hQ
    | (cases u <;> first
        | exact wpAny_pure hQ
        | (refine wpAny_bind (wpAny_load ho ?_)
           rw [hc, hd]
           show wpAny M A (if (["enumerate", "zip", "dict_itemiterator", "dict_reverseitemiterator", "odict_iterator", "itertools.zip_longest", "itertools.pairwise"].contains n && vs[0]? == some (rawInt _)) = true then _ else _) Q E s
           rw [if_neg (by intro h; rw [hn, Bool.false_and] at h; cases h)]
           exact wpAny_pure hQ))

/-- the list at a, as it stands at each turn (a loop may append to it) -/
def Itl (K : PySem.W.Frag) (a : Addr) : It :=
  ⟨fun i H => ∃ xs x, SqL K H a xs ∧ xs[i]? = some x, fun i H x H' => H' = H ∧ ∀ xs, SqL K H a xs → xs[i]? = some x, fun i H => ∃ xs, SqL K H a xs ∧ xs.length ≤ i⟩
def Itt (K : PySem.W.Frag) (a : Addr) : It :=
  ⟨fun i H => ∃ xs x, SqT K H a xs ∧ xs[i]? = some x, fun i H x H' => H' = H ∧ ∀ xs, SqT K H a xs → xs[i]? = some x, fun i H => ∃ xs, SqT K H a xs ∧ xs.length ≤ i⟩
/-- lo, lo + 1, .. (n of them) -/
def Itr (lo : Int) (n : Nat) : It := ⟨fun i _ => i < n, fun i H x H' => H' = H ∧ x = .int (lo + i), fun i _ => n ≤ i⟩
theorem turn_list {P : Program} {w : World} {K : PySem.W.Frag} {tg : Expr} (a it : Addr) : Turn P w K tg (Itl K a) [it] it (fun i h => h.IsListIter it a i) where
  mem := by simp
  obj := fun i h st b hb => by
    have e : b = it := by simpa using hb
    subst e
    obtain ⟨o, e, c, d⟩ := st
    exact ⟨o, e, fun v z => by rw [d] at z; cases z⟩
  keep := fun i h h' st k => st.at fun o e => k it (by simp) o e
  item := by
    intro X hP hw hK hc i pins s σ H E I hf st hg
    subst hP hw hK
    obtain ⟨xs, x, hq, hx⟩ := hg
    obtain ⟨its, rv, p, hz⟩ := I.list hq
    obtain ⟨u, hu, ru⟩ := rv.get hx
    obtain ⟨f0, f1, f2, f3, f4, f5⟩ := hf it (by simp)
    refine wpAny_pyNext_list_item st p.isList (x := u) (by simpa using hu) fun h' st' sb => ?_
    have I1 : Inv X pins σ H { s with heap := h' } := I.turned (t' := s.toks) (fun b o hb e => (sb.2 b hb).trans e) f0 f1 f3 f4 f5
    obtain ⟨o, e, c, d⟩ := id st'
    exact ⟨u, rfl, go_of (s := { s with heap := h' }) e c d (by decide) ⟨x, H, I1, ru, ⟨rfl, fun ys hy => by rw [I.list_inj hy hq]; exact hx⟩, st', fun b hb => (hf b hb).1⟩⟩
  done := by
    intro X hP hw hK hc i pins s σ H E I hf st hg
    subst hP hw hK
    obtain ⟨xs, hq, hx⟩ := hg
    obtain ⟨its, rv, p, hz⟩ := I.list hq
    obtain ⟨f0, f1, f2, f3, f4, f5⟩ := hf it (by simp)
    have hl := rv.length
    exact wpAny_pyNext_list_end (I.ok.hd hc) st p.isList (by simp; omega) fun h' eb => ⟨rfl, I.turned (t' := s.toks) (fun b o hb e => eb b o hb e) f0 f1 f3 f4 f5⟩
  self := fun _ _ _ _ _ st h => wpAny_pyIter_listiter st h
theorem turn_tuple {P : Program} {w : World} {K : PySem.W.Frag} {tg : Expr} (a it : Addr) : Turn P w K tg (Itt K a) [it] it (fun i h => h.IsTupleIter it a i) where
  mem := by simp
  obj := fun i h st b hb => by
    have e : b = it := by simpa using hb
    subst e
    obtain ⟨o, e, c, d⟩ := st
    exact ⟨o, e, fun v z => by rw [d] at z; cases z⟩
  keep := fun i h h' st k => st.at fun o e => k it (by simp) o e
  item := by
    intro X hP hw hK hc i pins s σ H E I hf st hg
    subst hP hw hK
    obtain ⟨xs, x, hq, hx⟩ := hg
    obtain ⟨its, rv, p, hz⟩ := I.tuple hq
    obtain ⟨u, hu, ru⟩ := rv.get hx
    obtain ⟨f0, f1, f2, f3, f4, f5⟩ := hf it (by simp)
    refine wpAny_pyNext_tuple_item st (show s.heap.IsTuple a its.toArray from p) (x := u) (by simpa using hu) fun h' st' sb => ?_
    have I1 : Inv X pins σ H { s with heap := h' } := I.turned (t' := s.toks) (fun b o hb e => (sb.2 b hb).trans e) f0 f1 f3 f4 f5
    obtain ⟨o, e, c, d⟩ := id st'
    exact ⟨u, rfl, go_of (s := { s with heap := h' }) e c d (by decide) ⟨x, H, I1, ru, ⟨rfl, fun ys hy => by rw [I.tuple_inj hy hq]; exact hx⟩, st', fun b hb => (hf b hb).1⟩⟩
  done := by
    intro X hP hw hK hc i pins s σ H E I hf st hg
    subst hP hw hK
    obtain ⟨xs, hq, hx⟩ := hg
    obtain ⟨its, rv, p, hz⟩ := I.tuple hq
    obtain ⟨f0, f1, f2, f3, f4, f5⟩ := hf it (by simp)
    have hl := rv.length
    exact wpAny_pyNext_tuple_end (I.ok.hd hc) st (show s.heap.IsTuple a its.toArray from p) (by simp; omega) fun h' eb => ⟨rfl, I.turned (t' := s.toks) (fun b o hb e => eb b o hb e) f0 f1 f3 f4 f5⟩
  self := fun _ _ _ _ _ st h => wpAny_pyIter_tupleiter st h
theorem turn_range {P : Program} {w : World} {K : PySem.W.Frag} {tg : Expr} (it : Addr) (lo : Int) (n : Nat) : Turn P w K tg (Itr lo n) [it] it (fun i h => IsRangeIter h it (lo + (i : Nat) * 1) ((n : Int) - (i : Nat)) 1) where
  mem := by simp
  obj := fun i h st b hb => by
    have e : b = it := by simpa using hb
    subst e
    exact ⟨_, st, fun v z => by
      have z' : Data.fields _ = Data.cell v := z
      cases z'⟩
  keep := fun i h h' st k => k it (by simp) _ st
  item := by
    intro X hP hw hK hc i pins s σ H E I hf st hg
    subst hP hw hK
    obtain ⟨f0, f1, f2, f3, f4, f5⟩ := hf it (by simp)
    have W := Walks.range (prog := X.prog) (w := X.w) (I.ok.hd hc) it lo 1 n
    refine W.item i s _ _ hg st fun v h' tk hv st' kk => ?_
    obtain ⟨t, rfl⟩ := hv
    have I1 : Inv X pins σ H { s with heap := h', toks := tk } := I.turned (fun b o hb e => kk b o (by simpa using hb) e) f0 f1 f3 f4 f5
    refine ⟨_, rfl, go_of (s := { s with heap := h', toks := tk }) (n := "range_iterator") st' rfl rfl (by decide) ⟨.int (lo + i), H, I1, ⟨t, ?_⟩, ⟨rfl, rfl⟩, st', fun b hb => (hf b hb).1⟩⟩
    rw [Int.mul_one]
  done := by
    intro X hP hw hK hc i pins s σ H E I hf st hg
    subst hP hw hK
    obtain ⟨f0, f1, f2, f3, f4, f5⟩ := hf it (by simp)
    exact wpAny_pyNext_range_end (I.ok.hd hc) st (by have : n ≤ i := hg; omega) fun h' eb => ⟨rfl, I.turned (t' := s.toks) (fun b o hb e => eb b o hb e) f0 f1 f3 f4 f5⟩
  self := fun _ _ _ _ _ st h => wpAny_pyIter_rangeiter st h
end L2

namespace L2
open PySem PySem.Spec PyProof.Rows
section
variable {X : Cx} {tg : Expr}
def iList (K : PySem.W.Frag) (tl : TE) : TI := fun σ H R => tl σ H fun x H1 => ∃ a, x = .ref a ∧ (∃ xs, SqL K H1 a xs) ∧ R (Itl K a) H1
def iTup (K : PySem.W.Frag) (tl : TE) : TI := fun σ H R => tl σ H fun x H1 => ∃ a, x = .ref a ∧ (∃ xs, SqT K H1 a xs) ∧ R (Itt K a) H1
theorem pi_list {l : Expr} {tl : TE} (hl : PE X l tl) : PI X tg l (iList X.K tl) := by
  intro pins s σ H R I h
  refine thn (hl pins s σ H _ I h) fun v s1 ⟨x, H1, I1, r1, q1⟩ => ?_
  obtain ⟨a, e, ⟨xs, hq⟩, q⟩ := q1
  subst e
  cases r1
  obtain ⟨its, rv, p, hz⟩ := I1.list hq
  refine wpAny_pyIter_list p.isList ?_
  refine ⟨s1.heap.objs.size, [s1.heap.objs.size], _, _, H1, rfl, I1.kept (t' := s1.toks) fun b o e => Heap.get?_push_of_some _ e, turn_list a _, ⟨_, Heap.get?_push_size _ rfl, rfl, rfl⟩, fun b hb => ?_, q⟩
  have e : b = s1.heap.objs.size := by simpa using hb
  subst e
  exact I1.fpOk (Nat.le_refl _) (I1.hok.fresh (Nat.le_refl _))
theorem pi_tup {l : Expr} {tl : TE} (hl : PE X l tl) : PI X tg l (iTup X.K tl) := by
  intro pins s σ H R I h
  refine thn (hl pins s σ H _ I h) fun v s1 ⟨x, H1, I1, r1, q1⟩ => ?_
  obtain ⟨a, e, ⟨xs, hq⟩, q⟩ := q1
  subst e
  cases r1
  obtain ⟨its, rv, p, hz⟩ := I1.tuple hq
  refine wpAny_pyIter_tuple (show s1.heap.IsTuple a its.toArray from p) ?_
  refine ⟨s1.heap.objs.size, [s1.heap.objs.size], _, _, H1, rfl, I1.kept (t' := s1.toks) fun b o e => Heap.get?_push_of_some _ e, turn_tuple a _, ⟨_, Heap.get?_push_size _ rfl, rfl, rfl⟩, fun b hb => ?_, q⟩
  have e : b = s1.heap.objs.size := by simpa using hb
  subst e
  exact I1.fpOk (Nat.le_refl _) (I1.hok.fresh (Nat.le_refl _))
/-- a range object just made, walked -/
theorem range_it {pins : List (Addr × Obj)} {σ : St} {H : Hp} {s : Shared} {R : It → Hp → Prop} {E : Value → Shared → Prop} {lo hi : Int} {t u v : Tok} {tk : Nat} (I : Inv X pins σ H s) (h1 : -(2 ^ 62) ≤ lo) (h2 : lo < 2 ^ 62) (h3 : -(2 ^ 62) ≤ hi) (h4 : hi < 2 ^ 62)
    (q : R (Itr lo (hi - lo).toNat) H) : wpAny (model X.prog X.w) X.A (pyIter (.ref s.heap.objs.size)) (PIE X pins σ tg R) E { s with heap := s.heap.push { cls := .type "range", data := .fields #[.int lo t, .int hi u, .int 1 v] }, toks := tk } := by
  refine wpAny_pyIter_range (IsRange.new ..) (small_one h1 h2 h3 h4) ?_
  have I1 : Inv X pins σ H { s with heap := s.heap.push { cls := .type "range", data := .fields #[.int lo t, .int hi u, .int 1 v] }, toks := tk } := I.kept fun b o e => Heap.get?_push_of_some _ e
  refine ⟨(s.heap.push { cls := .type "range", data := .fields #[.int lo t, .int hi u, .int 1 v] }).objs.size, [(s.heap.push { cls := .type "range", data := .fields #[.int lo t, .int hi u, .int 1 v] }).objs.size], _, _, H, rfl,
    I1.kept (t' := tk) fun b o e => Heap.get?_push_of_some _ e, turn_range _ lo (hi - lo).toNat, ?_, fun b hb => ?_, q⟩
  · have e1 : lo + ((0 : Nat) : Int) * 1 = lo := by simp
    have e2 : (((hi - lo).toNat : Nat) : Int) - ((0 : Nat) : Int) = Builtin.Range.rangeSize lo hi 1 := by rw [rangeSize_one]; split <;> omega
    show IsRangeIter _ _ (lo + ((0 : Nat) : Int) * 1) ((((hi - lo).toNat : Nat) : Int) - ((0 : Nat) : Int)) 1
    rw [e1, e2]
    exact Heap.get?_push_size _ rfl
  · have e : b = (s.heap.push { cls := .type "range", data := .fields #[.int lo t, .int hi u, .int 1 v] }).objs.size := by simpa using hb
    subst e
    exact I1.fpOk (Nat.le_refl _) (I1.hok.fresh (Nat.le_refl _))
def iRng1 (ta : TA) : TI := fun σ H R => ta σ H fun vs H1 => ∃ j : Int, vs = [.int j] ∧ -(2 ^ 62) ≤ j ∧ j < 2 ^ 62 ∧ R (Itr 0 j.toNat) H1
def iRng2 (ta : TA) : TI := fun σ H R => ta σ H fun vs H1 => ∃ i j : Int, vs = [.int i, .int j] ∧ (-(2 ^ 62) ≤ i ∧ i < 2 ^ 62 ∧ -(2 ^ 62) ≤ j ∧ j < 2 ^ 62) ∧ R (Itr i (j - i).toNat) H1
theorem pi_range1 {a : Expr} {ta : TA} {p pos : Pos} (hg : Gl X "range") (hm : X.mg "range" = none) (ha : PA X [a] ta) (hs : starEach [a] X.env = [(false, eval a X.env)] := by rfl) : PI X tg (.Call (.Name "range" p) [a] [] pos) (iRng1 ta) := by
  intro pins s σ H R I h
  refine Call_ (ld_blt I hg hm boot_range (PyProof.Rows.callWith_type1 (thn (ha pos pins s σ H _ I h) fun us s1 ⟨vs, H1, I1, r1, q1⟩ => ?_) hs rfl))
  obtain ⟨j, e, q1, q2, q⟩ := q1
  subst e
  cases r1 with
  | cons r rr =>
    cases rr
    obtain ⟨t, rfl⟩ := r
    exact call_range_1 (range_it I1 (by omega) (by omega) q1 q2 (by simpa using q))
theorem pi_range2 {a b : Expr} {ta : TA} {p pos : Pos} (hg : Gl X "range") (hm : X.mg "range" = none) (ha : PA X [a, b] ta) (hs : starEach [a, b] X.env = [(false, eval a X.env), (false, eval b X.env)] := by rfl) (hs2 : starEach [b] X.env = [(false, eval b X.env)] := by rfl) :
    PI X tg (.Call (.Name "range" p) [a, b] [] pos) (iRng2 ta) := by
  intro pins s σ H R I h
  refine Call_ (ld_blt I hg hm boot_range (PyProof.Rows.callWith_type1 (thn (ha pos pins s σ H _ I h) fun us s1 ⟨vs, H1, I1, r1, q1⟩ => ?_) (by rw [hs, hs2]) (by rw [hs2]; rfl)))
  obtain ⟨i, j, e, ⟨q1, q2, q3, q4⟩, q⟩ := q1
  subst e
  cases r1 with
  | cons r rr =>
    cases rr with
    | cons r' rr =>
      cases rr
      obtain ⟨t, rfl⟩ := r
      obtain ⟨t', rfl⟩ := r'
      exact call_range_2 (range_it I1 q1 q2 q3 q4 q)

/-! ### for -/
/-- W: the invariant by the turn and a measure; N: what the body is to reach -/
def tFor (wi : TI) (g : TG) (tb : TS) : TS := fun D σ H => wi σ H fun J H1 => ∃ W : Nat → Nat → St → Hp → Prop, (∃ m, W 0 m σ H1) ∧ ∀ i m σ H, W i m σ H →
  (J.stop i H ∧ D.nx σ H) ∨ (J.go i H ∧ ∃ N : St → Hp → Prop, (∀ σ' H', N σ' H' → ∃ m', m' < m ∧ W (i + 1) m' σ' H') ∧ ∀ x H', J.yld i H x H' → g x σ H' fun σ2 H2 => tb { D with nx := N, ct := N, bk := D.nx } σ2 H2)
/-- the records at fp as they stand -/
def pinsAt (fp : List Addr) (h : Heap) : List (Addr × Obj) := fp.filterMap fun b => (h.get? b).map fun o => (b, o)
theorem mem_pinsAt {fp : List Addr} {h : Heap} {b : Addr} {o : Obj} (hb : b ∈ fp) (e : h.get? b = some o) : (b, o) ∈ pinsAt fp h := List.mem_filterMap.mpr ⟨b, hb, by rw [e]; rfl⟩
theorem of_pinsAt {fp : List Addr} {h : Heap} {p : Addr × Obj} (hp : p ∈ pinsAt fp h) : p.1 ∈ fp ∧ h.get? p.1 = some p.2 := by
  obtain ⟨b, hb, e⟩ := List.mem_filterMap.mp hp
  cases q : h.get? b with
  | none => rw [q] at e; cases e
  | some o =>
    rw [q] at e
    have e' : (b, o) = p := Option.some.inj e
    subst e'
    exact ⟨hb, q⟩
theorem Inv.pinned {pins : List (Addr × Obj)} {σ : St} {H : Hp} {s : Shared} {fp : List Addr} (I : Inv X pins σ H s) (hf : ∀ b ∈ fp, FpOk X pins H b) (ho : ∀ b ∈ fp, ∃ o, s.heap.get? b = some o ∧ ∀ v, o.data ≠ .cell v) : Inv X (pins ++ pinsAt fp s.heap) σ H s :=
  I.pins_of fun p hp => (List.mem_append.mp hp).elim (fun z => I.pin p (List.mem_append_right _ z)) fun z => by
    obtain ⟨hb, e⟩ := of_pinsAt z
    obtain ⟨f0, f1, f2, _⟩ := hf p.1 hb
    obtain ⟨o, e', d⟩ := ho p.1 hb
    rw [e] at e'; cases e'
    exact ⟨e, f0, f1, f2, d⟩
theorem Inv.unpinned {pins pl : List (Addr × Obj)} {σ : St} {H : Hp} {s : Shared} (I : Inv X (pins ++ pl) σ H s) : Inv X pins σ H s := I.pins_of fun p hp => I.pin p (List.mem_append_right _ (List.mem_append_left _ hp))
theorem ps_for {iter : Expr} {body : List Stmt} {wi : TI} {g : TG} {tb : TS} {pos : Pos} (hp : PassesOwn (model X.prog X.w) X.A X.env X.xe) (hc : X.calm = true) (hi : PI X tg iter wi) (hg : PG X tg g) (hb : PSs X body tb)
    (hs : ∀ x, foldedSetIterable iter X.env x = pure x := by intro _; rfl) : PS X (.For tg iter body [] pos) (tFor wi g tb) := by
  intro pins s σ H D I h
  refine wpAny_For (thn (hi pins s σ H _ I h) fun v s1 h1 => thn h1 fun itv s2 h2 => ?_) hs
  obtain ⟨it, fp, tn, J, H2, e, I2, T, st2, f2, W, ⟨m0, w0⟩, turn⟩ := h2
  subst e
  -- what stays true of the iterator's objects through the loop
  have stat : ∀ {H' : Hp}, (∀ b ∈ fp, H' b = none) → ∀ b ∈ fp, FpOk X pins H' b := fun hn b hb => ⟨hn b hb, (f2 b hb).2⟩
  refine codeAny_forLoop_any (fun n s' => ∃ i σ' H', Inv X pins σ' H' s' ∧ tn i s'.heap ∧ (∀ b ∈ fp, H' b = none) ∧ W i n σ' H') ?_ m0 ⟨0, σ, H2, I2, st2, fun b hb => (f2 b hb).1, w0⟩
  rintro n s3 ⟨i, σ3, H3, I3, st3, fr3, w3⟩
  rcases turn i n σ3 H3 w3 with ⟨stop, qn⟩ | ⟨go, N, hN, step⟩
  · refine wpAny_passesOwn hp (thn (T.done X rfl rfl rfl hc i pins s3 σ3 H3 X.xe I3 (stat fr3) st3 stop) fun r s4 ⟨hr, I4⟩ => ?_)
    subst hr
    exact wpAny_execs_nil ⟨σ3, H3, I4, qn⟩
  · refine wpAny_passesOwn hp (thn (T.item X rfl rfl rfl hc i pins s3 σ3 H3 X.xe I3 (stat fr3) st3 go) fun r s4 ⟨u, hr, h4⟩ => ?_)
    subst hr
    refine wpAny_passesOwn hp (thn h4 fun _ s5 ⟨x, H5, I5, r5, y5, st5, fr5⟩ => ?_)
    have I5' := I5.pinned (stat fr5) (T.obj _ _ st5)
    refine wpAny_passesOwn hp (thn (hg _ s5 σ3 H5 x u _ I5' r5 (step x H5 y5)) fun _ s6 ⟨σ6, H6, I6, q6⟩ => ?_)
    refine wpAny_passesOwn hp (thn (hb _ s6 σ6 H6 _ I6 q6) fun f s7 q7 => ?_)
    have again : ∀ {σ7 : St} {H7 : Hp}, Inv X (pins ++ pinsAt fp s5.heap) σ7 H7 s7 → N σ7 H7 → ∃ m, m < n ∧ ∃ i σ' H', Inv X pins σ' H' s7 ∧ tn i s7.heap ∧ (∀ b ∈ fp, H' b = none) ∧ W i m σ' H' := fun {σ7 H7} I7 n7 => by
      obtain ⟨m', hm, w7⟩ := hN σ7 H7 n7
      refine ⟨m', hm, i + 1, σ7, H7, I7.unpinned, T.keep _ _ _ st5 fun b hb o e => (I7.pin (b, o) (List.mem_append_right _ (List.mem_append_right _ (mem_pinsAt hb e)))).1, fun b hb => ?_, w7⟩
      obtain ⟨o, e, d⟩ := T.obj _ _ st5 b hb
      exact (I7.pin (b, o) (List.mem_append_right _ (List.mem_append_right _ (mem_pinsAt hb e)))).2.1
    cases f with
    | next => obtain ⟨σ7, H7, I7, n7⟩ := q7; exact again I7 n7
    | cont => obtain ⟨σ7, H7, I7, n7⟩ := q7; exact again I7 n7
    | brk => obtain ⟨σ7, H7, I7, q7⟩ := q7; exact ⟨σ7, H7, I7.unpinned, q7⟩
    | ret v => obtain ⟨x7, σ7, H7, I7, r7, q7⟩ := q7; exact ⟨x7, σ7, H7, I7.unpinned, r7, q7⟩
end

/-! ### the forms one uses -/
/-- over a list that the body leaves as it is -/
theorem for_list {K : PySem.W.Frag} {a : Addr} {xs : List V} {g : TG} {tb : TS} {D : Ends} {σ : St} {H : Hp} (Pv : Nat → St → Hp → Prop) (h0 : Pv 0 σ H) (hl : ∀ i σ H, i ≤ xs.length → Pv i σ H → SqL K H a xs)
    (hs : ∀ i x σ H, xs[i]? = some x → Pv i σ H → g x σ H fun σ2 H2 => tb { D with nx := Pv (i + 1), ct := Pv (i + 1), bk := D.nx } σ2 H2) (hd : ∀ σ H, Pv xs.length σ H → D.nx σ H) :
    ∃ W : Nat → Nat → St → Hp → Prop, (∃ m, W 0 m σ H) ∧ ∀ i m σ H, W i m σ H →
      ((Itl K a).stop i H ∧ D.nx σ H) ∨ ((Itl K a).go i H ∧ ∃ N : St → Hp → Prop, (∀ σ' H', N σ' H' → ∃ m', m' < m ∧ W (i + 1) m' σ' H') ∧ ∀ x H', (Itl K a).yld i H x H' → g x σ H' fun σ2 H2 => tb { D with nx := N, ct := N, bk := D.nx } σ2 H2) := by
  refine ⟨fun i m σ H => m = xs.length - i ∧ i ≤ xs.length ∧ Pv i σ H, ⟨xs.length, by simp, Nat.zero_le _, h0⟩, ?_⟩
  rintro i m σ H ⟨rfl, hi, p⟩
  have q := hl i σ H hi p
  by_cases hlt : i < xs.length
  · refine .inr ⟨⟨xs, xs[i], q, by simp [hlt]⟩, Pv (i + 1), fun σ' H' p' => ⟨xs.length - (i + 1), by omega, rfl, hlt, p'⟩, fun x H' y => ?_⟩
    obtain ⟨e, y⟩ := y
    subst e
    exact hs i x σ _ (y xs q) p
  · have e : i = xs.length := by omega
    subst e
    exact .inl ⟨⟨xs, q, Nat.le_refl _⟩, hd σ H p⟩
theorem for_tup {K : PySem.W.Frag} {a : Addr} {xs : List V} {g : TG} {tb : TS} {D : Ends} {σ : St} {H : Hp} (Pv : Nat → St → Hp → Prop) (h0 : Pv 0 σ H) (hl : ∀ i σ H, i ≤ xs.length → Pv i σ H → SqT K H a xs)
    (hs : ∀ i x σ H, xs[i]? = some x → Pv i σ H → g x σ H fun σ2 H2 => tb { D with nx := Pv (i + 1), ct := Pv (i + 1), bk := D.nx } σ2 H2) (hd : ∀ σ H, Pv xs.length σ H → D.nx σ H) :
    ∃ W : Nat → Nat → St → Hp → Prop, (∃ m, W 0 m σ H) ∧ ∀ i m σ H, W i m σ H →
      ((Itt K a).stop i H ∧ D.nx σ H) ∨ ((Itt K a).go i H ∧ ∃ N : St → Hp → Prop, (∀ σ' H', N σ' H' → ∃ m', m' < m ∧ W (i + 1) m' σ' H') ∧ ∀ x H', (Itt K a).yld i H x H' → g x σ H' fun σ2 H2 => tb { D with nx := N, ct := N, bk := D.nx } σ2 H2) := by
  refine ⟨fun i m σ H => m = xs.length - i ∧ i ≤ xs.length ∧ Pv i σ H, ⟨xs.length, by simp, Nat.zero_le _, h0⟩, ?_⟩
  rintro i m σ H ⟨rfl, hi, p⟩
  have q := hl i σ H hi p
  by_cases hlt : i < xs.length
  · refine .inr ⟨⟨xs, xs[i], q, by simp [hlt]⟩, Pv (i + 1), fun σ' H' p' => ⟨xs.length - (i + 1), by omega, rfl, hlt, p'⟩, fun x H' y => ?_⟩
    obtain ⟨e, y⟩ := y
    subst e
    exact hs i x σ _ (y xs q) p
  · have e : i = xs.length := by omega
    subst e
    exact .inl ⟨⟨xs, q, Nat.le_refl _⟩, hd σ H p⟩
theorem for_range {lo : Int} {n : Nat} {g : TG} {tb : TS} {D : Ends} {σ : St} {H : Hp} (Pv : Nat → St → Hp → Prop) (h0 : Pv 0 σ H)
    (hs : ∀ i σ H, i < n → Pv i σ H → g (.int (lo + i)) σ H fun σ2 H2 => tb { D with nx := Pv (i + 1), ct := Pv (i + 1), bk := D.nx } σ2 H2) (hd : ∀ σ H, Pv n σ H → D.nx σ H) :
    ∃ W : Nat → Nat → St → Hp → Prop, (∃ m, W 0 m σ H) ∧ ∀ i m σ H, W i m σ H →
      ((Itr lo n).stop i H ∧ D.nx σ H) ∨ ((Itr lo n).go i H ∧ ∃ N : St → Hp → Prop, (∀ σ' H', N σ' H' → ∃ m', m' < m ∧ W (i + 1) m' σ' H') ∧ ∀ x H', (Itr lo n).yld i H x H' → g x σ H' fun σ2 H2 => tb { D with nx := N, ct := N, bk := D.nx } σ2 H2) := by
  refine ⟨fun i m σ H => m = n - i ∧ i ≤ n ∧ Pv i σ H, ⟨n, by simp, Nat.zero_le _, h0⟩, ?_⟩
  rintro i m σ H ⟨rfl, hi, p⟩
  by_cases hlt : i < n
  · refine .inr ⟨hlt, Pv (i + 1), fun σ' H' p' => ⟨n - (i + 1), by omega, rfl, hlt, p'⟩, fun x H' y => ?_⟩
    obtain ⟨e, y⟩ := y
    subst e y
    exact hs i σ _ hlt p
  · have e : i = n := by omega
    subst e
    exact .inl ⟨Nat.le_refl _, hd σ H p⟩
/-- while, by a word and a measure of the state -/
theorem while_by {c : TT} {tb : TS} {D : Ends} {σ : St} {H : Hp} (Pv : St → Hp → Prop) (μ : St → Hp → Nat) (h0 : Pv σ H)
    (hs : ∀ σ H, Pv σ H → c σ H fun b H1 => if b = true then tb { D with nx := fun σ' H' => Pv σ' H' ∧ μ σ' H' < μ σ H, ct := fun σ' H' => Pv σ' H' ∧ μ σ' H' < μ σ H, bk := D.nx } σ H1 else D.nx σ H1)
    (mono : ∀ σ H Q Q', (∀ b H1, Q b H1 → Q' b H1) → c σ H Q → c σ H Q') : tWhile c tb D σ H := by
  refine ⟨fun m σ H => m = μ σ H ∧ Pv σ H, ⟨_, rfl, h0⟩, ?_⟩
  rintro m σ H ⟨rfl, p⟩
  refine mono σ H _ _ (fun b H1 q => ?_) (hs σ H p)
  cases b with
  | true => exact ⟨_, fun σ' H' ⟨p', l⟩ => ⟨_, l, rfl, p'⟩, q⟩
  | false => exact q
end L2

namespace L2
open PySem PySem.Spec PyProof.Rows

abbrev R2 := V → V → Hp → VK → Prop
/-- a two-place operation on values: f is binaryOp op, inplaceOp op or compareOp op -/
def OpR (X : Cx) (f : Value → Value → Sem Value) (r : R2) : Prop :=
  ∀ (pins : List (Addr × Obj)) (s : Shared) (σ : St) (H : Hp) (x y : V) (v u : Value) (Q : VK), Inv X pins σ H s → RelV x v → RelV y u → r x y H Q →
    wpAny (model X.prog X.w) X.A (f v u) (EP X pins σ Q) X.xe s
/-- a one-place operation -/
def UnR (X : Cx) (f : Value → Sem Value) (r : V → Hp → VK → Prop) : Prop :=
  ∀ (pins : List (Addr × Obj)) (s : Shared) (σ : St) (H : Hp) (x : V) (v : Value) (Q : VK), Inv X pins σ H s → RelV x v → r x H Q →
    wpAny (model X.prog X.w) X.A (f v) (EP X pins σ Q) X.xe s
/-- a call of a value that is known (a builtin, a type) with values -/
def CallR (X : Cx) (f : Value) (r : List V → Hp → VK → Prop) : Prop :=
  ∀ (pins : List (Addr × Obj)) (s : Shared) (σ : St) (H : Hp) (xs : List V) (us : List Value) (Q : VK), Inv X pins σ H s → Vals xs us → r xs H Q →
    wpAny (model X.prog X.w) X.A (call f us) (EP X pins σ Q) X.xe s
/-- a value's truth -/
def TruR (X : Cx) (r : V → Hp → (Bool → Hp → Prop) → Prop) : Prop :=
  ∀ (pins : List (Addr × Obj)) (s : Shared) (σ : St) (H : Hp) (x : V) (v : Value) (Q : Bool → Hp → Prop), Inv X pins σ H s → RelV x v → r x H Q →
    wpAny (model X.prog X.w) X.A (truthy v) (TP X pins σ Q) X.xe s

def tOp (r : R2) (ta tb : TE) : TE := fun σ H Q => ta σ H fun x H1 => tb σ H1 fun y H2 => r x y H2 Q
def tUn (r : V → Hp → VK → Prop) (ta : TE) : TE := fun σ H Q => ta σ H fun x H1 => r x H1 Q
/-- ints in, under C, and a value out -/
def rI (C : Int → Int → Prop) (g : Int → Int → V) : R2 := fun x y H Q => ∃ i j, x = .int i ∧ y = .int j ∧ C i j ∧ Q (g i j) H
def rI0 (g : Int → Int → V) : R2 := fun x y H Q => ∃ i j, x = .int i ∧ y = .int j ∧ Q (g i j) H
def rU (g : Int → V) : V → Hp → VK → Prop := fun x H Q => ∃ i, x = .int i ∧ Q (g i) H

section
variable {X : Cx} {a b c : Expr} {ta tb tc : TE} {pos : Pos}

theorem binT (ha : PE X a ta) (hb : PE X b tb) {pins : List (Addr × Obj)} {s : Shared} {σ : St} {H : Hp} {R : V → V → Hp → Prop} (I : Inv X pins σ H s)
    (h : ta σ H fun x H1 => tb σ H1 fun y H2 => R x y H2) {Q : Value → Shared → Prop} {f : Value → Value → Sem Value}
    (hf : ∀ v u s2 x y H2, Inv X pins σ H2 s2 → RelV x v → RelV y u → R x y H2 → wpAny (model X.prog X.w) X.A (f v u) Q X.xe s2) :
    wpAny (model X.prog X.w) X.A (eval a X.env) (fun v s₁ => wpAny (model X.prog X.w) X.A (eval b X.env) (fun u s₂ => wpAny (model X.prog X.w) X.A (f v u) Q X.xe s₂) X.xe s₁) X.xe s := by
  refine thn (ha pins s σ H _ I h) fun v s1 ⟨x, H1, I1, r1, q1⟩ => ?_
  refine thn (hb pins s1 σ H1 _ I1 q1) fun u s2 ⟨y, H2, I2, r2, q2⟩ => ?_
  exact hf v u s2 x y H2 I2 r1 r2 q2

theorem pe_op {op : Operator} {r : R2} (ho : OpR X (binaryOp op) r) (ha : PE X a ta) (hb : PE X b tb) : PE X (.BinOp a op b pos) (tOp r ta tb) := by
  intro pins s σ H Q I h
  exact wpAny_BinOp (binT ha hb I h fun v u s2 x y H2 I2 rx ry q => ho pins s2 σ H2 x y v u Q I2 rx ry q)
theorem pe_un {op : UnaryOp} {r : V → Hp → VK → Prop} (ho : UnR X (unaryOp op) r) (ha : PE X a ta) : PE X (.UnaryOp op a pos) (tUn r ta) := by
  intro pins s σ H Q I h
  exact UnaryOp_ (thn (ha pins s σ H _ I h) fun v s1 ⟨x, H1, I1, r1, q1⟩ => ho pins s1 σ H1 x v Q I1 r1 q1)
/-- a op= e at a name: the name's slot i -/
theorem augR {op : Operator} {r : R2} (ho : OpR X (inplaceOp op) r) {pins : List (Addr × Obj)} {s : Shared} {σ : St} {H : Hp} {x y : V} {v u : Value} {Q : VK} (I : Inv X pins σ H s)
    (rx : RelV x v) (ry : RelV y u) (q : r x y H Q) : wpAny (model X.prog X.w) X.A (inplaceOp op v u) (EP X pins σ Q) X.xe s := ho pins s σ H x y v u Q I rx ry q

/-! ### ints -/
theorem opI {f : Value → Value → Sem Value} {C : Int → Int → Prop} {g : Int → Int → Int}
    (rule : ∀ (i j : Int) (t u : Tok) (s : Shared) (Q : Value → Shared → Prop) (E : Value → Shared → Prop), C i j → Q (.int (g i j) s.toks) { s with toks := s.toks + 1 } → wpAny (model X.prog X.w) X.A (f (.int i t) (.int j u)) Q E s) :
    OpR X f (rI C fun i j => .int (g i j)) := by
  intro pins s σ H x y v u Q I rx ry h
  obtain ⟨i, j, rfl, rfl, hc, q⟩ := h
  obtain ⟨t, rfl⟩ := rx
  obtain ⟨t', rfl⟩ := ry
  exact rule i j t t' s _ _ hc ⟨.int (g i j), H, I.tok _, ⟨_, rfl⟩, q⟩
theorem opI0 {f : Value → Value → Sem Value} {g : Int → Int → Int}
    (rule : ∀ (i j : Int) (t u : Tok) (s : Shared) (Q : Value → Shared → Prop) (E : Value → Shared → Prop), Q (.int (g i j) s.toks) { s with toks := s.toks + 1 } → wpAny (model X.prog X.w) X.A (f (.int i t) (.int j u)) Q E s) :
    OpR X f (rI0 fun i j => .int (g i j)) := by
  intro pins s σ H x y v u Q I rx ry h
  obtain ⟨i, j, rfl, rfl, q⟩ := h
  obtain ⟨t, rfl⟩ := rx
  obtain ⟨t', rfl⟩ := ry
  exact rule i j t t' s _ _ ⟨.int (g i j), H, I.tok _, ⟨_, rfl⟩, q⟩
theorem opB0 {f : Value → Value → Sem Value} {g : Int → Int → Bool}
    (rule : ∀ (i j : Int) (t u : Tok) (s : Shared) (Q : Value → Shared → Prop) (E : Value → Shared → Prop), Q (.bool (g i j)) s → wpAny (model X.prog X.w) X.A (f (.int i t) (.int j u)) Q E s) :
    OpR X f (rI0 fun i j => .bl (g i j)) := by
  intro pins s σ H x y v u Q I rx ry h
  obtain ⟨i, j, rfl, rfl, q⟩ := h
  obtain ⟨t, rfl⟩ := rx
  obtain ⟨t', rfl⟩ := ry
  exact rule i j t t' s _ _ ⟨.bl (g i j), H, I, rfl, q⟩

def CDiv (i j : Int) : Prop := 0 < j ∧ j < 1073741824
def CDivN (i j : Int) : Prop := j ≠ 0 ∧ j.natAbs < 1073741824
def CPow (i j : Int) : Prop := 0 ≤ j ∧ j ≤ 1000000 ∧ i.natAbs < 2 ^ 64
def CMul (i j : Int) : Prop := (-(2 ^ 64) < i ∧ i < 2 ^ 64) ∨ (-(2 ^ 64) < j ∧ j < 2 ^ 64)
theorem CMul.ok {i j : Int} (h : CMul i j) : IntMulOk i j := by
  rcases h with ⟨h1, h2⟩ | ⟨h1, h2⟩
  · exact .of_left (intBits_le_64 h1 h2)
  · exact .of_right (intBits_le_64 h1 h2)
theorem two_pow_nn (k : Nat) : (0 : Int) ≤ 2 ^ k := by
  rw [two_pow_cast]
  exact Int.natCast_nonneg _

theorem op_add : OpR X (binaryOp .Add) (rI0 fun i j => .int (i + j)) := opI0 fun _ _ _ _ _ _ _ q => add_int q
theorem op_sub : OpR X (binaryOp .Sub) (rI0 fun i j => .int (i - j)) := opI0 fun _ _ _ _ _ _ _ q => sub_int q
theorem op_mul : OpR X (binaryOp .Mult) (rI CMul fun i j => .int (i * j)) := opI fun _ _ _ _ _ _ _ hc q => mul_int q hc.ok
/-- // by a positive divisor -/
theorem op_fdiv : OpR X (binaryOp .FloorDiv) (rI CDiv fun i j => .int (i / j)) := opI fun i j _ _ _ _ _ hc q => by
  have h1 : (0 : Int) < j := hc.1
  have h2 : j < 1073741824 := hc.2
  exact floordiv_int (by omega) (by rw [Int.fdiv_eq_ediv_of_nonneg i (by omega)]; exact q) (.inl (PyProof.noPylong_small (by omega)))
theorem op_fdivN : OpR X (binaryOp .FloorDiv) (rI CDivN fun i j => .int (i.fdiv j)) := opI fun _ _ _ _ _ _ _ hc q => floordiv_int hc.1 q (.inl (PyProof.noPylong_small hc.2))
/-- % by a positive divisor of any size -/
theorem op_mod : OpR X (binaryOp .Mod) (rI (fun _ j => 0 < j) fun i j => .int (i % j)) := opI fun i j _ _ _ _ _ hc q => by
  have h1 : (0 : Int) < j := hc
  exact mod_int' (by omega) (by rw [Int.fmod_eq_emod_of_nonneg i (by omega)]; exact q)
theorem op_modN : OpR X (binaryOp .Mod) (rI (fun _ j => j ≠ 0) fun i j => .int (i.fmod j)) := opI fun _ _ _ _ _ _ _ hc q => mod_int' hc q
theorem op_pow : OpR X (binaryOp .Pow) (rI CPow fun i j => .int (i ^ j.toNat)) := opI fun _ _ _ _ _ _ _ hc q => pow_int_small hc.1 hc.2.1 hc.2.2 q
theorem op_shl : OpR X (binaryOp .LShift) (rI CPow fun i j => .int (i * 2 ^ j.toNat)) := opI fun _ _ _ _ _ _ _ hc q => lshift_int_small hc.1 hc.2.1 hc.2.2 q
theorem op_shr : OpR X (binaryOp .RShift) (rI (fun _ j => 0 ≤ j) fun i j => .int (i / 2 ^ j.toNat)) := opI fun i j _ _ _ _ _ hc q =>
  rshift_int hc (by rw [Int.fdiv_eq_ediv_of_nonneg i (two_pow_nn _)]; exact q)
theorem op_and : OpR X (binaryOp .BitAnd) (rI0 fun i j => .int (Builtin.bitAnd i j)) := opI0 fun _ _ _ _ _ _ _ q => and_int q
theorem op_or : OpR X (binaryOp .BitOr) (rI0 fun i j => .int (Builtin.bitOr i j)) := opI0 fun _ _ _ _ _ _ _ q => or_int q
theorem op_xor : OpR X (binaryOp .BitXor) (rI0 fun i j => .int (Builtin.bitXor i j)) := opI0 fun _ _ _ _ _ _ _ q => xor_int q

theorem iop_add : OpR X (inplaceOp .Add) (rI0 fun i j => .int (i + j)) := opI0 fun _ _ _ _ _ _ _ q => iadd_int q
theorem iop_sub : OpR X (inplaceOp .Sub) (rI0 fun i j => .int (i - j)) := opI0 fun _ _ _ _ _ _ _ q => isub_int q
theorem iop_mul : OpR X (inplaceOp .Mult) (rI CMul fun i j => .int (i * j)) := opI fun _ _ _ _ _ _ _ hc q => imul_int q hc.ok
theorem iop_fdiv : OpR X (inplaceOp .FloorDiv) (rI CDiv fun i j => .int (i / j)) := opI fun i j _ _ _ _ _ hc q => by
  have h1 : (0 : Int) < j := hc.1
  have h2 : j < 1073741824 := hc.2
  exact ifloordiv_int (by omega) (by rw [Int.fdiv_eq_ediv_of_nonneg i (by omega)]; exact q) (.inl (PyProof.noPylong_small (by omega)))
theorem iop_mod : OpR X (inplaceOp .Mod) (rI (fun _ j => 0 < j) fun i j => .int (i % j)) := opI fun i j _ _ _ _ _ hc q => by
  have h1 : (0 : Int) < j := hc
  exact imod_int (by omega) (by rw [Int.fmod_eq_emod_of_nonneg i (by omega)]; exact q)
theorem iop_shl : OpR X (inplaceOp .LShift) (rI CPow fun i j => .int (i * 2 ^ j.toNat)) := opI fun _ _ _ _ _ _ _ hc q => ilshift_int_small hc.1 hc.2.1 hc.2.2 q
theorem iop_shr : OpR X (inplaceOp .RShift) (rI (fun _ j => 0 ≤ j) fun i j => .int (i / 2 ^ j.toNat)) := opI fun i j _ _ _ _ _ hc q =>
  irshift_int hc (by rw [Int.fdiv_eq_ediv_of_nonneg i (two_pow_nn _)]; exact q)
theorem iop_and : OpR X (inplaceOp .BitAnd) (rI0 fun i j => .int (Builtin.bitAnd i j)) := opI0 fun _ _ _ _ _ _ _ q => iand_int q
theorem iop_or : OpR X (inplaceOp .BitOr) (rI0 fun i j => .int (Builtin.bitOr i j)) := opI0 fun _ _ _ _ _ _ _ q => ior_int q
theorem iop_xor : OpR X (inplaceOp .BitXor) (rI0 fun i j => .int (Builtin.bitXor i j)) := opI0 fun _ _ _ _ _ _ _ q => ixor_int q

theorem unI {f : Value → Sem Value} {g : Int → Int}
    (rule : ∀ (i : Int) (t : Tok) (s : Shared) (Q : Value → Shared → Prop) (E : Value → Shared → Prop), Q (.int (g i) s.toks) { s with toks := s.toks + 1 } → wpAny (model X.prog X.w) X.A (f (.int i t)) Q E s) :
    UnR X f (rU fun i => .int (g i)) := by
  intro pins s σ H x v Q I rx h
  obtain ⟨i, rfl, q⟩ := h
  obtain ⟨t, rfl⟩ := rx
  exact rule i t s _ _ ⟨.int (g i), H, I.tok _, ⟨_, rfl⟩, q⟩
theorem un_neg : UnR X (unaryOp .USub) (rU fun i => .int (-i)) := unI fun _ _ _ _ _ q => neg_int q
theorem un_inv : UnR X (unaryOp .Invert) (rU fun i => .int (Builtin.bitNot i)) := unI fun _ _ _ _ _ q => invert_int q

/-! ### bools among ints: n += (a < b) -/
theorem op_add_ib : OpR X (binaryOp .Add) (fun x y H Q => ∃ i k, x = .int i ∧ y = .bl k ∧ Q (.int (i + b2i k)) H) := by
  intro pins s σ H x y v u Q I rx ry h
  obtain ⟨i, k, rfl, rfl, q⟩ := h
  obtain ⟨t, rfl⟩ := rx
  cases ry
  exact add_int_bool ⟨.int (i + b2i k), H, I.tok _, ⟨_, rfl⟩, q⟩
end

/-! ### comparisons -/
/-- the scalars that == tells apart as data does -/
def scal : V → V → Bool
  | .non, .non => true | .non, .int _ => true | .int _, .non => true | .non, .bl _ => true | .bl _, .non => true | .non, .str _ => true | .str _, .non => true
  | .int _, .int _ => true | .bl _, .bl _ => true | .str _, .str _ => true | .byt _, .byt _ => true
  | .int _, .str _ => true | .str _, .int _ => true | .bl _, .str _ => true | .str _, .bl _ => true
  | _, _ => false
def rEq : R2 := fun x y H Q => scal x y = true ∧ Q (.bl (decide (x = y))) H
def rNe : R2 := fun x y H Q => scal x y = true ∧ Q (.bl (!decide (x = y))) H

theorem dec_int {i j : Int} : decide (V.int i = V.int j) = (i == j) := by
  rw [Bool.eq_iff_iff]
  simp
theorem dec_bl {i j : Bool} : decide (V.bl i = V.bl j) = (i == j) := by
  rw [Bool.eq_iff_iff]
  simp
theorem dec_str {i j : Str} : decide (V.str i = V.str j) = (i == j) := by
  rw [Bool.eq_iff_iff]
  simp
theorem dec_byt {i j : Array UInt8} : decide (V.byt i = V.byt j) = (i.toList == j.toList) := by
  rw [Bool.eq_iff_iff]
  cases i
  cases j
  simp

section
variable {X : Cx} {a b c : Expr} {ta tb tc : TE} {pos : Pos}
theorem fin_bl {pins : List (Addr × Obj)} {σ : St} {H : Hp} {s : Shared} {Q : VK} {k k' : Bool} (I : Inv X pins σ H s) (q : Q (.bl k) H) (e : k = k') : EP X pins σ Q (.bool k') s := by
  subst e
  exact ⟨.bl k, H, I, rfl, q⟩
theorem op_eq : OpR X (compareOp .Eq) rEq := by
  intro pins s σ H x y v u Q I rx ry h
  obtain ⟨hs, q⟩ := h
  cases x with
  | non =>
    cases rx
    cases y with
    | non => cases ry; exact PySem.EqNone.eq_none_none (fin_bl I q (by simp))
    | bl j => cases ry; exact PySem.EqNone.eq_none_bool (fin_bl I q (by simp))
    | int j => obtain ⟨t', rfl⟩ := ry; exact PySem.EqNone.eq_none_int (fin_bl I q (by simp))
    | str j => obtain ⟨t', rfl⟩ := ry; exact PySem.EqNone.eq_none_str (fin_bl I q (by simp))
    | _ => exact absurd (show false = true from hs) Bool.false_ne_true
  | bl i =>
    cases rx
    cases y with
    | non => cases ry; exact PySem.EqNone.eq_bool_none (fin_bl I q (by simp))
    | bl j => cases ry; exact eq_bool (fin_bl I q dec_bl)
    | str j => obtain ⟨t', rfl⟩ := ry; exact PySem.EqMixed.eq_bool_str (fin_bl I q (by simp))
    | _ => exact absurd (show false = true from hs) Bool.false_ne_true
  | int i =>
    obtain ⟨t, rfl⟩ := rx
    cases y with
    | non => cases ry; exact PySem.EqNone.eq_int_none (fin_bl I q (by simp))
    | int j => obtain ⟨t', rfl⟩ := ry; exact eq_int (fin_bl I q dec_int)
    | str j => obtain ⟨t', rfl⟩ := ry; exact PySem.EqMixed.eq_int_str (fin_bl I q (by simp))
    | _ => exact absurd (show false = true from hs) Bool.false_ne_true
  | str i =>
    obtain ⟨t, rfl⟩ := rx
    cases y with
    | non => cases ry; exact PySem.EqNone.eq_str_none (fin_bl I q (by simp))
    | bl j => cases ry; exact PySem.EqMixed.eq_str_bool (fin_bl I q (by simp))
    | int j => obtain ⟨t', rfl⟩ := ry; exact PySem.EqMixed.eq_str_int (fin_bl I q (by simp))
    | str j => obtain ⟨t', rfl⟩ := ry; exact eq_str (fin_bl I q dec_str)
    | _ => exact absurd (show false = true from hs) Bool.false_ne_true
  | byt i =>
    obtain ⟨t, rfl⟩ := rx
    cases y with
    | byt j => obtain ⟨t', rfl⟩ := ry; exact PySem.W.eq_bytes (fin_bl I q dec_byt)
    | _ => exact absurd (show false = true from hs) Bool.false_ne_true
  | _ => cases y <;> exact absurd (show false = true from hs) Bool.false_ne_true
theorem op_ne : OpR X (compareOp .NotEq) rNe := by
  intro pins s σ H x y v u Q I rx ry h
  obtain ⟨hs, q⟩ := h
  cases x with
  | non =>
    cases rx
    cases y with
    | non => cases ry; exact PySem.EqNone.ne_none_none (fin_bl I q (by simp))
    | bl j => cases ry; exact PySem.EqNone.ne_none_bool (fin_bl I q (by simp))
    | int j => obtain ⟨t', rfl⟩ := ry; exact PySem.EqNone.ne_none_int (fin_bl I q (by simp))
    | str j => obtain ⟨t', rfl⟩ := ry; exact PySem.EqNone.ne_none_str (fin_bl I q (by simp))
    | _ => exact absurd (show false = true from hs) Bool.false_ne_true
  | bl i =>
    cases rx
    cases y with
    | non => cases ry; exact PySem.EqNone.ne_bool_none (fin_bl I q (by simp))
    | bl j => cases ry; exact ne_bool (fin_bl I q (congrArg not dec_bl))
    | str j => obtain ⟨t', rfl⟩ := ry; exact PySem.EqMixed.ne_bool_str (fin_bl I q (by simp))
    | _ => exact absurd (show false = true from hs) Bool.false_ne_true
  | int i =>
    obtain ⟨t, rfl⟩ := rx
    cases y with
    | non => cases ry; exact PySem.EqNone.ne_int_none (fin_bl I q (by simp))
    | int j => obtain ⟨t', rfl⟩ := ry; exact ne_int (fin_bl I q (congrArg not dec_int))
    | str j => obtain ⟨t', rfl⟩ := ry; exact PySem.EqMixed.ne_int_str (fin_bl I q (by simp))
    | _ => exact absurd (show false = true from hs) Bool.false_ne_true
  | str i =>
    obtain ⟨t, rfl⟩ := rx
    cases y with
    | non => cases ry; exact PySem.EqNone.ne_str_none (fin_bl I q (by simp))
    | bl j => cases ry; exact PySem.EqMixed.ne_str_bool (fin_bl I q (by simp))
    | int j => obtain ⟨t', rfl⟩ := ry; exact PySem.EqMixed.ne_str_int (fin_bl I q (by simp))
    | str j => obtain ⟨t', rfl⟩ := ry; exact ne_str (fin_bl I q (congrArg not dec_str))
    | _ => exact absurd (show false = true from hs) Bool.false_ne_true
  | byt i =>
    obtain ⟨t, rfl⟩ := rx
    cases y with
    | byt j => obtain ⟨t', rfl⟩ := ry; exact PySem.W.ne_bytes (fin_bl I q (congrArg not dec_byt))
    | _ => exact absurd (show false = true from hs) Bool.false_ne_true
  | _ => cases y <;> exact absurd (show false = true from hs) Bool.false_ne_true

theorem op_lt : OpR X (compareOp .Lt) (rI0 fun i j => .bl (decide (i < j))) := opB0 fun _ _ _ _ _ _ _ q => lt_int q
theorem op_le : OpR X (compareOp .LtE) (rI0 fun i j => .bl (decide (i ≤ j))) := opB0 fun _ _ _ _ _ _ _ q => le_int q
theorem op_gt : OpR X (compareOp .Gt) (rI0 fun i j => .bl (decide (j < i))) := opB0 fun _ _ _ _ _ _ _ q => gt_int q
theorem op_ge : OpR X (compareOp .GtE) (rI0 fun i j => .bl (decide (j ≤ i))) := opB0 fun _ _ _ _ _ _ _ q => ge_int q
theorem op_lt_str : OpR X (compareOp .Lt) (fun x y H Q => ∃ i j, x = .str i ∧ y = .str j ∧ Q (.bl (decide (i.cps.toList < j.cps.toList))) H) := by
  intro pins s σ H x y v u Q I rx ry h
  obtain ⟨i, j, rfl, rfl, q⟩ := h
  obtain ⟨t, rfl⟩ := rx
  obtain ⟨t', rfl⟩ := ry
  exact lt_str (fin_bl I q rfl)
/-- the one string within the other -/
theorem op_in_str : OpR X (compareOp .In) (fun x y H Q => ∃ i j, x = .str i ∧ y = .str j ∧ Q (.bl (!(Builtin.Str.occurrences j i 0 j.length 1).isEmpty)) H) := by
  intro pins s σ H x y v u Q I rx ry h
  obtain ⟨i, j, rfl, rfl, q⟩ := h
  obtain ⟨t, rfl⟩ := rx
  obtain ⟨t', rfl⟩ := ry
  exact in_str (fin_bl I q rfl)

/-- is None, is not None: the right side a value none -/
theorem op_isN : OpR X (compareOp .Is) (fun x y H Q => y = .non ∧ Q (.bl (decide (x = .non))) H) := by
  intro pins s σ H x y v u Q I rx ry h
  obtain ⟨rfl, q⟩ := h
  cases ry
  refine is_none_gen (fin_bl I q ?_)
  cases x <;> first
    | (cases rx; rfl)
    | (obtain ⟨t, rfl⟩ := rx; rfl)
theorem op_notN : OpR X (compareOp .IsNot) (fun x y H Q => y = .non ∧ Q (.bl (!decide (x = .non))) H) := by
  intro pins s σ H x y v u Q I rx ry h
  obtain ⟨rfl, q⟩ := h
  cases ry
  refine isnot_none_gen (fin_bl I q ?_)
  cases x <;> first
    | (cases rx; rfl)
    | (obtain ⟨t, rfl⟩ := rx; rfl)

theorem op_notin_str : OpR X (compareOp .NotIn) (fun x y H Q => ∃ i j, x = .str i ∧ y = .str j ∧ Q (.bl (!(!(Builtin.Str.occurrences j i 0 j.length 1).isEmpty))) H) := by
  intro pins s σ H x y v u Q I rx ry h
  obtain ⟨i, j, rfl, rfl, q⟩ := h
  obtain ⟨t, rfl⟩ := rx
  obtain ⟨t', rfl⟩ := ry
  exact notIn_str (fin_bl I q rfl)
/-- is, is not of two objects that are tracked lists or instances -/
def isObj : HO → Bool
  | .lst _ => true
  | .ins _ _ _ => true
  | _ => false
theorem obj_there {pins : List (Addr × Obj)} {s : Shared} {σ : St} {H : Hp} {a : Addr} {o : HO} (I : Inv X pins σ H s) (h : H a = some o) (p : isObj o = true) : ∃ ob, s.heap.get? a = some ob ∧ ob.cls ≠ .type "tuple" := by
  cases o with
  | lst xs =>
    obtain ⟨_, its, n, _, e⟩ : xs.length ≤ sizeLine ∧ ∃ (its : List Value) (n : Nat), Vals xs its ∧ s.heap.get? a = some { cls := .type "list", data := .seq its.toArray n } := I.hok a _ h
    exact ⟨_, e, (by show Value.type "list" ≠ .type "tuple"; decide +kernel)⟩
  | ins C dx fs =>
    have x := I.hok a _ h
    obtain ⟨_, _, _, e, _⟩ := x
    exact ⟨_, e, (by show Value.ref C ≠ .type "tuple"; exact fun z => by cases z)⟩
  | _ => exact absurd (show false = true from p) Bool.false_ne_true
theorem op_is_ref : OpR X (compareOp .Is) (fun x y H Q => ∃ a b oa ob, x = .ref a ∧ y = .ref b ∧ H a = some oa ∧ isObj oa = true ∧ H b = some ob ∧ isObj ob = true ∧ Q (.bl (decide (a = b))) H) := by
  intro pins s σ H x y v u Q I rx ry h
  obtain ⟨a, b, oa, ob, rfl, rfl, ha, pa, hb, pb, q⟩ := h
  cases rx
  cases ry
  obtain ⟨o1, e1, n1⟩ := obj_there I ha pa
  obtain ⟨o2, e2, _⟩ := obj_there I hb pb
  by_cases z : a = b
  · subst z
    exact wpAny_is_ref_self (fin_bl I q (by simp))
  · exact wpAny_is_ref_other z e1 e2 n1 (fin_bl I q (by simp [z]))
theorem op_isnot_ref : OpR X (compareOp .IsNot) (fun x y H Q => ∃ a b oa ob, x = .ref a ∧ y = .ref b ∧ H a = some oa ∧ isObj oa = true ∧ H b = some ob ∧ isObj ob = true ∧ Q (.bl (!decide (a = b))) H) := by
  intro pins s σ H x y v u Q I rx ry h
  obtain ⟨a, b, oa, ob, rfl, rfl, ha, pa, hb, pb, q⟩ := h
  cases rx
  cases ry
  obtain ⟨o1, e1, n1⟩ := obj_there I ha pa
  obtain ⟨o2, e2, _⟩ := obj_there I hb pb
  by_cases z : a = b
  · subst z
    exact wpAny_isNot_ref_self (fin_bl I q (by simp))
  · exact wpAny_isNot_ref_other z e1 e2 n1 (fin_bl I q (by simp [z]))

/-- two rules for one operation: by cases -/
theorem OpR.or {f : Value → Value → Sem Value} {r r' : R2} (h : OpR X f r) (h' : OpR X f r') : OpR X f (fun x y H Q => r x y H Q ∨ r' x y H Q) := by
  intro pins s σ H x y v u Q I rx ry q
  rcases q with q | q
  · exact h pins s σ H x y v u Q I rx ry q
  · exact h' pins s σ H x y v u Q I rx ry q

theorem nomark (b : Expr) {op : CmpOp} (h : op ≠ .In := by decide) (h2 : op ≠ .NotIn := by decide) : behindInMarks op b = false := by
  have e1 : (op == CmpOp.In) = false := by cases op <;> first | rfl | exact absurd rfl h
  have e2 : (op == CmpOp.NotIn) = false := by cases op <;> first | rfl | exact absurd rfl h2
  cases b <;> simp [behindInMarks, e1, e2]
/-- a comparison as a value; hm: nomark b, or (for in, not in) by with_unfolding_all rfl -/
theorem pe_cmpR {op : CmpOp} {r : R2} (ho : OpR X (compareOp op) r) (ha : PE X a ta) (hb : PE X b tb) (hm : behindInMarks op b = false) : PE X (.Compare a [op] [b] pos) (tOp r ta tb) := by
  intro pins s σ H Q I h
  exact wpAny_Compare1 (binT ha hb I h fun v u s2 x y H2 I2 rx ry q => ho pins s2 σ H2 x y v u Q I2 rx ry q) hm
/-- a reading of a value as a test -/
def tTest (t : TE) : TT := fun σ H Q => t σ H fun x H' => ∃ k, x = .bl k ∧ Q k H'
theorem pt_cmpR {op : CmpOp} {r : R2} (ho : OpR X (compareOp op) r) (ha : PE X a ta) (hb : PE X b tb) (hm : behindInMarks op b = false) : PT X (.Compare a [op] [b] pos) (tTest (tOp r ta tb)) := by
  intro pins s σ H Q I h
  refine wpAny_isTrue_Compare1 (thn (ha pins s σ H _ I h) fun v s1 ⟨x, H1, I1, r1, q1⟩ => thn (hb pins s1 σ H1 _ I1 q1) fun u s2 ⟨y, H2, I2, r2, q2⟩ =>
    thn (ho pins s2 σ H2 x y v u _ I2 r1 r2 q2) fun c s3 ⟨z, H3, I3, r3, k, e, q3⟩ => ?_) hm
  subst e
  cases r3
  exact wpAny_truthy_bool ⟨H3, I3, q3⟩
/-- a op1 b op2 c -/
def tChain (r r' : R2) (ta tb tc : TE) : TE := fun σ H Q => ta σ H fun x H1 => tb σ H1 fun y H2 => r x y H2 fun z H3 => ∃ k, z = .bl k ∧
  (if k = true then tc σ H3 fun w' H4 => r' y w' H4 Q else Q (.bl false) H3)
theorem pe_chain {op op' : CmpOp} {r r' : R2} (ho : OpR X (compareOp op) r) (ho' : OpR X (compareOp op') r') (ha : PE X a ta) (hb : PE X b tb) (hc : PE X c tc)
    (hm : lastMarks [op, op'] [b, c] = false := by with_unfolding_all rfl) : PE X (.Compare a [op, op'] [b, c] pos) (tChain r r' ta tb tc) := by
  intro pins s σ H Q I h
  refine Compare_chain (thn (ha pins s σ H _ I h) fun v s1 ⟨x, H1, I1, r1, q1⟩ => chain_link (thn (hb pins s1 σ H1 _ I1 q1) fun u s2 ⟨y, H2, I2, r2, q2⟩ =>
    thn (ho pins s2 σ H2 x y v u _ I2 r1 r2 q2) fun d s3 ⟨z, H3, I3, r3, k, e, q3⟩ => ?_)) hm
  subst e
  cases r3
  refine wpAny_truthy_bool ?_
  cases k with
  | false => exact ite_ff ⟨.bl false, H3, I3, rfl, q3⟩
  | true => exact ite_tt (chain_last (thn (hc pins s3 σ H3 _ I3 q3) fun w' s4 ⟨z', H4, I4, r4, q4⟩ => ho' pins s4 σ H4 y z' u w' Q I4 r2 r4 q4))
theorem pt_chain {op op' : CmpOp} {r r' : R2} (ho : OpR X (compareOp op) r) (ho' : OpR X (compareOp op') r') (ha : PE X a ta) (hb : PE X b tb) (hc : PE X c tc)
    (hm : lastMarks [op, op'] [b, c] = false := by with_unfolding_all rfl) : PT X (.Compare a [op, op'] [b, c] pos) (tTest (tChain r r' ta tb tc)) := by
  intro pins s σ H Q I h
  refine isTrue_chain (thn (ha pins s σ H _ I h) fun v s1 ⟨x, H1, I1, r1, q1⟩ => test_link (thn (hb pins s1 σ H1 _ I1 q1) fun u s2 ⟨y, H2, I2, r2, q2⟩ =>
    thn (ho pins s2 σ H2 x y v u _ I2 r1 r2 q2) fun d s3 ⟨z, H3, I3, r3, k, e, q3⟩ => ?_)) hm
  subst e
  cases r3
  refine wpAny_truthy_bool ?_
  cases k with
  | false =>
    obtain ⟨k', e', q'⟩ := q3
    cases e'
    exact ite_ff ⟨H3, I3, q'⟩
  | true =>
    refine ite_tt (test_last (thn (hc pins s3 σ H3 _ I3 q3) fun w' s4 ⟨z', H4, I4, r4, q4⟩ => thn (ho' pins s4 σ H4 y z' u w' _ I4 r2 r4 q4) fun d' s5 ⟨z2, H5, I5, r5, k2, e2, q5⟩ => ?_))
    subst e2
    cases r5
    exact wpAny_truthy_bool ⟨H5, I5, q5⟩

/-! ### truth -/
/-- a value's truth by the abstract heap -/
def TruV (K : PySem.W.Frag) (x : V) (H : Hp) (k : Bool) : Prop :=
  match x with
  | .non => k = false
  | .bl b => k = b
  | .int i => k = (i != 0)
  | .str y => y.length ≤ sizeLine ∧ k = ((y.length : Int) != 0)
  | .byt y => y.size ≤ sizeLine ∧ k = ((y.size : Int) != 0)
  | .ref p => (∃ xs, SqL K H p xs ∧ k = !xs.isEmpty) ∨ (∃ xs, SqT K H p xs ∧ k = !xs.isEmpty) ∨ ∃ kvs, H p = some (.dK kvs) ∧ k = !kvs.isEmpty
  | _ => False
theorem isEmpty_kv {κ : Type} {kvs : List (κ × V)} {vs : List (κ × Value)} (r : KV kvs vs) : (!vs.isEmpty) = !kvs.isEmpty := by
  cases r <;> rfl
theorem isEmpty_of {xs : List V} {its : List Value} (r : Vals xs its) : (!its.toArray.isEmpty) = !xs.isEmpty := by
  cases r <;> simp
theorem line63 : (sizeLine : Nat) < 2 ^ 63 := by rw [sizeLine_eq]; decide
theorem tru_ok : TruR X (fun x H Q => ∃ k, TruV X.K x H k ∧ Q k H) := by
  intro pins s σ H x v Q I rx h
  obtain ⟨k, e, q⟩ := h
  have hl := line63
  have hs : sizeLine = 16777216 := sizeLine_eq
  cases x with
  | non =>
    cases rx
    have e' : k = false := e
    subst e'
    exact truthy_none ⟨H, I, q⟩
  | bl b =>
    cases rx
    have e' : k = b := e
    subst e'
    exact wpAny_truthy_bool ⟨H, I, q⟩
  | int i =>
    obtain ⟨t, rfl⟩ := rx
    have e' : k = (i != 0) := e
    subst e'
    exact PySem.P.truthy_int ⟨H, I, q⟩
  | str y =>
    obtain ⟨t, rfl⟩ := rx
    obtain ⟨hy, e'⟩ : y.length ≤ sizeLine ∧ k = ((y.length : Int) != 0) := e
    subst e'
    exact PySem.P.truthy_str (by omega) ⟨H, I.tok _, q⟩
  | byt y =>
    obtain ⟨t, rfl⟩ := rx
    obtain ⟨hy, e'⟩ : y.size ≤ sizeLine ∧ k = ((y.size : Int) != 0) := e
    subst e'
    exact PySem.W.truthy_bytes (by omega) ⟨H, I.tok _, q⟩
  | ref p =>
    cases rx
    have e' : (∃ xs, SqL X.K H p xs ∧ k = !xs.isEmpty) ∨ (∃ xs, SqT X.K H p xs ∧ k = !xs.isEmpty) ∨ ∃ kvs, H p = some (.dK kvs) ∧ k = !kvs.isEmpty := e
    rcases e' with ⟨xs, hx, e'⟩ | ⟨xs, hx, e'⟩ | ⟨kvs, hx, e'⟩
    · subst e'
      obtain ⟨its, r, pl, hz⟩ := I.list hx
      have hlen := r.length
      exact wpAny_truthy_list pl.isList (by simp only [List.size_toArray]; omega) ⟨H, I.tok _, by rw [isEmpty_of r]; exact q⟩
    · subst e'
      obtain ⟨its, r, pl, hz⟩ := I.tuple hx
      have hlen := r.length
      exact truthy_tuple pl (by simp only [List.size_toArray]; omega) ⟨H, I.tok _, by rw [isEmpty_of r]; exact q⟩
    · subst e'
      obtain ⟨hz, hS, vs, r, m⟩ : kvs.length ≤ sizeLine ∧ (p == sysModules) = false ∧ ∃ vs, KV kvs vs ∧ s.heap.DictOf (mixKind X.prog X.w) p vs := I.hok p _ hx
      have hlen : kvs.length = vs.length := Paired.length r
      exact wpAny_truthy_dict hS m (by omega) ⟨H, I.tok _, by rw [isEmpty_kv r]; exact q⟩
  | _ => exact (show False from e).elim
/-- any expression whose test is its value's truth (a name, a call, a subscript, a field ..: he by fun _ => rfl) -/
theorem pt_truth (ha : PE X a ta) (he : ∀ whole, isTrue a X.env whole = (do let v ← whole; standAt a.pos; holding [v] (truthy v))) :
    PT X a (fun σ H Q => ta σ H fun x H' => ∃ k, TruV X.K x H' k ∧ Q k H') := by
  intro pins s σ H Q I h
  exact isTrue_plain (thn (ha pins s σ H _ I h) fun v s1 ⟨x, H1, I1, r1, q1⟩ => tru_ok pins s1 σ H1 x v Q I1 r1 q1) (he _)

/-! ### strs and bytes -/
theorem pe_byt {x : List UInt8} {k : Nat} : PE X (.Constant (.bytes x) k pos) (fun _ H Q => Q (.byt x.toArray) H) := fun _ _ _ H _ I h => PySem.W.Constant_bytes ⟨.byt x.toArray, H, I.tok _, ⟨_, rfl⟩, h⟩
theorem op_add_str : OpR X (binaryOp .Add) (fun x y H Q => ∃ i j, x = .str i ∧ y = .str j ∧ i.length + j.length ≤ sizeLine ∧ Q (.str (i ++ j)) H) := by
  intro pins s σ H x y v u Q I rx ry h
  obtain ⟨i, j, rfl, rfl, hz, q⟩ := h
  obtain ⟨t, rfl⟩ := rx
  obtain ⟨t', rfl⟩ := ry
  exact add_str (fun t' tk => ⟨.str (i ++ j), H, I.tok _, ⟨_, rfl⟩, q⟩) hz
theorem iop_add_str : OpR X (inplaceOp .Add) (fun x y H Q => ∃ i j, x = .str i ∧ y = .str j ∧ i.length + j.length ≤ sizeLine ∧ Q (.str (i ++ j)) H) := by
  intro pins s σ H x y v u Q I rx ry h
  obtain ⟨i, j, rfl, rfl, hz, q⟩ := h
  obtain ⟨t, rfl⟩ := rx
  obtain ⟨t', rfl⟩ := ry
  exact iadd_str (fun t' tk => ⟨.str (i ++ j), H, I.tok _, ⟨_, rfl⟩, q⟩) hz
theorem op_add_byt : OpR X (binaryOp .Add) (fun x y H Q => ∃ i j, x = .byt i ∧ y = .byt j ∧ i.size + j.size ≤ 16777216 ∧ Q (.byt (i ++ j)) H) := by
  intro pins s σ H x y v u Q I rx ry h
  obtain ⟨i, j, rfl, rfl, hz, q⟩ := h
  obtain ⟨t, rfl⟩ := rx
  obtain ⟨t', rfl⟩ := ry
  exact PySem.W.KBy.add_bytes hz (fun t' tk => ⟨.byt (i ++ j), H, I.tok _, ⟨_, rfl⟩, q⟩)

def PlainIxT (b : Expr) : Prop := ∀ o i, subscripted b false o i = operate [o, i] (getItem o i)
/-- s[i], 0 ≤ i < len -/
theorem pe_item_str (ha : PE X a ta) (hb : PE X b tb) (hs : PlainIxT b) :
    PE X (.Subscript a b pos) (tOp (fun x y H Q => ∃ z i c, x = .str z ∧ y = .int i ∧ 0 ≤ i ∧ i < 2 ^ 63 ∧ i < z.length ∧ z.cps[i.toNat]? = some c ∧ Q (.str ⟨#[c]⟩) H) ta tb) := by
  intro pins s σ H Q I h
  refine Subscript_ (binT ha hb I h fun v u s2 x y H2 I2 rx ry q => ?_)
  obtain ⟨z, i, c, rfl, rfl, h0, h63, h1, hc, q⟩ := q
  obtain ⟨t, rfl⟩ := rx
  obtain ⟨t', rfl⟩ := ry
  have e : seqIndex? i z.length = some i.toNat := PySem.StrLaws.seqIndex_nonneg h0 h1
  exact tail_any (typeIs_str s2 z t) slot_str_getitem.lookup (getItem_str (c := c) (by
    have e1 : decide (i < -(2 ^ 63 : Int)) = false := decide_eq_false (by omega)
    have e2 : decide (i ≥ 2 ^ 63) = false := decide_eq_false (by omega)
    rw [e1, e2] <;> rfl) (by rw [e]; exact hc) ⟨.str ⟨#[c]⟩, H2, I2.tok _, ⟨_, rfl⟩, q⟩) (hs _ _)
/-- b[i], 0 ≤ i < len -/
theorem pe_item_byt (ha : PE X a ta) (hb : PE X b tb) (hs : PlainIxT b) :
    PE X (.Subscript a b pos) (tOp (fun x y H Q => ∃ (z : List UInt8) (i : Int), x = .byt z.toArray ∧ y = .int i ∧ z.length ≤ sizeLine ∧ 0 ≤ i ∧ i < z.length ∧ Q (.int ((z.getD i.toNat 0).toNat : Nat)) H) ta tb) := by
  intro pins s σ H Q I h
  refine Subscript_ (binT ha hb I h fun v u s2 x y H2 I2 rx ry q => ?_)
  obtain ⟨z, i, rfl, rfl, hz, h0, h1, q⟩ := q
  obtain ⟨t, rfl⟩ := rx
  obtain ⟨t', rfl⟩ := ry
  have hl : sizeLine = 16777216 := sizeLine_eq
  exact tail_any (PySem.W.typeIs_bytes s2 z.toArray t) PySem.W.FB.slot_bytes_getitem.lookup (PySem.W.getItem_bytes (by omega) h0 h1 ⟨.int ((z.getD i.toNat 0).toNat : Nat), H2, I2.tok _, ⟨_, rfl⟩, q⟩) (hs _ _)

/-! ### scalar builtins, by CallR -/
theorem vals1 {x : V} {us : List Value} (r : Vals [x] us) : ∃ u, us = [u] ∧ RelV x u := by
  cases r with
  | cons r1 r2 => cases r2; exact ⟨_, rfl, r1⟩
theorem vals2 {x y : V} {us : List Value} (r : Vals [x, y] us) : ∃ u w', us = [u, w'] ∧ RelV x u ∧ RelV y w' := by
  cases r with
  | cons r1 r2 =>
    cases r2 with
    | cons r3 r4 => cases r4; exact ⟨_, _, rfl, r1, r3⟩
theorem call_abs : CallR X (.builtin "abs") (fun xs H Q => ∃ i, xs = [.int i] ∧ Q (.int (if i < 0 then -i else i)) H) := by
  intro pins s σ H xs us Q I r h
  obtain ⟨i, rfl, q⟩ := h
  obtain ⟨u, rfl, t, rfl⟩ := vals1 r
  exact call_abs_int fun u tk => ⟨.int (if i < 0 then -i else i), H, I.tok _, ⟨_, rfl⟩, q⟩
theorem call_max2 (hc : X.calm = true) : CallR X (.builtin "max") (fun xs H Q => ∃ i j, xs = [.int i, .int j] ∧ Q (.int (if j > i then j else i)) H) := by
  intro pins s σ H xs us Q I r h
  obtain ⟨i, j, rfl, q⟩ := h
  obtain ⟨u, w', rfl, ⟨t, rfl⟩, ⟨t', rfl⟩⟩ := vals2 r
  refine max_two_ints (I.ok.hd hc) fun h' tk k => ⟨_, H, I.kept k, ?_, q⟩
  by_cases hj : j > i
  · rw [if_pos hj, if_pos hj]; exact ⟨_, rfl⟩
  · rw [if_neg hj, if_neg hj]; exact ⟨_, rfl⟩
theorem call_min2 (hc : X.calm = true) : CallR X (.builtin "min") (fun xs H Q => ∃ i j, xs = [.int i, .int j] ∧ Q (.int (if j < i then j else i)) H) := by
  intro pins s σ H xs us Q I r h
  obtain ⟨i, j, rfl, q⟩ := h
  obtain ⟨u, w', rfl, ⟨t, rfl⟩, ⟨t', rfl⟩⟩ := vals2 r
  refine min_two_ints (I.ok.hd hc) fun h' tk k => ⟨_, H, I.kept k, ?_, q⟩
  by_cases hj : j < i
  · rw [if_pos hj, if_pos hj]; exact ⟨_, rfl⟩
  · rw [if_neg hj, if_neg hj]; exact ⟨_, rfl⟩
theorem call_int1 : CallR X (.type "int") (fun xs H Q => (∃ i, xs = [.int i] ∧ Q (.int i) H) ∨ ∃ k, xs = [.bl k] ∧ Q (.int (if k then 1 else 0)) H) := by
  intro pins s σ H xs us Q I r h
  rcases h with ⟨i, rfl, q⟩ | ⟨k, rfl, q⟩
  · obtain ⟨u, rfl, t, rfl⟩ := vals1 r
    exact call_int_int ⟨.int i, H, I, ⟨_, rfl⟩, q⟩
  · obtain ⟨u, rfl, r1⟩ := vals1 r
    cases r1
    exact call_int_bool ⟨.int (if k then 1 else 0), H, I.tok _, ⟨_, rfl⟩, q⟩
theorem call_bool1 : CallR X (.type "bool") (fun xs H Q => (∃ i, xs = [.int i] ∧ Q (.bl (i != 0)) H) ∨ ∃ k, xs = [.bl k] ∧ Q (.bl k) H) := by
  intro pins s σ H xs us Q I r h
  rcases h with ⟨i, rfl, q⟩ | ⟨k, rfl, q⟩
  · obtain ⟨u, rfl, t, rfl⟩ := vals1 r
    exact call_bool_int ⟨.bl (i != 0), H, I, rfl, q⟩
  · obtain ⟨u, rfl, r1⟩ := vals1 r
    cases r1
    exact call_bool_bool ⟨.bl k, H, I, rfl, q⟩
theorem call_str_int : CallR X (.type "str") (fun xs H Q => ∃ i, xs = [.int i] ∧ i.natAbs.log2 < 1920 ∧ Q (.str (toString i)) H) := by
  intro pins s σ H xs us Q I r h
  obtain ⟨i, rfl, hz, q⟩ := h
  obtain ⟨u, rfl, t, rfl⟩ := vals1 r
  exact PySem.P.str_of_int hz ⟨.str _, H, I.tok _, ⟨_, rfl⟩, q⟩
theorem call_ord : CallR X (.builtin "ord") (fun xs H Q => ∃ x, xs = [.str x] ∧ x.length = 1 ∧ Q (.int (x.cps.getD 0 0 : Nat)) H) := by
  intro pins s σ H xs us Q I r h
  obtain ⟨x, rfl, hz, q⟩ := h
  obtain ⟨u, rfl, t, rfl⟩ := vals1 r
  exact ord_of_one hz ⟨.int _, H, I.tok _, ⟨_, rfl⟩, q⟩
theorem call_chr : CallR X (.builtin "chr") (fun xs H Q => ∃ i, xs = [.int i] ∧ 0 ≤ i ∧ i ≤ 1114111 ∧ Q (.str ⟨#[i.toNat]⟩) H) := by
  intro pins s σ H xs us Q I r h
  obtain ⟨i, rfl, h0, h1, q⟩ := h
  obtain ⟨u, rfl, t, rfl⟩ := vals1 r
  exact chr_of_range h0 h1 ⟨.str _, H, I.tok _, ⟨_, rfl⟩, q⟩
/-- len of a str, a bytes, a list, a tuple -/
def LenV (K : PySem.W.Frag) (x : V) (H : Hp) (n : Nat) : Prop :=
  match x with
  | .str y => y.length ≤ sizeLine ∧ n = y.length
  | .byt y => y.size ≤ sizeLine ∧ n = y.size
  | .ref p => (∃ xs, SqL K H p xs ∧ n = xs.length) ∨ ∃ xs, SqT K H p xs ∧ n = xs.length
  | _ => False
theorem call_len : CallR X (.builtin "len") (fun xs H Q => ∃ x n, xs = [x] ∧ LenV X.K x H n ∧ Q (.int n) H) := by
  intro pins s σ H xs us Q I r h
  obtain ⟨x, n, rfl, e, q⟩ := h
  obtain ⟨u, rfl, rx⟩ := vals1 r
  have hl := line63
  have hs : sizeLine = 16777216 := sizeLine_eq
  cases x with
  | str y =>
    obtain ⟨t, rfl⟩ := rx
    obtain ⟨hy, e'⟩ : y.length ≤ sizeLine ∧ n = y.length := e
    subst e'
    exact len_str (by omega) ⟨.int _, H, I.tok _, ⟨_, rfl⟩, q⟩
  | byt y =>
    obtain ⟨t, rfl⟩ := rx
    obtain ⟨hy, e'⟩ : y.size ≤ sizeLine ∧ n = y.size := e
    subst e'
    exact PySem.W.len_bytes (by omega) ⟨.int _, H, I.tok _, ⟨_, rfl⟩, q⟩
  | ref p =>
    cases rx
    have e' : (∃ xs, SqL X.K H p xs ∧ n = xs.length) ∨ ∃ xs, SqT X.K H p xs ∧ n = xs.length := e
    rcases e' with ⟨xs, hx, e'⟩ | ⟨xs, hx, e'⟩
    · subst e'
      obtain ⟨its, r', pl, hz⟩ := I.list hx
      have hlen := r'.length
      exact Calls.call_len_list pl.isList (by simp only [List.size_toArray]; omega) ⟨.int xs.length, H, I.tok _, ⟨_, by simp only [List.size_toArray]; rw [hlen]⟩, q⟩
    · subst e'
      obtain ⟨its, r', pl, hz⟩ := I.tuple hx
      have hlen := r'.length
      exact len_tuple pl (by simp only [List.size_toArray]; omega) ⟨.int xs.length, H, I.tok _, ⟨_, by simp only [List.size_toArray]; rw [hlen]⟩, q⟩
  | _ => exact (show False from e).elim
/-- divmod: a new tuple -/
theorem call_divmod : CallR X (.builtin "divmod") (fun xs H Q => ∃ i j, xs = [.int i, .int j] ∧ CDiv i j ∧ ∀ p, H p = none → Q (.ref p) (upd H p (.tup [.int (i / j), .int (i % j)]))) := by
  intro pins s σ H xs us Q I r h
  obtain ⟨i, j, rfl, ⟨h1, h2⟩, q⟩ := h
  obtain ⟨u, w', rfl, ⟨t, rfl⟩, ⟨t', rfl⟩⟩ := vals2 r
  refine divmod_int (by omega) ?_ (.inl (PyProof.noPylong_small (by omega)))
  rw [Int.fdiv_eq_ediv_of_nonneg i (by omega), Int.fmod_eq_emod_of_nonneg i (by omega)]
  have hn : H s.heap.objs.size = none := I.hok.fresh (Nat.le_refl _)
  refine ⟨.ref s.heap.objs.size, _, ?_, rfl, q _ hn⟩
  refine I.laid (fun b o e => Heap.get?_push_of_some _ e) (Nat.le_refl _) ⟨by simp only [List.length_cons, List.length_nil]; rw [sizeLine_eq]; decide, [.int (i / j) s.toks, .int (i % j) (s.toks + 1)], .cons ⟨_, rfl⟩ (.cons ⟨_, rfl⟩ .nil), ?_⟩
  exact ⟨_, Heap.get?_push_size s.heap rfl, ⟨rfl, 0, rfl⟩, rfl⟩
end
end L2

namespace L2
open PySem PySem.Spec PyProof.Rows

/-! ### an instance, its attributes a map -/
structure ObjM (h : Heap) (x dx C : Addr) (mA : Str → Option Value) : Prop where
  obj : h.get? x = some (PySem.W.instObj C dx)
  ns : h.Ns1 dx mA
  ne : dx ≠ x

theorem lookIn_ns {h : Heap} {dx : Addr} {mA : Str → Option Value} (n : h.Ns1 dx mA) : ∃ od, h.get? dx = some od ∧ ∀ name, PySem.W.lookIn name od = some (mA name) := by
  obtain ⟨o, es, ep, ho, hd, hk, _, hm⟩ := n
  refine ⟨o, ho, fun name => ?_⟩
  have e := hm name
  unfold nsFind findBy at e
  rw [← Array.find?_toList] at e
  unfold PySem.W.lookIn
  rw [hd]
  dsimp only
  split
  · rename_i y q
    rw [q] at e
    exact congrArg some e
  · rename_i q
    rw [q] at e
    have a : es.toList.any (·.refKey) = false := by
      rw [List.any_eq_false]
      intro y hy
      obtain ⟨z, t, hkey⟩ := hk y (Array.mem_toList_iff.mp hy)
      simp [DictEntry.refKey, hkey]
    have a' : ¬ es.toList.any (·.refKey) = true := by rw [a]; exact Bool.false_ne_true
    rw [if_neg a']
    exact congrArg some e

theorem ObjM.look {h : Heap} {x dx C : Addr} {mA : Str → Option Value} (I : ObjM h x dx C mA) : ∃ od, PySem.W.InstAt h x (PySem.W.instObj C dx) C (some od) ∧ ∀ name, PySem.W.lookIn name od = some (mA name) :=
  let ⟨od, ho, hl⟩ := lookIn_ns I.ns
  ⟨od, ⟨I.obj, rfl, rfl, ho⟩, hl⟩

section
variable {prog : Program} {w : World} {A : Around} {E : Value → Shared → Prop} {s : Shared} {K : PySem.W.Frag} {x dx C f : Addr} {mA : Str → Option Value} {name : Str} {v : Value}

theorem get_map {expr : Bool} {Q : Value → Shared → Prop} (X : K.In s.heap) (I : ObjM s.heap x dx C mA) (hg : PySem.W.plainGet K C name = true) (hh : PySem.W.hasDictIn K C = true)
    (ha : PySem.W.findIn K (.ref C) name = some none) (hv : mA name = some v) (hv' : PySem.W.handedIn v = true) (h : Q v { s with toks := s.toks + 1 }) :
    wpAny (model prog w) A (getAttr (.ref x) name expr) Q E s := by
  obtain ⟨od, J, hl⟩ := I.look
  exact PySem.W.get_value X J (PySem.W.plainGet_of hg).1 (PySem.W.findObj_own hh ha rfl (by rw [hl, hv])) hv' h

theorem get_const {expr : Bool} {a : Value} {Q : Value → Shared → Prop} (X : K.In s.heap) (I : ObjM s.heap x dx C mA) (hg : PySem.W.plainGet K C name = true) (hh : PySem.W.hasDictIn K C = true)
    (ha : PySem.W.findIn K (.ref C) name = some (some a)) (hn : PySem.W.specialIn K a "__get__" = some none) (hc : PySem.W.copiedNames.contains name = false) (hv : mA name = none) (hv' : PySem.W.handedIn a = true)
    (h : Q a { s with toks := s.toks + 1 }) : wpAny (model prog w) A (getAttr (.ref x) name expr) Q E s := by
  obtain ⟨od, J, hl⟩ := I.look
  exact PySem.W.get_value X J (PySem.W.plainGet_of hg).1 (PySem.W.findObj_cls hh ha hn hv' hc (by rw [hl, hv])) hv' h

theorem get_meth {pl : Sem Bool} {Q : Value × List Value → Shared → Prop} (X : K.In s.heap) (I : ObjM s.heap x dx C mA) (hg : PySem.W.plainGet K C name = true)
    (hf : PySem.W.findIn K (.ref C) name = some (some (.ref f))) (ht : PySem.W.isFn K (.ref f) = true) (hv : mA name = none) (h : Q (.ref f, [.ref x]) s) :
    wpAny (model prog w) A (getMethod (.ref x) name pl) Q E s := by
  obtain ⟨od, J, hl⟩ := I.look
  exact PySem.W.method_fn X J (PySem.W.plainGet_of hg).1 (PySem.W.plainGet_of hg).2 hf (beq_iff_eq.mp ht) (by show (PySem.W.lookIn name od).map (·.isSome) = some false; rw [hl, hv]; rfl) h

theorem set_map {ns : List Str} {Q : Unit → Shared → Prop} (X : K.In s.heap) (I : ObjM s.heap x dx C mA)
    (hs : PySem.W.findIn K (.ref C) "__setattr__" = some (some (.builtin "object.__setattr__"))) (hp : PySem.W.plainOver K C = true) (ht : PySem.W.takerIn K C name = some none) (hh : PySem.W.hasDictIn K C = true)
    (hw : PySem.Within mA ns) (hsz : ns.length ≤ sizeLine)
    (h : ∀ h', ObjM h' x dx C (fun y => if y = name then some v else mA y) → Heap.SameBut dx s.heap h' → Q () { s with heap := h', toks := s.toks + 2 }) :
    wpAny (model prog w) A (setAttr (.ref x) name v) Q E s := by
  obtain ⟨od, J, hl⟩ := I.look
  refine PySem.W.set_plain X J hs (PySem.W.osa_open (s := { s with toks := s.toks + 1 }) (r := none) X J hp ht fun b => ?_)
  obtain ⟨cd, hc, hd'⟩ := PySem.W.any_some hh
  have hx : s.heap.get? x = some ⟨.ref C, some dx, .plain, #[]⟩ := I.obj
  refine wpAny_bind (wpAny_pure (wpAny_bind (wpAny_bind (wpAny_loadPart hx (wpAny_bind (PySem.W.Looks.here (s := { s with toks := s.toks + 1 }) (PySem.W.looks_clsIn X hc) ?_))))))
  rw [hd']
  refine wpAny_pure (a := some dx) (wpAny_bind (wpAny_pure (wpAny_bind ?_)))
  refine wpAny_nsSet1 (s := { s with toks := s.toks + 1 }) I.ns fun h' hn2 hs2 => ?_
  obtain ⟨oD, esD, epD, hoD, hdD, hcD⟩ := hn2.count (PySem.Within.cons name v hw)
  refine wpAny_bind (wpAny_lookBehind hoD (by rw [hdD]; exact pastItsLine_dict (Nat.le_trans hcD (by rw [List.length_cons]; omega))) ?_)
  exact wpAny_pure (h _ ⟨(hs2.2 _ (Ne.symm I.ne)).trans I.obj, hn2, I.ne⟩ hs2)

/-- C(..): the dict at the heap's end, the instance behind it; then its __init__ -/
theorem make_map {R : Result → Shared → Prop} {vs : List Value} {kw : List (Str × Value)} (X : K.In s.heap) (hm : PySem.W.makesIn K C = true)
    (hi : PySem.W.findIn K (.ref C) "__init__" = some (some (.ref f))) (hf : PySem.W.typeIn K (.ref f) = some (.type "function"))
    (h : codeAny (model prog w) (A.under (.builtin "type.__call__" ⟨.ref C :: vs, kw⟩)) (.call (.ref f) ⟨.ref (s.heap.objs.size + 1) :: vs, kw⟩) (PySem.W.InitBack (s.heap.objs.size + 1) R)
      { s with heap := (s.heap.push PySem.W.emptyDict).push (PySem.W.instObj C s.heap.objs.size) }) :
    codeAny (model prog w) A (.call (.ref C) ⟨vs, kw⟩) R s := by
  obtain ⟨hh, g, d, t, os⟩ := s
  exact PySem.W.make_core (PySem.W.makes_of X hm) (PySem.W.looks_findIn X hi) (fun self => PySem.W.bind_fn X self hf) (.inl rfl) h
/-- C() where there is no __init__ but object's -/
theorem make_map0 {R : Result → Shared → Prop} (X : K.In s.heap) (hm : PySem.W.makesIn K C = true)
    (hi : PySem.W.findIn K (.ref C) "__init__" = some (some (.builtin "object.__init__")))
    (hb : ∀ self, PySem.W.Looks (model prog w) s.heap (bindSpecial (.builtin "object.__init__") self) (.builtin "object.__init__", [self]))
    (h : codeAny (model prog w) (A.under (.builtin "type.__call__" ⟨[.ref C], []⟩)) (.call (.builtin "object.__init__") ⟨[.ref (s.heap.objs.size + 1)], []⟩) (PySem.W.InitBack (s.heap.objs.size + 1) R)
      { s with heap := (s.heap.push PySem.W.emptyDict).push (PySem.W.instObj C s.heap.objs.size) }) :
    codeAny (model prog w) A (.call (.ref C) ⟨[], []⟩) R s := by
  obtain ⟨hh, g, d, t, os⟩ := s
  exact PySem.W.make_core (PySem.W.makes_of X hm) (PySem.W.looks_findIn X hi) hb (.inr ⟨rfl, rfl⟩) h
end

/-! ### the attributes as a list of pairs -/
def putF (f : Str) (v : V) : List (Str × V) → List (Str × V)
  | [] => [(f, v)]
  | (g, x) :: r => if g = f then (g, v) :: r else (g, x) :: putF f v r
theorem lookup_putF (f g : Str) (v : V) : ∀ fs : List (Str × V), (putF f v fs).lookup g = if g = f then some v else fs.lookup g
  | [] => by
    show List.lookup g [(f, v)] = _
    by_cases h : g = f
    · have hb : (g == f) = true := beq_iff_eq.mpr h
      simp only [List.lookup, hb, if_pos h]
    · have hb : (g == f) = false := beq_eq_false_iff_ne.mpr h
      simp only [List.lookup, hb, if_neg h]
  | (k, x) :: r => by
    have ih := lookup_putF f g v r
    rw [show putF f v ((k, x) :: r) = (if k = f then (k, v) :: r else (k, x) :: putF f v r) from rfl]
    by_cases hk : k = f
    · rw [if_pos hk]
      by_cases h : g = k
      · have hb : (g == k) = true := beq_iff_eq.mpr h
        simp only [List.lookup, hb, if_pos (h.trans hk)]
      · have hb : (g == k) = false := beq_eq_false_iff_ne.mpr h
        simp only [List.lookup, hb, if_neg (fun e : g = f => h (e.trans hk.symm))]
    · rw [if_neg hk]
      by_cases h : g = k
      · have hb : (g == k) = true := beq_iff_eq.mpr h
        simp only [List.lookup, hb, if_neg (fun e : g = f => hk (h.symm.trans e))]
      · have hb : (g == k) = false := beq_eq_false_iff_ne.mpr h
        simp only [List.lookup, hb]
        exact ih
theorem keys_putF (f : Str) (v : V) : ∀ fs : List (Str × V), f ∈ (putF f v fs).map (·.1) ∧ ∀ g, g ∈ fs.map (·.1) → g ∈ (putF f v fs).map (·.1)
  | [] => ⟨by simp [putF], fun g h => by simp at h⟩
  | (k, x) :: r => by
    obtain ⟨i1, i2⟩ := keys_putF f v r
    rw [show putF f v ((k, x) :: r) = (if k = f then (k, v) :: r else (k, x) :: putF f v r) from rfl]
    by_cases hk : k = f
    · rw [if_pos hk]
      subst hk
      exact ⟨by simp, fun g h => by simpa using h⟩
    · rw [if_neg hk]
      refine ⟨?_, fun g h => ?_⟩
      · rw [List.map_cons]
        exact List.mem_cons_of_mem _ i1
      · rw [List.map_cons] at h ⊢
        rcases List.mem_cons.mp h with e | e
        · exact List.mem_cons.mpr (.inl e)
        · exact List.mem_cons_of_mem _ (i2 g e)
theorem length_putF (f : Str) (v : V) : ∀ fs : List (Str × V), (putF f v fs).length ≤ fs.length + 1
  | [] => by simp [putF]
  | (k, x) :: r => by
    have ih := length_putF f v r
    rw [show putF f v ((k, x) :: r) = (if k = f then (k, v) :: r else (k, x) :: putF f v r) from rfl]
    by_cases hk : k = f
    · rw [if_pos hk, List.length_cons, List.length_cons]; omega
    · rw [if_neg hk, List.length_cons, List.length_cons]; omega

theorem RelO.some_of {v : V} {o : Option Value} (r : RelO (some v) o) : ∃ u, o = some u ∧ RelV v u := by
  cases o with
  | none => exact (show False from r).elim
  | some u => exact ⟨u, rfl, r⟩
theorem RelO.none_of {o : Option Value} (r : RelO none o) : o = none := by
  cases o with
  | none => rfl
  | some u => exact (show False from r).elim
theorem handed_of {v : V} {u : Value} (r : RelV v u) : PySem.W.handedIn u = true := by
  cases v with
  | non => cases (show u = Value.none from r); rfl
  | bl b => cases (show u = Value.bool b from r); rfl
  | int i => obtain ⟨t, e⟩ := (show ∃ t, u = Value.int i t from r); cases e; rfl
  | str x => obtain ⟨t, e⟩ := (show ∃ t, u = Value.str x t from r); cases e; rfl
  | byt b => obtain ⟨t, e⟩ := (show ∃ t, u = Value.bytes b t from r); cases e; rfl
  | flt b => obtain ⟨t, e⟩ := (show ∃ t, u = Value.float b t from r); cases e; rfl
  | ref a => cases (show u = Value.ref a from r); rfl
  | ty n => cases (show u = Value.type n from r); rfl

section
variable {P : Program} {w : World} {H H' : Hp} {h h' : Heap} {a C dx : Addr} {fs fs' : List (Str × V)}
theorem ins_get (hok : HOk P w H h) (e : H a = some (.ins C dx fs)) : ∃ mA, ObjM h a dx C mA ∧ (∀ f, RelO (fs.lookup f) (mA f)) ∧ PySem.Within mA (fs.map (·.1)) ∧ fs.length ≤ 1000 ∧ H dx = some (.own a) := by
  obtain ⟨d, z, ne, ob, mA, n, r, q⟩ := (show ObjOk P w H h a (.ins C dx fs) from hok a _ e)
  exact ⟨mA, ⟨ob, n, ne⟩, r, q, z, d⟩
end

/-! ### what of the text a class must have -/
structure Cls (K : PySem.W.Frag) (C : Addr) : Prop where
  pg : PySem.W.plainGet K C Str.empty = true
  hd : PySem.W.hasDictIn K C = true
  po : PySem.W.plainOver K C = true
  sa : PySem.W.findIn K (.ref C) "__setattr__" = some (some (.builtin "object.__setattr__"))
theorem Cls.get {K : PySem.W.Frag} {C : Addr} (c : Cls K C) (f : Str) : PySem.W.plainGet K C f = true := c.pg
/-- no class of it has the name -/
def NoAttr (K : PySem.W.Frag) (C : Addr) (f : Str) : Prop := PySem.W.findIn K (.ref C) f = some none
theorem NoAttr.taker {K : PySem.W.Frag} {C : Addr} {f : Str} (n : NoAttr K C f) : PySem.W.takerIn K C f = some none := by
  unfold PySem.W.takerIn
  rw [show PySem.W.findIn K (.ref C) f = some none from n]
  rfl
/-- a constant of the class -/
structure Con (K : PySem.W.Frag) (C : Addr) (f : Str) (v : V) (u : Value) : Prop where
  at_ : PySem.W.findIn K (.ref C) f = some (some u)
  rel : RelV v u
  get : PySem.W.specialIn K u "__get__" = some none
  cp : PySem.W.copiedNames.contains f = false
/-- a method: a plain def of the class or of one above it -/
structure Meth (K : PySem.W.Frag) (C : Addr) (m : Str) (f : Addr) : Prop where
  at_ : PySem.W.findIn K (.ref C) m = some (some (.ref f))
  fn : PySem.W.isFn K (.ref f) = true
  kp : PySem.W.keepIn K (.ref f) = true

section
variable {X : Cx} {pins : List (Addr × Obj)} {σ : St} {H : Hp} {s : Shared} {a C dx : Addr} {fs : List (Str × V)} {f : Str} {v : V} {A : Around} {E : Value → Shared → Prop}

theorem getattr_ok {b : Bool} {Q : Value → Shared → Prop} (I : Inv X pins σ H s) (e : H a = some (.ins C dx fs)) (c : Cls X.K C) (n : NoAttr X.K C f) (l : fs.lookup f = some v)
    (h : ∀ u s', Inv X pins σ H s' → RelV v u → Q u s') : wpAny (model X.prog X.w) A (getAttr (.ref a) f b) Q E s := by
  obtain ⟨mA, O, r, _, _, _⟩ := ins_get I.hok e
  obtain ⟨u, hu, ru⟩ := RelO.some_of (v := v) (o := mA f) (by rw [← l]; exact r f)
  exact get_map I.kIn O (c.get f) c.hd n hu (handed_of ru) (h u _ (I.tok _) ru)

theorem getcon_ok {b : Bool} {u : Value} {Q : Value → Shared → Prop} (I : Inv X pins σ H s) (e : H a = some (.ins C dx fs)) (c : Cls X.K C) (k : Con X.K C f v u) (l : fs.lookup f = none)
    (h : ∀ s', Inv X pins σ H s' → Q u s') : wpAny (model X.prog X.w) A (getAttr (.ref a) f b) Q E s := by
  obtain ⟨mA, O, r, _, _, _⟩ := ins_get I.hok e
  have hn : mA f = none := RelO.none_of (by rw [← l]; exact r f)
  exact get_const I.kIn O (c.get f) c.hd k.at_ k.get k.cp hn (handed_of k.rel) (h _ (I.tok _))

theorem getmeth_ok {m : Str} {g : Addr} {pl : Sem Bool} {Q : Value × List Value → Shared → Prop} (I : Inv X pins σ H s) (e : H a = some (.ins C dx fs)) (c : Cls X.K C) (k : Meth X.K C m g) (l : fs.lookup m = none)
    (h : Q (.ref g, [.ref a]) s) : wpAny (model X.prog X.w) A (getMethod (.ref a) m pl) Q E s := by
  obtain ⟨mA, O, r, _, _, _⟩ := ins_get I.hok e
  have hn : mA m = none := RelO.none_of (by rw [← l]; exact r m)
  exact get_meth I.kIn O (c.get m) k.at_ k.fn hn h

theorem setattr_ok {y : V} {u : Value} {Q : Unit → Shared → Prop} (I : Inv X pins σ H s) (e : H a = some (.ins C dx fs)) (c : Cls X.K C) (n : NoAttr X.K C f) (hl : fs.length < 1000) (ry : RelV y u)
    (h : ∀ s', Inv X pins σ (upd H a (.ins C dx (putF f y fs))) s' → Q () s') : wpAny (model X.prog X.w) A (setAttr (.ref a) f u) Q E s := by
  obtain ⟨mA, O, r, wi, _, ho⟩ := ins_get I.hok e
  have hz : (fs.map (·.1)).length ≤ sizeLine := by rw [List.length_map, sizeLine_eq]; omega
  refine set_map I.kIn O c.sa c.po n.taker c.hd wi hz fun h' O' sb => h _ ?_
  have hd : ∃ o, h'.get? dx = some o := let ⟨o, _, _, e', _⟩ := O'.ns; ⟨o, e'⟩
  refine I.write (x := a) (e := dx) (by rw [e]; exact True.intro) (.inr ho) (fun b q hb z => (sb.2 b hb).trans z) hd ?_
  refine ⟨by rw [upd_ne O.ne]; exact ho, ?_, O.ne, O'.obj, _, O'.ns, fun g => ?_, fun g hg => ?_⟩
  · have := length_putF f y fs; omega
  · show RelO ((putF f y fs).lookup g) (if g = f then some u else mA g)
    rw [lookup_putF]
    by_cases q : g = f
    · rw [if_pos q, if_pos q]; exact ry
    · rw [if_neg q, if_neg q]; exact r g
  · by_cases q : g = f
    · rw [q]; exact (keys_putF f y fs).1
    · refine (keys_putF f y fs).2 g (wi g fun z => hg ?_)
      show (if g = f then some u else mA g) = none
      rw [if_neg q]; exact z

/-- a new instance, tracked, without attributes -/
theorem Inv.made (I : Inv X pins σ H s) : Inv X pins σ (upd (upd H s.heap.objs.size (.own (s.heap.objs.size + 1))) (s.heap.objs.size + 1) (.ins C s.heap.objs.size []))
    { s with heap := (s.heap.push PySem.W.emptyDict).push (PySem.W.instObj C s.heap.objs.size) } := by
  have e1 : (s.heap.push PySem.W.emptyDict).get? s.heap.objs.size = some PySem.W.emptyDict := Heap.get?_push_size s.heap rfl
  have e2 : ((s.heap.push PySem.W.emptyDict).push (PySem.W.instObj C s.heap.objs.size)).get? (s.heap.objs.size + 1) = some (PySem.W.instObj C s.heap.objs.size) := by
    have := Heap.get?_push_size (s.heap.push PySem.W.emptyDict) (o := PySem.W.instObj C s.heap.objs.size) rfl
    rwa [Heap.size_push] at this
  have e3 : (s.heap.push PySem.W.emptyDict).Ns s.heap.objs.size (fun _ => none) := ⟨PySem.W.emptyDict, #[], _, e1, rfl, (fun e he => absurd he (by simp)), fun _ => rfl⟩
  have I1 := I.laid (a := s.heap.objs.size) (o := .own (s.heap.objs.size + 1)) (h' := s.heap.push PySem.W.emptyDict) (t' := s.toks) (fun b u q => Heap.get?_push_of_some _ q) (Nat.le_refl _) ⟨_, e1⟩
  refine I1.laid (a := s.heap.objs.size + 1) (o := .ins C s.heap.objs.size []) (t' := s.toks) (fun b u q => Heap.get?_push_of_some _ q) (Nat.le_of_eq (Heap.size_push _ _)) ?_
  have ne : s.heap.objs.size ≠ s.heap.objs.size + 1 := Nat.ne_of_lt (Nat.lt_succ_self _)
  refine ⟨by rw [upd_ne ne, upd_same], Nat.zero_le _, ne, e2, fun _ => none, (Heap.Ns1.of_empty e3).at fun o q => Heap.get?_push_of_some _ q, fun _ => True.intro, fun y hy => absurd rfl hy⟩

/-- e.f where nothing but the object is asked: through attributeBase (super) and the last hold -/
theorem attr_of {prog : Program} {w : World} {env : Env} {e : Expr} {f : Str} {pos : Pos} {s : Shared} {Q : Value → Shared → Prop} (hb : attributeBase e f env (eval e env) = eval e env)
    (h : wpAny (model prog w) A (eval e env) (fun o s₁ => wpAny (model prog w) A (getAttr o f true) Q E s₁) E s) : wpAny (model prog w) A (eval (.Attribute e f pos) env) Q E s :=
  Attribute_any_ h (by rw [arm_eval_Attribute, hb])
end

/-! ### readings and rules -/
/-- e.f, an attribute of the instance -/
def tFld (K : PySem.W.Frag) (ta : TE) (f : Str) : TE := fun σ H Q => ta σ H fun x H1 => ∃ a C dx fs v, x = .ref a ∧ H1 a = some (.ins C dx fs) ∧ Cls K C ∧ NoAttr K C f ∧ fs.lookup f = some v ∧ Q v H1
/-- e.f, a constant of the class -/
def tCon (K : PySem.W.Frag) (ta : TE) (f : Str) : TE := fun σ H Q => ta σ H fun x H1 => ∃ a C dx fs v u, x = .ref a ∧ H1 a = some (.ins C dx fs) ∧ Cls K C ∧ Con K C f v u ∧ fs.lookup f = none ∧ Q v H1
/-- e.f = value -/
def sFld (K : PySem.W.Frag) (ta tv : TE) (f : Str) : TS := fun D σ H => tv σ H fun y H1 => ta σ H1 fun x H2 => ∃ a C dx fs, x = .ref a ∧ H2 a = some (.ins C dx fs) ∧ Cls K C ∧ NoAttr K C f ∧ fs.length < 1000 ∧
  D.nx σ (upd H2 a (.ins C dx (putF f y fs)))
/-- an augmented operator on two values -/
def InOp (X : Cx) (op : Operator) (rd : V → V → Hp → VK → Prop) : Prop :=
  ∀ (pins : List (Addr × Obj)) (s : Shared) (σ : St) (H : Hp) (x y : V) (u v : Value) (Q : VK), Inv X pins σ H s → RelV x u → RelV y v → rd x y H Q → wpAny (model X.prog X.w) X.A (inplaceOp op u v) (EP X pins σ Q) X.xe s
/-- e.f op= value -/
def sFldAug (K : PySem.W.Frag) (ta tv : TE) (rd : V → V → Hp → VK → Prop) (f : Str) : TS := fun D σ H => ta σ H fun x H1 => ∃ a C dx fs v, x = .ref a ∧ H1 a = some (.ins C dx fs) ∧ Cls K C ∧ NoAttr K C f ∧ fs.lookup f = some v ∧
  tv σ H1 fun y H2 => rd v y H2 fun z H3 => ∃ dx' fs', H3 a = some (.ins C dx' fs') ∧ fs'.length < 1000 ∧ D.nx σ (upd H3 a (.ins C dx' (putF f z fs')))

section
variable {X : Cx} {o e value : Expr} {f : Str} {pos pos' tpos : Pos} {ta tv : TE}
theorem pe_fld (he : PE X e ta) (hb : attributeBase e f X.env (eval e X.env) = eval e X.env) : PE X (.Attribute e f pos) (tFld X.K ta f) := by
  intro pins s σ H Q I h
  refine attr_of hb (thn (he pins s σ H _ I h) fun u s1 ⟨x, H1, I1, rx, a, C, dx, fs, v, ex, ea, c, n, l, q⟩ => ?_)
  subst ex
  obtain rfl : u = Value.ref a := rx
  exact getattr_ok I1 ea c n l fun u' s2 I2 ru => ⟨v, H1, I2, ru, q⟩
theorem pe_con (he : PE X e ta) (hb : attributeBase e f X.env (eval e X.env) = eval e X.env) : PE X (.Attribute e f pos) (tCon X.K ta f) := by
  intro pins s σ H Q I h
  refine attr_of hb (thn (he pins s σ H _ I h) fun u s1 ⟨x, H1, I1, rx, a, C, dx, fs, v, u0, ex, ea, c, k, l, q⟩ => ?_)
  subst ex
  obtain rfl : u = Value.ref a := rx
  exact getcon_ok I1 ea c k l fun s2 I2 => ⟨v, H1, I2, k.rel, q⟩
theorem ps_fld (ha : PE X o ta) (hv : PE X value tv) (hs : swapsWith value (some (.Attribute o f pos')) pos.line X.env = pure false) : PS X (.Assign [.Attribute o f pos'] value pos) (sFld X.K ta tv f) := by
  intro pins s σ H D I h
  refine plainObj_wpAny_Assign_Attribute (thn (hv pins s σ H _ I h) fun u s1 ⟨y, H1, I1, ry, q⟩ => thn (ha pins s1 σ H1 _ I1 q) fun ov s2 ⟨x, H2, I2, rx, a, C, dx, fs, ex, ea, c, n, l, q2⟩ => ?_) hs
  subst ex
  obtain rfl : ov = Value.ref a := rx
  exact setattr_ok I2 ea c n l ry fun s3 I3 => ⟨σ, _, I3, q2⟩
theorem ps_fldaug {op : Operator} {rd : V → V → Hp → VK → Prop} (ha : PE X o ta) (hv : PE X value tv) (hop : InOp X op rd) : PS X (.AugAssign (.Attribute o f tpos) op value pos) (sFldAug X.K ta tv rd f) := by
  intro pins s σ H D I h
  refine wpAny_AugAssign_AttributeAny (thn (ha pins s σ H _ I h) fun ov s1 ⟨x, H1, I1, rx, a, C, dx, fs, v, ex, ea, c, n, l, q⟩ => ?_)
  subst ex
  obtain rfl : ov = Value.ref a := rx
  refine getattr_ok I1 ea c n l fun u s2 I2 ru => thn (hv pins s2 σ H1 _ I2 q) fun w3 s3 ⟨y, H2, I3, ry, q3⟩ => thn (hop pins s3 σ H2 v y u w3 _ I3 ru ry q3) fun w4 s4 ⟨z, H3, I4, rz, dx', fs', ea', l', q4⟩ => ?_
  exact setattr_ok I4 ea' c n l' rz fun s5 I5 => ⟨σ, _, I5, q4⟩
def rAdd : V → V → Hp → VK → Prop := fun x y H Q => ∃ i j, x = .int i ∧ y = .int j ∧ Q (.int (i + j)) H
def rSub : V → V → Hp → VK → Prop := fun x y H Q => ∃ i j, x = .int i ∧ y = .int j ∧ Q (.int (i - j)) H
theorem in_add : InOp X .Add rAdd := by
  rintro pins s σ H x y u v Q I rx ry ⟨i, j, rfl, rfl, q⟩
  obtain ⟨t, rfl⟩ := (show ∃ t, u = Value.int i t from rx)
  obtain ⟨t', rfl⟩ := (show ∃ t', v = Value.int j t' from ry)
  exact PyProof.Rows.iadd_int ⟨.int (i + j), H, I.tok _, ⟨_, rfl⟩, q⟩
theorem in_sub : InOp X .Sub rSub := by
  rintro pins s σ H x y u v Q I rx ry ⟨i, j, rfl, rfl, q⟩
  obtain ⟨t, rfl⟩ := (show ∃ t, u = Value.int i t from rx)
  obtain ⟨t', rfl⟩ := (show ∃ t', v = Value.int j t' from ry)
  exact PyProof.Rows.isub_int ⟨.int (i - j), H, I.tok _, ⟨_, rfl⟩, q⟩

/-- what is between an instance and its method: the tree of a method call -/
theorem methcall_of {pl : Sem Bool} {m : Str} {apos : Pos} {args : List Expr} {pins : List (Addr × Obj)} {s : Shared} {σ : St} {H : Hp} {Q : Value → Shared → Prop} {te : TE} (he : PE X e te) (I : Inv X pins σ H s)
    (h : te σ H fun x H1 => ∃ a C dx fs g, x = .ref a ∧ H1 a = some (.ins C dx fs) ∧ Cls X.K C ∧ Meth X.K C m g ∧ fs.lookup m = none ∧
      ∀ s1, Inv X pins σ H1 s1 → wpAny (model X.prog X.w) X.A (callWith pos (.ref g) [.ref a] (backTo pos (starEach args X.env)) (backToKw pos (keywordEach [] X.env))) Q X.xe s1)
    (ht : eval (.Call (.Attribute e m apos) args [] pos) X.env = (do
      let ov ← eval e X.env
      standAt apos.atName
      let (f, first) ← holding [ov] (getMethod ov m pl)
      callWith pos f first (backTo pos (starEach args X.env)) (backToKw pos (keywordEach [] X.env)))) :
    wpAny (model X.prog X.w) X.A (eval (.Call (.Attribute e m apos) args [] pos) X.env) Q X.xe s := by
  refine PySem.W.methodCall_KW (pl := pl) (thn (he pins s σ H _ I h) fun u s1 ⟨x, H1, I1, rx, a, C, dx, fs, g, ex, ea, c, k, l, q⟩ => ?_) ht
  subst ex
  obtain rfl : u = Value.ref a := rx
  exact getmeth_ok I1 ea c k l (q s1 I1)
end

/-! ### isinstance -/
section
variable {X : Cx} {pins : List (Addr × Obj)} {σ : St} {H : Hp} {s : Shared} {A : Around} {E : Value → Shared → Prop} {Q : Value → Shared → Prop} {c : Value} {b : Bool}
/-- the type of a value, as the fragment's deciders take it; for an instance its class -/
inductive TyOf (K : PySem.W.Frag) (H : Hp) : V → Value → Prop where
  | non : TyOf K H .non (.type "NoneType")
  | bl (x : Bool) : TyOf K H (.bl x) (.type "bool")
  | int (i : Int) : TyOf K H (.int i) (.type "int")
  | str (x : Str) : TyOf K H (.str x) (.type "str")
  | flt (x : UInt64) : TyOf K H (.flt x) (.type "float")
  | lst {a : Addr} {xs : List V} (e : H a = some (.lst xs)) : TyOf K H (.ref a) (.type "list")
  | frz {a : Addr} {o : Obj} {xs : List V} (e : H a = some (.frz o (.lst xs))) : TyOf K H (.ref a) (.type "list")
  | tup {a : Addr} {xs : List V} (e : H a = some (.tup xs)) : TyOf K H (.ref a) (.type "tuple")
  | dK {a : Addr} {kvs : List (Key × V)} (e : H a = some (.dK kvs)) : TyOf K H (.ref a) (.type "dict")
  | dT {a : Addr} {kvs : List (List Key × V)} (e : H a = some (.dT kvs)) : TyOf K H (.ref a) (.type "dict")
  | ins {a C dx : Addr} {fs : List (Str × V)} (e : H a = some (.ins C dx fs)) (cl : Cls K C) (ha : PySem.W.findIn K (.ref C) "__class__" = some (some (.builtin "object.__class__")))
      (hn : PySem.W.specialIn K (.builtin "object.__class__") "__get__" = some (some (.builtin "getset_descriptor.__get__"))) (htk : PySem.W.takesIn K (.builtin "object.__class__") = some true)
      (hm : PySem.W.mroIn K C (.type "object") = some true) : TyOf K H (.ref a) (.ref C)
/-- isinstance(x, c) for one class c, a built-in or an own one: kitOne's answer -/
theorem isinst_ok {x : V} {u t : Value} (I : Inv X pins σ H s) (rx : RelV x u) (ty : TyOf X.K H x t) (e : PySem.W.kitOne X.K t c = some b) (h : ∀ tk, Q (.bool b) { s with toks := tk }) :
    wpAny (model X.prog X.w) A (call (.builtin "isinstance") [u, c]) Q E s := by
  cases ty with
  | non => cases (show u = Value.none from rx); exact PySem.W.kia_one PySem.W.kitx_none I.kIn True.intro e (fun z => nomatch z) h
  | bl y => cases (show u = Value.bool y from rx); exact PySem.W.kia_one PySem.W.kitx_bool I.kIn True.intro e (fun z => nomatch z) h
  | int i => obtain ⟨t, q⟩ := (show ∃ t, u = Value.int i t from rx); cases q; exact PySem.W.kia_one PySem.W.kitx_int I.kIn True.intro e (fun z => nomatch z) h
  | str y => obtain ⟨t, q⟩ := (show ∃ t, u = Value.str y t from rx); cases q; exact PySem.W.kia_one PySem.W.kitx_str I.kIn True.intro e (fun z => nomatch z) h
  | flt y => obtain ⟨t, q⟩ := (show ∃ t, u = Value.float y t from rx); cases q; exact PySem.W.kia_one PySem.W.kitx_float I.kIn True.intro e (fun z => nomatch z) h
  | @lst a xs ea =>
    cases (show u = Value.ref a from rx)
    obtain ⟨_, _, n, _, h1⟩ := (show ObjOk X.prog X.w H s.heap a (.lst xs) from I.hok a _ ea)
    exact PySem.W.kia_one PySem.W.kitx_list I.kIn ⟨_, h1, rfl⟩ e (fun z => nomatch z) h
  | @frz a ob xs ea =>
    cases (show u = Value.ref a from rx)
    obtain ⟨_, _, _, n, _, h1⟩ := (show ObjOk X.prog X.w H s.heap a (.frz ob (.lst xs)) from I.hok a _ ea)
    exact PySem.W.kia_one PySem.W.kitx_list I.kIn ⟨_, h1, rfl⟩ e (fun z => nomatch z) h
  | @tup a xs ea =>
    cases (show u = Value.ref a from rx)
    obtain ⟨_, _, _, p⟩ := (show ObjOk X.prog X.w H s.heap a (.tup xs) from I.hok a _ ea)
    obtain ⟨o, h1, ⟨h2, _⟩, _⟩ := p
    exact PySem.W.kia_one PySem.W.kitx_tuple I.kIn ⟨o, h1, h2⟩ e (fun z => nomatch z) h
  | @dK a kvs ea =>
    cases (show u = Value.ref a from rx)
    obtain ⟨_, _, vs, _, p⟩ := (show ObjOk X.prog X.w H s.heap a (.dK kvs) from I.hok a _ ea)
    obtain ⟨o, es, ep, h1, h2, _⟩ := p
    exact PySem.W.kia_one PySem.W.kitx_dict I.kIn ⟨o, h1, h2.1⟩ e (fun z => nomatch z) h
  | @dT a kvs ea =>
    cases (show u = Value.ref a from rx)
    obtain ⟨_, _, xs, _, o, es, ep, h1, h2, _⟩ := (show ObjOk X.prog X.w H s.heap a (.dT kvs) from I.hok a _ ea)
    exact PySem.W.kia_one PySem.W.kitx_dict I.kIn ⟨o, h1, h2.1⟩ e (fun z => nomatch z) h
  | @ins a C dx fs ea cl ha hn htk hm =>
    cases (show u = Value.ref a from rx)
    obtain ⟨mA, O, _⟩ := ins_get I.hok ea
    obtain ⟨od, J, _⟩ := O.look
    exact PySem.W.kia_one (PySem.W.kitx_own (cl.get _) cl.hd ha hn htk hm) I.kIn J e (fun z => nomatch z) h
end
end L2

namespace L2
open PySem PySem.Spec PyProof.Rows

/-! ### room -/
structure Room (k : Nat) (A : Around) : Prop where
  hd : A.handled = none
  dp : A.depth + 3 * k + 5 < recursionLimit
  un : A.units + 16 * k + 200 < cLine
theorem Room.mono {j k : Nat} {A : Around} (r : Room k A) (h : j ≤ k) : Room j A := ⟨r.hd, by have := r.dp; omega, by have := r.un; omega⟩
theorem Room.deeper {k : Nat} {A : Around} (r : Room (k + 1) A) (env : Env) : Room k (A.deeper env) :=
  ⟨r.hd, by have := r.dp; show A.depth + 1 + 3 * k + 5 < _; omega, by have := r.un; show A.units + 3 + 16 * k + 200 < _; omega⟩
theorem Room.in1 {k : Nat} {A : Around} (r : Room (k + 1) A) : Room k A.in1 :=
  ⟨r.hd, by have := r.dp; show A.depth + 3 * k + 5 < _; omega, by have := r.un; show A.units + 1 + 16 * k + 200 < _; omega⟩
theorem make_depth {A : Around} {C : Addr} {us : List Value} {kw : List (Str × Value)} : (A.under (.builtin "type.__call__" ⟨.ref C :: us, kw⟩)).depth = A.depth + 1 := by
  first | rfl | simp [Around.under, Code.weight, Code.isCreation, Code.isGuard, Code.isCaller, Code.frames, Code.isFrame, guardIds]
theorem make_units {A : Around} {C : Addr} {us : List Value} {kw : List (Str × Value)} : (A.under (.builtin "type.__call__" ⟨.ref C :: us, kw⟩)).units = A.units + 1 := by
  first | rfl | simp [Around.under, Code.cUnits, Code.frames, Code.isFrame]
theorem Room.make {k : Nat} {A : Around} (r : Room (k + 1) A) (C : Addr) (us : List Value) (kw : List (Str × Value)) : Room k (A.under (.builtin "type.__call__" ⟨.ref C :: us, kw⟩)) :=
  ⟨r.hd, by have := r.dp; rw [make_depth]; omega, by have := r.un; rw [make_units]; omega⟩
theorem Room.depth {k : Nat} {A : Around} (r : Room k A) : A.depth < recursionLimit := by have := r.dp; omega
theorem Room.units {k : Nat} {A : Around} (r : Room k A) : A.units + 64 < cLine := by have := r.un; omega
theorem Room.units0 {k : Nat} {A : Around} (r : Room k A) : A.units < cLine := by have := r.un; omega

/-! ### argument lists and displays -/
def tNil : TA := fun _ H Q => Q [] H
def tCons (ta : TE) (tr : TA) : TA := fun σ H Q => ta σ H fun x H1 => tr σ H1 fun xs H2 => Q (x :: xs) H2
section
variable {X : Cx} {e : Expr} {es : List Expr} {te : TE} {t : TA} {pos : Pos}
theorem pa_nil : PA X [] tNil := fun _ _ _ _ H Q I h => Calls.spliced_nil ⟨[], H, I, .nil, h⟩
theorem pa_cons (ha : PE X e te) (hr : PA X es t) (hs : starEach (e :: es) X.env = (false, eval e X.env) :: starEach es X.env := by rfl) : PA X (e :: es) (tCons te t) := by
  intro pos pins s σ H Q I h
  rw [hs]
  show wpAny _ _ (spliced ((false, eval e X.env) :: backTo pos (starEach es X.env))) _ _ s
  refine Calls.spliced_cons (thn (ha pins s σ H _ I h) fun u s1 ⟨x, H1, I1, r1, q1⟩ => ?_)
  exact thn (hr pos pins s1 σ H1 _ I1 q1) fun us s2 ⟨xs, H2, I2, r2, q2⟩ => ⟨x :: xs, H2, I2, .cons r1 r2, q2⟩

/-- a tuple, a list of written items -/
def tTup (t : TA) : TE := fun σ H Q => t σ H fun xs H1 => xs.length ≤ sizeLine ∧ ∀ p, H1 p = none → Q (.ref p) (upd H1 p (.tup xs))
def tLst (t : TA) : TE := fun σ H Q => t σ H fun xs H1 => xs.length ≤ sizeLine ∧ ∀ p, H1 p = none → Q (.ref p) (upd H1 p (.lst xs))
theorem pe_tup {x1} (h : PA X es t) : PE X (.Tuple es x1 pos) (tTup t) := by
  intro pins s σ H Q I hq
  refine wpAny_Tuple_spliced (thn (h pos pins s σ H _ I hq) fun us s1 ⟨xs, H1, I1, r, z, q⟩ => ⟨by rw [← r.length]; exact z, ?_⟩)
  have hf : H1 s1.heap.objs.size = none := I1.hok.fresh (Nat.le_refl _)
  refine ⟨.ref s1.heap.objs.size, upd H1 s1.heap.objs.size (.tup xs), I1.laid (t' := s1.toks) (fun b u e => Heap.get?_push_of_some _ e) (Nat.le_refl _) ?_, rfl, q _ hf⟩
  exact ⟨z, us, r, ⟨_, Heap.get?_push_size _ rfl, ⟨rfl, _, rfl⟩, rfl⟩⟩
theorem pe_lst (h : PA X es t) : PE X (.List es pos) (tLst t) := by
  intro pins s σ H Q I hq
  refine wpAny_List_spliced (thn (h pos pins s σ H _ I hq) fun us s1 ⟨xs, H1, I1, r, z, q⟩ => ⟨by rw [← r.length]; exact z, ?_⟩)
  have hf : H1 s1.heap.objs.size = none := I1.hok.fresh (Nat.le_refl _)
  refine ⟨.ref s1.heap.objs.size, upd H1 s1.heap.objs.size (.lst xs), I1.laid (t' := s1.toks) (fun b u e => Heap.get?_push_of_some _ e) (Nat.le_refl _) ?_, rfl, q _ hf⟩
  exact ⟨z, us, 0, r, Heap.get?_push_size _ rfl⟩
end

/-! ### what a def promises -/
/-- a def's promise: the bound arguments in the parameters' order, the heap, the wanted end, the wanted exception -/
abbrev Sp := List V → Hp → VK → XK → Prop
/-- how an exception lies behind a call (file 08 gives it): the callers' frames, abstract heap and state ahead of the call, the wish, the exception, the state -/
abbrev CXT := List Env → Hp → Shared → XK → Value → Shared → Prop

/-- the state at a call -/
structure Env0 (P : Program) (w : World) (K : PySem.W.Frag) (mg : Str → Option Value) (base : Heap) (A : Around) (outer : List Env) (s : Shared) (H : Hp) : Prop where
  frames : A.frames = some outer
  mod : Mod K mg base
  bs : ∀ b o, base.get? b = some o → s.heap.get? b = some o ∧ H b = none
  bsz : base.objs.size ≤ s.heap.objs.size
  funs : s.heap.FunFrames base outer
  frf : ∀ b ∈ frs outer, H b = none
  hok : HOk P w H s.heap
  bare : AllBare s.gens
/-- a call's end -/
def CE (outer : List Env) (P : Program) (w : World) (H : Hp) (s : Shared) (Q : VK) (u : Value) (s' : Shared) : Prop :=
  ∃ v H', s'.os = s.os ∧ AllBare s'.gens ∧ Un (frs outer) [] H H' s.heap s'.heap ∧ HOk P w H' s'.heap ∧ RelV v u ∧ Q v H'
def CR (CX : CXT) (outer : List Env) (P : Program) (w : World) (H : Hp) (s : Shared) (Q : VK) (E : XK) (r : Result) (s' : Shared) : Prop :=
  match r with
  | .ok (.ret u) => CE outer P w H s Q u s'
  | .ok _ => False
  | .error e => CX outer H s E e s'
structure FnOk (P : Program) (w : World) (K : PySem.W.Frag) (mg : Str → Option Value) (base : Heap) (CX : CXT) (k : Nat) (f : Addr) (fd : FuncData) (ps : List Str) (sp : Sp) : Prop where
  len : ∀ vs H Q E, sp vs H Q E → vs.length = ps.length
  run : ∀ (A : Around) (outer : List Env) (s : Shared) (H : Hp) (args : Args) (us : List Value) (vs : List V) (Q : VK) (E : XK), Room k A → Env0 P w K mg base A outer s H → BindsTo s fd args (ps.zip us) → Vals vs us → sp vs H Q E →
    codeAny (model P w) A (.call (.ref f) args) (CR CX outer P w H s Q E) s
theorem FnOk.mono {P : Program} {w : World} {K : PySem.W.Frag} {mg : Str → Option Value} {base : Heap} {CX : CXT} {j k : Nat} {f : Addr} {fd : FuncData} {ps : List Str} {sp : Sp} (F : FnOk P w K mg base CX j f fd ps sp) (h : j ≤ k) :
    FnOk P w K mg base CX k f fd ps sp := ⟨F.len, fun A outer s H args us vs Q E hr => F.run A outer s H args us vs Q E (hr.mono h)⟩
/-- a weaker promise -/
theorem FnOk.imp {P : Program} {w : World} {K : PySem.W.Frag} {mg : Str → Option Value} {base : Heap} {CX : CXT} {k : Nat} {f : Addr} {fd : FuncData} {ps : List Str} {sp sp' : Sp} (F : FnOk P w K mg base CX k f fd ps sp)
    (h : ∀ vs H Q E, sp' vs H Q E → sp vs H Q E) : FnOk P w K mg base CX k f fd ps sp' :=
  ⟨fun vs H Q E q => F.len vs H Q E (h _ _ _ _ q), fun A outer s H args us vs Q E hr he hb hv hs => F.run A outer s H args us vs Q E hr he hb hv (h _ _ _ _ hs)⟩

theorem Env0.make {P : Program} {w : World} {K : PySem.W.Frag} {mg : Str → Option Value} {base : Heap} {A : Around} {outer : List Env} {s : Shared} {H : Hp} (e : Env0 P w K mg base A outer s H) (C : Addr) (us : List Value) (kw : List (Str × Value)) :
    Env0 P w K mg base (A.under (.builtin "type.__call__" ⟨.ref C :: us, kw⟩)) outer s H := ⟨by first | exact e.frames | (simpa [Around.under, Code.envs, Code.isFrame, pushEnvs] using e.frames), e.mod, e.bs, e.bsz, e.funs, e.frf, e.hok, e.bare⟩
theorem Env0.in1 {P : Program} {w : World} {K : PySem.W.Frag} {mg : Str → Option Value} {base : Heap} {A : Around} {outer : List Env} {s : Shared} {H : Hp} (e : Env0 P w K mg base A outer s H) :
    Env0 P w K mg base A.in1 outer s H := ⟨e.frames, e.mod, e.bs, e.bsz, e.funs, e.frf, e.hok, e.bare⟩

section
variable {X : Cx} {pins : List (Addr × Obj)} {σ : St} {H : Hp} {s s' : Shared}
/-- from a body: what a callee wants -/
theorem Inv.env0 (I : Inv X pins σ H s) : Env0 X.prog X.w X.K X.mg X.base X.A X.stack s H :=
  ⟨I.ok.frames, I.ok.mod, I.bs, Nat.le_trans I.ok.bsz I.sz, I.stack, I.stkFree, I.hok, I.bare⟩
/-- behind a call -/
theorem Inv.after {Q : VK} {u : Value} (I : Inv X pins σ H s) (h : CE X.stack X.prog X.w H s Q u s') : EP X pins σ Q u s' := by
  obtain ⟨v, H', os, bare, un, hok, r, q⟩ := h
  obtain ⟨hh, g, d, t, os'⟩ := s'
  obtain rfl : os' = s.os := os
  exact ⟨v, H', I.call (h' := hh) (g' := g) (d' := d) (t' := t) (ch := []) un hok bare (fun b z => absurd z (by simp)), r, q⟩
end

/-! ### calls -/
/-- f(..): the written arguments, then the defaults dvs; E: what is wanted of an exception -/
def tCall (sp : Sp) (dvs : List V) (E : XK) (t : TA) : TE := fun σ H Q => t σ H fun vs H1 => sp (vs ++ dvs) H1 Q E
/-- o.m(..) of an instance of the class at C -/
def tMeth (C : Addr) (m : Str) (sp : Sp) (dvs : List V) (E : XK) (ta : TE) (t : TA) : TE := fun σ H Q => ta σ H fun x H1 => ∃ a dx fs, x = .ref a ∧ H1 a = some (.ins C dx fs) ∧ fs.lookup m = none ∧
  t σ H1 fun vs H2 => sp (x :: (vs ++ dvs)) H2 Q E
/-- C(..): a new instance and its dict, then __init__ -/
def tMake (C : Addr) (sp : Sp) (dvs : List V) (E : XK) (t : TA) : TE := fun σ H Q => t σ H fun vs H1 => ∀ x dx, H1 x = none → H1 dx = none → dx ≠ x →
  sp (.ref x :: (vs ++ dvs)) (upd (upd H1 dx (.own x)) x (.ins C dx [])) (fun v H2 => v = .non ∧ Q (.ref x) H2) E

/-- how the parameters are bound: us the positional arguments, kw the keywords' values by name, ds the defaults that fill up -/
def Binds (K : PySem.W.Frag) (fd : FuncData) (ps : List Str) (ds : List Value) : Prop :=
  ∀ (s : Shared) (us : List Value), K.In s.heap → (us ++ ds).length = ps.length → BindsTo s fd ⟨us, []⟩ (ps.zip (us ++ ds))
/-- every parameter is given -/
theorem Binds.all {K : PySem.W.Frag} {fd : FuncData} {ps : List Str} (h : ∀ us : List Value, us.length = ps.length → bindArgs fd ⟨us, []⟩ = pure (ps.zip us)) : Binds K fd ps [] := fun s us _ hl => by
  rw [List.append_nil] at hl ⊢
  exact .of_eq (h us hl)

/-- an exception of a callee reaches what this body wants of exceptions -/
def Passes (CX : CXT) (X : Cx) (E : XK) : Prop := ∀ (pins : List (Addr × Obj)) (σ : St) (H : Hp) (s : Shared) (e : Value) (s' : Shared), Inv X pins σ H s → CX X.stack H s E e s' → X.xe e s'

section
variable {X : Cx} {CX : CXT} {k : Nat} {f C : Addr} {fd : FuncData} {ps : List Str} {sp : Sp} {dvs : List V} {ds : List Value} {E : XK} {x m : Str} {p pos apos : Pos} {e o : Expr} {es : List Expr} {ta : TE} {t : TA}

/-- the callee runs -/
theorem run_fn {pins : List (Addr × Obj)} {σ : St} {H : Hp} {s : Shared} {Q : VK} {us : List Value} {vs : List V} (F : FnOk X.prog X.w X.K X.mg X.base CX k f fd ps sp) (hr : Room k X.A) (hb : Binds X.K fd ps ds) (hd : Vals dvs ds) (hx : Passes CX X E)
    (I : Inv X pins σ H s) (r : Vals vs us) (h : sp (vs ++ dvs) H Q E) : wpAny (model X.prog X.w) X.A (call (.ref f) us) (EP X pins σ Q) X.xe s := by
  have r2 : Vals (vs ++ dvs) (us ++ ds) := r.append hd
  have hl : (us ++ ds).length = ps.length := by rw [← r2.length]; exact F.len _ _ _ _ h
  refine wpAny_call (codeAny_mono (F.run X.A X.stack s H ⟨us, []⟩ (us ++ ds) (vs ++ dvs) Q E hr I.env0 (hb s us I.kIn hl) r2 h) fun r s' hq => ?_)
  cases r with
  | error e => exact hx pins σ H s e s' I hq
  | ok fl =>
    cases fl with
    | ret u => exact I.after hq
    | next => exact False.elim hq
    | brk => exact False.elim hq
    | cont => exact False.elim hq

theorem pe_call (F : FnOk X.prog X.w X.K X.mg X.base CX k f fd ps sp) (hr : Room k X.A) (hg : Gl X x) (hm : X.mg x = some (.ref f)) (hk : PySem.W.keepIn X.K (.ref f) = true) (hb : Binds X.K fd ps ds) (hd : Vals dvs ds) (hx : Passes CX X E)
    (ha : PA X (e :: es) t) (hdb : (x == ("__debug__" : Str)) = false := by decide) (he : starEach (e :: es) X.env = (false, eval e X.env) :: starEach es X.env := by rfl) (hpl : (backTo pos (starEach es X.env)).any (·.1) = false := by rfl) :
    PE X (.Call (.Name x p) (e :: es) [] pos) (tCall sp dvs E t) := by
  intro pins s σ H Q I h
  refine wpAny_Call_Name_kw (ld_glob I hg hm ?_ hdb)
  refine PySem.W.callWith_K (h₀ := X.base) I.ok.mod.kin hk (thn (ha pos pins s σ H _ I h) fun us s1 ⟨vs, H1, I1, r, q⟩ => ⟨I1.kIn, ?_⟩) he hpl
  exact run_fn F hr hb hd hx I1 r q
theorem pe_call0 (F : FnOk X.prog X.w X.K X.mg X.base CX k f fd ps sp) (hr : Room k X.A) (hg : Gl X x) (hm : X.mg x = some (.ref f)) (hk : PySem.W.keepIn X.K (.ref f) = true) (hb : Binds X.K fd ps ds) (hd : Vals dvs ds) (hx : Passes CX X E)
    (hdb : (x == ("__debug__" : Str)) = false := by decide) : PE X (.Call (.Name x p) [] [] pos) (tCall sp dvs E tNil) := by
  intro pins s σ H Q I h
  refine wpAny_Call_Name_kw (ld_glob I hg hm ?_ hdb)
  exact PySem.W.callWith_K0 I.kIn hk (run_fn (us := []) F hr hb hd hx I .nil h)

/-- o.m(e, ..) -/
theorem pe_meth {pl : Sem Bool} (he : PE X o ta) (c : Cls X.K C) (hm : Meth X.K C m f) (F : FnOk X.prog X.w X.K X.mg X.base CX k f fd ps sp) (hr : Room k X.A) (hb : Binds X.K fd ps ds) (hd : Vals dvs ds) (hx : Passes CX X E) (ha : PA X (e :: es) t)
    (hst : starEach (e :: es) X.env = (false, eval e X.env) :: starEach es X.env := by rfl) (hpl : (backTo pos (starEach es X.env)).any (·.1) = false := by rfl)
    (ht : eval (.Call (.Attribute o m apos) (e :: es) [] pos) X.env = (do
      let ov ← eval o X.env
      standAt apos.atName
      let (f, first) ← holding [ov] (getMethod ov m pl)
      callWith pos f first (backTo pos (starEach (e :: es) X.env)) (backToKw pos (keywordEach [] X.env))) := by rfl) :
    PE X (.Call (.Attribute o m apos) (e :: es) [] pos) (tMeth C m sp dvs E ta t) := by
  intro pins s σ H Q I h
  refine PySem.W.methodCall_KW (pl := pl) (thn (he pins s σ H _ I h) fun u s1 ⟨x, H1, I1, rx, a, dx, fs, ex, ea, l, q⟩ => ?_) ht
  subst ex
  obtain rfl : u = Value.ref a := rx
  refine getmeth_ok I1 ea c hm l ?_
  refine PySem.W.callWith_K (first := [.ref a]) (h₀ := X.base) I.ok.mod.kin hm.kp (thn (ha pos pins s1 σ H1 _ I1 q) fun us s2 ⟨vs, H2, I2, r, q2⟩ => ⟨I2.kIn, ?_⟩) hst hpl
  exact run_fn (us := .ref a :: us) (vs := .ref a :: vs) F hr hb hd hx I2 (.cons rfl r) q2
/-- o.m() -/
theorem pe_meth0 {pl : Sem Bool} (he : PE X o ta) (c : Cls X.K C) (hm : Meth X.K C m f) (F : FnOk X.prog X.w X.K X.mg X.base CX k f fd ps sp) (hr : Room k X.A) (hb : Binds X.K fd ps ds) (hd : Vals dvs ds) (hx : Passes CX X E)
    (ht : eval (.Call (.Attribute o m apos) [] [] pos) X.env = (do
      let ov ← eval o X.env
      standAt apos.atName
      let (f, first) ← holding [ov] (getMethod ov m pl)
      callWith pos f first (backTo pos (starEach [] X.env)) (backToKw pos (keywordEach [] X.env))) := by rfl) :
    PE X (.Call (.Attribute o m apos) [] [] pos) (tMeth C m sp dvs E ta tNil) := by
  intro pins s σ H Q I h
  refine PySem.W.methodCall_KW (pl := pl) (thn (he pins s σ H _ I h) fun u s1 ⟨x, H1, I1, rx, a, dx, fs, ex, ea, l, q⟩ => ?_) ht
  subst ex
  obtain rfl : u = Value.ref a := rx
  refine getmeth_ok I1 ea c hm l ?_
  exact PySem.W.callWith_K0 (first := [.ref a]) I1.kIn hm.kp (run_fn (us := [.ref a]) (vs := [.ref a]) F hr hb hd hx I1 (.cons rfl .nil) q)

/-- what a class must have to be made -/
structure Mk (K : PySem.W.Frag) (C f : Addr) : Prop where
  makes : PySem.W.makesIn K C = true
  init : PySem.W.findIn K (.ref C) "__init__" = some (some (.ref f))
  fn : PySem.W.isFn K (.ref f) = true
  kp : PySem.W.keepIn K (.ref C) = true

theorem run_make {pins : List (Addr × Obj)} {σ : St} {H : Hp} {s : Shared} {Q : VK} {us : List Value} {vs : List V} (M : Mk X.K C f) (F : FnOk X.prog X.w X.K X.mg X.base CX k f fd ps sp) (hr : Room (k + 1) X.A) (hb : Binds X.K fd ps ds) (hd : Vals dvs ds)
    (hx : Passes CX X E) (I : Inv X pins σ H s) (r : Vals vs us)
    (h : ∀ x dx, H x = none → H dx = none → dx ≠ x → sp (.ref x :: (vs ++ dvs)) (upd (upd H dx (.own x)) x (.ins C dx [])) (fun v H2 => v = .non ∧ Q (.ref x) H2) E) :
    wpAny (model X.prog X.w) X.A (call (.ref C) us) (EP X pins σ Q) X.xe s := by
  have hq := h (s.heap.objs.size + 1) s.heap.objs.size (I.hok.fresh (Nat.le_succ _)) (I.hok.fresh (Nat.le_refl _)) (Nat.ne_of_lt (Nat.lt_succ_self _))
  have I2 := Inv.made (C := C) I
  have r2 : Vals (V.ref (s.heap.objs.size + 1) :: (vs ++ dvs)) (Value.ref (s.heap.objs.size + 1) :: (us ++ ds)) := .cons rfl (r.append hd)
  have hl : (Value.ref (s.heap.objs.size + 1) :: us ++ ds).length = ps.length := by
    have e := r2.length
    rw [F.len _ _ _ _ hq] at e
    exact e.symm
  refine wpAny_call (make_map (f := f) I.kIn M.makes M.init (beq_iff_eq.mp M.fn) (codeAny_mono (F.run _ X.stack _ _ ⟨Value.ref (s.heap.objs.size + 1) :: us, []⟩ (Value.ref (s.heap.objs.size + 1) :: (us ++ ds)) _ _ E (hr.make C us [])
    (I2.env0.make C us []) (hb _ (Value.ref (s.heap.objs.size + 1) :: us) I2.kIn hl) r2 hq) fun r s' hq' => ?_))
  cases r with
  | error e => exact hx pins σ _ _ e s' I2 hq'
  | ok fl =>
    cases fl with
    | ret u =>
      obtain ⟨v, H', I3, rv, ev, q3⟩ := I2.after hq'
      subst ev
      exact ⟨rv, ⟨V.ref (s.heap.objs.size + 1), H', I3, rfl, q3⟩⟩
    | next => exact False.elim hq'
    | brk => exact False.elim hq'
    | cont => exact False.elim hq'
theorem pe_make (M : Mk X.K C f) (F : FnOk X.prog X.w X.K X.mg X.base CX k f fd ps sp) (hr : Room (k + 1) X.A) (hg : Gl X x) (hm : X.mg x = some (.ref C)) (hb : Binds X.K fd ps ds) (hd : Vals dvs ds) (hx : Passes CX X E)
    (ha : PA X (e :: es) t) (hdb : (x == ("__debug__" : Str)) = false := by decide) (he : starEach (e :: es) X.env = (false, eval e X.env) :: starEach es X.env := by rfl) (hpl : (backTo pos (starEach es X.env)).any (·.1) = false := by rfl) :
    PE X (.Call (.Name x p) (e :: es) [] pos) (tMake C sp dvs E t) := by
  intro pins s σ H Q I h
  refine wpAny_Call_Name_kw (ld_glob I hg hm ?_ hdb)
  refine PySem.W.callWith_K (h₀ := X.base) I.ok.mod.kin M.kp (thn (ha pos pins s σ H _ I h) fun us s1 ⟨vs, H1, I1, r, q⟩ => ⟨I1.kIn, ?_⟩) he hpl
  exact run_make M F hr hb hd hx I1 r q
theorem pe_make0 (M : Mk X.K C f) (F : FnOk X.prog X.w X.K X.mg X.base CX k f fd ps sp) (hr : Room (k + 1) X.A) (hg : Gl X x) (hm : X.mg x = some (.ref C)) (hb : Binds X.K fd ps ds) (hd : Vals dvs ds) (hx : Passes CX X E)
    (hdb : (x == ("__debug__" : Str)) = false := by decide) : PE X (.Call (.Name x p) [] [] pos) (tMake C sp dvs E tNil) := by
  intro pins s σ H Q I h
  refine wpAny_Call_Name_kw (ld_glob I hg hm ?_ hdb)
  exact PySem.W.callWith_K0 I.kIn M.kp (run_make (us := []) M F hr hb hd hx I .nil h)
end

/-! ### keywords -/
/-- the values of the keywords, from the left -/
def PK (X : Cx) (kws : List Keyword) (t : TA) : Prop :=
  ∀ (pos : Pos) (pins : List (Addr × Obj)) (s : Shared) (σ : St) (H : Hp) (Q : List V → Hp → Prop), Inv X pins σ H s → t σ H Q → wpAny (model X.prog X.w) X.A (evalAll ((backToKw pos (keywordEach kws X.env)).map (·.2))) (AP X pins σ Q) X.xe s
section
variable {X : Cx} {CX : CXT} {k : Nat} {f C : Addr} {fd : FuncData} {ps ks : List Str} {sp : Sp} {E : XK} {x m : Str} {p pos apos kpos : Pos} {e o : Expr} {es : List Expr} {kws : List Keyword} {te ta : TE} {t tk : TA} {nm : Option Str}
theorem pk_nil : PK X [] tNil := fun _ _ _ _ H Q I h => wpAny_evalAll_nil ⟨[], H, I, .nil, h⟩
theorem pk_cons (ha : PE X e te) (hr : PK X kws t) : PK X (⟨nm, e, kpos⟩ :: kws) (tCons te t) := by
  intro pos pins s σ H Q I h
  show wpAny _ _ (evalAll ((do let v ← eval e X.env; standAt pos; pure v) :: (backToKw pos (keywordEach kws X.env)).map (·.2))) _ _ s
  refine wpAny_evalAll_cons (wpAny_bind (thn (ha pins s σ H _ I h) fun u s1 ⟨x, H1, I1, r1, q1⟩ => wpAny_bind (wpAny_standAt (wpAny_pure ?_))))
  exact thn (hr pos pins s1 σ H1 _ I1 q1) fun us s2 ⟨xs, H2, I2, r2, q2⟩ => ⟨x :: xs, H2, I2, .cons r1 r2, q2⟩

/-- how a call with keywords binds: g puts the positional values us and the keywords' values ws (names ks) in the parameters' order, defaults among them -/
structure KBinds (K : PySem.W.Frag) (fd : FuncData) (ps ks : List Str) (g : List Value → List Value → List Value) (gV : List V → List V → List V) : Prop where
  to : ∀ (s : Shared) (us ws : List Value), K.In s.heap → (g us ws).length = ps.length → BindsTo s fd ⟨us, ks.zip ws⟩ (ps.zip (g us ws))
  rel : ∀ {vs : List V} {us : List Value} {zs : List V} {ws : List Value}, Vals vs us → Vals zs ws → Vals (gV vs zs) (g us ws)
def tCallK (sp : Sp) (gV : List V → List V → List V) (E : XK) (t tk : TA) : TE := fun σ H Q => t σ H fun vs H1 => tk σ H1 fun zs H2 => sp (gV vs zs) H2 Q E
variable {g : List Value → List Value → List Value} {gV : List V → List V → List V}
theorem run_fnk {pins : List (Addr × Obj)} {σ : St} {H : Hp} {s : Shared} {Q : VK} {us ws : List Value} {vs zs : List V} (F : FnOk X.prog X.w X.K X.mg X.base CX k f fd ps sp) (hr : Room k X.A) (hb : KBinds X.K fd ps ks g gV) (hx : Passes CX X E)
    (I : Inv X pins σ H s) (r : Vals vs us) (rz : Vals zs ws) (h : sp (gV vs zs) H Q E) : wpAny (model X.prog X.w) X.A (call (.ref f) us (ks.zip ws)) (EP X pins σ Q) X.xe s := by
  have r2 := hb.rel r rz
  have hl : (g us ws).length = ps.length := by rw [← r2.length]; exact F.len _ _ _ _ h
  refine wpAny_call (codeAny_mono (F.run X.A X.stack s H ⟨us, ks.zip ws⟩ (g us ws) (gV vs zs) Q E hr I.env0 (hb.to s us ws I.kIn hl) r2 h) fun r s' hq => ?_)
  cases r with
  | error e => exact hx pins σ H s e s' I hq
  | ok fl =>
    cases fl with
    | ret u => exact I.after hq
    | next => exact False.elim hq
    | brk => exact False.elim hq
    | cont => exact False.elim hq
/-- f(e, .., k = v, ..) -/
theorem pe_callK (F : FnOk X.prog X.w X.K X.mg X.base CX k f fd ps sp) (hr : Room k X.A) (hg : Gl X x) (hm : X.mg x = some (.ref f)) (hk : PySem.W.keepIn X.K (.ref f) = true) (hb : KBinds X.K fd ps ks g gV) (hx : Passes CX X E)
    (ha : PA X (e :: es) t) (hkw : PK X kws tk) (hall : (backToKw pos (keywordEach kws X.env)).all (·.1.isSome) = true := by rfl) (hks : (backToKw pos (keywordEach kws X.env)).filterMap (·.1) = ks := by rfl)
    (hdb : (x == ("__debug__" : Str)) = false := by decide) (he : starEach (e :: es) X.env = (false, eval e X.env) :: starEach es X.env := by rfl)
    (hpl : ((backTo pos (starEach (e :: es) X.env)).any (·.1) || (backToKw pos (keywordEach kws X.env)).any (·.1.isNone)) = false := by rfl) :
    PE X (.Call (.Name x p) (e :: es) kws pos) (tCallK sp gV E t tk) := by
  intro pins s σ H Q I h
  refine wpAny_Call_Name_kw (ld_glob I hg hm ?_ hdb)
  refine PySem.W.callWith_KW (h₀ := X.base) I.ok.mod.kin hk hall (thn (ha pos pins s σ H _ I h) fun us s1 ⟨vs, H1, I1, r, q⟩ => ?_) hpl he
  refine thn (hkw pos pins s1 σ H1 _ I1 q) fun ws s2 ⟨zs, H2, I2, rz, q2⟩ => ⟨I2.kIn, ?_⟩
  rw [hks]
  exact run_fnk F hr hb hx I2 r rz q2
end

/-! ### a def's body keeps its promise -/
/-- names: the parameters first -/
structure FnScope (N P : List Str) (sc : Scope) : Prop where
  kind : sc.kind = .function
  co : sc.isCoroutine = false
  gen : sc.isGenerator = false
  nd : N.Nodup
  pre : N.take P.length = P
  par : ∀ x ∈ P, sc.names.lookup x = some .local ∨ sc.names.lookup x = some .cell
  nofree : ∀ y ∈ sc.names, y.2 ≠ .free

theorem bindL_out {kindOf : Str → Option NameKind} {x : Str} : ∀ {binds : List (Str × Value)} {m : Str → Option Value}, (∀ v, (x, v) ∉ binds) → bindL kindOf binds m x = m x
  | [], _, _ => rfl
  | (n, v) :: r, m, h => by
    unfold bindL
    rw [bindL_out fun w hw => h w (List.mem_cons_of_mem _ hw)]
    split
    · have : x ≠ n := by rintro rfl; exact h v List.mem_cons_self
      simp [this]
    · rfl
theorem bindC_out {kindOf : Str → Option NameKind} {x : Str} : ∀ {binds : List (Str × Value)} {m : Str → Option Value}, (∀ v, (x, v) ∉ binds) → bindC kindOf binds m x = m x
  | [], _, _ => rfl
  | (n, v) :: r, m, h => by
    unfold bindC
    rw [bindC_out fun w hw => h w (List.mem_cons_of_mem _ hw)]
    split
    · rfl
    · have : x ≠ n := by rintro rfl; exact h v List.mem_cons_self
      simp [this]
theorem bindL_get {kindOf : Str → Option NameKind} {x : Str} {v : Value} : ∀ {P : List Str} {vs : List Value} {i : Nat} {m : Str → Option Value}, P.Nodup → P[i]? = some x → vs[i]? = some v → kindOf x = some .local →
    bindL kindOf (P.zip vs) m x = some v
  | [], _, _, _, _, h, _, _ => by simp at h
  | _ :: _, [], _, _, _, _, h, _ => by simp at h
  | p :: P, w :: vs, 0, m, nd, h1, h2, hk => by
    simp at h1 h2; subst h1; subst h2
    show bindL kindOf ((p, w) :: P.zip vs) m p = _
    unfold bindL
    rw [bindL_out fun v hv => (List.nodup_cons.mp nd).1 (List.of_mem_zip hv).1, if_pos hk]
    simp
  | p :: P, w :: vs, i + 1, m, nd, h1, h2, hk => by
    show bindL kindOf ((p, w) :: P.zip vs) m x = _
    unfold bindL
    exact bindL_get (i := i) (List.nodup_cons.mp nd).2 (by simpa using h1) (by simpa using h2) hk
theorem bindC_get {kindOf : Str → Option NameKind} {x : Str} {v : Value} : ∀ {P : List Str} {vs : List Value} {i : Nat} {m : Str → Option Value}, P.Nodup → P[i]? = some x → vs[i]? = some v → kindOf x ≠ some .local →
    bindC kindOf (P.zip vs) m x = some v
  | [], _, _, _, _, h, _, _ => by simp at h
  | _ :: _, [], _, _, _, _, h, _ => by simp at h
  | p :: P, w :: vs, 0, m, nd, h1, h2, hk => by
    simp at h1 h2; subst h1; subst h2
    show bindC kindOf ((p, w) :: P.zip vs) m p = _
    unfold bindC
    rw [bindC_out fun v hv => (List.nodup_cons.mp nd).1 (List.of_mem_zip hv).1, if_neg hk]
    simp
  | p :: P, w :: vs, i + 1, m, nd, h1, h2, hk => by
    show bindC kindOf ((p, w) :: P.zip vs) m x = _
    unfold bindC
    exact bindC_get (i := i) (List.nodup_cons.mp nd).2 (by simpa using h1) (by simpa using h2) hk

/-- the names' values at the entry -/
def start (N : List Str) (vs : List V) : St := vs.map some ++ List.replicate (N.length - vs.length) none

/-- the context of a def's body, at its entry; an exception leaves the frame, then lies as CX says -/
def cxOf (CX : CXT) (P : Program) (w : World) (K : PySem.W.Frag) (mg : Str → Option Value) (base : Heap) (N : List Str) (qual : Str) (scope : Scope) (f : Addr) (cd : Value) (A : Around) (outer : List Env) (s : Shared) (H : Hp) (E : XK) : Cx where
  prog := P
  w := w
  K := K
  mg := mg
  base := base
  A := A.deeper (envOfC qual scope s.heap.objs.size f cd)
  N := N
  s₀ := s
  H₀ := H
  env := envOfC qual scope s.heap.objs.size f cd
  outer := outer
  stack := envOfC qual scope s.heap.objs.size f cd :: outer
  ex := []
  calm := true
  fn := fun _ => true
  pn := []
  xe := fun e s' => wpAny (model P w) (A.deeper (envOfC qual scope s.heap.objs.size f cd)) (leaving (envOfC qual scope s.heap.objs.size f cd) e) (fun _ s'' => CX outer H s E e s'') (fun e' s'' => CX outer H s E e' s'') s'

theorem cell_has {sc : Scope} {n : Nat} {x : Str} (h : sc.names.lookup x = some .cell) : ∃ c, (cellsFrom n sc.names []).lookup x = some c := by
  have q := PySem.W.cellsFrom_some sc.names n [] (.inl h)
  exact Option.isSome_iff_exists.mp q

theorem inv_start {CX : CXT} {P : Program} {w : World} {K : PySem.W.Frag} {mg : Str → Option Value} {base : Heap} {N ps : List Str} {qual : Str} {scope : Scope} {f : Addr} {cd : Value} {A : Around} {outer : List Env} {s s1 : Shared} {H : Hp} {E : XK} {us : List Value} {vs : List V}
    (S : FnScope N ps scope) (hd : A.handled = none) (e0 : Env0 P w K mg base A outer s H) (hl : vs.length = ps.length) (r : Vals vs us)
    (x : InCallC s s.heap.objs.size (bindL (envOfC qual scope s.heap.objs.size f cd).kindOf (ps.zip us) fun _ => none) (cellsFrom (s.heap.objs.size + 1) scope.names []) (bindC (envOfC qual scope s.heap.objs.size f cd).kindOf (ps.zip us) fun _ => none) s1) :
    Inv (cxOf CX P w K mg base N qual scope f cd A outer s H E) [] (start N vs) H s1 := by
  have hpl : ps.length ≤ N.length := by have := congrArg List.length S.pre; rw [List.length_take] at this; omega
  obtain ⟨h1, tk, rfl, hk⟩ := x.done
  have noA : ∀ b : Addr, b ∉ (cxOf CX P w K mg base N qual scope f cd A outer s H E).ex := fun b z => absurd (show b ∈ ([] : List Addr) from z) (by simp)
  refine ⟨⟨e0.mod, S.kind, rfl, rfl, Nat.le_refl _, fun y z c h1 h2 => ?_, fun y hy => ?_, fun y c _ h => ?_, fun _ => hd, Around.frames_deeper e0.frames, .inr ⟨rfl, rfl⟩, fun b z => absurd z (noA b), e0.bs, e0.bsz, fun b _ _ => noA b, fun b z => absurd z (noA b), e0.funs, e0.frf⟩,
    rfl, e0.bare, Un.kept hk, ⟨_, x.toInCall.ns, fun i y v h1 h2 h3 => ?_⟩, fun y c h => ⟨_, x.cell y c h⟩, e0.hok.fresh (Nat.le_refl _), fun y c h => ?_, fun p hp => absurd (show p ∈ ([] : List (Addr × Obj)) from hp) (by simp), e0.hok.kept hk, ?_⟩
  · exact name_of_addr x.apart (PySem.mem_of_lookup h1) (PySem.mem_of_lookup h2)
  · have hy : scope.names.lookup y = some .cell ∨ scope.names.lookup y = some .free := hy
    rcases hy with hy | hy
    · exact cell_has hy
    · exact absurd rfl (S.nofree _ (PySem.mem_of_lookup hy))
  · exact Nat.le_of_lt (x.above y c (PySem.mem_of_lookup h))
  · have hi : i < vs.length := by
      unfold start at h2
      by_cases hi : i < vs.length
      · exact hi
      · rw [List.getElem?_append_right (by simpa using hi)] at h2
        rw [List.getElem?_replicate] at h2
        split at h2 <;> cases h2
    have ha : vs[i]? = some v := by
      unfold start at h2
      rw [List.getElem?_append_left (by simpa using hi), List.getElem?_map] at h2
      cases e : vs[i]? with
      | none => rw [e] at h2; cases h2
      | some a => rw [e] at h2; cases h2; rfl
    obtain ⟨u, hu, rv⟩ := r.get ha
    have hp : ps[i]? = some y := by
      rw [← S.pre, List.getElem?_take_of_lt (by omega)]; exact h1
    have ndP : ps.Nodup := by rw [← S.pre]; exact S.nd.sublist (List.take_sublist _ _)
    refine ⟨u, rv, ?_⟩
    rcases S.par y (List.mem_of_getElem? hp) with k | k
    · exact .inl ⟨k, bindL_get ndP hp hu k⟩
    · obtain ⟨c, e⟩ := cell_has (n := s.heap.objs.size + 1) k
      refine .inr ⟨.inl k, c, e, ?_⟩
      have q := x.cell y c e
      rw [bindC_get ndP hp hu (by show scope.names.lookup y ≠ _; rw [k]; decide)] at q
      exact q
  · exact e0.hok.fresh (Nat.le_of_lt (x.above y c (PySem.mem_of_lookup h)))
  · unfold start
    show _ = N.length
    rw [List.length_append, List.length_map, List.length_replicate]
    omega

/-- THE RULE: a def (or a method) of the text, by its body. The body's reading t is chosen for each entry; it is run at the parameters' values -/
theorem fn_of {CX : CXT} {P : Program} {w : World} {K : PySem.W.Frag} {mg : Str → Option Value} {base : Heap} {k : Nat} {f : Addr} {name qual : Str} {params : Arguments} {body : List Stmt} {scope : Scope} {dV kV doc pm cdv ct oc : Value} {an od : Option Addr}
    {osl : Array (Option Value)} {N ps : List Str} {sp : Sp} (lk : K.lookup f = some ⟨oc, od, .func (PySem.W.fnOf name qual params body scope dV kV doc pm an cdv ct), osl⟩) (hcd : PySem.W.codeIn K cdv qual = true) (S : FnScope N ps scope)
    (len : ∀ vs H Q E, sp vs H Q E → vs.length = ps.length)
    (hbody : ∀ (A : Around) (outer : List Env) (s : Shared) (H : Hp) (vs : List V) (Q : VK) (E : XK), Room k (A.deeper (envOfC qual scope s.heap.objs.size f cdv)) → sp vs H Q E →
      ∃ t, PSs (cxOf CX P w K mg base N qual scope f cdv A outer s H E) body t ∧ t { nx := fun _ H' => Q .non H', rt := Q } (start N vs) H) :
    FnOk P w K mg base CX (k + 1) f (PySem.W.fnOf name qual params body scope dV kV doc pm an cdv ct) ps sp := by
  refine ⟨len, fun A outer s H args us vs Q E hr e0 hb r hsp => ?_⟩
  have hl := len _ _ _ _ hsp
  have KX : K.In s.heap := e0.mod.kin.keeps fun b o e => (e0.bs b o e).1
  have lim : s.heap.NoLimit := e0.mod.nolimit.keeps fun b o e => (e0.bs b o e).1
  have hkind : ∀ y ∈ ps.zip us, scope.names.lookup y.1 = some .local ∨ (scope.names.lookup y.1 = some .cell ∧ ((cellsFrom (s.heap.objs.size + 1) scope.names []).lookup y.1).isSome = true) := fun ⟨n, v⟩ hy => by
    rcases S.par n (List.of_mem_zip hy).1 with q | q
    · exact .inl q
    · exact .inr ⟨q, PySem.W.cellsFrom_some _ _ _ (.inl q)⟩
  refine codeAny_call_function hr.depth (KX _ _ lk) rfl S.co S.gen rfl (PySem.W.codeRec_of KX hcd) (hb _ _ _ _ ?_)
  refine wpAny_newFunctionEnv_cells S.kind hkind fun env he s1 x => ?_
  subst he
  refine ⟨lim.keeps x.toInCall.keep, codeAny_func ?_⟩
  obtain ⟨t, ht, hq⟩ := hbody A outer s H vs Q E (hr.deeper _) hsp
  have I : Inv (cxOf CX P w K mg base N qual scope f cdv A outer s H E) [] (start N vs) H s1 := inv_start S hr.hd e0 hl r x
  refine wpAny_mono (ht [] s1 (start N vs) H _ I hq) (fun fl s' hs => ?_) fun e s' hs => hs
  have fin : ∀ {σ' : St} {H' : Hp} {v : V} {u : Value}, Inv (cxOf CX P w K mg base N qual scope f cdv A outer s H E) [] σ' H' s' → RelV v u → Q v H' → CE outer P w H s Q u s' :=
    fun {σ' H' v u} J rv q => ⟨v, H', J.os, J.bare, J.base, J.hok, rv, q⟩
  cases fl with
  | ret u =>
    obtain ⟨v, σ', H', J, rv, q⟩ := hs
    exact fin J rv q
  | next =>
    obtain ⟨σ', H', J, q⟩ := hs
    exact fin (v := V.non) (u := Value.none) J rfl q
  | brk =>
    obtain ⟨_, _, _, q⟩ := hs
    exact False.elim q
  | cont =>
    obtain ⟨_, _, _, q⟩ := hs
    exact False.elim q
end L2

namespace L2
open PySem PySem.Spec PyProof.Rows
section
variable {X : Cx} {x : Str} {p pos : Pos} {e : Expr} {es : List Expr} {t : TA} {id T : String} {r : List V → Hp → VK → Prop}

def tCB (r : List V → Hp → VK → Prop) (t : TA) : TE := fun σ H Q => t σ H fun vs H1 => r vs H1 Q
/-- f(e, ..), f a built-in function -/
theorem pe_callB (hc : CallR X (.builtin id) r) (hg : Gl X x) (hm : X.mg x = none) (hv : bootBuiltins x = some (.builtin id)) (ha : PA X (e :: es) t) (hn : x ≠ "__name__" := by decide) (hdb : (x == ("__debug__" : Str)) = false := by decide)
    (he : starEach (e :: es) X.env = (false, eval e X.env) :: starEach es X.env := by rfl) (hpl : (backTo pos (starEach es X.env)).any (·.1) = false := by rfl) : PE X (.Call (.Name x p) (e :: es) [] pos) (tCB r t) := by
  intro pins s σ H Q I h
  refine wpAny_Call_Name_kw (ld_blt I hg hm hv ?_ hn hdb)
  exact PyProof.Rows.callWith_builtin1 (thn (ha pos pins s σ H _ I h) fun us s1 ⟨vs, H1, I1, r1, q1⟩ => hc pins s1 σ H1 vs us Q I1 r1 q1) he hpl
/-- T(e, ..), T a built-in type -/
theorem pe_callTy (hc : CallR X (.type T) r) (hg : Gl X x) (hm : X.mg x = none) (hv : bootBuiltins x = some (.type T)) (ha : PA X (e :: es) t) (hn : x ≠ "__name__" := by decide) (hdb : (x == ("__debug__" : Str)) = false := by decide)
    (he : starEach (e :: es) X.env = (false, eval e X.env) :: starEach es X.env := by rfl) (hpl : (backTo pos (starEach es X.env)).any (·.1) = false := by rfl) : PE X (.Call (.Name x p) (e :: es) [] pos) (tCB r t) := by
  intro pins s σ H Q I h
  refine wpAny_Call_Name_kw (ld_blt I hg hm hv ?_ hn hdb)
  exact PyProof.Rows.callWith_type1 (thn (ha pos pins s σ H _ I h) fun us s1 ⟨vs, H1, I1, r1, q1⟩ => hc pins s1 σ H1 vs us Q I1 r1 q1) he hpl
/-- T() -/
theorem pe_callTy0 (hc : CallR X (.type T) r) (hg : Gl X x) (hm : X.mg x = none) (hv : bootBuiltins x = some (.type T)) (hn : x ≠ "__name__" := by decide) (hdb : (x == ("__debug__" : Str)) = false := by decide) :
    PE X (.Call (.Name x p) [] [] pos) (tCB r tNil) := by
  intro pins s σ H Q I h
  refine wpAny_Call_Name_kw (ld_blt I hg hm hv ?_ hn hdb)
  exact PyProof.Rows.callWith_type0 (hc pins s σ H [] [] Q I .nil h)
end
end L2

namespace HT
open PySem PyProof.Rows

/-- t < u of tuples of ints -/
def lexLt : List Int → List Int → Bool
  | [], [] => false
  | [], _ :: _ => true
  | _ :: _, [] => false
  | x :: xs, y :: ys => if x = y then lexLt xs ys else decide (x < y)
theorem lexLt_cons (x y : Int) (xs ys : List Int) : lexLt (x :: xs) (y :: ys) = if x = y then lexLt xs ys else decide (x < y) := rfl
theorem lexLt_nil_nil : lexLt [] [] = false := rfl
theorem lexLt_nil_cons (y : Int) (ys : List Int) : lexLt [] (y :: ys) = true := rfl
theorem lexLt_cons_nil (x : Int) (xs : List Int) : lexLt (x :: xs) [] = false := rfl

theorem eqAt_int (A : Around) (s : Shared) (a : Int) (t : Tok) (c : Int) (u : Tok) : ∃ e, SeqAt.EqAt A s (.int a t) (.int c u) e ∧ (e = true ↔ a = c) :=
  ⟨(a == c), SeqAt.EqAt.int_int a t c u, by simp⟩
theorem rcLt_int (A : Around) (s : Shared) (a : Int) (t : Tok) (c : Int) (u : Tok) (prog : Program) (w : World) (E : Value → Shared → Prop) (Q : Value → Shared → Prop) (h : Q (.bool (decide (a < c))) s) :
    wpAny (model prog w) A (richCompare .Lt (.int a t) (.int c u)) Q E s :=
  (PyProof.Rows.lt_int h : wpAny (model prog w) A (compareOp .Lt (.int a t) (.int c u)) Q E s)

section
open PySem.SeqAt
open PySem.AutoSeq1 (wpAny_loadPart')
open PySem.MeetsSeq PySem.MeetsSeq2 PySem.MeetsSeq3

theorem tuple_lt_ints (l b : Addr) (items items2 : Array Value) (n n2 : Nat) (dd dd2 : Option Addr) (sl sl2 : Array (Option Value)) (ns ms : List Int) (hi : IntsAre items.toList ns) (hj : IntsAre items2.toList ms) :
    Meets (Builtin.«tuple.__lt__» ⟨[.ref l, .ref b], []⟩)
      (fun _ R s => s.heap.get? l = some { cls := .type "tuple", dict := dd, data := .seq items n, slots := sl } ∧ s.heap.get? b = some { cls := .type "tuple", dict := dd2, data := .seq items2 n2, slots := sl2 } ∧
        R (.ok (.ret (.bool (lexLt ns ms)))) s) :=
  .of_wp fun prog w A R s h => by
    obtain ⟨hp, g, d, tk, os⟩ := s; obtain ⟨hl, hb, h⟩ := h
    have f2 := AutoSeq1.sub_tuple_tuple
    have z1 : items.size = ns.length := by rw [← hi.length]; simp
    have z2 : items2.size = ms.length := by rw [← hj.length]; simp
    wp_walk using wpAny_loadPart' hl, wpAny_loadPart' hb, wpAny_forIn_list _ (fun rest b s' => b.1 = none ∧ s' = ⟨hp, g, d, tk, os⟩ ∧ ∃ (vs ws : List Value) (ns' ms' : List Int), rest = vs.zip ws ∧
      IntsAre vs ns' ∧ IntsAre ws ms' ∧ ns'.length + items2.size = ms'.length + items.size ∧ R (.ok (.ret (.bool (lexLt ns' ms')))) ⟨hp, g, d, tk, os⟩) _
    case turn =>
      rintro ⟨y, x⟩ rest b s' ⟨hb', rfl, vs, ws, ns', ms', hz, hvi, hwi, hlen, hR⟩
      cases hvi with
      | nil => rw [List.zip_nil_left] at hz; cases hz
      | cons a t hvi' =>
        cases hwi with
        | nil => rw [List.zip_nil_right] at hz; cases hz
        | cons c u hwi' =>
          rw [List.zip_cons_cons] at hz
          injection hz with hyx hrest
          injection hyx with hy hx
          subst hy hx
          rw [lexLt_cons] at hR
          simp only [List.length_cons] at hlen
          obtain ⟨e, he, hiff⟩ := eqAt_int A.in1 ⟨hp, g, d, tk, os⟩ a t c u
          refine wpAny_bind (he prog w _ _ ?_)
          cases e with
          | true =>
            rw [if_pos (hiff.mp rfl)] at hR
            wp_walk
            exact ⟨rfl, rfl, _, _, _, _, hrest, hvi', hwi', by omega, hR⟩
          | false =>
            rw [if_neg (fun q => absurd (hiff.mpr q) Bool.false_ne_true)] at hR
            have hri := rcLt_int A.in1 ⟨hp, g, d, tk, os⟩ a t c u prog w
            wp_walk using hri
            exact ⟨_, rfl, by simpa using hR⟩
    case fin =>
      rintro ⟨b1, b2⟩ s' ⟨hb', rfl, vs, ws, ns', ms', hz, hvi, hwi, hlen, hR⟩
      simp only at hb'
      subst hb'
      have hv : lexLt ns' ms' = decide (items.size < items2.size) := by
        cases hvi with
        | nil =>
          cases hwi with
          | nil =>
            simp only [List.length_nil] at hlen
            rw [lexLt_nil_nil]
            exact (decide_eq_false (by omega)).symm
          | cons c u hw =>
            simp only [List.length_nil, List.length_cons] at hlen
            rw [lexLt_nil_cons]
            exact (decide_eq_true (by omega)).symm
        | cons a t hv =>
          cases hwi with
          | nil =>
            simp only [List.length_nil, List.length_cons] at hlen
            rw [lexLt_cons_nil]
            exact (decide_eq_false (by omega)).symm
          | cons c u hw =>
            rw [List.zip_cons_cons] at hz
            cases hz
      rw [hv] at hR
      wp_walk
      exact ⟨_, rfl, by simpa [Builtin.Tuple.tupleCompareSizes] using hR⟩
    case h =>
      exact ⟨rfl, rfl, items.toList, items2.toList, ns, ms, rfl, hi, hj, by omega, h⟩
end

section
variable {prog : Program} {w : World} {A : Around} {E : Value → Shared → Prop} {s : Shared}

theorem lt_tupInts {l b : Addr} {items items2 : Array Value} {ns ms : List Int} {Q : Value → Shared → Prop} (hl : IsTup s.heap l items) (hb : IsTup s.heap b items2) (hi : IntsAre items.toList ns) (hj : IntsAre items2.toList ms)
    (hu : A.units < cLine) (h : Q (.bool (lexLt ns ms)) s) : wpAny (model prog w) A (compareOp .Lt (.ref l) (.ref b)) Q E s := by
  obtain ⟨⟨cls, dd, data, sl⟩, ho, hc, n, hd⟩ := id hl
  obtain ⟨⟨cls2, dd2, data2, sl2⟩, ho2, hc2, n2, hd2⟩ := id hb
  simp only at hc hd hc2 hd2
  subst hc hd hc2 hd2
  exact richCompare_meets_room (op := .Lt) ⟨_, ho, rfl⟩ ⟨_, ho2, rfl⟩ PySem.F.slot_tuple_lt PySem.F.entry_tuple_lt (PySem.F.args_tuple_lt_2 _ _) (tuple_lt_ints l b items items2 n n2 dd dd2 sl sl2 ns ms hi hj)
    ⟨ho, ho2, show Value.bool (lexLt ns ms) ≠ Value.notImplemented ∧ Q (.bool (lexLt ns ms)) s from ⟨(fun x => nomatch x), h⟩⟩ hu

/-- t + u, t not empty -/
theorem cat_tup {t b : Addr} {vs ws : List Value} {Q : Value → Shared → Prop} (ht : IsTup s.heap t vs.toArray) (hb : IsTup s.heap b ws.toArray) (hv : vs ≠ [])
    (h1 : ws = [] → Q (.ref t) s) (h2 : ws ≠ [] → Q (.ref s.heap.objs.size) { s with heap := s.heap.push { cls := .type "tuple", data := .seq (vs ++ ws).toArray } })
    (hsz : vs.length + ws.length ≤ sizeLine) : wpAny (model prog w) A (binaryOp .Add (.ref t) (.ref b)) Q E s := by
  obtain ⟨⟨cls, dd, data, sl⟩, ho, hc, n, hd⟩ := id ht
  obtain ⟨⟨cls2, dd2, data2, sl2⟩, ho2, hc2, n2, hd2⟩ := id hb
  simp only at hc hd hc2 hd2
  subst hc hd hc2 hd2
  have e : vs.toArray ++ ws.toArray = (vs ++ ws).toArray := by simp
  by_cases hw : ws = []
  · exact concat_meets ⟨_, ho, rfl⟩ ⟨_, ho2, rfl⟩ noFill_tuple_add seq_tuple_add PySem.F.slot_tuple_add PySem.F.entry_tuple_add (PySem.F.args_tuple_add_2 _ _)
      (tuple_addW1 t b vs.toArray ws.toArray n n2 dd dd2 sl sl2 (by simpa using hv) (by simp [hw])) ⟨ho, ho2, h1 hw⟩
  · refine concat_meets ⟨_, ho, rfl⟩ ⟨_, ho2, rfl⟩ noFill_tuple_add seq_tuple_add PySem.F.slot_tuple_add PySem.F.entry_tuple_add (PySem.F.args_tuple_add_2 _ _)
      (tuple_addW2 t b vs.toArray ws.toArray n n2 dd dd2 sl sl2 (by simpa using hv) (by simpa using hw) (by rw [List.size_toArray, List.size_toArray]; exact hsz)) ⟨ho, ho2, ?_⟩
    rw [e]
    exact h2 hw

/-! ### t[a:b], not the whole -/
/-- a slice's bound as a place among n (d where it is left out) -/
def sIx (n d : Nat) : Option Int → Nat
  | none => d
  | some v => if v < 0 then (v + (n : Int)).toNat else min v.toNat n
theorem sIx_none (n d : Nat) : sIx n d none = d := rfl
theorem sIx_nat (n d k : Nat) : sIx n d (some (k : Int)) = min k n := by
  show (if (k : Int) < 0 then ((k : Int) + (n : Int)).toNat else min (k : Int).toNat n) = min k n
  rw [if_neg (by omega), Int.toNat_natCast]
theorem sIx_le (n d : Nat) (hd : d ≤ n) (o : Option Int) : sIx n d o ≤ n := by
  cases o with
  | none => exact hd
  | some v =>
    show (if v < 0 then (v + (n : Int)).toNat else min v.toNat n) ≤ n
    by_cases hv : v < 0
    · rw [if_pos hv]; omega
    · rw [if_neg hv]; exact Nat.min_le_right _ _
theorem clip_eq (v : Int) (n d : Nat) : (if v < 0 then max (v + (n : Int)) 0 else min v (n : Int)) = ((sIx n d (some v) : Nat) : Int) := by
  show (if v < 0 then max (v + (n : Int)) 0 else min v (n : Int)) = (((if v < 0 then (v + (n : Int)).toNat else min v.toNat n) : Nat) : Int)
  by_cases hv : v < 0
  · simp only [if_pos hv]; omega
  · simp only [if_neg hv]; omega
theorem adjust_gen (lo hi : Option Int) (n : Nat) : Builtin.Slice.sliceAdjust lo hi 1 (n : Int) = (((sIx n 0 lo : Nat) : Int), ((sIx n n hi : Nat) : Int)) := by
  have h1 : ¬ ((1 : Int) < 0) := by omega
  unfold Builtin.Slice.sliceAdjust
  simp only [h1, if_false]
  refine Prod.ext ?_ ?_
  · cases lo with
    | none => rfl
    | some v => exact clip_eq v n 0
  · cases hi with
    | none => rfl
    | some v => exact clip_eq v n n
theorem places_gen (i j : Nat) : Builtin.Slice.slicePlaces (i : Int) (j : Int) 1 = j - i := by
  unfold Builtin.Slice.slicePlaces
  have h1 : (1 : Int) > 0 := by omega
  simp only [h1, if_true, Int.ediv_one]
  split <;> omega
theorem slicePart_ {v : Value} {o : Option Int} {Q : Option Int → Shared → Prop} (p : IsPart v o) (h : Q o s) : wpAny (model prog w) A (Builtin.Slice.slicePartIndex v) Q E s := by
  cases p with
  | none => exact slicePart_none h
  | int i t => exact slicePart_int h
theorem sliceApplied_gen {sl : Addr} {vl vu : Value} {lo hi : Option Int} {n : Nat} {Q : Int × Int × Nat → Shared → Prop} (hs : s.heap.IsSliceOf sl vl vu .none) (pl : IsPart vl lo) (pu : IsPart vu hi)
    (h : Q (((sIx n 0 lo : Nat) : Int), 1, sIx n n hi - sIx n 0 lo) s) : wpAny (model prog w) A (Builtin.Slice.sliceApplied (.ref sl) (pure (n : Int))) Q E s := by
  obtain ⟨os, hos, hcs, hds⟩ := id hs
  unfold Builtin.Slice.sliceApplied Builtin.Slice.sliceFields
  refine wpAny_bind (wpAny_bind (wpAny_field hos hds (x := vl) rfl (wpAny_bind (wpAny_field hos hds (x := vu) rfl (wpAny_bind (wpAny_field hos hds (x := .none) rfl (wpAny_pure ?_)))))))
  refine wpAny_bind (slicePart_none ?_)
  show wpAny _ _ (if ((1 : Int) == 0) = true then _ else _) _ _ s
  rw [if_neg (by decide)]
  refine wpAny_bind (slicePart_ pl (wpAny_bind (slicePart_ pu (wpAny_bind (wpAny_pure ?_)))))
  show wpAny _ _ (match Builtin.Slice.sliceAdjust lo hi 1 (n : Int) with | (lo, hi) => pure (lo, (1 : Int), Builtin.Slice.slicePlaces lo hi 1)) _ _ s
  rw [adjust_gen lo hi n]
  show wpAny _ _ (pure (((sIx n 0 lo : Nat) : Int), (1 : Int), Builtin.Slice.slicePlaces ((sIx n 0 lo : Nat) : Int) ((sIx n n hi : Nat) : Int) 1)) _ _ s
  rw [places_gen]
  exact wpAny_pure h
theorem pick_gen (xs : Array Value) (i k : Nat) : ((List.range k).filterMap fun (m : Nat) => xs[((i : Int) + (m : Int) * 1).toNat]?).toArray = ((xs.toList.drop i).take k).toArray := by
  have e : (fun (m : Nat) => xs[((i : Int) + (m : Int) * 1).toNat]?) = fun m => xs[i + m]? := by
    funext m
    have : ((i : Int) + (m : Int) * 1).toNat = i + m := by omega
    rw [this]
  rw [e]
  have := pick_run xs i k
  rw [List.filterMap_map] at this
  have e2 : ((fun x => xs[x]?) ∘ fun x => i + x) = fun m => xs[i + m]? := rfl
  rw [e2] at this
  rw [this]

theorem getItem_tuple_cut {t sl : Addr} {items : Array Value} {vl vu : Value} {lo hi : Option Int} {Q : Value → Shared → Prop} (ht : IsTup s.heap t items) (hs : s.heap.IsSliceOf sl vl vu .none) (pl : IsPart vl lo) (pu : IsPart vu hi)
    (hw : ¬ (sIx items.size 0 lo = 0 ∧ sIx items.size items.size hi = items.size))
    (h : Q (.ref s.heap.objs.size) { s with heap := s.heap.push { cls := .type "tuple", data := .seq ((items.toList.drop (sIx items.size 0 lo)).take (sIx items.size items.size hi - sIx items.size 0 lo)).toArray } })
    (hsz : items.size ≤ sizeLine) : wpAny (model prog w) A (getItem (.ref t) (.ref sl)) Q E s := by
  have htake : sizeOk (.seq ((items.toList.drop (sIx items.size 0 lo)).take (sIx items.size items.size hi - sIx items.size 0 lo)).toArray) := by
    show ((items.toList.drop (sIx items.size 0 lo)).take (sIx items.size items.size hi - sIx items.size 0 lo)).toArray.size ≤ sizeLine
    rw [List.size_toArray, List.length_take, List.length_drop, Array.length_toList]
    omega
  have hj : sIx items.size items.size hi ≤ items.size := sIx_le _ _ (Nat.le_refl _) hi
  obtain ⟨os, hos, hcs, hds⟩ := id hs
  have hTs : s.TypeIs (.ref sl) "slice" := ⟨os, hos, hcs⟩
  unfold getItem
  try with_reducible refine wpAny_holding ?_
  first | refine wpAny_bind (wpAny_pure ?_) | skip
  refine wpAny_bind (wpAny_sequenceKey ht.typeIs (by decide) ?_)
  refine wpAny_bind (wpAny_callSpecial?_slot (name := Str.ofString "__getitem__") ht.typeIs PyProof.Rows.slot_tuple_getitem
    (wpAny_call_entry PyProof.Rows.slot_tuple_getitem ht.typeIs entry_tuple_getitem ?_ (args_tuple_getitem _ _)))
  show wpAny _ _ (Builtin.Tuple.tupleItemsOf (.ref t) >>= _) _ _ s
  refine wpAny_bind (tupleItemsOf_ ht ?_)
  refine wpAny_bind (wpAny_typeOf hTs ?_)
  rw [if_pos (by decide)]
  refine wpAny_bind (sliceApplied_gen hs pl pu ?_)
  have hno : ¬ ((((sIx items.size 0 lo : Nat) : Int) == 0 && (1 : Int) == 1 && (sIx items.size items.size hi - sIx items.size 0 lo) == items.size) = true) := by
    intro q
    rw [Bool.and_eq_true, Bool.and_eq_true] at q
    have q1 : ((sIx items.size 0 lo : Nat) : Int) = 0 := eq_of_beq q.1.1
    have q2 : sIx items.size items.size hi - sIx items.size 0 lo = items.size := eq_of_beq q.2
    exact hw ⟨by omega, by omega⟩
  show wpAny _ _ (if (((sIx items.size 0 lo : Nat) : Int) == 0 && (1 : Int) == 1 && (sIx items.size items.size hi - sIx items.size 0 lo) == items.size) = true then _ else _) _ _ s
  rw [if_neg hno, pick_gen]
  first
    | exact wpAny_bind (m := Builtin.Tuple.tupleExact _) (wpAny_newObj_type (wpAny_pure ⟨_, rfl, wpAny_pure h⟩) htake)
    | exact wpAny_bind (m := Builtin.Tuple.tupleExact _) (wpAny_newObj_type (wpAny_bind (wpAny_pure (wpAny_pure ⟨_, rfl, wpAny_pure h⟩))) htake)
    | exact wpAny_bind (wpAny_bind (m := Builtin.Tuple.tupleExact _) (wpAny_newObj_type (wpAny_pure (wpAny_pure ⟨_, rfl, wpAny_pure h⟩)) htake))
    | exact wpAny_bind (wpAny_bind (m := Builtin.Tuple.tupleExact _) (wpAny_newObj_type (wpAny_pure ⟨_, rfl, wpAny_pure h⟩) htake))
end
end HT

namespace L2
open PySem PySem.Spec PyProof.Rows

/-! ### the parts of a slice -/
abbrev TO := St → Hp → (Option Int → Hp → Prop) → Prop
/-- a slice's part (left out, or an int) -/
def PO (X : Cx) (e : Option Expr) (t : TO) : Prop :=
  ∀ (pins : List (Addr × Obj)) (s : Shared) (σ : St) (H : Hp) (Q : Option Int → Hp → Prop), Inv X pins σ H s → t σ H Q →
    wpAny (model X.prog X.w) X.A (evalPart e X.env) (fun u s' => ∃ o H', Inv X pins σ H' s' ∧ IsPart u o ∧ Q o H') X.xe s
def tNoPart : TO := fun _ H Q => Q none H
def tPart (t : TE) : TO := fun σ H Q => t σ H fun x H1 => ∃ i, x = .int i ∧ Q (some i) H1

theorem intsAre_of {ns : List Int} : ∀ {us : List Value}, Vals (ns.map V.int) us → IntsAre us ns := by
  induction ns with
  | nil => intro us r; rw [List.map_nil] at r; cases r; exact .nil
  | cons n ns ih =>
    intro us r
    rw [List.map_cons] at r
    cases r with
    | cons r1 r2 =>
      obtain ⟨t, e⟩ := r1
      subst e
      exact .cons n t (ih r2)

section
variable {X : Cx} {e : Expr} {te : TE} {lo hi : Option Expr} {tl th : TO} {pos p2 : Pos}

theorem po_none : PO X none tNoPart := by
  intro pins s σ H Q I h
  rw [evalPart_none]
  exact wpAny_pure ⟨none, H, I, .none, h⟩
theorem po_some (h : PE X e te) : PO X (some e) (tPart te) := by
  intro pins s σ H Q I hw
  rw [evalPart_some]
  refine thn (h pins s σ H _ I hw) fun u s1 ⟨x, H1, I1, r1, q1⟩ => ?_
  obtain ⟨i, rfl, q⟩ := q1
  obtain ⟨t, rfl⟩ := r1
  exact ⟨some i, H1, I1, .int i t, q⟩

/-- what a slice of a value is, by values: the slice object stands at sl -/
def SlR (X : Cx) (r : V → Option Int → Option Int → Hp → VK → Prop) : Prop :=
  ∀ (pins : List (Addr × Obj)) (s : Shared) (σ : St) (H : Hp) (x : V) (v vl vu : Value) (lo hi : Option Int) (sl : Addr) (Q : VK), Inv X pins σ H s → RelV x v → s.heap.IsSliceOf sl vl vu .none → IsPart vl lo → IsPart vu hi → r x lo hi H Q →
    ∃ T id, typeLookup (.type T) "__getitem__" = pure (some (.builtin id)) ∧ s.TypeIs v T ∧ wpAny (model X.prog X.w) X.A (getItem v (.ref sl)) (EP X pins σ Q) X.xe s
theorem SlR.or {r r' : V → Option Int → Option Int → Hp → VK → Prop} (h : SlR X r) (h' : SlR X r') : SlR X (fun x lo hi H Q => r x lo hi H Q ∨ r' x lo hi H Q) := by
  intro pins s σ H x v vl vu lo hi sl Q I rx hs pl pu q
  rcases q with q | q
  · exact h pins s σ H x v vl vu lo hi sl Q I rx hs pl pu q
  · exact h' pins s σ H x v vl vu lo hi sl Q I rx hs pl pu q
def tSl (r : V → Option Int → Option Int → Hp → VK → Prop) (te : TE) (tl th : TO) : TE := fun σ H Q => te σ H fun x H1 => tl σ H1 fun l H2 => th σ H2 fun u H3 => r x l u H3 Q
/-- a[lo:hi], any a -/
theorem pe_slice {r : V → Option Int → Option Int → Hp → VK → Prop} (hr : SlR X r) (he : PE X e te) (hl : PO X lo tl) (hu : PO X hi th) : PE X (.Subscript e (.Slice lo hi none p2) pos) (tSl r te tl th) := by
  intro pins s σ H Q I h
  refine Subscript_ (thn (he pins s σ H _ I h) fun v s1 ⟨x, H1, I1, r1, q1⟩ => ?_)
  refine wpAny_Slice (thn (hl pins s1 σ H1 _ I1 q1) fun vl s2 ⟨l, H2, I2, pl, q2⟩ => thn (hu pins s2 σ H2 _ I2 q2) fun vu s3 ⟨u, H3, I3, pu, q3⟩ => ?_)
  rw [evalPart_none]
  refine wpAny_pure ?_
  have I4 : Inv X pins σ H3 { s3 with heap := s3.heap.push { cls := .type "slice", data := .fields #[vl, vu, .none] } } := I3.kept (t' := s3.toks) fun b ob q => Heap.get?_push_of_some _ q
  obtain ⟨T, id, hT, ht, hg⟩ := hr pins { s3 with heap := s3.heap.push { cls := .type "slice", data := .fields #[vl, vu, .none] } } σ H3 x v vl vu l u s3.heap.objs.size Q I4 r1 (Heap.IsSliceOf.new ..) pl pu q3
  show wpAny (model X.prog X.w) X.A (subscriptTail e (.Slice lo hi none p2) v (.ref s3.heap.objs.size)) (EP X pins σ Q) X.xe { s3 with heap := s3.heap.push { cls := .type "slice", data := .fields #[vl, vu, .none] } }
  exact tail_any (ops := [.ref s3.heap.objs.size, v]) ht hT hg (by with_unfolding_all rfl)

/-- the items of xs[lo:hi] -/
def cutV (xs : List V) (lo hi : Option Int) : List V := (xs.drop (HT.sIx xs.length 0 lo)).take (HT.sIx xs.length xs.length hi - HT.sIx xs.length 0 lo)
theorem cutV_length (xs : List V) (lo hi : Option Int) : (cutV xs lo hi).length ≤ xs.length := by
  unfold cutV
  rw [List.length_take, List.length_drop]
  omega
/-- t[lo:hi], not the whole of it (the whole would be t itself) -/
def rSlT (K : PySem.W.Frag) : V → Option Int → Option Int → Hp → VK → Prop := fun x lo hi H Q => ∃ a xs, x = .ref a ∧ SqT K H a xs ∧
  ¬ (HT.sIx xs.length 0 lo = 0 ∧ HT.sIx xs.length xs.length hi = xs.length) ∧ ∀ p, H p = none → Q (.ref p) (upd H p (.tup (cutV xs lo hi)))
theorem sl_tup : SlR X (rSlT X.K) := by
  intro pins s σ H x v vl vu lo hi sl Q I rx hs pl pu h
  obtain ⟨a, xs, rfl, hx, hw, q⟩ := h
  cases rx
  obtain ⟨its, r, ht, hz⟩ := I.tuple hx
  have hlen : its.toArray.size = xs.length := by rw [List.size_toArray]; exact r.length.symm
  refine ⟨"tuple", _, PyProof.Rows.slot_tuple_getitem.lookup, ht.typeIs, ?_⟩
  refine HT.getItem_tuple_cut ht hs pl pu (by rw [hlen]; exact hw) ?_ (by rw [hlen]; exact hz)
  rw [hlen]
  refine ⟨.ref s.heap.objs.size, _, I.laid (t' := s.toks) (o := .tup (cutV xs lo hi)) (fun b ob q => Heap.get?_push_of_some _ q) (Nat.le_refl _) ?_, rfl, q _ (I.hok.fresh (Nat.le_refl _))⟩
  exact ⟨Nat.le_trans (cutV_length xs lo hi) hz, _, (r.drop (HT.sIx xs.length 0 lo)).take (HT.sIx xs.length xs.length hi - HT.sIx xs.length 0 lo), ⟨_, Heap.get?_push_size _ rfl, ⟨rfl, _, rfl⟩, rfl⟩⟩

/-! ### t < u, t + u -/
def rLtT (K : PySem.W.Frag) : R2 := fun x y H Q => ∃ a b ns ms, x = .ref a ∧ y = .ref b ∧ SqT K H a (ns.map V.int) ∧ SqT K H b (ms.map V.int) ∧ Q (.bl (HT.lexLt ns ms)) H
theorem op_ltT (hu : X.A.units < cLine) : OpR X (compareOp .Lt) (rLtT X.K) := by
  intro pins s σ H x y v u Q I rx ry h
  obtain ⟨a, b, ns, ms, rfl, rfl, ha, hb, q⟩ := h
  cases rx
  cases ry
  obtain ⟨its, r1, p1, _⟩ := I.tuple ha
  obtain ⟨its2, r2, p2, _⟩ := I.tuple hb
  have i1 : IntsAre its.toArray.toList ns := intsAre_of r1
  have i2 : IntsAre its2.toArray.toList ms := intsAre_of r2
  exact HT.lt_tupInts p1 p2 i1 i2 hu ⟨.bl (HT.lexLt ns ms), H, I, rfl, q⟩
/-- t + u, t not empty: u empty gives t itself -/
def rCatT (K : PySem.W.Frag) : R2 := fun x y H Q => ∃ a b xs ys, x = .ref a ∧ y = .ref b ∧ SqT K H a xs ∧ SqT K H b ys ∧ xs ≠ [] ∧ xs.length + ys.length ≤ sizeLine ∧
  (ys = [] → Q (.ref a) H) ∧ (ys ≠ [] → ∀ p, H p = none → Q (.ref p) (upd H p (.tup (xs ++ ys))))
theorem Vals.nil_iff {xs : List V} {us : List Value} (r : Vals xs us) : us = [] ↔ xs = [] := by
  cases r with
  | nil => simp
  | cons _ _ => simp
theorem op_catT : OpR X (binaryOp .Add) (rCatT X.K) := by
  intro pins s σ H x y v u Q I rx ry h
  obtain ⟨a, b, xs, ys, rfl, rfl, ha, hb, hx, hz, q1, q2⟩ := h
  cases rx
  cases ry
  obtain ⟨its, r1, p1, _⟩ := I.tuple ha
  obtain ⟨its2, r2, p2, _⟩ := I.tuple hb
  refine HT.cat_tup p1 p2 (fun z => hx (r1.nil_iff.mp z)) (fun z => ⟨.ref a, H, I, rfl, q1 (r2.nil_iff.mp z)⟩) (fun z => ?_) (by rw [← r1.length, ← r2.length]; exact hz)
  refine ⟨.ref s.heap.objs.size, _, I.laid (t' := s.toks) (o := .tup (xs ++ ys)) (fun b ob q => Heap.get?_push_of_some _ q) (Nat.le_refl _) ?_, rfl, q2 (fun w => z (r2.nil_iff.mpr w)) _ (I.hok.fresh (Nat.le_refl _))⟩
  exact ⟨by rw [List.length_append]; exact hz, _, r1.append r2, ⟨_, Heap.get?_push_size _ rfl, ⟨rfl, _, rfl⟩, rfl⟩⟩
/-- tuple(t) -/
theorem call_tupleT : CallR X (.type "tuple") (fun xs H Q => ∃ a ys, xs = [.ref a] ∧ SqT X.K H a ys ∧ Q (.ref a) H) := by
  intro pins s σ H xs us Q I r h
  obtain ⟨a, ys, rfl, ha, q⟩ := h
  obtain ⟨u, rfl, ru⟩ := vals1 r
  cases ru
  obtain ⟨its, _, p1, _⟩ := I.tuple ha
  exact call_tuple_same (items := its.toArray) p1 ⟨.ref a, H, I, rfl, q⟩
end
end L2

namespace L2
open PySem PySem.Spec PyProof.Rows

/-! ### places -/
/-- the place that an index of any sign means -/
def ixN (n : Nat) (i : Int) : Option Nat := if 0 ≤ i then (if i < n then some i.toNat else none) else if -(n : Int) ≤ i then some (i + n).toNat else none
def atI {α : Type} (xs : List α) (i : Int) : Option α := (ixN xs.length i).bind fun j => xs[j]?
theorem ixN_seq {n : Nat} {i : Int} {j : Nat} (h : ixN n i = some j) : seqIndex? i n = some j ∧ j < n ∧ -(n : Int) ≤ i ∧ i < n := by
  unfold ixN at h
  by_cases h0 : 0 ≤ i
  · rw [if_pos h0] at h
    by_cases h1 : i < n
    · rw [if_pos h1] at h
      have e : i.toNat = j := Option.some.inj h
      exact ⟨by rw [seqIndex_of h0 h1, e], by omega, by omega, h1⟩
    · rw [if_neg h1] at h; cases h
  · rw [if_neg h0] at h
    by_cases h1 : -(n : Int) ≤ i
    · rw [if_pos h1] at h
      have e : (i + n).toNat = j := Option.some.inj h
      exact ⟨by rw [seqIndex_neg (by omega) h1, e], by omega, h1, by omega⟩
    · rw [if_neg h1] at h; cases h
theorem atI_get {α : Type} {xs : List α} {i : Int} {v : α} (h : atI xs i = some v) : ∃ j, seqIndex? i xs.length = some j ∧ xs[j]? = some v ∧ j < xs.length ∧ -(xs.length : Int) ≤ i ∧ i < xs.length := by
  unfold atI at h
  cases e : ixN xs.length i with
  | none => rw [e] at h; cases h
  | some j =>
    rw [e] at h
    obtain ⟨h1, h2, h3, h4⟩ := ixN_seq e
    exact ⟨j, h1, h, h2, h3, h4⟩
theorem atI_nat {α : Type} {xs : List α} {j : Nat} {v : α} (h : xs[j]? = some v) : atI xs (j : Int) = some v := by
  have hj : j < xs.length := (List.getElem?_eq_some_iff.mp h).1
  have e : ixN xs.length (j : Int) = some j := by
    unfold ixN
    rw [if_pos (by omega), if_pos (by omega)]; simp
  unfold atI; rw [e]; exact h
theorem atI_last {α : Type} (xs : List α) (v : α) : atI (xs ++ [v]) (-1) = some v := by
  have hl : (xs ++ [v]).length = xs.length + 1 := by simp
  have e : ixN (xs ++ [v]).length (-1) = some xs.length := by
    unfold ixN
    rw [hl, if_neg (by decide), if_pos (by omega)]
    congr 1
    omega
  unfold atI
  rw [e]
  show (xs ++ [v])[xs.length]? = some v
  simp

/-! ### what may be subscripted -/
/-- what stands as an index of a plain subscript -/
def PlainIx (b : Expr) : Prop := ∀ o i, subscripted b false o i = operate [o, i] (getItem o i)
/-- a subscript by values -/
def IxR (X : Cx) (r : R2) : Prop :=
  ∀ (value slice : Expr) (pins : List (Addr × Obj)) (s : Shared) (σ : St) (H : Hp) (x y : V) (v u : Value) (Q : VK), Inv X pins σ H s → RelV x v → RelV y u → r x y H Q →
    subscripted slice false v u = operate [v, u] (getItem v u) → wpAny (model X.prog X.w) X.A (subscriptTail value slice v u) (EP X pins σ Q) X.xe s
/-- a call of a builtin's method by values: the receiver, the arguments -/
def MtR (X : Cx) (id : String) (r : V → List V → Hp → VK → Prop) : Prop :=
  ∀ (pins : List (Addr × Obj)) (s : Shared) (σ : St) (H : Hp) (x : V) (xs : List V) (v : Value) (us : List Value) (Q : VK), Inv X pins σ H s → RelV x v → Vals xs us → r x xs H Q →
    wpAny (model X.prog X.w) X.A (call (.builtin id) (v :: us)) (EP X pins σ Q) X.xe s
section
variable {X : Cx} {a b : Expr} {ta tb : TE} {pos : Pos}
theorem IxR.or {r r' : R2} (h : IxR X r) (h' : IxR X r') : IxR X (fun x y H Q => r x y H Q ∨ r' x y H Q) := by
  intro value slice pins s σ H x y v u Q I rx ry q hs
  rcases q with q | q
  · exact h value slice pins s σ H x y v u Q I rx ry q hs
  · exact h' value slice pins s σ H x y v u Q I rx ry q hs
theorem MtR.or {id : String} {r r' : V → List V → Hp → VK → Prop} (h : MtR X id r) (h' : MtR X id r') : MtR X id (fun x xs H Q => r x xs H Q ∨ r' x xs H Q) := by
  intro pins s σ H x xs v us Q I rx rs q
  rcases q with q | q
  · exact h pins s σ H x xs v us Q I rx rs q
  · exact h' pins s σ H x xs v us Q I rx rs q
/-- a[b] -/
theorem pe_ix {r : R2} (hr : IxR X r) (ha : PE X a ta) (hb : PE X b tb) (hs : PlainIx b) : PE X (.Subscript a b pos) (tOp r ta tb) := by
  intro pins s σ H Q I h
  exact Subscript_ (binT ha hb I h fun v u s2 x y H2 I2 rx ry q => hr a b pins s2 σ H2 x y v u Q I2 rx ry q (hs _ _))

def rIxL (K : PySem.W.Frag) : R2 := fun x y H Q => ∃ p xs i v, x = .ref p ∧ y = .int i ∧ SqL K H p xs ∧ atI xs i = some v ∧ Q v H
def rIxT (K : PySem.W.Frag) : R2 := fun x y H Q => ∃ p xs i v, x = .ref p ∧ y = .int i ∧ SqT K H p xs ∧ atI xs i = some v ∧ Q v H
def rIxS : R2 := fun x y H Q => ∃ z i c, x = .str z ∧ y = .int i ∧ z.length ≤ sizeLine ∧ atI z.cps.toList i = some c ∧ Q (.str ⟨#[c]⟩) H
theorem ix_list : IxR X (rIxL X.K) := by
  intro value slice pins s σ H x y v u Q I rx ry h hs
  obtain ⟨p, xs, i, z, rfl, rfl, hq, he, q⟩ := h
  cases rx
  obtain ⟨t, rfl⟩ := ry
  obtain ⟨its, r, pl, hz⟩ := I.list hq
  obtain ⟨j, h1, h2, h3, h4, h5⟩ := atI_get he
  obtain ⟨w, ew, rw'⟩ := r.get h2
  have hl := r.length
  have hn := line63
  have fin : EP X pins σ Q w s := ⟨z, H, I, rw', q⟩
  by_cases h0 : 0 ≤ i
  · have hj : i.toNat = j := by
      rw [seqIndex_of h0 h5] at h1
      exact Option.some.inj h1
    exact item_listR pl.isList h0 (by omega) (by rw [hj]; simpa using ew) fin hs
  · have hj : (i + (its.toArray.size : Int)).toNat = j := by
      rw [seqIndex_neg (by omega) h4] at h1
      rw [List.size_toArray, ← hl]
      exact Option.some.inj h1
    exact subscriptTail_builtinR (x := w) pl.isList.typeIs slot_list_getitem.lookup
      (wpAny_getItem_list_neg (Q := fun r s' => r = w ∧ EP X pins σ Q r s') pl.isList (by omega) (by rw [List.size_toArray] <;> omega) (by omega) (by rw [hj]; simpa using ew) ⟨rfl, fin⟩) hs
theorem ix_tup : IxR X (rIxT X.K) := by
  intro value slice pins s σ H x y v u Q I rx ry h hs
  obtain ⟨p, xs, i, z, rfl, rfl, hq, he, q⟩ := h
  cases rx
  obtain ⟨t, rfl⟩ := ry
  obtain ⟨its, r, pl, hz⟩ := I.tuple hq
  obtain ⟨j, h1, h2, h3, h4, h5⟩ := atI_get he
  obtain ⟨w, ew, rw'⟩ := r.get h2
  have hl := r.length
  have hn := line63
  have fin : EP X pins σ Q w s := ⟨z, H, I, rw', q⟩
  exact subscriptTail_builtinR (x := w) pl.typeIs slot_tuple_getitem.lookup
    (getItem_tuple (j := j) (Q := fun r s' => r = w ∧ EP X pins σ Q r s') pl (by omega) (by omega) (by rw [List.size_toArray, ← hl]; exact h1) (by simpa using ew) ⟨rfl, fin⟩) hs
theorem ix_str : IxR X rIxS := by
  intro value slice pins s σ H x y v u Q I rx ry h hs
  obtain ⟨z, i, c, rfl, rfl, hz, he, q⟩ := h
  obtain ⟨t, rfl⟩ := rx
  obtain ⟨t', rfl⟩ := ry
  obtain ⟨j, h1, h2, h3, h4, h5⟩ := atI_get he
  have hl : z.cps.toList.length = z.length := by simp [Str.length]
  rw [hl] at h1 h4 h5
  have hn := line63
  exact tail_any (typeIs_str s z t) slot_str_getitem.lookup (getItem_str (c := c) (by
    have e1 : decide (i < -(2 ^ 63 : Int)) = false := decide_eq_false (by omega)
    have e2 : decide (i ≥ 2 ^ 63) = false := decide_eq_false (by omega)
    rw [e1, e2, Bool.or_false]) (by rw [h1]; simpa using h2) ⟨.str ⟨#[c]⟩, H, I.tok _, ⟨_, rfl⟩, q⟩) hs
/-- list, tuple or str -/
def rIx (K : PySem.W.Frag) : R2 := fun x y H Q => rIxL K x y H Q ∨ rIxT K x y H Q ∨ rIxS x y H Q
theorem ix_seq : IxR X (rIx X.K) := ix_list.or (ix_tup.or ix_str)

/-! ### xs[i] = v, any sign -/
/-- the list's object behind a store -/
theorem mapSeq_set (its : List Value) (n j : Nat) (u : Value) : Obj.mapSeq (·.setIfInBounds j u) { cls := .type "list", data := .seq its.toArray n } = { cls := .type "list", data := .seq (its.set j u).toArray n } := by
  simp [Obj.mapSeq]
theorem Inv.lst {pins : List (Addr × Obj)} {σ : St} {H : Hp} {s : Shared} {p : Addr} {xs : List V} (I : Inv X pins σ H s) (h : H p = some (.lst xs)) :
    ∃ (its : List Value) (n : Nat), Vals xs its ∧ s.heap.get? p = some { cls := .type "list", data := .seq its.toArray n } ∧ xs.length ≤ sizeLine := by
  obtain ⟨z, its, n, r, e⟩ := I.hok p _ h
  exact ⟨its, n, r, e, z⟩
/-- the list at p is written by an update of its object -/
theorem Inv.lstUpd {pins : List (Addr × Obj)} {σ : St} {H : Hp} {s : Shared} {p : Addr} {xs ys : List V} {its its' : List Value} {n n' : Nat} {f : Obj → Obj} (I : Inv X pins σ H s) (h : H p = some (.lst xs))
    (ho : s.heap.get? p = some { cls := .type "list", data := .seq its.toArray n }) (hf : f { cls := .type "list", data := .seq its.toArray n } = { cls := .type "list", data := .seq its'.toArray n' }) (r : Vals ys its') (hz : ys.length ≤ sizeLine) (t : Nat) :
    Inv X pins σ (upd H p (.lst ys)) { s with heap := s.heap.update p f, toks := t } := by
  have e : (s.heap.update p f).get? p = some { cls := .type "list", data := .seq its'.toArray n' } := by
    rw [Heap.get?_update_self f ho (by rw [hf] <;> rfl), hf]
  refine I.write (x := p) (e := p) (by rw [h]; trivial) (.inl rfl) (fun b u hb q => (Heap.get?_update_other _ _ (Ne.symm hb)).trans q) ⟨_, e⟩ ?_
  exact ⟨hz, its', n', r, e⟩
def rSetL : V → V → V → Hp → (Hp → Prop) → Prop := fun o i v H Q => ∃ p xs k j, o = .ref p ∧ i = .int k ∧ H p = some (.lst xs) ∧ ixN xs.length k = some j ∧ Q (upd H p (.lst (xs.set j v)))
theorem set_list : PSet X rSetL := by
  intro pins s σ H o i v ov iv u Q I ro ri rv h
  obtain ⟨p, xs, k, j, rfl, rfl, hp, hj, q⟩ := h
  cases ro
  obtain ⟨t, rfl⟩ := ri
  obtain ⟨its, n, r, ho, hz⟩ := I.lst hp
  obtain ⟨h1, h2, h3, h4⟩ := ixN_seq hj
  have hl := r.length
  have hn := line63
  have I' : Inv X pins σ (upd H p (.lst (xs.set j v))) { s with heap := s.heap.update p (Obj.mapSeq (·.setIfInBounds j u)) } :=
    I.lstUpd hp ho (mapSeq_set its n j u) (r.set rv j) (by rw [List.length_set]; exact hz) s.toks
  by_cases h0 : 0 ≤ k
  · have hk : k.toNat = j := by
      rw [seqIndex_of h0 h4] at h1
      exact Option.some.inj h1
    exact PySem.W.ki_setAt ho h0 (by omega) (by rw [List.size_toArray, ← hl]; exact h4) (by rw [hk]; exact ⟨_, I', q⟩)
  · have hk : (k + (its.toArray.size : Int)).toNat = j := by
      rw [seqIndex_neg (by omega) h3] at h1
      rw [List.size_toArray, ← hl]
      exact Option.some.inj h1
    exact PySem.W.ki_setBack ho (by omega) (by rw [List.size_toArray, ← hl]; exact h3) (by omega) (by rw [hk]; exact ⟨_, I', q⟩)

/-! ### slices -/
theorem slice_bounds (lo hi : Option Int) (n : Nat) : (sliceBounds lo hi none n).1 = ((HT.sIx n 0 lo : Nat) : Int) ∧ (sliceBounds lo hi none n).2.1 = ((HT.sIx n n hi : Nat) : Int) ∧ (sliceBounds lo hi none n).2.2 = 1 := by
  refine ⟨?_, ?_, rfl⟩
  · cases lo with
    | none => simp [sliceBounds, HT.sIx]
    | some i =>
      simp only [sliceBounds, HT.sIx, Option.getD_none, show (1 : Int) > 0 by decide, if_true]
      by_cases h : i < 0
      · simp only [h, if_true] <;> omega
      · simp only [h, if_false] <;> omega
  · cases hi with
    | none => simp [sliceBounds, HT.sIx]
    | some i =>
      simp only [sliceBounds, HT.sIx, Option.getD_none, show (1 : Int) > 0 by decide, if_true]
      by_cases h : i < 0
      · simp only [h, if_true] <;> omega
      · simp only [h, if_false] <;> omega
theorem slicePick_cut (its : List Value) (lo hi : Option Int) : slicePick its.toArray lo hi none = ((its.drop (HT.sIx its.length 0 lo)).take (HT.sIx its.length its.length hi - HT.sIx its.length 0 lo)).toArray := by
  obtain ⟨h1, h2, h3⟩ := slice_bounds lo hi its.toArray.size
  unfold slicePick
  rw [h1, h2, h3]
  simp only [sliceRange_one, pick_run, List.size_toArray] <;> rfl
/-- xs[lo:hi] of a list: a new list -/
def rSlL (K : PySem.W.Frag) : V → Option Int → Option Int → Hp → VK → Prop := fun x lo hi H Q => ∃ a xs, x = .ref a ∧ SqL K H a xs ∧ ∀ p, H p = none → Q (.ref p) (upd H p (.lst (cutV xs lo hi)))
theorem sl_list : SlR X (rSlL X.K) := by
  intro pins s σ H x v vl vu lo hi sl Q I rx hs pl pu h
  obtain ⟨a, xs, rfl, hx, q⟩ := h
  cases rx
  obtain ⟨its, r, ht, hz⟩ := I.list hx
  have hlen := r.length
  refine ⟨"list", _, slot_list_getitem.lookup, ht.isList.typeIs, ?_⟩
  refine wpAny_getItem_list_slice ht.isList hs pl pu .none (by simp) ?_ (by rw [List.size_toArray] <;> omega)
  rw [slicePick_cut, ← hlen]
  refine ⟨.ref s.heap.objs.size, _, I.laid (t' := s.toks) (o := .lst (cutV xs lo hi)) (fun b ob q => Heap.get?_push_of_some _ q) (Nat.le_refl _) ?_, rfl, q _ (I.hok.fresh (Nat.le_refl _))⟩
  exact ⟨Nat.le_trans (cutV_length xs lo hi) hz, _, 0, (r.drop (HT.sIx xs.length 0 lo)).take (HT.sIx xs.length xs.length hi - HT.sIx xs.length 0 lo), Heap.get?_push_size _ rfl⟩

/-! ### in, not in: flat items -/
def flatV : V → Bool
  | .non => true
  | .bl _ => true
  | .int _ => true
  | .str _ => true
  | _ => false
/-- == of flat values -/
def eqV : V → V → Bool
  | .non, .non => true
  | .bl a, .bl b => a == b
  | .bl a, .int b => (if a then 1 else 0) == b
  | .int a, .bl b => a == (if b then 1 else 0)
  | .int a, .int b => a == b
  | .str a, .str b => a == b
  | _, _ => false
theorem eqAt_V {A : Around} {s : Shared} {y x : V} {u v : Value} (ry : RelV y u) (rx : RelV x v) (fy : flatV y = true) (fx : flatV x = true) : SeqAt.EqAt A s u v (eqV y x) := by
  cases y with
  | non =>
    cases ry
    cases x with
    | non => cases rx; exact SeqAt.EqAt.same _
    | bl b => cases rx; exact SeqAt.EqAt.none_bool b
    | int b => obtain ⟨t, rfl⟩ := rx; exact SeqAt.EqAt.none_int b t
    | str b => obtain ⟨t, rfl⟩ := rx; exact SeqAt.EqAt.none_str b t
    | _ => exact absurd (show false = true from fx) Bool.false_ne_true
  | bl a =>
    cases ry
    cases x with
    | non => cases rx; exact SeqAt.EqAt.bool_none a
    | bl b => cases rx; exact SeqAt.EqAt.bool_bool a b
    | int b => obtain ⟨t, rfl⟩ := rx; exact SeqAt.EqAt.bool_int a b t
    | str b => obtain ⟨t, rfl⟩ := rx; exact SeqAt.EqAt.bool_str a b t
    | _ => exact absurd (show false = true from fx) Bool.false_ne_true
  | int a =>
    obtain ⟨t', rfl⟩ := ry
    cases x with
    | non => cases rx; exact SeqAt.EqAt.int_none a t'
    | bl b => cases rx; exact SeqAt.EqAt.int_bool a t' b
    | int b => obtain ⟨t, rfl⟩ := rx; exact SeqAt.EqAt.int_int a t' b t
    | str b => obtain ⟨t, rfl⟩ := rx; exact SeqAt.EqAt.int_str a t' b t
    | _ => exact absurd (show false = true from fx) Bool.false_ne_true
  | str a =>
    obtain ⟨t', rfl⟩ := ry
    cases x with
    | non => cases rx; exact SeqAt.EqAt.str_none a t'
    | bl b => cases rx; exact SeqAt.EqAt.str_bool a t' b
    | int b => obtain ⟨t, rfl⟩ := rx; exact SeqAt.EqAt.str_int a t' b t
    | str b => obtain ⟨t, rfl⟩ := rx; exact SeqAt.EqAt.str_str a t' b t
    | _ => exact absurd (show false = true from fx) Bool.false_ne_true
  | _ => exact absurd (show false = true from fy) Bool.false_ne_true
/-- the items' answers, read off the values (a value's own answer does not lean on its token) -/
def eqU (x : V) (u : Value) : Bool := match u with
  | .none => eqV .non x
  | .bool b => eqV (.bl b) x
  | .int i _ => eqV (.int i) x
  | .str z _ => eqV (.str z) x
  | _ => false
theorem eqU_of {x y : V} {u : Value} (r : RelV y u) (f : flatV y = true) : eqU x u = eqV y x := by
  cases y with
  | non => cases r; rfl
  | bl b => cases r; rfl
  | int i => obtain ⟨t, rfl⟩ := r; rfl
  | str z => obtain ⟨t, rfl⟩ := r; rfl
  | _ => exact absurd (show false = true from f) Bool.false_ne_true
theorem any_eqU {x : V} : ∀ {xs : List V} {us : List Value}, Vals xs us → xs.all flatV = true → us.any (eqU x) = xs.any fun y => eqV y x
  | _, _, .nil, _ => rfl
  | y :: xs, u :: us, .cons r t, f => by
    rw [List.all_cons, Bool.and_eq_true] at f
    rw [List.any_cons, List.any_cons, eqU_of r f.1, any_eqU t f.2]
theorem mem_eqAt {A : Around} {s : Shared} {x : V} {v : Value} (rx : RelV x v) (fx : flatV x = true) : ∀ {xs : List V} {us : List Value}, Vals xs us → xs.all flatV = true → ∀ u ∈ us, SeqAt.EqAt A s u v (eqU x u)
  | _, _, .nil, _ => fun u hu => by cases hu
  | y :: xs, u :: us, .cons r t, f => fun u' hu => by
    rw [List.all_cons, Bool.and_eq_true] at f
    rcases List.mem_cons.mp hu with rfl | hu
    · rw [eqU_of r f.1]; exact eqAt_V r rx f.1 fx
    · exact mem_eqAt rx fx t f.2 u' hu
def inV (x : V) (xs : List V) : Bool := xs.any fun y => eqV y x
/-- x in a list or tuple of flat items -/
def rIn (K : PySem.W.Frag) (neg : Bool) : R2 := fun x y H Q => ∃ p xs, y = .ref p ∧ (SqL K H p xs ∨ SqT K H p xs) ∧ flatV x = true ∧ xs.all flatV = true ∧ Q (.bl (if neg then !inV x xs else inV x xs)) H
theorem op_in_seq : OpR X (compareOp .In) (rIn X.K false) := by
  intro pins s σ H x y v u Q I rx ry h
  obtain ⟨p, xs, rfl, hq, fx, fs, q⟩ := h
  cases ry
  rcases hq with hq | hq
  · obtain ⟨its, r, pl, hz⟩ := I.list hq
    refine SeqAt.in_listAt (eqU x) pl.isList (fun w hw => mem_eqAt rx fx r fs w (by simpa using hw)) ⟨.bl _, H, I, rfl, ?_⟩
    rw [show its.toArray.any (eqU x) = its.any (eqU x) by simp, any_eqU r fs]
    exact q
  · obtain ⟨its, r, pl, hz⟩ := I.tuple hq
    refine SeqAt.in_tupleAt (eqU x) pl (fun w hw => mem_eqAt rx fx r fs w (by simpa using hw)) ⟨.bl _, H, I, rfl, ?_⟩
    rw [show its.toArray.any (eqU x) = its.any (eqU x) by simp, any_eqU r fs]
    exact q
theorem op_notIn_seq : OpR X (compareOp .NotIn) (rIn X.K true) := by
  intro pins s σ H x y v u Q I rx ry h
  obtain ⟨p, xs, rfl, hq, fx, fs, q⟩ := h
  cases ry
  rcases hq with hq | hq
  · obtain ⟨its, r, pl, hz⟩ := I.list hq
    refine SeqAt.notIn_listAt (eqU x) pl.isList (fun w hw => mem_eqAt rx fx r fs w (by simpa using hw)) ⟨.bl _, H, I, rfl, ?_⟩
    rw [show its.toArray.any (eqU x) = its.any (eqU x) by simp, any_eqU r fs]
    exact q
  · obtain ⟨its, r, pl, hz⟩ := I.tuple hq
    refine SeqAt.notIn_tupleAt (eqU x) pl (fun w hw => mem_eqAt rx fx r fs w (by simpa using hw)) ⟨.bl _, H, I, rfl, ?_⟩
    rw [show its.toArray.any (eqU x) = its.any (eqU x) by simp, any_eqU r fs]
    exact q
theorem op_notIn_str : OpR X (compareOp .NotIn) (fun x y H Q => ∃ i j, x = .str i ∧ y = .str j ∧ Q (.bl (!(!(Builtin.Str.occurrences j i 0 j.length 1).isEmpty))) H) := by
  intro pins s σ H x y v u Q I rx ry h
  obtain ⟨i, j, rfl, rfl, q⟩ := h
  obtain ⟨t, rfl⟩ := rx
  obtain ⟨t', rfl⟩ := ry
  exact notIn_str ⟨.bl _, H, I, rfl, q⟩

/-! ### len, list(x), tuple(x) of any list or tuple that is read -/
theorem call_len_seq : CallR X (.builtin "len") (fun xs H Q => ∃ p ys, xs = [.ref p] ∧ (SqL X.K H p ys ∨ SqT X.K H p ys) ∧ Q (.int ys.length) H) := by
  intro pins s σ H xs us Q I r h
  obtain ⟨p, ys, rfl, hq, q⟩ := h
  obtain ⟨u, rfl, rx⟩ := vals1 r
  cases rx
  have hn := line63
  rcases hq with hq | hq
  · obtain ⟨its, r', pl, hz⟩ := I.list hq
    have hlen := r'.length
    exact Calls.call_len_list pl.isList (by simp only [List.size_toArray] <;> omega) ⟨.int ys.length, H, I.tok _, ⟨s.toks + 1, by rw [List.size_toArray, hlen]⟩, q⟩
  · obtain ⟨its, r', pl, hz⟩ := I.tuple hq
    have hlen := r'.length
    exact len_tuple pl (by simp only [List.size_toArray] <;> omega) ⟨.int ys.length, H, I.tok _, ⟨s.toks + 1, by rw [List.size_toArray, hlen]⟩, q⟩
theorem call_len_str : CallR X (.builtin "len") (fun xs H Q => ∃ z, xs = [.str z] ∧ z.length ≤ sizeLine ∧ Q (.int z.length) H) := by
  intro pins s σ H xs us Q I r h
  obtain ⟨z, rfl, hz, q⟩ := h
  obtain ⟨u, rfl, t, rfl⟩ := vals1 r
  have hn := line63
  exact len_str (by omega) ⟨.int z.length, H, I.tok _, ⟨_, rfl⟩, q⟩
theorem CallR.or {f : Value} {r r' : List V → Hp → VK → Prop} (h : CallR X f r) (h' : CallR X f r') : CallR X f (fun xs H Q => r xs H Q ∨ r' xs H Q) := by
  intro pins s σ H xs us Q I rs q
  rcases q with q | q
  · exact h pins s σ H xs us Q I rs q
  · exact h' pins s σ H xs us Q I rs q
theorem call_list_of : CallR X (.type "list") (fun xs H Q => ∃ p ys, xs = [.ref p] ∧ (SqL X.K H p ys ∨ SqT X.K H p ys) ∧ ∀ l, H l = none → Q (.ref l) (upd H l (.lst ys))) := by
  intro pins s σ H xs us Q I r h
  obtain ⟨p, ys, rfl, hq, q⟩ := h
  obtain ⟨u, rfl, rx⟩ := vals1 r
  cases rx
  have fin : ∀ (its : List Value), Vals ys its → ys.length ≤ sizeLine → ∀ (h' : Heap) (c' : Nat), (∀ b o', s.heap.get? b = some o' → h'.get? b = some o') →
      h'.get? s.heap.objs.size = some { cls := .type "list", dict := none, data := .seq its.toArray c', slots := #[] } → EP X pins σ Q (.ref s.heap.objs.size) { s with heap := h' } := fun its r' hz h' c' kp e =>
    ⟨.ref s.heap.objs.size, _, I.laid (t' := s.toks) kp (Nat.le_refl _) (show ObjOk X.prog X.w _ h' _ (.lst ys) from ⟨hz, its, c', r', e⟩), rfl, q _ (I.hok.fresh (Nat.le_refl _))⟩
  rcases hq with hq | hq
  · obtain ⟨its, r', pl, hz⟩ := I.list hq
    have hlen := r'.length
    obtain ⟨o, ho, hc, n, hd⟩ := pl.isList
    exact call_list_seq p (.inl rfl) ho hc hd (fun h' c' kp e => fin its r' hz h' c' kp e) (by simp only [List.size_toArray] <;> omega)
  · obtain ⟨its, r', pl, hz⟩ := I.tuple hq
    have hlen := r'.length
    obtain ⟨o, ho, hc, n, hd⟩ := pl
    exact call_list_seq p (.inr rfl) ho hc hd (fun h' c' kp e => fin its r' hz h' c' kp e) (by simp only [List.size_toArray] <;> omega)
theorem call_tuple_of : CallR X (.type "tuple") (fun xs H Q => ∃ p ys, xs = [.ref p] ∧ ((SqL X.K H p ys ∧ ∀ l, H l = none → Q (.ref l) (upd H l (.tup ys))) ∨ (SqT X.K H p ys ∧ Q (.ref p) H))) := by
  intro pins s σ H xs us Q I r h
  obtain ⟨p, ys, rfl, h⟩ := h
  obtain ⟨u, rfl, rx⟩ := vals1 r
  cases rx
  rcases h with ⟨hq, q⟩ | ⟨hq, q⟩
  · obtain ⟨its, r', pl, hz⟩ := I.list hq
    have hlen := r'.length
    refine call_tuple_list pl.isList (fun h' kp => ?_) (by simp only [List.size_toArray] <;> omega)
    have I1 : Inv X pins σ H { s with heap := h' } := I.kept (t' := s.toks) kp
    have I2 : Inv X pins σ (upd H h'.objs.size (.tup ys)) { s with heap := h'.push { cls := .type "tuple", data := .seq its.toArray } } :=
      I1.laid (t' := s.toks) (fun b o e => Heap.get?_push_of_some _ e) (Nat.le_refl _) (show ObjOk X.prog X.w _ _ _ (.tup ys) from ⟨hz, its, r', ⟨_, Heap.get?_push_size _ rfl, ⟨rfl, _, rfl⟩, rfl⟩⟩)
    exact ⟨.ref h'.objs.size, _, I2, rfl, q _ (I1.hok.fresh (Nat.le_refl _))⟩
  · obtain ⟨its, r', pl, hz⟩ := I.tuple hq
    exact call_tuple_same pl ⟨.ref p, H, I, rfl, q⟩

/-! ### the call of a builtin's method: o.m(..) -/
/-- the value is of that builtin type -/
def tyV (K : PySem.W.Frag) (T : String) (x : V) (H : Hp) : Prop := match x with
  | .str _ => T = "str"
  | .int _ => T = "int"
  | .ref p => (T = "list" ∧ ∃ xs, SqL K H p xs) ∨ (T = "tuple" ∧ ∃ o, K.lookup p = some o ∧ o.cls = .type "tuple" ∧ o.dict = none) ∨
      (T = "dict" ∧ ((∃ kvs, H p = some (.dK kvs)) ∨ ∃ kvs, H p = some (.dT kvs))) ∨ (T = "set" ∧ ∃ S n, H p = some (.set S n))
  | _ => False
theorem tyV_is {pins : List (Addr × Obj)} {σ : St} {H : Hp} {s : Shared} {T : String} {x : V} {v : Value} (I : Inv X pins σ H s) (r : RelV x v) (ty : tyV X.K T x H) :
    s.TypeIs v T ∧ ∀ a, v = .ref a → ∃ ob, s.heap.get? a = some ob ∧ ob.dict = none := by
  cases x with
  | str z =>
    obtain ⟨t, rfl⟩ := r
    cases (show T = "str" from ty)
    exact ⟨typeIs_str s z t, fun _ e => nomatch e⟩
  | int i =>
    obtain ⟨t, rfl⟩ := r
    cases (show T = "int" from ty)
    exact ⟨typeIs_int s i t, fun _ e => nomatch e⟩
  | ref p =>
    cases r
    rcases ty with ⟨rfl, xs, hq⟩ | ⟨rfl, o, hk, hc, hd⟩ | ⟨rfl, hk⟩ | ⟨rfl, S, n, hk⟩
    · obtain ⟨its, _, pl, _⟩ := I.list hq
      refine ⟨pl.isList.typeIs, fun a e => ?_⟩
      cases e
      obtain ⟨o, n, e, c, hd, _⟩ := pl
      exact ⟨o, e, hd⟩
    · refine ⟨⟨o, I.kIn p o hk, hc⟩, fun a e => ?_⟩
      cases e
      exact ⟨o, I.kIn _ o hk, hd⟩
    · have z : ∃ o, s.heap.get? p = some o ∧ o.ExactDict := by
        rcases hk with ⟨kvs, hk⟩ | ⟨kvs, hk⟩
        · obtain ⟨_, _, _, _, o, _, _, e, ex, _⟩ := I.hok p _ hk
          exact ⟨o, e, ex⟩
        · obtain ⟨_, _, _, _, o, _, _, e, ex, _⟩ := I.hok p _ hk
          exact ⟨o, e, ex⟩
      obtain ⟨o, e, ex⟩ := z
      refine ⟨⟨o, e, ex.1⟩, fun a e2 => ?_⟩
      cases e2
      exact ⟨o, e, ex.2.1⟩
    · obtain ⟨o, _, _, _, e, ex, _⟩ := I.hok p _ hk
      refine ⟨⟨o, e, ex.1⟩, fun a e2 => ?_⟩
      cases e2
      exact ⟨o, e, ex.2.1⟩
  | _ => exact False.elim ty
def tBM0 (K : PySem.W.Frag) (T : String) (r : V → List V → Hp → VK → Prop) (to : TE) : TE := fun σ H Q => to σ H fun x H1 => tyV K T x H1 ∧ r x [] H1 Q
def tBM (K : PySem.W.Frag) (T : String) (r : V → List V → Hp → VK → Prop) (to : TE) (t : TA) : TE := fun σ H Q => to σ H fun x H1 => tyV K T x H1 ∧ t σ H1 fun xs H2 => r x xs H2 Q
variable {o e : Expr} {es : List Expr} {to : TE} {t : TA} {name : Str} {apos cpos : Pos} {T id : String} {r : V → List V → Hp → VK → Prop}
theorem pe_bm0 (pa : PlainAttrs T) (slot : Slot T name id) (hty : typeOf (.builtin id) = pure (.type "method_descriptor")) (hm : MtR X id r) (ho : PE X o to)
    (hbase : attributeBase o name X.env (eval o X.env) = eval o X.env := by rfl) (hline : (apos.endLine == cpos.line) = true := by rfl) : PE X (.Call (.Attribute o name apos) [] [] cpos) (tBM0 X.K T r to) := by
  intro pins s σ H Q I h
  refine wpAny_Call_method0_late hbase hline (thn (ho pins s σ H _ I h) fun v s1 ⟨x, H1, I1, r1, ty, q1⟩ => ?_)
  obtain ⟨h1, h2⟩ := tyV_is I1 r1 ty
  exact ⟨T, id, pa, slot, hty, h1, h2, Calls.callWith_builtin rfl (PySem.evalArgs_none (hm pins s1 σ H1 x [] v [] Q I1 r1 .nil q1))⟩
theorem pe_bm (pa : PlainAttrs T) (slot : Slot T name id) (hty : typeOf (.builtin id) = pure (.type "method_descriptor")) (hm : MtR X id r) (ho : PE X o to) (ha : PA X (e :: es) t)
    (hbase : attributeBase o name X.env (eval o X.env) = eval o X.env := by rfl)
    (hfew : ((backTo cpos (starEach (e :: es) X.env)).all (fun x => !x.1) && (backToKw cpos (keywordEach [] X.env)).all (fun x => x.1.isSome)
      && decide ((e :: es).length + ([] : List Keyword).length + (if ([] : List Keyword).isEmpty then 0 else 1) < 30)) = true := by rfl)
    (hline : (apos.endLine == cpos.line) = true := by rfl) (hs : starEach (e :: es) X.env = (false, eval e X.env) :: starEach es X.env := by rfl) (hplain : (backTo cpos (starEach es X.env)).any (·.1) = false := by rfl) :
    PE X (.Call (.Attribute o name apos) (e :: es) [] cpos) (tBM X.K T r to t) := by
  intro pins s σ H Q I h
  refine wpAny_Call_method_late hbase hfew hline rfl (thn (ho pins s σ H _ I h) fun v s1 ⟨x, H1, I1, r1, ty, q1⟩ => ?_)
  obtain ⟨h1, h2⟩ := tyV_is I1 r1 ty
  refine ⟨T, id, pa, slot, hty, h1, h2, ?_⟩
  have hA := ha cpos pins s1 σ H1 _ I1 q1
  rw [hs] at hA ⊢
  refine Calls.callWith_builtin (by show (false || (backTo cpos (starEach es X.env)).any (·.1)) = false; rw [hplain] <;> rfl) (Calls.evalArgs_plain ?_)
  exact thn hA fun us s2 ⟨vs, H2, I2, r2, q2⟩ => hm pins s2 σ H2 x vs v us Q I2 r1 r2 q2
/- xs.append(e), list.index on a module's tuple .. are MtR facts of 06m -/
end
end L2

namespace L2
open PySem PySem.Spec PyProof.Rows

def MtM (X : Cx) (id : String) (r : V → List V → Hp → VK → Prop) : Prop :=
  ∀ (pins : List (Addr × Obj)) (s : Shared) (σ : St) (H : Hp) (x : V) (xs : List V) (v : Value) (us : List Value) (Q : VK), Inv X pins σ H s → RelV x v → Vals xs us → r x xs H Q →
    wpAny (model X.prog X.w) X.A (call (.builtin id) (v :: us)) (EP X pins σ Q) X.xe s

/-! ### lists of values -/
theorem Vals.one : ∀ {x : V} {us : List Value}, Vals [x] us → ∃ u, us = [u] ∧ RelV x u
  | _, _, .cons r .nil => ⟨_, rfl, r⟩
theorem Vals.two : ∀ {x y : V} {us : List Value}, Vals [x, y] us → ∃ u v, us = [u, v] ∧ RelV x u ∧ RelV y v
  | _, _, _, .cons r (.cons q .nil) => ⟨_, _, rfl, r, q⟩
theorem Vals.zero : ∀ {us : List Value}, Vals [] us → us = []
  | _, .nil => rfl
theorem Vals.dropLast {xs : List V} {us : List Value} (h : Vals xs us) : Vals xs.dropLast us.dropLast := by
  induction h with
  | nil => exact .nil
  | cons r t ih =>
    cases t with
    | nil => exact .nil
    | cons q t' => exact .cons r ih
theorem Vals.eraseIdx : ∀ {xs : List V} {us : List Value} (i : Nat), Vals xs us → Vals (xs.eraseIdx i) (us.eraseIdx i)
  | _, _, _, .nil => .nil
  | _, _, 0, .cons _ t => t
  | _, _, i + 1, .cons r t => .cons r (Vals.eraseIdx i t)
theorem Vals.reverse {xs : List V} {us : List Value} (h : Vals xs us) : Vals xs.reverse us.reverse := by
  induction h with
  | nil => exact .nil
  | cons r t ih => rw [List.reverse_cons, List.reverse_cons]; exact Vals.append ih (.cons r .nil)
theorem Vals.rep {xs : List V} {us : List Value} (h : Vals xs us) : ∀ k : Nat, Vals (List.replicate k xs).flatten (List.replicate k us).flatten
  | 0 => .nil
  | k + 1 => by
    rw [List.replicate_succ, List.replicate_succ, List.flatten_cons, List.flatten_cons]
    exact Vals.append h (Vals.rep h k)
theorem erase_last {α : Type} (l : List α) : l.eraseIdx (l.length - 1) = l.dropLast := by
  induction l with
  | nil => rfl
  | cons a r ih =>
    cases r with
    | nil => rfl
    | cons b r =>
      have e : (a :: b :: r).length - 1 = ((b :: r).length - 1) + 1 := by
        have h1 : (a :: b :: r).length = r.length + 2 := rfl
        have h2 : (b :: r).length = r.length + 1 := rfl
        omega
      rw [e, List.eraseIdx_cons_succ, ih]
      all_goals rfl
theorem len_erase {α : Type} : ∀ (l : List α) (i : Nat), (l.eraseIdx i).length ≤ l.length
  | [], _ => Nat.le_refl _
  | _ :: _, 0 => Nat.le_succ _
  | _ :: r, i + 1 => Nat.succ_le_succ (len_erase r i)
theorem foldl_rep (its : List Value) : ∀ (k : Nat) (acc : List Value),
    List.foldl (fun x1 x2 => x1 ++ x2) acc.toArray (List.replicate k its.toArray) = (acc ++ (List.replicate k its).flatten).toArray
  | 0, acc => by simp
  | k + 1, acc => by
    have e : acc.toArray ++ its.toArray = (acc ++ its).toArray := by simp
    have e2 : (acc ++ its) ++ (List.replicate k its).flatten = acc ++ (List.replicate (k + 1) its).flatten := by
      rw [List.replicate_succ, List.flatten_cons, List.append_assoc]
    rw [← e2, ← foldl_rep its k (acc ++ its), ← e, List.replicate_succ, List.foldl_cons]

section
variable {X : Cx} {pins : List (Addr × Obj)} {σ : St} {H : Hp} {s : Shared} {l b : Addr} {xs ys zs : List V}

/-! ### the two steps: a tracked list is rewritten, a new list is laid -/
theorem Inv.lset {its its' : List Value} {n : Nat} {f : Array Value → Array Value} {t' : Nat} (I : Inv X pins σ H s) (hH : H l = some (.lst xs))
    (e : s.heap.get? l = some { cls := .type "list", data := .seq its.toArray n }) (hf : f its.toArray = its'.toArray) (hv : Vals ys its') (hz : ys.length ≤ sizeLine) :
    Inv X pins σ (upd H l (.lst ys)) { s with heap := s.heap.update l (Obj.mapSeq f), toks := t' } := by
  have q := PySem.IsL.update e f
  rw [hf] at q
  refine I.write (x := l) (e := l) (by rw [hH]; exact trivial) (.inl rfl) (fun b' u hb hu => (Heap.get?_update_other s.heap (Obj.mapSeq f) (Ne.symm hb)).trans hu) ⟨_, q⟩ ?_
  exact ⟨hz, its', _, hv, q⟩
theorem Inv.lnew {its : List Value} {t' : Nat} (I : Inv X pins σ H s) (hv : Vals ys its) (hz : ys.length ≤ sizeLine) :
    Inv X pins σ (upd H s.heap.objs.size (.lst ys)) { s with heap := s.heap.push { cls := .type "list", data := .seq its.toArray }, toks := t' } :=
  I.laid (fun _ _ q => Heap.get?_push_of_some _ q) (Nat.le_refl _) ⟨hz, its, 0, hv, Heap.get?_push_size _ rfl⟩
theorem Inv.fresh (I : Inv X pins σ H s) : H s.heap.objs.size = none := I.hok.fresh (Nat.le_refl _)
theorem Inv.lstM (I : Inv X pins σ H s) (hH : H l = some (.lst xs)) : xs.length ≤ sizeLine ∧ ∃ (its : List Value) (n : Nat), Vals xs its ∧ xs.length = its.length ∧ s.heap.get? l = some { cls := .type "list", data := .seq its.toArray n } := by
  obtain ⟨z, its, n, r, e⟩ := I.hok l _ hH
  exact ⟨z, its, n, r, r.length, e⟩

theorem notLongL {n : Nat} (h : n ≤ sizeLine) : Builtin.List.listTooLong n = false := by
  unfold Builtin.List.listTooLong
  exact decide_eq_false (by omega)
end

section
variable {X : Cx}

/-! ### methods -/
def rAppend : V → List V → Hp → VK → Prop := fun x vs H Q => ∃ l xs y, x = .ref l ∧ vs = [y] ∧ H l = some (.lst xs) ∧ xs.length < sizeLine ∧ Q .non (upd H l (.lst (xs ++ [y])))
theorem mt_append : MtM X "list.append" rAppend := by
  intro pins s σ H x vs v us Q I rx rv h
  obtain ⟨l, xs, y, rfl, rfl, hH, hz, q⟩ := h
  cases rx
  obtain ⟨u, rfl, ru⟩ := rv.one
  obtain ⟨z, its, n, r, hl, e⟩ := I.lstM hH
  refine call_meets F.slot_list_append ⟨_, e, rfl⟩ F.entry_list_append (F.args_list_append_2 _ _) (PySem.list_append l its.toArray n u (by rw [List.size_toArray]; omega)) ⟨e, ?_⟩
  refine ⟨.non, _, I.lset (its' := its ++ [u]) hH e (by simp) (r.append (.cons ru .nil)) ?_, rfl, q⟩
  rw [List.length_append, List.length_singleton]
  omega

def rExtend : V → List V → Hp → VK → Prop := fun x vs H Q => ∃ l b xs zs, x = .ref l ∧ vs = [.ref b] ∧ H l = some (.lst xs) ∧ H b = some (.lst zs) ∧ xs.length + zs.length ≤ sizeLine ∧ Q .non (upd H l (.lst (xs ++ zs)))
theorem mt_extend : MtM X "list.extend" rExtend := by
  intro pins s σ H x vs v us Q I rx rv h
  obtain ⟨l, b, xs, zs, rfl, rfl, hH, hB, hz, q⟩ := h
  cases rx
  obtain ⟨u, rfl, ru⟩ := rv.one
  cases ru
  obtain ⟨z, its, n, r, hl, e⟩ := I.lstM hH
  obtain ⟨z2, its2, n2, r2, hl2, e2⟩ := I.lstM hB
  have hsz : its.toArray.size + its2.toArray.size ≤ sizeLine := by rw [List.size_toArray, List.size_toArray]; omega
  have hlong : ¬ (!its.toArray.isEmpty && Builtin.List.listTooLong (its.toArray.size + its2.toArray.size)) = true := by
    rw [notLongL hsz, Bool.and_false]
    exact Bool.false_ne_true
  refine call_meets F.slot_list_extend ⟨_, e, rfl⟩ F.entry_list_extend (F.args_list_extend_2 _ _)
    (AutoSeq1.list_extend_list_list_0 l its.toArray n b its2.toArray n2 hlong (by rw [List.size_toArray]; omega) (by omega)) ⟨e, e2, ?_⟩
  refine ⟨.non, _, I.lset (its' := its ++ its2) hH e (by simp) (r.append r2) ?_, rfl, q⟩
  rw [List.length_append]
  omega

def rPop : V → List V → Hp → VK → Prop := fun x vs H Q => ∃ l xs y, x = .ref l ∧ vs = [] ∧ H l = some (.lst xs) ∧ xs[xs.length - 1]? = some y ∧ Q y (upd H l (.lst xs.dropLast))
theorem mt_pop : MtM X "list.pop" rPop := by
  intro pins s σ H x vs v us Q I rx rv h
  obtain ⟨l, xs, y, rfl, rfl, hH, hy, q⟩ := h
  cases rx
  have hus := rv.zero
  subst hus
  obtain ⟨z, its, n, r, hl, e⟩ := I.lstM hH
  obtain ⟨u, hu, ru⟩ := r.get hy
  have hy' : its.toArray[its.toArray.size - 1]? = some u := by
    show its.toArray[its.length - 1]? = some u
    rw [← Array.getElem?_toList, ← hl]
    exact hu
  refine call_meets F.slot_list_pop ⟨_, e, rfl⟩ F.entry_list_pop (F.args_list_pop_1 _) (MeetsSeq.list_pop_last l its.toArray n u hy' (by rw [List.size_toArray]; omega)) ⟨e, ?_⟩
  refine ⟨y, _, I.lset (its' := its.dropLast) hH e ?_ r.dropLast ?_, ru, q⟩
  · show its.toArray.eraseIdxIfInBounds (its.toArray.size - 1) = its.dropLast.toArray
    rw [List.size_toArray, List.eraseIdxIfInBounds_toArray, erase_last]
  · rw [List.length_dropLast]
    omega

def rPopAt : V → List V → Hp → VK → Prop := fun x vs H Q => ∃ l xs i k y, x = .ref l ∧ vs = [.int i] ∧ H l = some (.lst xs) ∧ -(2 ^ 63) ≤ i ∧ i < 2 ^ 63 ∧ seqIndex? i xs.length = some k ∧ xs[k]? = some y ∧ Q y (upd H l (.lst (xs.eraseIdx k)))
theorem mt_popAt : MtM X "list.pop" rPopAt := by
  intro pins s σ H x vs v us Q I rx rv h
  obtain ⟨l, xs, i, k, y, rfl, rfl, hH, h1, h2, hk, hy, q⟩ := h
  cases rx
  obtain ⟨u, rfl, ru⟩ := rv.one
  obtain ⟨t, rfl⟩ := ru
  obtain ⟨z, its, n, r, hl, e⟩ := I.lstM hH
  obtain ⟨w, hw, rw'⟩ := r.get hy
  refine call_meets F.slot_list_pop ⟨_, e, rfl⟩ F.entry_list_pop (F.args_list_pop_2 _ _)
    (MeetsSeq.list_pop_at l its.toArray n i t k w (fitsIndex_both h1 h2) (by rw [List.size_toArray, ← hl]; exact hk) (by rw [← Array.getElem?_toList]; exact hw) (by rw [List.size_toArray]; omega)) ⟨e, ?_⟩
  refine ⟨y, _, I.lset (its' := its.eraseIdx k) hH e ?_ (r.eraseIdx k) ?_, rw', q⟩
  · show its.toArray.eraseIdxIfInBounds k = (its.eraseIdx k).toArray
    rw [List.eraseIdxIfInBounds_toArray]
  · have := len_erase xs k
    omega

def rReverse : V → List V → Hp → VK → Prop := fun x vs H Q => ∃ l xs, x = .ref l ∧ vs = [] ∧ H l = some (.lst xs) ∧ Q .non (upd H l (.lst xs.reverse))
theorem mt_reverse : MtM X "list.reverse" rReverse := by
  intro pins s σ H x vs v us Q I rx rv h
  obtain ⟨l, xs, rfl, rfl, hH, q⟩ := h
  cases rx
  have hus := rv.zero
  subst hus
  obtain ⟨z, its, n, r, hl, e⟩ := I.lstM hH
  refine call_meets F.slot_list_reverse ⟨_, e, rfl⟩ F.entry_list_reverse (F.args_list_reverse_1 _) (AutoSeq1.list_reverse_list_0 l its.toArray n (by rw [List.size_toArray]; omega)) ⟨e, ?_⟩
  refine ⟨.non, _, I.lset (its' := its.reverse) hH e (by simp) r.reverse ?_, rfl, q⟩
  rw [List.length_reverse]
  omega

def rClear : V → List V → Hp → VK → Prop := fun x vs H Q => ∃ l xs, x = .ref l ∧ vs = [] ∧ H l = some (.lst xs) ∧ Q .non (upd H l (.lst []))
theorem mt_clear : MtM X "list.clear" rClear := by
  intro pins s σ H x vs v us Q I rx rv h
  obtain ⟨l, xs, rfl, rfl, hH, q⟩ := h
  cases rx
  have hus := rv.zero
  subst hus
  obtain ⟨z, its, n, r, hl, e⟩ := I.lstM hH
  refine call_meets F.slot_list_clear ⟨_, e, rfl⟩ F.entry_list_clear (F.args_list_clear_1 _) (AutoSeq1.list_clear_list_0 l its.toArray n (by rw [List.size_toArray]; omega)) ⟨e, ?_⟩
  exact ⟨.non, _, I.lset (its' := []) (ys := []) hH e rfl .nil (Nat.zero_le _), rfl, q⟩

/-! ### list + list, list += list, list * int -/
def rCat : R2 := fun x y H Q => ∃ l b xs zs, x = .ref l ∧ y = .ref b ∧ H l = some (.lst xs) ∧ H b = some (.lst zs) ∧ xs.length + zs.length ≤ sizeLine ∧ ∀ p, H p = none → Q (.ref p) (upd H p (.lst (xs ++ zs)))
theorem op_cat : OpR X (binaryOp .Add) rCat := by
  intro pins s σ H x y v u Q I rx ry h
  obtain ⟨l, b, xs, zs, rfl, rfl, hH, hB, hz, q⟩ := h
  cases rx
  cases ry
  obtain ⟨z, its, n, r, hl, e⟩ := I.lstM hH
  obtain ⟨z2, its2, n2, r2, hl2, e2⟩ := I.lstM hB
  refine PySem.P.add_list e e2 ?_ (by rw [List.size_toArray, List.size_toArray]; omega)
  have ea : its.toArray ++ its2.toArray = (its ++ its2).toArray := by simp
  rw [ea]
  exact ⟨.ref _, _, I.lnew (t' := s.toks) (r.append r2) (by rw [List.length_append]; omega), rfl, q _ I.fresh⟩
/-- a list times an int (a negative one is nothing) -/
def rRep : R2 := fun x y H Q => ∃ l k xs, x = .ref l ∧ y = .int k ∧ H l = some (.lst xs) ∧ -(2 ^ 63) ≤ k ∧ k < 2 ^ 63 ∧ xs.length * k.toNat ≤ sizeLine ∧
  ∀ p, H p = none → Q (.ref p) (upd H p (.lst (List.replicate k.toNat xs).flatten))
theorem len_rep {α : Type} (xs : List α) (k : Nat) : (List.replicate k xs).flatten.length = k * xs.length := by
  induction k with
  | zero => simp
  | succ k ih => rw [List.replicate_succ, List.flatten_cons, List.length_append, ih, Nat.succ_mul, Nat.add_comm]
theorem op_rep : OpR X (binaryOp .Mult) rRep := by
  intro pins s σ H x y v u Q I rx ry h
  obtain ⟨l, k, xs, rfl, rfl, hH, h1, h2, hz, q⟩ := h
  cases rx
  obtain ⟨t, rfl⟩ := ry
  obtain ⟨z, its, n, r, hl, e⟩ := I.lstM hH
  have hlen : its.toArray.size * k.toNat ≤ sizeLine := by rw [List.size_toArray, ← hl]; exact hz
  have hcap : ¬ its.toArray.size * k.toNat > (2 ^ 63 - 1) / 8 := by
    have : (sizeLine : Nat) ≤ (2 ^ 63 - 1) / 8 := by decide
    omega
  have hfit : ¬ (!Builtin.List.listFitsIndex k) = true := by
    rw [fitsIndex_both h1 h2]
    exact Bool.false_ne_true
  have hlong : ¬ Builtin.List.listTooLong (its.toArray.size * k.toNat) = true := by
    rw [notLongL hlen]
    exact Bool.false_ne_true
  have hnew : List.foldl (fun x1 x2 => x1 ++ x2) #[] (List.replicate (if its.toArray.isEmpty = true then 0 else k.toNat) its.toArray) = (List.replicate k.toNat its).flatten.toArray := by
    have f0 : ∀ m : Nat, List.foldl (fun x1 x2 => x1 ++ x2) #[] (List.replicate m its.toArray) = (List.replicate m its).flatten.toArray := fun m => by
      have := foldl_rep its m []
      rw [List.nil_append] at this
      exact this
    rw [f0]
    cases its with
    | nil => simp
    | cons a r' => rw [if_neg (by simp)]
  refine wpAny_binaryOp_repeat_ref (T := "list") (U := "int") (by decide) ⟨_, e, rfl⟩ (fun s' => typeIs_int s' k t) noFill_list_mul F.fills_int_mul F.slot_int_rmul repeat_list F.slot_int_index.lookup
    (call_meets F.slot_int_rmul (typeIs_int s k t) F.entry_int_rmul (F.args_int_rmul_2 _ _) (int___rmul___int_list k t l its.toArray n)
      ⟨e, rfl, ⟨_, e, rfl⟩, call_meets F.slot_list_mul ⟨_, e, rfl⟩ F.entry_list_mul (F.args_list_mul_2 _ _) (AutoListH.list___mul___list_int_3 l its.toArray n k t hfit hcap hlong) ⟨e, ?_⟩⟩)
  rw [hnew]
  exact ⟨.ref _, _, I.lnew (t' := s.toks) (r.rep k.toNat) (by rw [len_rep, Nat.mul_comm]; exact hz), rfl, q _ I.fresh⟩

/-! ### del xs[i] -/
theorem del_list {pins : List (Addr × Obj)} {s : Shared} {σ : St} {H : Hp} {l : Addr} {xs : List V} {i : Int} {t : Tok} {k : Nat} {Q : Unit → Shared → Prop} (I : Inv X pins σ H s) (hH : H l = some (.lst xs))
    (h1 : -(2 ^ 63) ≤ i) (h2 : i < 2 ^ 63) (hk : seqIndex? i xs.length = some k) (h : ∀ s', Inv X pins σ (upd H l (.lst (xs.eraseIdx k))) s' → Q () s') :
    wpAny (model X.prog X.w) X.A (delItem (.ref l) (.int i t)) Q X.xe s := by
  obtain ⟨z, its, n, r, hl, e⟩ := I.lstM hH
  refine PySem.P.delItem_list (k := k) e (fitsIndex_both h1 h2) (by rw [List.size_toArray, ← hl]; exact hk) (h _ ?_) (by rw [List.size_toArray]; omega)
  refine I.lset (its' := its.eraseIdx k) (t' := s.toks) hH e ?_ (r.eraseIdx k) ?_
  · show its.toArray.eraseIdxIfInBounds k = (its.eraseIdx k).toArray
    rw [List.eraseIdxIfInBounds_toArray]
  · have := len_erase xs k
    omega
end

/-! ### xs[a:b] = ys -/
section
variable {prog : Program} {w : World} {A : Around} {E : Value → Shared → Prop} {s : Shared}
theorem splice_eq (its its2 : List Value) (a c : Nat) : its.toArray.extract 0 a ++ its2.toArray ++ its.toArray.extract c its.toArray.size = (its.take a ++ its2 ++ its.drop c).toArray := by
  apply Array.toList_inj.mp
  first
    | (simp
       exact List.take_of_length_le (by simp))
    | simp [List.take_of_length_le]
    | simp
theorem bounds_run {a c n : Nat} (hac : a ≤ c) (hc : c ≤ n) : sliceBounds (some (a : Int)) (some (c : Int)) none n = ((a : Int), (c : Int), 1) := by
  simp only [sliceBounds, Option.getD_none]
  have h1 : ¬ ((a : Int) < 0) := by omega
  have h2 : ¬ ((c : Int) < 0) := by omega
  simp only [h1, h2, if_false, show (1 : Int) > 0 by decide, if_true]
  congr 1
  · omega
  · congr 1; omega
set_option maxRecDepth 100000 in
/-- list.__setitem__ with a slice of step one and another list -/
theorem setItem_slice {l b sl : Addr} {items new : Array Value} {n n2 : Nat} {vl vu : Value} {a c : Nat} {Q : Unit → Shared → Prop}
    (e : s.heap.get? l = some { cls := .type "list", data := .seq items n }) (e2 : s.heap.get? b = some { cls := .type "list", data := .seq new n2 }) (hne : l ≠ b)
    (hs : s.heap.IsSliceOf sl vl vu .none) (pl : IsPart vl (some (a : Int))) (pu : IsPart vu (some (c : Int))) (hac : a ≤ c) (hc : c ≤ items.size)
    (hsz : items.size + new.size ≤ sizeLine) (h : Q () { s with heap := s.heap.update l (Obj.mapSeq fun xs => xs.extract 0 a ++ new ++ xs.extract c xs.size) }) :
    wpAny (model prog w) A (setItem (.ref l) (.ref sl) (.ref b)) Q E s := by
  have hl : s.heap.IsList l items := PySem.IsL.isList e
  have hb : s.heap.IsList b new := PySem.IsL.isList e2
  obtain ⟨os, hos, hcs, hds⟩ := id hs
  have hTs : s.TypeIs (.ref sl) "slice" := ⟨os, hos, hcs⟩
  have hstep : ¬ ((rawPart none == rawInt 0) = true) := Bool.false_ne_true
  have hsame : Builtin.List.listSameRef (.ref l) (.ref b) = false := by
    unfold Builtin.List.listSameRef
    exact beq_eq_false_iff_ne.mpr hne
  have hmax : (max (a : Int) (c : Int)).toNat = c := by omega
  have hz' : ((fun xs : Array Value => xs.extract 0 a ++ new ++ xs.extract c xs.size) items).size ≤ sizeLine + 1 := by
    simp only [Array.size_append, Array.size_extract]
    omega
  unfold setItem
  try with_reducible refine wpAny_holding ?_
  first | refine wpAny_bind (wpAny_pure ?_) | skip
  refine wpAny_bind (wpAny_sequenceKey hl.typeIs (by decide) ?_)
  refine wpAny_bind (wpAny_callSpecial?_slot (name := Str.ofString "__setitem__") hl.typeIs slot_list_setitem
    (wpAny_call_entry slot_list_setitem hl.typeIs entry_list_setitem ?_ (args_list_setitem _ _ _)))
  show wpAny _ _ (Builtin.List.listSubscript? (.ref sl) >>= _) _ _ s
  refine wpAny_bind ?_
  unfold Builtin.List.listSubscript?
  refine wpAny_bind (wpAny_specialOf hTs slice_no_index ?_)
  simp only [Option.isNone_none, if_true]
  refine wpAny_pure ?_
  show wpAny _ _ (typeOf (.ref sl) >>= _) _ _ s
  refine wpAny_bind (wpAny_typeOf hTs ?_)
  first
    | rw [if_neg (by decide)]
    | refine PySem.W.KFB.if_not (by decide) ?_
  rw [listSliceParts_eq]
  refine wpAny_bind (wpAny_bind (wpAny_field hos hds (x := .none) rfl (wpAny_bind (wpAny_listPart .none ?_))))
  rw [if_neg hstep]
  refine wpAny_bind (wpAny_field hos hds (x := vl) rfl (wpAny_bind (wpAny_listPart pl ?_)))
  refine wpAny_bind (wpAny_field hos hds (x := vu) rfl (wpAny_bind (wpAny_listPart pu (wpAny_pure ?_))))
  first
    | simp only [hsame, Bool.false_eq_true, if_false]
    | refine PySem.W.KFB.if_not hsame ?_
    | (dsimp only
       rw [if_neg (by rw [hsame]; exact Bool.false_ne_true)])
  refine wpAny_bind (m := Builtin.List.listAllItems (.ref b) "must assign iterable to extended slice") ?_
  unfold Builtin.List.listAllItems
  refine wpAny_bind (wpAny_typeOf hb.typeIs ?_)
  first
    | refine PySem.W.KFB.if_so (by decide) ?_
    | rw [if_pos (by decide)]
    | simp only [beq_self_eq_true, Bool.true_or, if_true]
  unfold Builtin.List.listItems
  refine wpAny_bind (wpAny_seqItems e2 rfl (wpAny_pure ?_))
  refine wpAny_bind (wpAny_bind (wpAny_seqItems e rfl (wpAny_pure ?_)))
  refine wpAny_bind (wpAny_of_eq ((sliceIndices_raw (some (a : Int)) (some (c : Int)) none items.size (by simp)).trans (congrArg (pure : Int × Int × Int → Sem (Int × Int × Int)) (bounds_run hac hc))) ?_)
  show wpAny _ _ (if ((1 : Int) == 1) = true then _ else _) _ _ s
  rw [if_pos (by decide)]
  refine wpAny_bind (wpAny_rule ?_)
  first
    | simp only [notLongL hsz, Bool.false_eq_true, if_false]
    | refine PySem.W.KFB.if_not (notLongL hsz) ?_
  first | refine wpAny_bind (wpAny_pure ?_) | skip
  show wpAny _ _ (updateSeq l (fun xs => xs.extract 0 ((a : Int)).toNat ++ new ++ xs.extract (max (a : Int) (c : Int)).toNat xs.size) >>= _) _ _ s
  rw [hmax, Int.toNat_natCast]
  refine wpAny_bind (wpAny_updateSeq (hz := Nat.le_trans (Nat.le_add_right _ _) hsz) (_hz' := hz') e rfl ?_)
  refine wpAny_bind (wpAny_letGo ?_)
  first
    | exact wpAny_bind (wpAny_pure (wpAny_pure ⟨.none, rfl, wpAny_pure h⟩))
    | exact wpAny_pure ⟨.none, rfl, wpAny_pure h⟩
end

section
variable {X : Cx}
/-- xs[a:c] = ys of another list, at the value level: sl is the slice object that was just made -/
theorem set_slice {pins : List (Addr × Obj)} {s : Shared} {σ : St} {H : Hp} {l b sl : Addr} {xs ys : List V} {a c : Int} {vl vu : Value} {Q : Unit → Shared → Prop} (I : Inv X pins σ H s)
    (hH : H l = some (.lst xs)) (hB : H b = some (.lst ys)) (hne : l ≠ b) (hs : s.heap.IsSliceOf sl vl vu .none) (ra : RelV (.int a) vl) (rc : RelV (.int c) vu) (h0 : 0 ≤ a) (hac : a ≤ c) (hc : c ≤ xs.length)
    (hz : xs.length + ys.length ≤ sizeLine) (h : ∀ s', Inv X pins σ (upd H l (.lst (xs.take a.toNat ++ ys ++ xs.drop c.toNat))) s' → Q () s') :
    wpAny (model X.prog X.w) X.A (setItem (.ref l) (.ref sl) (.ref b)) Q X.xe s := by
  obtain ⟨ta, rfl⟩ := ra
  obtain ⟨tc, rfl⟩ := rc
  obtain ⟨z, its, n, r, hl, e⟩ := I.lstM hH
  obtain ⟨z2, its2, n2, r2, hl2, e2⟩ := I.lstM hB
  obtain ⟨a', rfl⟩ := Int.eq_ofNat_of_zero_le h0
  obtain ⟨c', rfl⟩ := Int.eq_ofNat_of_zero_le (Int.le_trans h0 hac)
  simp only [Int.toNat_natCast] at h
  refine setItem_slice (a := a') (c := c') e e2 hne hs (.int _ _) (.int _ _) (by omega) (by rw [List.size_toArray]; omega) (by rw [List.size_toArray, List.size_toArray]; omega) (h _ ?_)
  refine I.lset (its' := its.take a' ++ its2 ++ its.drop c') (t' := s.toks) hH e ?_ (Vals.append (Vals.append (r.take _) r2) (r.drop _)) ?_
  · exact splice_eq its its2 a' c'
  · rw [List.length_append, List.length_append, List.length_take, List.length_drop]
    omega
end
end L2

namespace L2
open PySem PySem.Spec PyProof.Rows

/-! ### lists of pairs as tables -/
section
variable {κ : Type} [DecidableEq κ]
def valV (kvs : List (κ × V)) (k : κ) : Option V := (kvs.find? fun kv => decide (kv.1 = k)).map (·.2)
/-- in its place, or at the end -/
def putK (kvs : List (κ × V)) (k : κ) (v : V) : List (κ × V) :=
  if (kvs.any fun kv => decide (kv.1 = k)) = true then kvs.map (fun kv => if kv.1 = k then (kv.1, v) else kv) else kvs ++ [(k, v)]
def dropK (kvs : List (κ × V)) (k : κ) : List (κ × V) := kvs.filter fun kv => decide (kv.1 ≠ k)

theorem valV_nil {k : κ} : valV ([] : List (κ × V)) k = none := rfl
theorem valV_pos {p : κ × V} {r : List (κ × V)} {k : κ} (e : p.1 = k) : valV (p :: r) k = some p.2 := by simp [valV, List.find?_cons, e]
theorem valV_neg {p : κ × V} {r : List (κ × V)} {k : κ} (e : ¬ p.1 = k) : valV (p :: r) k = valV r k := by simp [valV, List.find?_cons, e]
theorem valV_any (k : κ) : ∀ kvs : List (κ × V), (kvs.any fun kv => decide (kv.1 = k)) = (valV kvs k).isSome
  | [] => rfl
  | p :: r => by
    rw [List.any_cons]
    by_cases e : p.1 = k
    · simp only [valV_pos e, decide_eq_true e, Bool.true_or, Option.isSome_some]
    · rw [valV_neg e, decide_eq_false e, Bool.false_or]; exact valV_any k r
theorem valV_map (k j : κ) (y : V) : ∀ kvs : List (κ × V), valV (kvs.map fun kv => if kv.1 = k then (kv.1, y) else kv) j = (valV kvs j).map fun x => if j = k then y else x
  | [] => rfl
  | p :: r => by
    have ih := valV_map k j y r
    rw [List.map_cons]
    by_cases h : p.1 = k
    · rw [if_pos h]
      by_cases e : p.1 = j
      · rw [valV_pos (p := (p.1, y)) e, valV_pos e, Option.map_some, if_pos (e.symm.trans h)]
      · rw [valV_neg (p := (p.1, y)) e, valV_neg e, ih]
    · rw [if_neg h]
      by_cases e : p.1 = j
      · rw [valV_pos (p := p) e, valV_pos e, Option.map_some, if_neg (fun z => h (e.trans z))]
      · rw [valV_neg (p := p) e, valV_neg e, ih]
theorem valV_snoc (k j : κ) (y : V) : ∀ kvs : List (κ × V), valV kvs k = none → valV (kvs ++ [(k, y)]) j = if j = k then some y else valV kvs j
  | [], _ => by
    by_cases e : k = j
    · rw [if_pos e.symm]; exact valV_pos (p := (k, y)) e
    · rw [if_neg (fun z => e z.symm)]; exact valV_neg (p := (k, y)) e
  | p :: r, hn => by
    rw [List.cons_append]
    have hk : ¬ p.1 = k := fun z => by rw [valV_pos z] at hn; cases hn
    rw [valV_neg hk] at hn
    have ih := valV_snoc k j y r hn
    by_cases e : p.1 = j
    · rw [valV_pos e, valV_pos e, if_neg (fun z => hk (e.trans z))]
    · rw [valV_neg e, valV_neg e, ih]
theorem valV_put (kvs : List (κ × V)) (k j : κ) (y : V) : valV (putK kvs k y) j = if j = k then some y else valV kvs j := by
  unfold putK
  by_cases a : (kvs.any fun kv => decide (kv.1 = k)) = true
  · rw [if_pos a, valV_map]
    rw [valV_any] at a
    by_cases e : j = k
    · obtain ⟨x, hx⟩ := Option.isSome_iff_exists.mp a
      rw [if_pos e, e, hx, Option.map_some, if_pos rfl]
    · rw [if_neg e]
      cases valV kvs j with
      | none => rfl
      | some x => rw [Option.map_some, if_neg e]
  · rw [if_neg a]
    refine valV_snoc k j y kvs ?_
    rw [valV_any] at a
    cases q : valV kvs k with
    | none => rfl
    | some x => rw [q] at a; exact (a rfl).elim
theorem length_putK (kvs : List (κ × V)) (k : κ) (v : V) : (putK kvs k v).length ≤ kvs.length + 1 := by
  unfold putK
  split
  · rw [List.length_map]; omega
  · rw [List.length_append, List.length_cons, List.length_nil]; omega
theorem putK_new {kvs : List (κ × V)} {k : κ} (v : V) (h : valV kvs k = none) : putK kvs k v = kvs ++ [(k, v)] := by
  unfold putK
  rw [valV_any, h]
  exact if_neg (by decide)

theorem RelO.isSome_eq {o : Option V} {u : Option Value} (r : RelO o u) : o.isSome = u.isSome := by
  cases o with
  | none => cases u with
    | none => rfl
    | some _ => exact (show False from r).elim
  | some _ => cases u with
    | none => exact (show False from r).elim
    | some _ => rfl
theorem RelO.getD {o : Option V} {u : Option Value} {d : V} {d' : Value} (r : RelO o u) (rd : RelV d d') : RelV (o.getD d) (u.getD d') := by
  cases o with
  | none => cases u with
    | none => exact rd
    | some _ => exact (show False from r).elim
  | some _ => cases u with
    | none => exact (show False from r).elim
    | some _ => exact r

/-- raw tables of the same keys -/
theorem KV.val {kvs : List (κ × V)} {vs : List (κ × Value)} (r : KV kvs vs) (k : κ) : RelO (valV kvs k) (valueAt vs k) := by
  unfold KV at r
  induction r with
  | nil => exact True.intro
  | @cons p q ps qs h t ih =>
    obtain ⟨h1, h2⟩ := h
    by_cases e : p.1 = k
    · have e' : q.1 = k := h1.symm.trans e
      have b : valueAt (q :: qs) k = some q.2 := by simp [valueAt, List.find?_cons, e']
      rw [valV_pos e, b]; exact h2
    · have e' : ¬ q.1 = k := fun z => e (h1.trans z)
      have b : valueAt (q :: qs) k = valueAt qs k := by simp [valueAt, List.find?_cons, e']
      rw [valV_neg e, b]; exact ih
theorem KV.any {kvs : List (κ × V)} {vs : List (κ × Value)} (r : KV kvs vs) (k : κ) : (kvs.any fun kv => decide (kv.1 = k)) = vs.any fun kv => decide (kv.1 = k) := by
  unfold KV at r
  induction r with
  | nil => rfl
  | cons h t ih => rw [List.any_cons, List.any_cons, ih, h.1]
theorem KV.repl {kvs : List (κ × V)} {vs : List (κ × Value)} (r : KV kvs vs) (k : κ) {y : V} {u : Value} (ry : RelV y u) :
    KV (kvs.map fun kv => if kv.1 = k then (kv.1, y) else kv) (vs.map fun kv => if kv.1 = k then (kv.1, u) else kv) := by
  unfold KV at r ⊢
  induction r with
  | nil => exact .nil
  | @cons p q ps qs h t ih =>
    rw [List.map_cons, List.map_cons]
    refine .cons ?_ ih
    obtain ⟨h1, h2⟩ := h
    by_cases e : p.1 = k
    · rw [if_pos e, if_pos (h1.symm.trans e)]; exact ⟨h1, ry⟩
    · rw [if_neg e, if_neg (fun z => e (h1.trans z))]; exact ⟨h1, h2⟩
theorem KV.put {kvs : List (κ × V)} {vs : List (κ × Value)} (r : KV kvs vs) (k : κ) {y : V} {u : Value} (ry : RelV y u) : KV (putK kvs k y) (stored vs k u) := by
  unfold putK stored
  rw [r.any k]
  by_cases e : (vs.any fun kv => decide (kv.1 = k)) = true
  · rw [if_pos e, if_pos e]; exact r.repl k ry
  · rw [if_neg e, if_neg e]; exact Paired.snoc r ⟨rfl, ry⟩
theorem KV.drop {kvs : List (κ × V)} {vs : List (κ × Value)} (r : KV kvs vs) (k : κ) : KV (dropK kvs k) (without vs k) := by
  unfold KV at r ⊢
  unfold dropK without
  induction r with
  | nil => exact .nil
  | @cons p q ps qs h t ih =>
    obtain ⟨h1, h2⟩ := h
    rw [List.filter_cons, List.filter_cons]
    by_cases e : p.1 = k
    · have a : ¬ decide (p.1 ≠ k) = true := by simp [e]
      have b : ¬ decide (q.1 ≠ k) = true := by simp [h1.symm.trans e]
      rw [if_neg a, if_neg b]; exact ih
    · have e' : ¬ q.1 = k := fun z => e (h1.trans z)
      have a : decide (p.1 ≠ k) = true := by simp [e]
      have b : decide (q.1 ≠ k) = true := by simp [e']
      rw [if_pos a, if_pos b]; exact .cons ⟨h1, h2⟩ ih
theorem KV.keys {kvs : List (κ × V)} {vs : List (κ × Value)} (r : KV kvs vs) : kvs.map (·.1) = vs.map (·.1) := by
  unfold KV at r
  induction r with
  | nil => rfl
  | cons h t ih => rw [List.map_cons, List.map_cons, ih, h.1]
theorem KV.length {kvs : List (κ × V)} {vs : List (κ × Value)} (r : KV kvs vs) : kvs.length = vs.length := Paired.length r
theorem dropK_le (kvs : List (κ × V)) (k : κ) : (dropK kvs k).length ≤ kvs.length := List.length_filter_le _ _
end


/-! ### a tracked dict, its keys ints and texts or tuples of these -/
theorem kV_is {P : Program} {w : World} {k : Key} {u : Value} (r : RelV (kV k) u) : (mixKind P w).is k u = true := by
  cases k with
  | inl i => obtain ⟨t, e⟩ := (show ∃ t, u = Value.int i t from r); subst e; exact mixKind_int P w i t
  | inr x => obtain ⟨t, e⟩ := (show ∃ t, u = Value.str x t from r); subst e; exact mixKind_str P w x t
theorem kV_inj {a b : Key} (e : kV a = kV b) : a = b := by
  cases a with
  | inl i => cases b with
    | inl j => have e' : V.int i = V.int j := e; injection e' with e'; rw [e']
    | inr y => exact nomatch (show V.int i = V.str y from e)
  | inr x => cases b with
    | inl j => exact nomatch (show V.str x = V.int j from e)
    | inr y => have e' : V.str x = V.str y := e; injection e' with e'; rw [e']
theorem kVs_inj : ∀ {a b : List Key}, a.map kV = b.map kV → a = b
  | [], [], _ => rfl
  | [], _ :: _, e => by simp at e
  | _ :: _, [], e => by simp at e
  | x :: xs, y :: ys, e => by
    rw [List.map_cons, List.map_cons] at e
    injection e with e1 e2
    rw [kV_inj e1, kVs_inj e2]
theorem items_are {P : Program} {w : World} : ∀ {ks : List Key} {us : List Value}, Vals (ks.map kV) us → ItemsAre (mixKind P w) ks us
  | [], _, r => by rw [List.map_nil] at r; cases r; exact .nil
  | k :: ks, _, r => by
    rw [List.map_cons] at r
    cases r with
    | cons h t => exact .cons (kV_is h) (items_are t)

/-- raw entries of a dict with tuple keys -/
abbrev KT (H : Hp) : List (List Key × V) → List (List Key × Addr × Value) → Prop := Paired fun p q => p.1 = q.1 ∧ H q.2.1 = some (.tup (p.1.map kV)) ∧ RelV p.2 q.2.2
theorem KT.val {H : Hp} {kvs : List (List Key × V)} {xs : List (List Key × Addr × Value)} (r : KT H kvs xs) (k : List Key) : RelO (valV kvs k) ((atKey xs k).map (·.2)) := by
  induction r with
  | nil => exact True.intro
  | @cons p q ps qs h t ih =>
    obtain ⟨h1, _, h2⟩ := h
    by_cases e : p.1 = k
    · have e' : q.1 = k := h1.symm.trans e
      have b : atKey (q :: qs) k = some q.2 := by simp [atKey, List.find?_cons, e']
      rw [valV_pos e, b]; exact h2
    · have e' : ¬ q.1 = k := fun z => e (h1.trans z)
      have b : atKey (q :: qs) k = atKey qs k := by simp [atKey, List.find?_cons, e']
      rw [valV_neg e, b]; exact ih
theorem KT.repl {H : Hp} {kvs : List (List Key × V)} {xs : List (List Key × Addr × Value)} (r : KT H kvs xs) (k : List Key) {y : V} {u : Value} (ry : RelV y u) :
    KT H (kvs.map fun kv => if kv.1 = k then (kv.1, y) else kv) (xs.map (putAt k u)) := by
  induction r with
  | nil => exact .nil
  | @cons p q ps qs h t ih =>
    rw [List.map_cons, List.map_cons]
    refine .cons ?_ ih
    obtain ⟨h1, h2, h3⟩ := h
    unfold putAt
    by_cases e : p.1 = k
    · rw [if_pos e, if_pos (h1.symm.trans e)]; exact ⟨h1, h2, ry⟩
    · rw [if_neg e, if_neg (fun z => e (h1.trans z))]; exact ⟨h1, h2, h3⟩
theorem KT.put {H : Hp} {kvs : List (List Key × V)} {xs : List (List Key × Addr × Value)} (r : KT H kvs xs) (k : List Key) {b : Addr} {y : V} {u : Value} (hb : H b = some (.tup (k.map kV))) (ry : RelV y u) :
    KT H (putK kvs k y) (storedH xs k b u) := by
  have e : (kvs.any fun kv => decide (kv.1 = k)) = (atKey xs k).isSome := by
    rw [valV_any, (r.val k).isSome_eq, Option.isSome_map]
  unfold putK storedH
  rw [e]
  by_cases q : (atKey xs k).isSome = true
  · rw [if_pos q, if_pos q]; exact r.repl k ry
  · rw [if_neg q, if_neg q]; exact Paired.snoc r ⟨rfl, hb, ry⟩
theorem KT.keeps {H H' : Hp} {kvs : List (List Key × V)} {xs : List (List Key × Addr × Value)} (r : KT H kvs xs) (ht : ∀ b ys, H b = some (.tup ys) → H' b = some (.tup ys)) : KT H' kvs xs :=
  Paired.mapP r fun _ _ z => ⟨z.1, ht _ _ z.2.1, z.2.2⟩

section
variable {P : Program} {w : World} {H : Hp} {h : Heap} {a : Addr}
theorem rd_of {u : HO} (ok : HOk P w H h) (e : Rd H a u) : ObjOk P w H h a u := e.ok ok
theorem dk_rd {kvs : List (Key × V)} (ok : HOk P w H h) (e : Rd H a (.dK kvs)) : kvs.length ≤ sizeLine ∧ (a == sysModules) = false ∧ ∃ vs, KV kvs vs ∧ h.DictOf (mixKind P w) a vs :=
  show ObjOk P w H h a (.dK kvs) from rd_of ok e
theorem dk_of {kvs : List (Key × V)} (ok : HOk P w H h) (e : H a = some (.dK kvs)) : kvs.length ≤ sizeLine ∧ (a == sysModules) = false ∧ ∃ vs, KV kvs vs ∧ h.DictOf (mixKind P w) a vs := dk_rd ok (.inl e)
/-- a tracked tuple of ints and texts is a key -/
theorem key_of {ks : List Key} (ok : HOk P w H h) (e : H a = some (.tup (ks.map kV))) : (tupleKind (mixKind P w)).is h ks a := by
  obtain ⟨_, its, r, o, h1, ⟨h2, n, h3⟩, _⟩ := (show ObjOk P w H h a (.tup (ks.map kV)) from ok a _ e)
  exact ⟨o, its.toArray, n, h1, h2, h3, by simpa using items_are r⟩
theorem dt_rd {kvs : List (List Key × V)} (ok : HOk P w H h) (e : Rd H a (.dT kvs)) : kvs.length ≤ sizeLine ∧ (a == sysModules) = false ∧
    ∃ xs, KT H kvs xs ∧ h.DictOfH (tupleKind (mixKind P w)) a xs := by
  obtain ⟨z, y, xs, r, o, es, ep, h1, h2, h3, h4, h5⟩ := (show ObjOk P w H h a (.dT kvs) from rd_of ok e)
  refine ⟨z, y, xs, r, o, es, ep, h1, h2, h3, h4, fun x hx => ?_, h5⟩
  have all : ∀ {l : List (List Key × V)} {m : List (List Key × Addr × Value)}, KT H l m → ∀ x ∈ m, (tupleKind (mixKind P w)).is h x.1 x.2.1 := by
    intro l m q
    induction q with
    | nil => intro x hx; exact nomatch hx
    | @cons p q ps qs hq t ih =>
      intro x hx
      rcases List.mem_cons.mp hx with e | hx
      · subst e
        exact key_of ok (by rw [← hq.1]; exact hq.2.1)
      · exact ih x hx
  exact all r x hx
theorem dt_of {kvs : List (List Key × V)} (ok : HOk P w H h) (e : H a = some (.dT kvs)) : kvs.length ≤ sizeLine ∧ (a == sysModules) = false ∧
    ∃ xs, KT H kvs xs ∧ h.DictOfH (tupleKind (mixKind P w)) a xs := dt_rd ok (.inl e)
end

/-- what the dict at a holds at the key y -/
def DGet (H : Hp) (a : Addr) (y : V) (r : Option V) : Prop :=
  (∃ kvs k, Rd H a (.dK kvs) ∧ y = kV k ∧ r = valV kvs k) ∨ ∃ kvs k b, Rd H a (.dT kvs) ∧ y = .ref b ∧ H b = some (.tup (k.map kV)) ∧ r = valV kvs k
/-- the heap behind a[y] = v -/
def DPut (H : Hp) (a : Addr) (y v : V) (H' : Hp) : Prop :=
  (∃ kvs k, H a = some (.dK kvs) ∧ y = kV k ∧ kvs.length < sizeLine ∧ H' = upd H a (.dK (putK kvs k v))) ∨
  ∃ kvs k b, H a = some (.dT kvs) ∧ y = .ref b ∧ H b = some (.tup (k.map kV)) ∧ kvs.length < sizeLine ∧ H' = upd H a (.dT (putK kvs k v))
theorem DGet.k {H : Hp} {a : Addr} {kvs : List (Key × V)} {k : Key} (e : H a = some (.dK kvs)) : DGet H a (kV k) (valV kvs k) := .inl ⟨kvs, k, .inl e, rfl, rfl⟩
theorem DGet.t {H : Hp} {a b : Addr} {kvs : List (List Key × V)} {k : List Key} (e : H a = some (.dT kvs)) (eb : H b = some (.tup (k.map kV))) : DGet H a (.ref b) (valV kvs k) := .inr ⟨kvs, k, b, .inl e, rfl, eb, rfl⟩
theorem DPut.k {H : Hp} {a : Addr} {kvs : List (Key × V)} {k : Key} {v : V} (e : H a = some (.dK kvs)) (hl : kvs.length < sizeLine) : DPut H a (kV k) v (upd H a (.dK (putK kvs k v))) := .inl ⟨kvs, k, e, rfl, hl, rfl⟩
theorem DPut.t {H : Hp} {a b : Addr} {kvs : List (List Key × V)} {k : List Key} {v : V} (e : H a = some (.dT kvs)) (eb : H b = some (.tup (k.map kV))) (hl : kvs.length < sizeLine) :
    DPut H a (.ref b) v (upd H a (.dT (putK kvs k v))) := .inr ⟨kvs, k, b, e, rfl, eb, hl, rfl⟩


section
variable {X : Cx} {pins : List (Addr × Obj)} {σ : St} {H : Hp} {s : Shared} {a : Addr} {y v : V} {u r : Value} {o : Option V} {A : Around} {E : Value → Shared → Prop}

theorem Inv.big (I : Inv X pins σ H s) : sysModules < s.heap.objs.size := by
  have h : mainGlobals < s.heap.objs.size := (I.mod.glob.keeps I.bk).lt
  exact Nat.lt_trans (by decide) h

/-- d[y], there -/
theorem d_getItem {Q : Value → Shared → Prop} (hu : A.units + 1 < cLine) (I : Inv X pins σ H s) (g : DGet H a y (some v)) (ry : RelV y u) (h : ∀ w' s', Inv X pins σ H s' → RelV v w' → Q w' s') :
    wpAny (model X.prog X.w) A (getItem (.ref a) u) Q E s := by
  rcases g with ⟨kvs, k, e, ey, l⟩ | ⟨kvs, k, b, e, ey, eb, l⟩
  · subst ey
    obtain ⟨z, hd, vs, rel, dd⟩ := dk_rd I.hok e
    obtain ⟨w', hw, rw'⟩ := RelO.some_of (v := v) (o := valueAt vs k) (by rw [l]; exact rel.val k)
    exact wpAny_getItem_of (kV_is ry) dd.mapOf hw (h w' _ (I.tok _) rw')
  · subst ey
    cases (show u = Value.ref b from ry)
    obtain ⟨z, hd, xs, rel, dd⟩ := dt_rd I.hok e
    obtain ⟨w', hw, rw'⟩ := RelO.some_of (v := v) (o := (atKey xs k).map (·.2)) (by rw [l]; exact rel.val k)
    obtain ⟨p, hp, hp2⟩ := Option.map_eq_some_iff.mp hw
    refine wpAny_getItem_heap (tupleKind_room_in1 hu) (key_of I.hok eb) dd hp ?_
    rw [hp2]
    exact h w' _ (I.tok _) rw'
/-- y in d -/
theorem d_in {Q : Value → Shared → Prop} (hu : A.units + 1 < cLine) (I : Inv X pins σ H s) (g : DGet H a y o) (ry : RelV y u) (h : ∀ s', Inv X pins σ H s' → Q (.bool o.isSome) s') :
    wpAny (model X.prog X.w) A (compareOp .In u (.ref a)) Q E s := by
  rcases g with ⟨kvs, k, e, ey, l⟩ | ⟨kvs, k, b, e, ey, eb, l⟩
  · subst ey
    obtain ⟨z, hd, vs, rel, dd⟩ := dk_rd I.hok e
    refine wpAny_in_of (kV_is ry) hd dd.mapOf ?_
    rw [← (rel.val k).isSome_eq, ← l]
    exact h _ (I.tok _)
  · subst ey
    cases (show u = Value.ref b from ry)
    obtain ⟨z, hd, xs, rel, dd⟩ := dt_rd I.hok e
    refine wpAny_in_heap (tupleKind_room_in1 hu) (key_of I.hok eb) hd dd ?_
    have q := (rel.val k).isSome_eq
    rw [Option.isSome_map] at q
    rw [← q, ← l]
    exact h _ (I.tok _)
theorem d_notIn {Q : Value → Shared → Prop} (hu : A.units + 1 < cLine) (I : Inv X pins σ H s) (g : DGet H a y o) (ry : RelV y u) (h : ∀ s', Inv X pins σ H s' → Q (.bool (!o.isSome)) s') :
    wpAny (model X.prog X.w) A (compareOp .NotIn u (.ref a)) Q E s := by
  rcases g with ⟨kvs, k, e, ey, l⟩ | ⟨kvs, k, b, e, ey, eb, l⟩
  · subst ey
    obtain ⟨z, hd, vs, rel, dd⟩ := dk_rd I.hok e
    refine wpAny_notIn_of (kV_is ry) hd dd.mapOf ?_
    rw [← (rel.val k).isSome_eq, ← l]
    exact h _ (I.tok _)
  · subst ey
    cases (show u = Value.ref b from ry)
    obtain ⟨z, hd, xs, rel, dd⟩ := dt_rd I.hok e
    refine wpAny_notIn_heap (tupleKind_room_in1 hu) (key_of I.hok eb) hd dd ?_
    have q := (rel.val k).isSome_eq
    rw [Option.isSome_map] at q
    rw [← q, ← l]
    exact h _ (I.tok _)
/-- a dict's object is replaced -/
theorem d_write {h' : Heap} {t' : Nat} {ob : HO} (I : Inv X pins σ H s) (mu : Mut (H a)) (hs : Heap.SameBut a s.heap h') (he : ∃ q, h'.get? a = some q) (new : ObjOk X.prog X.w (upd H a ob) h' a ob) :
    Inv X pins σ (upd H a ob) { s with heap := h', toks := t' } :=
  I.write (x := a) (e := a) mu (.inl rfl) (fun b q hb z => (hs.2 b hb).trans z) he new
theorem dk_new {P : Program} {w : World} {H' : Hp} {h' : Heap} {kvs : List (Key × V)} {vs : List (Key × Value)} (z : kvs.length ≤ sizeLine) (hd : (a == sysModules) = false) (rel : KV kvs vs) (dd : h'.DictOf (mixKind P w) a vs) :
    ObjOk P w H' h' a (.dK kvs) := ⟨z, hd, vs, rel, dd⟩
/-- d[y] = v -/
theorem d_setItem {H' : Hp} {Q : Unit → Shared → Prop} (hu : A.units + 1 < cLine) (I : Inv X pins σ H s) (g : DPut H a y v H') (ry : RelV y u) (rv : RelV v r) (h : ∀ s', Inv X pins σ H' s' → Q () s') :
    wpAny (model X.prog X.w) A (setItem (.ref a) u r) Q E s := by
  rcases g with ⟨kvs, k, e, ey, l, eH⟩ | ⟨kvs, k, b, e, ey, eb, l, eH⟩
  · subst ey eH
    obtain ⟨z, hd, vs, rel, dd⟩ := dk_of I.hok e
    have hz : vs.length ≤ sizeLine := by rw [← rel.length]; exact z
    have hl : (putK kvs k v).length ≤ sizeLine := by have := length_putK kvs k v; omega
    refine wpAny_setItem_pairs (hsz := hz) (kV_is ry) dd fun h' dd' hs => h _ ?_
    have he : ∃ q, h'.get? a = some q := let ⟨q, _, _, hq, _⟩ := dd'; ⟨q, hq⟩
    exact d_write I (by rw [e]; exact True.intro) hs he (dk_new hl hd (rel.put k rv) dd')
  · subst ey eH
    cases (show u = Value.ref b from ry)
    obtain ⟨z, hd, xs, rel, dd⟩ := dt_of I.hok e
    have hz : xs.length ≤ sizeLine := by rw [← Paired.length rel]; exact z
    have hl : (putK kvs k v).length ≤ sizeLine := by have := length_putK kvs k v; omega
    refine wpAny_setItem_heap (hsz := hz) (tupleKind_room_in1 hu) (key_of I.hok eb) dd fun h' dd' hs => h _ ?_
    obtain ⟨q, es, ep, hq, h2, h3, h4, _, h5⟩ := dd'
    refine d_write I (by rw [e]; exact True.intro) hs ⟨q, hq⟩ ⟨hl, hd, _, (rel.put k eb rv).keeps fun c ys ec => ?_, q, es, ep, hq, h2, h3, h4, h5⟩
    rw [upd_ne (ne_of ec e (fun z => nomatch z))]
    exact ec
end

section
variable {X : Cx} {pins : List (Addr × Obj)} {σ : St} {H : Hp} {s : Shared} {a : Addr} {kvs : List (Key × V)} {k : Key} {u : Value} {A : Around} {E : Value → Shared → Prop}
/-- del d[k] -/
theorem d_delItem {Q : Unit → Shared → Prop} (I : Inv X pins σ H s) (e : H a = some (.dK kvs)) (ry : RelV (kV k) u) (l : (valV kvs k).isSome = true) (h : ∀ s', Inv X pins σ (upd H a (.dK (dropK kvs k))) s' → Q () s') :
    wpAny (model X.prog X.w) A (delItem (.ref a) u) Q E s := by
  obtain ⟨z, hd, vs, rel, dd⟩ := dk_of I.hok e
  refine wpAny_delItem_slot dd.typeIs (by decide) PySem.F.slot_dict_delitem
    (call_meetsIn PySem.F.slot_dict_delitem dd.typeIs PySem.F.entry_dict_delitem (PySem.F.args_dict_delitem_2 _ _) (meets_dict_delitem_pairs (mixKind X.prog X.w) a (kV_is ry)) ⟨vs, dd, by rw [← rel.length]; exact z, by rw [← (rel.val k).isSome_eq]; exact l, fun h' dd' hs => h _ ?_⟩)
  have he : ∃ q, h'.get? a = some q := let ⟨q, _, _, hq, _⟩ := dd'; ⟨q, hq⟩
  exact d_write I (by rw [e]; exact True.intro) hs he (dk_new (Nat.le_trans (dropK_le kvs k) z) hd (rel.drop k) dd')
/-- d.pop(k[, x]), there -/
theorem d_pop {v : V} {more : List Value} {Q : Value → Shared → Prop} (I : Inv X pins σ H s) (e : H a = some (.dK kvs)) (ry : RelV (kV k) u) (l : valV kvs k = some v) (hm : more = [] ∨ ∃ x, more = [x])
    (h : ∀ w' s', Inv X pins σ (upd H a (.dK (dropK kvs k))) s' → RelV v w' → Q w' s') : wpAny (model X.prog X.w) A (call (.builtin "dict.pop") (.ref a :: u :: more)) Q E s := by
  obtain ⟨z, hd, vs, rel, dd⟩ := dk_of I.hok e
  obtain ⟨w', hw, rw'⟩ := RelO.some_of (v := v) (o := valueAt vs k) (by rw [← l]; exact rel.val k)
  have hp : (keyPart u).isSome = true := by
    cases k with
    | inl i => obtain ⟨t, q⟩ := (show ∃ t, u = Value.int i t from ry); subst q; rfl
    | inr x => obtain ⟨t, q⟩ := (show ∃ t, u = Value.str x t from ry); subst q; rfl
  have ha : argsOk "dict.pop" ⟨.ref a :: u :: more, []⟩ := by
    rcases hm with q | ⟨x, q⟩
    · subst q; exact PySem.F.args_dict_pop_2 _ _
    · subst q; exact PySem.F.args_dict_pop_3 _ _ _
  refine call_meetsIn PySem.F.slot_dict_pop dd.typeIs PySem.F.entry_dict_pop ha (meets_dict_pop_there (mixKind X.prog X.w) a (kV_is ry) more hm hp)
    ⟨vs, w', dd, by rw [← rel.length]; exact z, hw, fun h' dd' hs => h w' _ ?_ rw'⟩
  have he : ∃ q, h'.get? a = some q := let ⟨q, _, _, hq, _⟩ := dd'; ⟨q, hq⟩
  exact d_write I (by rw [e]; exact True.intro) hs he (dk_new (Nat.le_trans (dropK_le kvs k) z) hd (rel.drop k) dd')
/-- d.pop(k, x), not there -/
theorem d_popD {r : Value} {Q : Value → Shared → Prop} (I : Inv X pins σ H s) (e : H a = some (.dK kvs)) (ry : RelV (kV k) u) (l : valV kvs k = none) (h : ∀ s', Inv X pins σ H s' → Q r s') :
    wpAny (model X.prog X.w) A (call (.builtin "dict.pop") [.ref a, u, r]) Q E s := by
  obtain ⟨z, hd, vs, rel, dd⟩ := dk_of I.hok e
  have hn : valueAt vs k = none := RelO.none_of (by rw [← l]; exact rel.val k)
  have hp : (keyPart u).isSome = true := by
    cases k with
    | inl i => obtain ⟨t, q⟩ := (show ∃ t, u = Value.int i t from ry); subst q; rfl
    | inr x => obtain ⟨t, q⟩ := (show ∃ t, u = Value.str x t from ry); subst q; rfl
  exact call_meetsIn PySem.F.slot_dict_pop dd.typeIs PySem.F.entry_dict_pop (PySem.F.args_dict_pop_3 _ _ _) (meets_dict_pop_default (mixKind X.prog X.w) a (kV_is ry) hd hp r) ⟨vs, dd, hn, h _ (I.tok _)⟩
/-- d.clear() -/
theorem d_clear {Q : Value → Shared → Prop} (I : Inv X pins σ H s) (e : H a = some (.dK kvs)) (h : ∀ s', Inv X pins σ (upd H a (.dK [])) s' → Q .none s') : wpAny (model X.prog X.w) A (call (.builtin "dict.clear") [.ref a]) Q E s := by
  obtain ⟨z, hd, vs, rel, dd⟩ := dk_of I.hok e
  refine call_meetsIn PySem.F.slot_dict_clear dd.typeIs PySem.F.entry_dict_clear (PySem.F.args_dict_clear_1 _) (meets_dict_clear (mixKind X.prog X.w) a) ⟨vs, dd, by rw [← rel.length]; exact z, fun h' dd' hs => h _ ?_⟩
  have he : ∃ q, h'.get? a = some q := let ⟨q, _, _, hq, _⟩ := dd'; ⟨q, hq⟩
  exact d_write (t' := s.toks) I (by rw [e]; exact True.intro) hs he (dk_new (Nat.zero_le _) hd .nil dd')
/-- len(d) -/
theorem d_len {Q : Value → Shared → Prop} (I : Inv X pins σ H s) (e : Rd H a (.dK kvs)) (h : ∀ t s', Inv X pins σ H s' → Q (.int kvs.length t) s') : wpAny (model X.prog X.w) A (call (.builtin "len") [.ref a]) Q E s := by
  obtain ⟨z, hd, vs, rel, dd⟩ := dk_rd I.hok e
  refine call_len_dict hd dd (by rw [← rel.length]; rw [sizeLine_eq] at z; omega) ?_
  rw [← rel.length]
  exact h _ _ (I.tok _)
/-- if d -/
theorem d_truth {Q : Bool → Shared → Prop} (I : Inv X pins σ H s) (e : Rd H a (.dK kvs)) (h : ∀ s', Inv X pins σ H s' → Q (!kvs.isEmpty) s') : wpAny (model X.prog X.w) A (truthy (.ref a)) Q E s := by
  obtain ⟨z, hd, vs, rel, dd⟩ := dk_rd I.hok e
  refine wpAny_truthy_dict hd dd (by rw [← rel.length]; rw [sizeLine_eq] at z; omega) ?_
  have q : kvs.isEmpty = vs.isEmpty := by cases rel <;> rfl
  rw [← q]
  exact h _ (I.tok _)
end


/-! ### readings and rules -/
/-- the element of a subscription, not a slice -/
def NoSl (i : Expr) : Prop := ∀ ov iv, subscripted i false ov iv = operate [ov, iv] (getItem ov iv)
theorem subD_of {prog : Program} {w : World} {A : Around} {E : Value → Shared → Prop} {s : Shared} {env : Env} {value slice : Expr} {pos : Pos} {T id : String} {Q : Value → Shared → Prop}
    (hl : typeLookup (.type T) "__getitem__" = pure (some (.builtin id))) (hs : NoSl slice)
    (h : wpAny (model prog w) A (eval value env) (fun o s₁ => wpAny (model prog w) A (eval slice env) (fun i s₂ => s₂.TypeIs o T ∧ wpAny (model prog w) A (getItem o i) Q E s₂) E s₁) E s) :
    wpAny (model prog w) A (eval (.Subscript value slice pos) env) Q E s := by
  refine Subscript_ (wpAny_mono h (fun o s₁ h₁ => wpAny_mono h₁ (fun i s₂ h₂ => ?_) fun _ _ x => x) fun _ _ x => x)
  obtain ⟨hT, h₂⟩ := h₂
  unfold subscriptTail
  refine wpAny_bind ?_
  rw [getitemInPython_of_ne hT.not_modules]
  refine wpAny_bind (wpAny_specialOf hT hl ?_)
  have fin : wpAny (model prog w) A (subscripted slice false o i) (fun r s₃ => wpAny (model prog w) A (letTemporaryGo value o r >>= fun _ => pure r) Q E s₃) E s₂ := by
    rw [hs o i]
    exact wpAny_operating (wpAny_mono h₂ (fun r s₃ h₃ => wpAny_bind (wpAny_letTemporaryGo (wpAny_pure h₃))) fun _ _ x => x)
  first
    | exact wpAny_pure (wpAny_bind fin)
    | exact wpAny_bind (wpAny_pure (wpAny_bind fin))
    | exact wpAny_bind fin

theorem dict_typeIs {X : Cx} {pins : List (Addr × Obj)} {σ : St} {H : Hp} {s : Shared} {a : Addr} {y : V} {o : Option V} (I : Inv X pins σ H s) (g : DGet H a y o) : s.TypeIs (.ref a) "dict" := by
  rcases g with ⟨kvs, k, e, _, _⟩ | ⟨kvs, k, b, e, _, _, _⟩
  · obtain ⟨_, _, vs, _, dd⟩ := dk_rd I.hok e
    exact dd.typeIs
  · obtain ⟨_, _, xs, _, dd⟩ := dt_rd I.hok e
    exact dd.typeIs
theorem dict_noDict {X : Cx} {pins : List (Addr × Obj)} {σ : St} {H : Hp} {s : Shared} {a : Addr} {y : V} {o : Option V} (I : Inv X pins σ H s) (g : DGet H a y o) :
    ∀ b, Value.ref a = .ref b → ∃ ob, s.heap.get? b = some ob ∧ ob.dict = none := fun b q => by
  cases q
  rcases g with ⟨kvs, k, e, _, _⟩ | ⟨kvs, k, b, e, _, _, _⟩
  · obtain ⟨_, _, vs, _, ob, _, _, h1, h2, _⟩ := dk_rd I.hok e
    exact ⟨ob, h1, h2.2.1⟩
  · obtain ⟨_, _, xs, _, ob, _, _, h1, h2, _⟩ := dt_rd I.hok e
    exact ⟨ob, h1, h2.2.1⟩

/-- d[y] -/
def tDGet (td ty : TE) : TE := fun σ H Q => td σ H fun x H1 => ty σ H1 fun y H2 => ∃ a v, x = .ref a ∧ DGet H2 a y (some v) ∧ Q v H2
/-- y in d, y not in d -/
def tDIn (ty td : TE) : TE := fun σ H Q => ty σ H fun y H1 => td σ H1 fun x H2 => ∃ a o, x = .ref a ∧ DGet H2 a y o ∧ Q (.bl o.isSome) H2
def tDNotIn (ty td : TE) : TE := fun σ H Q => ty σ H fun y H1 => td σ H1 fun x H2 => ∃ a o, x = .ref a ∧ DGet H2 a y o ∧ Q (.bl (!o.isSome)) H2
/-- d[y] = v -/
def sDPut (td ty tv : TE) : TS := fun D σ H => tv σ H fun v H1 => td σ H1 fun x H2 => ty σ H2 fun y H3 => ∃ a H4, x = .ref a ∧ DPut H3 a y v H4 ∧ D.nx σ H4
/-- d[y] op= v -/
def sDAug (td ty tv : TE) (rd : V → V → Hp → VK → Prop) : TS := fun D σ H => td σ H fun x H1 => ty σ H1 fun y H2 => ∃ a v, x = .ref a ∧ DGet H2 a y (some v) ∧
  tv σ H2 fun y2 H3 => rd v y2 H3 fun z H4 => ∃ H5, DPut H4 a y z H5 ∧ D.nx σ H5
/-- del d[y] -/
def sDDel (td ty : TE) : TS := fun D σ H => td σ H fun x H1 => ty σ H1 fun y H2 => ∃ a kvs k, x = .ref a ∧ H2 a = some (.dK kvs) ∧ y = kV k ∧ (valV kvs k).isSome = true ∧ D.nx σ (upd H2 a (.dK (dropK kvs k)))

section
variable {X : Cx} {o i e value : Expr} {pos pos' tpos : Pos} {td ty tv : TE}
theorem pe_dget (hu : X.A.units + 1 < cLine) (ho : PE X o td) (hi : PE X i ty) (hs : NoSl i) : PE X (.Subscript o i pos) (tDGet td ty) := by
  intro pins s σ H Q I h
  refine subD_of PySem.F.slot_dict_getitem.lookup hs (thn (ho pins s σ H _ I h) fun u s1 ⟨x, H1, I1, rx, q1⟩ => thn (hi pins s1 σ H1 _ I1 q1) fun iv s2 ⟨y, H2, I2, ry, a, v, ex, g, q2⟩ => ?_)
  subst ex
  obtain rfl : u = Value.ref a := rx
  exact ⟨dict_typeIs I2 g, d_getItem hu I2 g ry fun w' s3 I3 rw' => ⟨v, H2, I3, rw', q2⟩⟩
theorem pc_din (hu : X.A.units + 1 < cLine) (hi : PE X i ty) (ho : PE X o td) : PC X .In i o (tDIn ty td) := by
  intro pins s σ H Q I h
  refine thn (hi pins s σ H _ I h) fun iv s1 ⟨y, H1, I1, ry, q1⟩ => thn (ho pins s1 σ H1 _ I1 q1) fun u s2 ⟨x, H2, I2, rx, a, ov, ex, g, q2⟩ => ?_
  subst ex
  obtain rfl : u = Value.ref a := rx
  exact d_in hu I2 g ry fun s3 I3 => ⟨.bl ov.isSome, H2, I3, rfl, q2⟩
theorem pc_dnotin (hu : X.A.units + 1 < cLine) (hi : PE X i ty) (ho : PE X o td) : PC X .NotIn i o (tDNotIn ty td) := by
  intro pins s σ H Q I h
  refine thn (hi pins s σ H _ I h) fun iv s1 ⟨y, H1, I1, ry, q1⟩ => thn (ho pins s1 σ H1 _ I1 q1) fun u s2 ⟨x, H2, I2, rx, a, ov, ex, g, q2⟩ => ?_
  subst ex
  obtain rfl : u = Value.ref a := rx
  exact d_notIn hu I2 g ry fun s3 I3 => ⟨.bl (!ov.isSome), H2, I3, rfl, q2⟩
theorem ps_dput (hu : X.A.units + 1 < cLine) (ho : PE X o td) (hi : PE X i ty) (hv : PE X value tv) (hs : swapsWith value (some (.Subscript o i pos')) pos.line X.env = pure false) :
    PS X (.Assign [.Subscript o i pos'] value pos) (sDPut td ty tv) := by
  intro pins s σ H D I h
  refine wpAny_Assign_Subscript (thn (hv pins s σ H _ I h) fun r s1 ⟨v, H1, I1, rv, q1⟩ => thn (ho pins s1 σ H1 _ I1 q1) fun u s2 ⟨x, H2, I2, rx, q2⟩ => thn (hi pins s2 σ H2 _ I2 q2) fun iv s3 ⟨y, H3, I3, ry, a, H4, ex, g, q3⟩ => ?_) hs
  subst ex
  obtain rfl : u = Value.ref a := rx
  exact d_setItem hu I3 g ry rv fun s4 I4 => ⟨σ, H4, I4, q3⟩
theorem ps_daug {op : Operator} {rd : V → V → Hp → VK → Prop} (hu : X.A.units + 1 < cLine) (ho : PE X o td) (hi : PE X i ty) (hv : PE X value tv) (hop : InOp X op rd)
    (ha : ∀ ov iv new, augStore i ov iv new = (do holding [new, ov, iv] (setItem ov iv new); release [new, ov, iv] []; pure .next)) : PS X (.AugAssign (.Subscript o i tpos) op value pos) (sDAug td ty tv rd) := by
  intro pins s σ H D I h
  refine wpAny_AugAssign_SubscriptAny (thn (ho pins s σ H _ I h) fun u s1 ⟨x, H1, I1, rx, q1⟩ => thn (hi pins s1 σ H1 _ I1 q1) fun iv s2 ⟨y, H2, I2, ry, a, v, ex, g, q2⟩ => ?_) ha
  subst ex
  obtain rfl : u = Value.ref a := rx
  refine d_getItem hu I2 g ry fun w' s3 I3 rw' => thn (hv pins s3 σ H2 _ I3 q2) fun w2 s4 ⟨y2, H3, I4, ry2, q3⟩ => thn (hop pins s4 σ H3 v y2 w' w2 _ I4 rw' ry2 q3) fun w3 s5 ⟨z, H4, I5, rz, H5, g5, q4⟩ => ?_
  exact d_setItem hu I5 g5 ry rz fun s6 I6 => ⟨σ, H5, I6, q4⟩
theorem ps_ddel (ho : PE X o td) (hi : PE X i ty) : PS X (.Delete [.Subscript o i tpos] pos) (sDDel td ty) := by
  intro pins s σ H D I h
  refine wpAny_Delete (wpAny_deleteEach_cons (wpAny_delete_Subscript (thn (ho pins s σ H _ I h) fun u s1 ⟨x, H1, I1, rx, q1⟩ => thn (hi pins s1 σ H1 _ I1 q1) fun iv s2 ⟨y, H2, I2, ry, a, kvs, k, ex, e, ey, l, q2⟩ => ?_)))
  subst ex ey
  obtain rfl : u = Value.ref a := rx
  exact d_delItem I2 e ry l fun s3 I3 => wpAny_deleteEach_nil ⟨σ, _, I3, q2⟩
end


/-! ### displays -/
theorem dk_empty {P : Program} {w : World} {H : Hp} (h : Heap) (hb : sysModules < h.objs.size) : ObjOk P w H (h.push { cls := .type "dict", data := .dict #[] }) h.objs.size (.dK []) :=
  ⟨Nat.zero_le _, beq_eq_false_iff_ne.mpr (Ne.symm (Nat.ne_of_lt hb)), [], .nil, Heap.DictOf.new h⟩
theorem dt_empty {P : Program} {w : World} {H : Hp} (h : Heap) (hb : sysModules < h.objs.size) : ObjOk P w H (h.push { cls := .type "dict", data := .dict #[] }) h.objs.size (.dT []) :=
  ⟨Nat.zero_le _, beq_eq_false_iff_ne.mpr (Ne.symm (Nat.ne_of_lt hb)), [], .nil, _, #[], 0, Heap.get?_push_size _ rfl, ⟨rfl, rfl, rfl⟩, rfl, rfl, List.nodup_nil⟩
/-- {}, to be a dict of the kind that is wanted -/
def tDNewK : TE := fun _ H Q => ∀ p, H p = none → Q (.ref p) (upd H p (.dK []))
def tDNewT : TE := fun _ H Q => ∀ p, H p = none → Q (.ref p) (upd H p (.dT []))
section
variable {X : Cx} {pos : Pos}
theorem pe_dnewK : PE X (.Dict [] [] pos) tDNewK := fun pins s σ H Q I h =>
  wpAny_Dict_empty ⟨.ref s.heap.objs.size, _, I.laid (a := s.heap.objs.size) (o := .dK []) (t' := s.toks) (fun _ _ q => Heap.get?_push_of_some _ q) (Nat.le_refl _) (dk_empty s.heap I.big), rfl, h _ (I.hok.fresh (Nat.le_refl _))⟩
theorem pe_dnewT : PE X (.Dict [] [] pos) tDNewT := fun pins s σ H Q I h =>
  wpAny_Dict_empty ⟨.ref s.heap.objs.size, _, I.laid (a := s.heap.objs.size) (o := .dT []) (t' := s.toks) (fun _ _ q => Heap.get?_push_of_some _ q) (Nat.le_refl _) (dt_empty s.heap I.big), rfl, h _ (I.hok.fresh (Nat.le_refl _))⟩
end

/-- the pairs of a display, from the left -/
def tPairs : List (TE × TE) → St → Hp → (List (V × V) → Hp → Prop) → Prop
  | [], _, H, Q => Q [] H
  | (tk, tv) :: r, σ, H, Q => tk σ H fun x H1 => tv σ H1 fun y H2 => tPairs r σ H2 fun ps H3 => Q ((x, y) :: ps) H3
abbrev VV : List (V × V) → List (Value × Value) → Prop := Paired fun p q => RelV p.1 q.1 ∧ RelV p.2 q.2
def PPs (X : Cx) (pos : Pos) (keys : List (Option Expr)) (values : List Expr) (trs : List (TE × TE)) : Prop :=
  ∀ (pins : List (Addr × Obj)) (s : Shared) (σ : St) (H : Hp) (Q : List (V × V) → Hp → Prop), Inv X pins σ H s → tPairs trs σ H Q →
    wpAny (model X.prog X.w) X.A (evalPairs (pairTrees keys values X.env pos)) (fun vs s' => ∃ ps H', Inv X pins σ H' s' ∧ VV ps vs ∧ Q ps H') X.xe s
theorem pps_nil {X : Cx} {pos : Pos} : PPs X pos [] [] [] := fun pins s σ H Q I h => pairTrees_nil_walk ⟨[], H, I, .nil, h⟩
theorem pps_cons {X : Cx} {pos : Pos} {k v : Expr} {ks : List (Option Expr)} {vs : List Expr} {tk tv : TE} {trs : List (TE × TE)} (hk : PE X k tk) (hv : PE X v tv) (hr : PPs X pos ks vs trs) :
    PPs X pos (some k :: ks) (v :: vs) ((tk, tv) :: trs) := fun pins s σ H Q I h =>
  pairTrees_cons_walk (thn (hk pins s σ H _ I h) fun u s1 ⟨x, H1, I1, rx, q1⟩ => thn (hv pins s1 σ H1 _ I1 q1) fun w2 s2 ⟨y, H2, I2, ry, q2⟩ =>
    thn (hr pins s2 σ H2 _ I2 q2) fun ws s3 ⟨ps, H3, I3, rel, q3⟩ => ⟨(x, y) :: ps, H3, I3, .cons ⟨rx, ry⟩ rel, q3⟩)

def mergeK (kvs more : List (Key × V)) : List (Key × V) := more.foldl (fun acc kv => putK acc kv.1 kv.2) kvs
theorem KV.merge : ∀ {more : List (Key × V)} {rs : List (Key × Value)} {kvs : List (Key × V)} {vs : List (Key × Value)}, KV more rs → KV kvs vs → KV (mergeK kvs more) (merged vs rs) := by
  intro more rs kvs vs r
  unfold KV at r
  induction r generalizing kvs vs with
  | nil => intro q; exact q
  | @cons p q ps qs h t ih =>
    intro r0
    have e : KV (putK kvs p.1 p.2) (stored vs q.1 q.2) := by
      have := r0.put p.1 h.2
      rw [← h.1]; exact this
    exact ih e
theorem length_mergeK : ∀ (more kvs : List (Key × V)), (mergeK kvs more).length ≤ kvs.length + more.length
  | [], kvs => by show kvs.length ≤ kvs.length + 0; omega
  | p :: r, kvs => by
    have h1 := length_mergeK r (putK kvs p.1 p.2)
    have h2 := length_putK kvs p.1 p.2
    show (mergeK (putK kvs p.1 p.2) r).length ≤ _
    rw [List.length_cons]; omega
theorem carries_of {P : Program} {w : World} : ∀ {kvs : List (Key × V)} {ws : List (Value × Value)}, VV (kvs.map fun kv => (kV kv.1, kv.2)) ws → ∃ rs, Carries (mixKind P w) ws rs ∧ KV kvs rs
  | [], _, r => by rw [List.map_nil] at r; cases r; exact ⟨[], True.intro, .nil⟩
  | p :: kvs, _, r => by
    rw [List.map_cons] at r
    cases r with
    | @cons a b as bs h t =>
      obtain ⟨rs, c, q⟩ := carries_of (P := P) (w := w) t
      obtain ⟨b1, b2⟩ := b
      exact ⟨(p.1, b2) :: rs, ⟨kV_is h.1, rfl, c⟩, .cons ⟨rfl, h.2⟩ q⟩
/-- {k: v, ..} with keys ints and texts; the new dict stands empty while the pairs are made -/
def tDisp (trs : List (TE × TE)) : TE := fun σ H Q => ∀ p, H p = none → tPairs trs σ (upd H p (.dK [])) fun ps H2 => H2 p = some (.dK []) ∧ ∃ kvs : List (Key × V), ps = kvs.map (fun kv => (kV kv.1, kv.2)) ∧ kvs.length ≤ 15 ∧ Q (.ref p) (upd H2 p (.dK (mergeK [] kvs)))
theorem pe_disp {X : Cx} {pos : Pos} {keys : List (Option Expr)} {values : List Expr} {trs : List (TE × TE)} (h : PPs X pos keys values trs) (hall : keys.all (·.isSome) = true) (hl : keys.length = values.length) (h0 : keys ≠ [])
    (h15 : keys.length ≤ 15) : PE X (.Dict keys values pos) (tDisp trs) := by
  intro pins s σ H Q I q
  have hn := I.hok.fresh (Nat.le_refl s.heap.objs.size)
  have I1 := I.laid (a := s.heap.objs.size) (o := .dK []) (h' := s.heap.push { cls := .type "dict", data := .dict #[] }) (t' := s.toks) (fun _ _ q => Heap.get?_push_of_some _ q) (Nat.le_refl _) (dk_empty s.heap I.big)
  refine wpAny_Dict_walk (knd := mixKind X.prog X.w) hall hl h0 h15 (thn (h pins _ σ _ _ I1 (q _ hn)) fun ws s2 ⟨ps, H2, I2, rel, e, kvs, ep, lk, q2⟩ => ?_)
  subst ep
  obtain ⟨rs, c, rk⟩ := carries_of (P := X.prog) (w := X.w) rel
  obtain ⟨z, hd, vs0, r0, dd⟩ := dk_of I2.hok e
  cases r0
  refine ⟨rs, c, dd, fun h' dd' hs => ⟨.ref s.heap.objs.size, _, ?_, rfl, q2⟩⟩
  have hz : (mergeK [] kvs).length ≤ sizeLine := by
    have h1 := length_mergeK kvs []
    rw [List.length_nil] at h1
    rw [sizeLine_eq]; omega
  have he : ∃ q, h'.get? s.heap.objs.size = some q := let ⟨q, _, _, hq, _⟩ := dd'; ⟨q, hq⟩
  exact d_write I2 (by rw [e]; exact True.intro) hs he (dk_new hz hd (rk.merge .nil) dd')


/-! ### methods -/
/-- a method call o.m(e) of a built-in, with one argument: what must be seen of the text -/
structure M1 (X : Cx) (o : Expr) (m : Str) (apos : Pos) (e : Expr) (cpos : Pos) : Prop where
  base : attributeBase o m X.env (eval o X.env) = eval o X.env
  few : ((backTo cpos (starEach [e] X.env)).all (fun x => !x.1) && (backToKw cpos (keywordEach [] X.env)).all (fun x => x.1.isSome)
    && decide (([e] : List Expr).length + ([] : List Keyword).length + (if ([] : List Keyword).isEmpty then 0 else 1) < 30)) = true
  line : (apos.endLine == cpos.line) = true
  trees : backTo cpos (starEach [e] X.env) = [(false, eval e X.env)]
structure M2 (X : Cx) (o : Expr) (m : Str) (apos : Pos) (e f : Expr) (cpos : Pos) : Prop where
  base : attributeBase o m X.env (eval o X.env) = eval o X.env
  few : ((backTo cpos (starEach [e, f] X.env)).all (fun x => !x.1) && (backToKw cpos (keywordEach [] X.env)).all (fun x => x.1.isSome)
    && decide (([e, f] : List Expr).length + ([] : List Keyword).length + (if ([] : List Keyword).isEmpty then 0 else 1) < 30)) = true
  line : (apos.endLine == cpos.line) = true
  trees : backTo cpos (starEach [e, f] X.env) = [(false, eval e X.env), (false, eval f X.env)]

/-- a is a dict, whatever its keys -/
def IsD (H : Hp) (a : Addr) : Prop := (∃ kvs, Rd H a (.dK kvs)) ∨ ∃ kvs, Rd H a (.dT kvs)
theorem isD_at {X : Cx} {pins : List (Addr × Obj)} {σ : St} {H : Hp} {s : Shared} {a : Addr} (I : Inv X pins σ H s) (d : IsD H a) :
    s.TypeIs (.ref a) "dict" ∧ (∀ b, Value.ref a = .ref b → ∃ ob, s.heap.get? b = some ob ∧ ob.dict = none) ∧ (a == sysModules) = false := by
  rcases d with ⟨kvs, e⟩ | ⟨kvs, e⟩
  · obtain ⟨_, hd, vs, _, dd⟩ := dk_rd I.hok e
    refine ⟨dd.typeIs, fun b q => ?_, hd⟩
    cases q
    obtain ⟨ob, _, _, h1, h2, _⟩ := dd
    exact ⟨ob, h1, h2.2.1⟩
  · obtain ⟨_, hd, xs, _, dd⟩ := dt_rd I.hok e
    refine ⟨dd.typeIs, fun b q => ?_, hd⟩
    cases q
    obtain ⟨ob, _, _, h1, h2, _⟩ := dd
    exact ⟨ob, h1, h2.2.1⟩

section
variable {X : Cx} {pins : List (Addr × Obj)} {σ : St} {H : Hp} {s : Shared} {a : Addr} {y d : V} {u r : Value} {o : Option V} {A : Around} {E : Value → Shared → Prop}
/-- d.get(y) -/
theorem d_get1 {Q : Value → Shared → Prop} (hu : A.units + 1 < cLine) (I : Inv X pins σ H s) (g : DGet H a y o) (ry : RelV y u) (h : ∀ w' s', Inv X pins σ H s' → RelV (o.getD .non) w' → Q w' s') :
    wpAny (model X.prog X.w) A (call (.builtin "dict.get") [.ref a, u]) Q E s := by
  rcases g with ⟨kvs, k, e, ey, l⟩ | ⟨kvs, k, b, e, ey, eb, l⟩
  · subst ey
    obtain ⟨z, hd, vs, rel, dd⟩ := dk_rd I.hok e
    refine call_meetsIn PySem.F.slot_dict_get dd.typeIs PySem.F.entry_dict_get (PySem.F.args_dict_get_2 _ _) (meets_dict_get (mixKind X.prog X.w) a (kV_is ry) hd) ⟨_, dd.mapOf, h _ _ (I.tok _) ?_⟩
    rw [l]
    exact (rel.val k).getD rfl
  · subst ey
    cases (show u = Value.ref b from ry)
    obtain ⟨z, hd, xs, rel, dd⟩ := dt_rd I.hok e
    refine call_meetsIn PySem.F.slot_dict_get dd.typeIs PySem.F.entry_dict_get (PySem.F.args_dict_get_2 _ _) (meetsH_dict_get (tupleKind (mixKind X.prog X.w)) a b hd) ⟨tupleKind_room_in1 hu, k, xs, key_of I.hok eb, dd, h _ _ (I.tok _) ?_⟩
    rw [l]
    exact (rel.val k).getD rfl
/-- d.get(y, x) -/
theorem d_get2 {Q : Value → Shared → Prop} (hu : A.units + 1 < cLine) (I : Inv X pins σ H s) (g : DGet H a y o) (ry : RelV y u) (rd : RelV d r) (h : ∀ w' s', Inv X pins σ H s' → RelV (o.getD d) w' → Q w' s') :
    wpAny (model X.prog X.w) A (call (.builtin "dict.get") [.ref a, u, r]) Q E s := by
  rcases g with ⟨kvs, k, e, ey, l⟩ | ⟨kvs, k, b, e, ey, eb, l⟩
  · subst ey
    obtain ⟨z, hd, vs, rel, dd⟩ := dk_rd I.hok e
    refine call_meetsIn PySem.F.slot_dict_get dd.typeIs PySem.F.entry_dict_get (PySem.F.args_dict_get_3 _ _ _) (meets_dict_get_default (mixKind X.prog X.w) a (kV_is ry) hd r) ⟨_, dd.mapOf, h _ _ (I.tok _) ?_⟩
    rw [l]
    exact (rel.val k).getD rd
  · subst ey
    cases (show u = Value.ref b from ry)
    obtain ⟨z, hd, xs, rel, dd⟩ := dt_rd I.hok e
    refine call_meetsIn PySem.F.slot_dict_get dd.typeIs PySem.F.entry_dict_get (PySem.F.args_dict_get_3 _ _ _) (meetsH_dict_get_default (tupleKind (mixKind X.prog X.w)) a b hd r) ⟨tupleKind_room_in1 hu, k, xs, key_of I.hok eb, dd, h _ _ (I.tok _) ?_⟩
    rw [l]
    exact (rel.val k).getD rd
end

def tDGet1 (td ty : TE) : TE := fun σ H Q => td σ H fun x H1 => ∃ a, x = .ref a ∧ IsD H1 a ∧ ty σ H1 fun y H2 => ∃ o, DGet H2 a y o ∧ Q (o.getD .non) H2
def tDGet2 (td ty tx : TE) : TE := fun σ H Q => td σ H fun x H1 => ∃ a, x = .ref a ∧ IsD H1 a ∧ ty σ H1 fun y H2 => tx σ H2 fun z H3 => ∃ o, DGet H3 a y o ∧ Q (o.getD z) H3
/-- d.pop(k): there; d.pop(k, x): there or not -/
def tDPop1 (td ty : TE) : TE := fun σ H Q => td σ H fun x H1 => ∃ a, x = .ref a ∧ IsD H1 a ∧ ty σ H1 fun y H2 => ∃ kvs k v, H2 a = some (.dK kvs) ∧ y = kV k ∧ valV kvs k = some v ∧ Q v (upd H2 a (.dK (dropK kvs k)))
def tDPop2 (td ty tx : TE) : TE := fun σ H Q => td σ H fun x H1 => ∃ a, x = .ref a ∧ IsD H1 a ∧ ty σ H1 fun y H2 => tx σ H2 fun z H3 => ∃ kvs k, H3 a = some (.dK kvs) ∧ y = kV k ∧
  (∀ v, valV kvs k = some v → Q v (upd H3 a (.dK (dropK kvs k)))) ∧ (valV kvs k = none → Q z H3)
section
variable {X : Cx} {o e f : Expr} {apos cpos : Pos} {td ty tx : TE}
theorem pe_dget1 (hu : X.A.units + 1 < cLine) (ho : PE X o td) (he : PE X e ty) (m : M1 X o "get" apos e cpos) : PE X (.Call (.Attribute o "get" apos) [e] [] cpos) (tDGet1 td ty) := by
  intro pins s σ H Q I h
  refine wpAny_Call_method m.base m.few m.line PySem.F.plainAttrs_dict PySem.F.slot_dict_get PySem.F.type_dict_get (thn (ho pins s σ H _ I h) fun u s1 ⟨x, H1, I1, rx, a, ex, d, q1⟩ => ?_)
  subst ex
  obtain rfl : u = Value.ref a := rx
  obtain ⟨t1, t2, _⟩ := isD_at I1 d
  refine ⟨t1, t2, ?_⟩
  rw [m.trees]
  refine Calls.callWith_builtin rfl (Calls.evalArgs_plain (Calls.spliced_cons (thn (he pins s1 σ H1 _ I1 q1) fun iv s2 ⟨y, H2, I2, ry, ov, g, q2⟩ => Calls.spliced_nil ?_)))
  exact d_get1 hu I2 g ry fun w' s3 I3 rw' => ⟨_, H2, I3, rw', q2⟩
theorem pe_dget2 (hu : X.A.units + 1 < cLine) (ho : PE X o td) (he : PE X e ty) (hf : PE X f tx) (m : M2 X o "get" apos e f cpos) : PE X (.Call (.Attribute o "get" apos) [e, f] [] cpos) (tDGet2 td ty tx) := by
  intro pins s σ H Q I h
  refine wpAny_Call_method m.base m.few m.line PySem.F.plainAttrs_dict PySem.F.slot_dict_get PySem.F.type_dict_get (thn (ho pins s σ H _ I h) fun u s1 ⟨x, H1, I1, rx, a, ex, d, q1⟩ => ?_)
  subst ex
  obtain rfl : u = Value.ref a := rx
  obtain ⟨t1, t2, _⟩ := isD_at I1 d
  refine ⟨t1, t2, ?_⟩
  rw [m.trees]
  refine Calls.callWith_builtin rfl (Calls.evalArgs_plain (Calls.spliced_cons (thn (he pins s1 σ H1 _ I1 q1) fun iv s2 ⟨y, H2, I2, ry, q2⟩ =>
    Calls.spliced_cons (thn (hf pins s2 σ H2 _ I2 q2) fun fv s3 ⟨z, H3, I3, rz, ov, g, q3⟩ => Calls.spliced_nil ?_))))
  exact d_get2 hu I3 g ry rz fun w' s4 I4 rw' => ⟨_, H3, I4, rw', q3⟩
theorem pe_dpop1 (ho : PE X o td) (he : PE X e ty) (m : M1 X o "pop" apos e cpos) : PE X (.Call (.Attribute o "pop" apos) [e] [] cpos) (tDPop1 td ty) := by
  intro pins s σ H Q I h
  refine wpAny_Call_method m.base m.few m.line PySem.F.plainAttrs_dict PySem.F.slot_dict_pop PySem.F.type_dict_pop (thn (ho pins s σ H _ I h) fun u s1 ⟨x, H1, I1, rx, a, ex, d, q1⟩ => ?_)
  subst ex
  obtain rfl : u = Value.ref a := rx
  obtain ⟨t1, t2, _⟩ := isD_at I1 d
  refine ⟨t1, t2, ?_⟩
  rw [m.trees]
  refine Calls.callWith_builtin rfl (Calls.evalArgs_plain (Calls.spliced_cons (thn (he pins s1 σ H1 _ I1 q1) fun iv s2 ⟨y, H2, I2, ry, kvs, k, v, ea, ey, l, q2⟩ => Calls.spliced_nil ?_)))
  subst ey
  exact d_pop I2 ea ry l (.inl rfl) fun w' s3 I3 rw' => ⟨v, _, I3, rw', q2⟩
theorem pe_dpop2 (ho : PE X o td) (he : PE X e ty) (hf : PE X f tx) (m : M2 X o "pop" apos e f cpos) : PE X (.Call (.Attribute o "pop" apos) [e, f] [] cpos) (tDPop2 td ty tx) := by
  intro pins s σ H Q I h
  refine wpAny_Call_method m.base m.few m.line PySem.F.plainAttrs_dict PySem.F.slot_dict_pop PySem.F.type_dict_pop (thn (ho pins s σ H _ I h) fun u s1 ⟨x, H1, I1, rx, a, ex, d, q1⟩ => ?_)
  subst ex
  obtain rfl : u = Value.ref a := rx
  obtain ⟨t1, t2, _⟩ := isD_at I1 d
  refine ⟨t1, t2, ?_⟩
  rw [m.trees]
  refine Calls.callWith_builtin rfl (Calls.evalArgs_plain (Calls.spliced_cons (thn (he pins s1 σ H1 _ I1 q1) fun iv s2 ⟨y, H2, I2, ry, q2⟩ =>
    Calls.spliced_cons (thn (hf pins s2 σ H2 _ I2 q2) fun fv s3 ⟨z, H3, I3, rz, kvs, k, ea, ey, q3, q4⟩ => Calls.spliced_nil ?_))))
  subst ey
  cases l : valV kvs k with
  | some v => exact d_pop I3 ea ry l (.inr ⟨fv, rfl⟩) fun w' s4 I4 rw' => ⟨v, _, I4, rw', q3 v l⟩
  | none => exact d_popD I3 ea ry l fun s4 I4 => ⟨z, H3, I4, rz, q4 l⟩
end

/-! ### dict(d): a copy -/
section
variable {X : Cx} {pins : List (Addr × Obj)} {σ : St} {H : Hp} {s : Shared} {a : Addr} {kvs : List (Key × V)} {A : Around} {E : Value → Shared → Prop}
theorem d_copyOf {Q : Value → Shared → Prop} (I : Inv X pins σ H s) (e : Rd H a (.dK kvs)) (h : ∀ p s', H p = none → Inv X pins σ (upd H p (.dK kvs)) s' → Q (.ref p) s') : wpAny (model X.prog X.w) A (call (.type "dict") [.ref a]) Q E s := by
  obtain ⟨z, hd, vs, rel, dd⟩ := dk_rd I.hok e
  refine kt_call_dict hd dd (by rw [← rel.length]; exact z) fun h' dd' hs => ?_
  refine h _ _ (I.hok.fresh (Nat.le_refl _)) (I.laid (a := s.heap.objs.size) (o := .dK kvs) (t' := s.toks) (fun b q hq => ?_) (Nat.le_refl _) (dk_new z (beq_eq_false_iff_ne.mpr (Ne.symm (Nat.ne_of_lt I.big))) rel dd'))
  exact (hs.2 b (Nat.ne_of_lt (Heap.lt_size hq))).trans (Heap.get?_push_of_some _ hq)
end


section
variable {X : Cx} {pins : List (Addr × Obj)} {σ : St} {H : Hp} {s : Shared} {a : Addr} {y : V} {u : Value} {A : Around} {E : Value → Shared → Prop}
/-- d[y], not there: a KeyError -/
theorem d_missing {Q : Value → Shared → Prop} (hu : A.units + 1 < cLine) (hh : A.handled = none) (I : Inv X pins σ H s) (g : DGet H a y none) (ry : RelV y u)
    (h : ∀ h' e t', Heap.NewExc s.heap h' e "KeyError" → E (.ref e) { s with heap := h', toks := t' }) : wpAny (model X.prog X.w) A (getItem (.ref a) u) Q E s := by
  rcases g with ⟨kvs, k, e, ey, l⟩ | ⟨kvs, k, b, e, ey, eb, l⟩
  · subst ey
    obtain ⟨z, hd, vs, rel, dd⟩ := dk_rd I.hok e
    have hn : valueAt vs k = none := RelO.none_of (by rw [l]; exact rel.val k)
    exact wpAny_getItem_missing_of (kV_is ry) hd hh dd.mapOf hn fun h' ex ne => h h' ex _ ne
  · subst ey
    cases (show u = Value.ref b from ry)
    obtain ⟨z, hd, xs, rel, dd⟩ := dt_rd I.hok e
    have hn : (atKey xs k).map (·.2) = none := RelO.none_of (by rw [l]; exact rel.val k)
    exact wpAny_getItem_missing_heap (tupleKind_room_in1 hu) (key_of I.hok eb) hd hh dd (Option.map_eq_none_iff.mp hn) fun h' ex ne => h h' ex _ ne
end
end L2

namespace Att
open PySem PySem.W PySem.Calls PyProof.Rows

/-! ### the script -/
theorem ints_of_wellAll {P : Params} {h : Heap} : ∀ (ns : List Int) (vs : List Value), WellAll P h vs (ns.map WData.int) → IntsAre vs ns := by
  intro ns
  induction ns with
  | nil =>
    intro vs w
    rw [List.map_nil] at w
    cases w
    exact .nil
  | cons n ns ih =>
    intro vs w
    rw [List.map_cons] at w
    cases w with
    | cons a b =>
      cases a
      exact .cons _ _ (ih _ b)

theorem script_of {l : OpenLaw} {n : Nat} (hn : l.most = some n) {P : Params} {h : Heap} {args : List WData} {vals : List Value}
    (hpre : l.row.toRowW.claim.pre args = true) (hwl : WellAll P h vals args) :
    ∃ a vs ns, vals = [Value.ref a] ∧ args = [WData.list (ns.map WData.int)] ∧ h.get? a = some { cls := .type "list", data := .seq vs.toArray } ∧ IntsAre vs ns ∧ ns.length ≤ n := by
  have hsh : WShape.hasAll [] args [.list .int] = true := (pre_splitW hpre).1
  have hc : l.pre.holds [] { args := args } = true := (pre_splitW hpre).2
  obtain ⟨d, r, rfl, h1, h2⟩ := hasAllW_cons hsh
  obtain rfl := hasAllW_nil h2
  obtain ⟨xs, rfl, h3⟩ := hasW_list h1
  obtain ⟨ns, rfl⟩ := items_int h3
  have hlen : ns.length ≤ n := by
    unfold OpenLaw.pre at hc
    have h4 : (WTm.not (.lt (.lit (.int (n : Int))) (.len (.arg 0)))).holds [] { args := [.list (ns.map .int)] } = true := by
      have h4 := (holds_andW hc).1
      rw [hn] at h4
      exact h4
    have h5 := condW_of h4 (w_not (w_lt w_lit (w_len_list (w_arg rfl))))
    rw [List.length_map] at h5
    refine Nat.le_of_not_lt fun q => ?_
    have q' : (n : Int) < ((ns.length : Nat) : Int) := by omega
    first
      | (rw [decide_eq_true q'] at h5; exact absurd h5 (by decide))
      | (simp at h5; omega)
  cases hwl with
  | cons w1 w2 =>
    cases w2
    cases w1 with
    | list ho hall => exact ⟨_, _, ns, rfl, rfl, ho, ints_of_wellAll ns _ hall, hlen⟩

theorem post_true (l : OpenLaw) (args : List WData) : l.row.toRowW.claim.post args (.bool true) args = true :=
  postW_of (r := l.row.toRowW) (X := (true == true))
    (show WShape.has [] (.bool true) .bool = true by first | rfl | decide | simp [WShape.has, WShape.arms, WShape.armsAll])
    (show (WTm.eq .res (.lit (.bool true))).value [] { args := args, res := some (.bool true), after := args } = some (.bool (true == true)) from w_eq_bool (w_res rfl) w_lit) rfl

/-! ### the attachment: holds_open's last premise (the goal 'hc' behind k_head) from a wpAny of the law's body -/
theorem attach {l : OpenLaw} {n : Nat} {q : Program} {loose : List Str} {XP : (Str → Option Value) → Heap → Prop} {YP : World → Heap → Prop} {d : DefRec} {x : Str}
    (hn : l.most = some n) (hdf : d.params.defaults = [])
    (hbind : ∀ pm cd doc v : Value, bindArgs (docDef d.name d.params d.body d.scope pm cd doc) ⟨[v], []⟩ = pure [(x, v)])
    (hx : d.scope.names.lookup x = some .local ∨ d.scope.names.lookup x = some .cell)
    (hk : d.scope.kind = .function) (hco : d.scope.isCoroutine = false) (hgen : d.scope.isGenerator = false)
    (body : ∀ (w : World) (s₀ s₁ s : Shared) (mg mb : Str → Option Value) (fa : Addr) (o : Obj) (pm cd doc : Value) (a : Addr) (vs : List Value) (ns : List Int),
      Ground q loose [] XP w s₀ mg mb s₁.heap → YP w s₁.heap →
      s₁.heap.get? fa = some o → o.data = .func (docDef d.name d.params d.body d.scope pm cd doc) → s₁.heap.CodeRec cd d.name → mg d.name = some (.ref fa) →
      s₁.heap.get? a = some { cls := .type "list", data := .seq vs.toArray } → IntsAre vs ns → ns.length ≤ n →
      s.gens = #[] → s.os = s₁.os →
      Fr s₁.heap s₁.heap.objs.size s.heap (bindL (envOfC d.name d.scope s₁.heap.objs.size fa cd).kindOf [(x, .ref a)] fun _ => none) →
      Cl s₁.heap.objs.size (cellsFrom (s₁.heap.objs.size + 1) d.scope.names []) s.heap (bindC (envOfC d.name d.scope s₁.heap.objs.size fa cd).kindOf [(x, .ref a)] fun _ => none) →
      wpAny (model l.prog w) (callerA.deeper (envOfC d.name d.scope s₁.heap.objs.size fa cd)) (execs d.body (envOfC d.name d.scope s₁.heap.objs.size fa cd))
        (fun f s' => f = .ret (.bool true) ∧ OldK s₁.heap s'.heap ∧ s'.os = s₁.os ∧ AllBare s'.gens) (fun _ _ => False) s) :
    WalkO q loose XP YP l.row.toRowW d [] (fun f vs => PySem.call f vs) := by
  intro w s₀ s₁ mg mb G Y fa o pm cd doc dV kV ho hd hcd hD hmg hg args vals as hpre hlay hrd hwl hlo
  obtain rfl : dV = .none := Dflts.none hD hdf
  obtain rfl : kV = .none := Dflts.noKw hD
  obtain ⟨a, vs, ns, rfl, rfl, hobj, hints, hlen⟩ := script_of hn hpre hwl
  refine enter_call ?_
  refine call_cells_ret (o := o) (by rw [depth_caller]; decide) ho (fd_plain hd) G.T.nolimit hcd (hbind pm cd doc (.ref a)) (fun y hy => ?_) (fun h₁ tk F X => ?_) hco hgen hk
  · obtain rfl : y = (x, Value.ref a) := List.mem_singleton.mp hy
    rcases hx with e | e
    · exact .inl e
    · exact .inr ⟨e, cellsFrom_some _ _ _ (.inl e)⟩
  · refine wpAny_mono (body w s₀ s₁ { s₁ with heap := h₁, toks := tk } mg mb fa o pm cd doc a vs ns G Y ho (fd_plain hd) hcd hmg hobj hints hlen hg rfl F X) (fun f s' hq => ?_) (fun _ _ hq => hq)
    obtain ⟨rfl, h2, h3, h4⟩ := hq
    exact ⟨.inl ⟨.bool true, .bool true, [], rfl, fun _ => rfl, .bool true, post_true l _, fun _ => ⟨List.Pairwise.nil, fun _ hm => (nomatch hm)⟩⟩, h2, h3, h4⟩

/-- the same from a codeAny of the CALL (for a layer whose function contracts speak of calls) -/
theorem attach_call {l : OpenLaw} {n : Nat} {q : Program} {loose : List Str} {XP : (Str → Option Value) → Heap → Prop} {YP : World → Heap → Prop} {d : DefRec}
    (hn : l.most = some n) (hdf : d.params.defaults = [])
    (call : ∀ (w : World) (s₀ s₁ : Shared) (mg mb : Str → Option Value) (fa : Addr) (o : Obj) (pm cd doc : Value) (a : Addr) (vs : List Value) (ns : List Int),
      Ground q loose [] XP w s₀ mg mb s₁.heap → YP w s₁.heap →
      s₁.heap.get? fa = some o → o.data = .func (docDef d.name d.params d.body d.scope pm cd doc) → s₁.heap.CodeRec cd d.name → mg d.name = some (.ref fa) →
      s₁.heap.get? a = some { cls := .type "list", data := .seq vs.toArray } → IntsAre vs ns → ns.length ≤ n → s₁.gens = #[] →
      codeAny (model l.prog w) callerA (.call (.ref fa) ⟨[.ref a], []⟩) (fun r s' => r = .ok (.ret (.bool true)) ∧ OldK s₁.heap s'.heap ∧ s'.os = s₁.os ∧ AllBare s'.gens) s₁) :
    WalkO q loose XP YP l.row.toRowW d [] (fun f vs => PySem.call f vs) := by
  intro w s₀ s₁ mg mb G Y fa o pm cd doc dV kV ho hd hcd hD hmg hg args vals as hpre hlay hrd hwl hlo
  obtain rfl : dV = .none := Dflts.none hD hdf
  obtain rfl : kV = .none := Dflts.noKw hD
  obtain ⟨a, vs, ns, rfl, rfl, hobj, hints, hlen⟩ := script_of hn hpre hwl
  refine enter_call (codeAny_mono (call w s₀ s₁ mg mb fa o pm cd doc a vs ns G Y ho (fd_plain hd) hcd hmg hobj hints hlen hg) fun r s' hq => ?_)
  obtain ⟨rfl, h2, h3, h4⟩ := hq
  exact ⟨.inl ⟨.bool true, .bool true, [], rfl, fun _ => rfl, .bool true, post_true l _, fun _ => ⟨List.Pairwise.nil, fun _ hm => (nomatch hm)⟩⟩, h2, h3, h4⟩

/-- the same where the top left finished generators (o_head chose holds_openN): nothing may have changed at all and no generator may be left -/
theorem attachN {l : OpenLaw} {n : Nat} {q : Program} {loose : List Str} {XP : (Str → Option Value) → Heap → Prop} {YP : World → Heap → Prop} {d : DefRec} {x : Str}
    (hn : l.most = some n) (hdf : d.params.defaults = [])
    (hbind : ∀ pm cd doc v : Value, bindArgs (docDef d.name d.params d.body d.scope pm cd doc) ⟨[v], []⟩ = pure [(x, v)])
    (hx : d.scope.names.lookup x = some .local ∨ d.scope.names.lookup x = some .cell)
    (hk : d.scope.kind = .function) (hco : d.scope.isCoroutine = false) (hgen : d.scope.isGenerator = false)
    (body : ∀ (w : World) (s₀ s₁ s : Shared) (mg mb : Str → Option Value) (fa : Addr) (o : Obj) (pm cd doc : Value) (a : Addr) (vs : List Value) (ns : List Int),
      Ground q loose [] XP w s₀ mg mb s₁.heap → YP w s₁.heap →
      s₁.heap.get? fa = some o → o.data = .func (docDef d.name d.params d.body d.scope pm cd doc) → s₁.heap.CodeRec cd d.name → mg d.name = some (.ref fa) →
      s₁.heap.get? a = some { cls := .type "list", data := .seq vs.toArray } → IntsAre vs ns → ns.length ≤ n →
      s.gens = #[] → s.os = s₁.os →
      Fr s₁.heap s₁.heap.objs.size s.heap (bindL (envOfC d.name d.scope s₁.heap.objs.size fa cd).kindOf [(x, .ref a)] fun _ => none) →
      Cl s₁.heap.objs.size (cellsFrom (s₁.heap.objs.size + 1) d.scope.names []) s.heap (bindC (envOfC d.name d.scope s₁.heap.objs.size fa cd).kindOf [(x, .ref a)] fun _ => none) →
      wpAny (model l.prog w) (callerA.deeper (envOfC d.name d.scope s₁.heap.objs.size fa cd)) (execs d.body (envOfC d.name d.scope s₁.heap.objs.size fa cd))
        (fun f s' => f = .ret (.bool true) ∧ (∀ b o, s₁.heap.get? b = some o → s'.heap.get? b = some o) ∧ s'.os = s₁.os ∧ s'.gens = #[]) (fun _ _ => False) s) :
    WalkN q loose XP YP l.row.toRowW d [] (fun f vs => PySem.call f vs) := by
  intro w s₀ s₁ mg mb G Y fa o pm cd doc dV kV ho hd hcd hD hmg hg args vals as hpre hlay hrd hwl hlo
  obtain rfl : dV = .none := Dflts.none hD hdf
  obtain rfl : kV = .none := Dflts.noKw hD
  obtain ⟨a, vs, ns, rfl, rfl, hobj, hints, hlen⟩ := script_of hn hpre hwl
  refine enter_callW ?_
  refine call_cells_ret (o := o) (by rw [depth_caller]; decide) ho (fd_plain hd) G.T.nolimit hcd (hbind pm cd doc (.ref a)) (fun y hy => ?_) (fun h₁ tk F X => ?_) hco hgen hk
  · obtain rfl : y = (x, Value.ref a) := List.mem_singleton.mp hy
    rcases hx with e | e
    · exact .inl e
    · exact .inr ⟨e, cellsFrom_some _ _ _ (.inl e)⟩
  · refine wpAny_mono (body w s₀ s₁ { s₁ with heap := h₁, toks := tk } mg mb fa o pm cd doc a vs ns G Y ho (fd_plain hd) hcd hmg hobj hints hlen hg rfl F X) (fun f s' hq => ?_) (fun _ _ hq => hq)
    obtain ⟨rfl, h2, h3, h4⟩ := hq
    exact ⟨.inl ⟨.bool true, .bool true, [], rfl, fun _ => rfl, .bool true, post_true l _, fun _ => ⟨List.Pairwise.nil, fun _ hm => (nomatch hm)⟩⟩, h2, h3, h4⟩

/-! ### rules over ANY heap (no ledger) from facts about the written part K: the library's own take a ledger (News) for what they write -/
section
variable {prog : Program} {w : World} {A : Around} {E : Value → Shared → Prop} {s : Shared} {K : Frag}

/-- a def of the module, or a method (qual 'C.m'), entered: the frame is the next address; cells behind it -/
theorem call_fn {R : Result → Shared → Prop} {name qual : Str} {params : Arguments} {body : List Stmt} {scope : Scope} {dV kV doc pm cdv ct oc : Value} {an od : Option Addr} {osl : Array (Option Value)} {f : Addr} {args : Args} {binds : List (Str × Value)}
    (X : K.In s.heap) (hlim : s.heap.NoLimit) (ho : K.lookup f = some ⟨oc, od, .func (fnOf name qual params body scope dV kV doc pm an cdv ct), osl⟩) (hcd : codeIn K cdv qual = true) (hroom : A.depth < recursionLimit)
    (hbind : BindsTo s (fnOf name qual params body scope dV kV doc pm an cdv ct) args binds)
    (hkind : (binds.all fun y => scope.names.lookup y.1 == some .local || scope.names.lookup y.1 == some .cell) = true)
    (h : ∀ s₁, InCallC s s.heap.objs.size (bindL (envOfC qual scope s.heap.objs.size f cdv).kindOf binds fun _ => none) (cellsFrom (s.heap.objs.size + 1) scope.names [])
        (bindC (envOfC qual scope s.heap.objs.size f cdv).kindOf binds fun _ => none) s₁ →
      wpAny (model prog w) (A.deeper (envOfC qual scope s.heap.objs.size f cdv)) (execs body (envOfC qual scope s.heap.objs.size f cdv))
        (fun fl s' => R (.ok (.ret (match fl with | .ret v => v | _ => .none))) s')
        (fun e s' => wpAny (model prog w) (A.deeper (envOfC qual scope s.heap.objs.size f cdv)) (leaving (envOfC qual scope s.heap.objs.size f cdv) e) (fun _ s'' => R (.error e) s'') (fun e' s'' => R (.error e') s'') s') s₁)
    (hco : scope.isCoroutine = false) (hgen : scope.isGenerator = false) (hk : scope.kind = .function) : codeAny (model prog w) A (.call (.ref f) args) R s := by
  refine codeAny_call_function hroom (X _ _ ho) rfl hco hgen rfl (codeRec_of X hcd) (hbind _ _ _ _ ?_)
  refine wpAny_newFunctionEnv_cells hk (kindsX hkind _) fun env he s₁ x => ?_
  subst he
  exact ⟨hlim.keeps x.toInCall.keep, codeAny_func (h s₁ x)⟩

/-- C(..): dict at size, instance at size + 1, then __init__ -/
theorem make_obj {R : Result → Shared → Prop} {C fI : Addr} {rest : List Value} {kw : List (Str × Value)}
    (X : K.In s.heap) (hm : makesIn K C = true) (hi : findIn K (.ref C) "__init__" = some (some (.ref fI))) (hf : isFn K (.ref fI) = true)
    (h : codeAny (model prog w) (A.under (.builtin "type.__call__" ⟨.ref C :: rest, kw⟩)) (.call (.ref fI) ⟨.ref (s.heap.objs.size + 1) :: rest, kw⟩) (InitBack (s.heap.objs.size + 1) R)
      { s with heap := (s.heap.push emptyDict).push (instObj C s.heap.objs.size) }) : codeAny (model prog w) A (.call (.ref C) ⟨rest, kw⟩) R s := by
  obtain ⟨hh, g, d, t, os⟩ := s
  exact make_core (makes_of X hm) (looks_findIn X hi) (fun self => bind_fn X self (beq_iff_eq.mp hf)) (.inl rfl) h

/-- x.name where the instance's dict holds the name and the class does not -/
theorem get_field {x C : Addr} {ox : Obj} {es : List DictEntry} {n : Nat} {name : Str} {expr : Bool} {v : Value} {Q : Value → Shared → Prop}
    (X : K.In s.heap) (I : PySem.W.InstAt s.heap x ox C (some (dictOf es n))) (hg : plainGet K C name = true) (hh : hasDictIn K C = true) (ha : findIn K (.ref C) name = some none)
    (hl : getL name es = some (some v)) (hv : handedIn v = true) (h : Q v { s with toks := s.toks + 1 }) : wpAny (model prog w) A (getAttr (.ref x) name expr) Q E s :=
  get_value X I (plainGet_of hg).1 (findObj_own hh ha rfl hl) hv h

/-- x.m(..): the method found in the class -/
theorem get_method {x C f : Addr} {ox : Obj} {es : List DictEntry} {n : Nat} {name : Str} {pl : Sem Bool} {Q : Value × List Value → Shared → Prop}
    (X : K.In s.heap) (I : PySem.W.InstAt s.heap x ox C (some (dictOf es n))) (hg : plainGet K C name = true) (hf : findIn K (.ref C) name = some (some (.ref f))) (ht : isFn K (.ref f) = true)
    (hl : getL name es = some none) (h : Q (.ref f, [.ref x]) s) : wpAny (model prog w) A (getMethod (.ref x) name pl) Q E s :=
  method_fn X I (plainGet_of hg).1 (plainGet_of hg).2 hf (beq_iff_eq.mp ht) (by show (lookIn name (dictOf es n)).map _ = _; rw [lookIn_dict, hl]; rfl) h

/-! the whole heap as the ledger: makes every rule that writes through a ledger a rule over any heap -/
def noObjs (h : Heap) : Heap := { h with objs := #[] }
theorem noObjs_get (h : Heap) (b : Addr) : (noObjs h).get? b = none := by
  cases e : (noObjs h).get? b with
  | none => rfl
  | some o => exact absurd (Heap.lt_size e) (Nat.not_lt_zero _)
def ledger (h : Heap) (L d : Addr) : List (Addr × Obj) := (List.range h.objs.size).filterMap fun a => if a = L ∨ a = d then none else (h.get? a).map fun o => (a, o)
theorem mem_ledger {h : Heap} {L d a : Addr} {o : Obj} : (a, o) ∈ ledger h L d ↔ a ≠ L ∧ a ≠ d ∧ h.get? a = some o := by
  unfold ledger
  rw [List.mem_filterMap]
  constructor
  · rintro ⟨b, _, e⟩
    split at e
    · cases e
    · rename_i hb
      obtain ⟨o', ho, e'⟩ := Option.map_eq_some_iff.mp e
      cases e'
      exact ⟨fun q => hb (.inl q), fun q => hb (.inr q), ho⟩
  · rintro ⟨n1, n2, ho⟩
    refine ⟨a, List.mem_range.mpr (Heap.lt_size ho), ?_⟩
    rw [if_neg (show ¬ (a = L ∨ a = d) from fun q => q.elim n1 n2), ho] <;> rfl
theorem news_ledger {h : Heap} {L d : Addr} {od : Obj} (hne : d ≠ L) (ho : h.get? d = some od) : News (noObjs h) L h ([] ++ (d, od) :: ledger h L d) := by
  rintro ⟨a, o⟩ hp
  rcases List.mem_cons.mp hp with e | hp
  · cases e
    exact ⟨ho, hne, noObjs_get _ _⟩
  · obtain ⟨n1, n2, e⟩ := mem_ledger.mp hp
    exact ⟨e, n1, noObjs_get _ _⟩
theorem fr_all {h : Heap} {L : Addr} {m : Str → Option Value} (n : h.Ns L m) : Fr (noObjs h) L h m :=
  ⟨n, fun b o e => (by rw [noObjs_get] at e; cases e), Nat.zero_le _⟩
/-- Upd of the head entry (for append_K, setItem_K ..) -/
theorem upd_ledger {h : Heap} {L d : Addr} {o o' : Obj} : Upd d o o' ((d, o) :: ledger h L d) ((d, o') :: ledger h L d) :=
  .head fun ⟨_, _⟩ hp => (mem_ledger.mp hp).2.1

/-- x.name = v over any heap: L is any namespace of the heap (the frame's, say): its map stays, its object is not told; all else but the dict stays -/
theorem set_field {x C dx L : Addr} {ox : Obj} {m : Str → Option Value} {es es' : List DictEntry} {n n' : Nat} {name : Str} {v : Value} {Q : Unit → Shared → Prop}
    (X : K.In s.heap) (I : PySem.W.InstAt s.heap x ox C (some (dictOf es n))) (hd : ox.dict = some dx) (hL : s.heap.Ns L m) (hne : dx ≠ L)
    (hs : findIn K (.ref C) "__setattr__" = some (some (.builtin "object.__setattr__"))) (hp : plainOver K C = true) (ht : takerIn K C name = some none) (hh : hasDictIn K C = true) (hl : (getL name es).isSome = true)
    (e : (putL name (PyData.keyHash w.params name) (.str name (s.toks + 1)) v es, putN name es n) = (es', n')) (hz : es'.length ≤ 1000)
    (h : ∀ h' : Heap, h'.Ns L m → h'.get? dx = some (dictOf es' n') → (∀ b o, b ≠ dx → b ≠ L → s.heap.get? b = some o → h'.get? b = some o) → Q () { s with heap := h', toks := s.toks + 2 }) :
    wpAny (model prog w) A (setAttr (.ref x) name v) Q E s := by
  obtain ⟨e1, e2⟩ := Prod.mk.inj e
  have hdx : s.heap.get? dx = some (dictOf es n) := by
    have := I.dict
    rw [hd] at this
    exact this
  refine set_plain X I hs (osa_dict (s := { s with toks := s.toks + 1 }) (h₀ := noObjs s.heap) (L := L) (m := m) (od := dictOf es n) (od' := dictOf es' n') (es := es') (n := n') (pre := []) (post := ledger s.heap L dx)
    (fr_all hL) (news_ledger hne hdx) X I hd hp ht hh hl (fun _ q => nomatch q) (fun ⟨_, _⟩ q => (mem_ledger.mp q).2.1) (by rw [putName_dict, e1, e2]) rfl hz fun h' F' N' => ?_)
  exact h h' F'.ns (N'.get (List.Mem.head _)) fun b o n1 n2 ho => N'.get (List.Mem.tail _ (mem_ledger.mpr ⟨n2, n1, ho⟩))
end
end Att

namespace L2
open PySem PySem.Spec PyProof.Rows

theorem vals_ints : ∀ {vs : List Value} {ns : List Int}, IntsAre vs ns → Vals (ns.map V.int) vs
  | _, _, .nil => .nil
  | _, _, .cons n t h => .cons ⟨t, rfl⟩ (vals_ints h)

/-- nothing is tracked but the script, known to the object (or it is an object of the module) -/
def Only (H : Hp) : Prop := ∀ b, H b = none ∨ ∃ o xs, H b = some (.frz o (.lst xs))

/-- THE HEAD: the law's promise, at the heap behind the top. F, the promise of the law's def, may use that base is part of the heap (so K.In base, base.Ns mainGlobals mg stand in Mod) -/
theorem law_call {P : Program} {w : World} {K : PySem.W.Frag} {mg mb : Str → Option Value} {CX : CXT} {k : Nat} {fa a : Addr} {fd : FuncData} {x : Str} {sp : Sp} {s₁ : Shared} {vs : List Value} {ns : List Int}
    (KX : K.In s₁.heap) (hns : s₁.heap.Ns mainGlobals mg) (hb : s₁.heap.Ns builtinsNs mb) (hbb : ∀ x : Str, x ≠ "__name__" → mb x = bootBuiltins x) (hlim : s₁.heap.NoLimit) (hg : s₁.gens = #[])
    (ha : s₁.heap.get? a = some { cls := .type "list", data := .seq vs.toArray }) (hi : IntsAre vs ns) (hl : ns.length ≤ sizeLine) (hr : Room k callerA)
    (F : ∀ base : Heap, K.In base → base.Ns mainGlobals mg → FnOk P w K mg base CX k fa fd [x] sp) (hbind : ∀ (s : Shared) (u : Value), BindsTo s fd ⟨[u], []⟩ [(x, u)])
    (hsp : ∀ H : Hp, Only H → SqL K H a (ns.map V.int) → sp [.ref a] H (fun v _ => v = .bl true) fun _ _ _ => False)
    (hCX : ∀ H e s', CX [] H s₁ (fun _ _ _ => False) e s' → False) :
    codeAny (model P w) callerA (.call (.ref fa) ⟨[.ref a], []⟩) (fun r s' => r = .ok (.ret (.bool true)) ∧ OldK s₁.heap s'.heap ∧ s'.os = s₁.os ∧ AllBare s'.gens) s₁ := by
  have rv := vals_ints hi
  have lenV := hi.length
  -- from an abstract heap in which nothing but the script may be tracked
  have core : ∀ H : Hp, Only H → SqL K H a (ns.map V.int) → HOk P w H s₁.heap → (∀ b, H b ≠ none → b = a) → (H a ≠ none → K.lookup a = none) →
      codeAny (model P w) callerA (.call (.ref fa) ⟨[.ref a], []⟩) (fun r s' => r = .ok (.ret (.bool true)) ∧ OldK s₁.heap s'.heap ∧ s'.os = s₁.os ∧ AllBare s'.gens) s₁ := by
    intro H hO hS hok hA hK
    have base_of : ∀ {b : Addr} {o : Obj}, s₁.heap.get? b = some o → H b = none → (hidT s₁.heap H).get? b = some o := fun e n => hidT_get e n
    have noA : ∀ {b : Addr} {o : Obj} {es : Array DictEntry} {ep : Nat}, s₁.heap.get? b = some o → o.data = .dict es ep → H b = none := fun {b o es ep} e d => by
      cases q : H b with
      | none => rfl
      | some u =>
        have e' : b = a := hA b (by rw [q]; simp)
        subst e'
        rw [ha] at e; cases e
        have d' : Data.seq vs.toArray _ = Data.dict es ep := d
        cases d'
    have nsK : ∀ {b : Addr} {m : Str → Option Value}, s₁.heap.Ns b m → (hidT s₁.heap H).Ns b m := fun {b m} ⟨o, es, ep, e, d, r⟩ => ⟨o, es, ep, base_of e (noA e d), d, r⟩
    have hKb : K.In (hidT s₁.heap H) := fun b o e => base_of (KX b o e) (by
      cases q : H b with
      | none => rfl
      | some u =>
        have e' : b = a := hA b (by rw [q]; simp)
        subst e'
        rw [hK (by rw [q]; simp)] at e; cases e)
    have hM : Mod K mg (hidT s₁.heap H) := ⟨hKb, nsK hns, ⟨mb, nsK hb, hbb⟩, let ⟨mc, h1, h2⟩ := hlim; ⟨mc, nsK h1, h2⟩⟩
    have e0 : Env0 P w K mg (hidT s₁.heap H) callerA [] s₁ H := ⟨rfl, hM, fun b o e => of_hidT e, Nat.le_of_eq (hidT_size _ _), trivial, fun b hb => absurd (show b ∈ ([] : List Addr) from hb) (by simp), hok, .of_eq hg⟩
    refine codeAny_mono ((F _ hKb (nsK hns)).run callerA [] s₁ H ⟨[.ref a], []⟩ [.ref a] [.ref a] _ _ hr e0 (hbind s₁ (.ref a)) (.cons rfl .nil) (hsp H hO hS)) fun r s' h => ?_
    cases r with
    | error e => exact (hCX H e s' h).elim
    | ok fl =>
      cases fl with
      | next => exact False.elim h
      | brk => exact False.elim h
      | cont => exact False.elim h
      | ret u =>
        obtain ⟨v, H', os, bare, un, hok', r', q⟩ := h
        have q' : v = .bl true := q
        subst q'
        obtain rfl : u = Value.bool true := r'
        refine ⟨rfl, OldK.of_keep fun b o e => ?_, os, bare⟩
        cases q : H b with
        | none => exact un.keep b o e q (by intro z; exact absurd (show b ∈ ([] : List Addr) from z) (by simp)) (by simp)
        | some u =>
          rcases hO b with z | ⟨ob, xs, z⟩
          · rw [q] at z; cases z
          · have z2 := un.frzs b ob _ z
            obtain ⟨e1, _⟩ := hok b _ z
            obtain ⟨e2, _⟩ := hok' b _ z2
            rw [e] at e1; cases e1
            exact e2
  cases hk : K.lookup a with
  | some o =>
    -- the script is one of the module's own objects
    have e := KX a o hk
    rw [ha] at e
    cases e
    refine core (fun _ => none) (fun _ => .inl rfl) (.inr ⟨_, vs.toArray, _, hk, rfl, rfl, rfl, by rw [List.size_toArray, lenV]; exact hl, by simpa using rv⟩) (fun b u z => by have z' : (none : Option HO) = some u := z; cases z') (fun b z => absurd rfl z) fun z => absurd rfl z
  | none =>
    refine core (fun b => if b = a then some (.frz { cls := .type "list", data := .seq vs.toArray } (.lst (ns.map V.int))) else none) (fun b => ?_) (.inl (.inr ⟨{ cls := .type "list", data := .seq vs.toArray }, if_pos rfl⟩)) (fun b u z => ?_) (fun b z => ?_) fun _ => hk
    · by_cases hb : b = a
      · exact .inr ⟨_, _, if_pos hb⟩
      · exact .inl (if_neg hb)
    · by_cases hb : b = a
      · have z' := (if_pos hb).symm.trans z
        cases z'
        subst hb
        exact ⟨ha, by rw [List.length_map]; exact hl, vs, _, rv, ha⟩
      · have z' := (if_neg hb).symm.trans z
        cases z'
    · by_cases hb : b = a
      · exact hb
      · exact absurd (if_neg hb) z
end L2

namespace L2
open PySem PySem.Spec PyProof.Rows

abbrev KOf {K : PySem.W.Frag} {h : Heap} (_ : K.In h) : PySem.W.Frag := K

/-- the goal that k_head leaves (case hc), from the law's promise. F gives the function object fd (K's own) once, then the promise over every base -/
theorem walk_of {l : PySem.W.OpenLaw} {n k : Nat} {q : Program} {loose : List Str} {XP : (Str → Option Value) → Heap → Prop} {YP : World → Heap → Prop} {d : DefRec} {K : Params → PySem.W.Frag} {CX : World → CXT} {sp : World → Sp} {x : Str}
    (hn : l.most = some n) (hn2 : n ≤ sizeLine) (hdf : d.params.defaults = []) (hr : Room k callerA)
    (hY : ∀ (w : World) (h : Heap), YP w h → (K w.params).In h)
    (F : ∀ (w : World) (mg : Str → Option Value) (fa : Addr) (h : Heap), (K w.params).In h → h.Ns mainGlobals mg → mg d.name = some (.ref fa) →
      ∃ fd : FuncData, (∀ (s : Shared) (u : Value), BindsTo s fd ⟨[u], []⟩ [(x, u)]) ∧
        ∀ base : Heap, (K w.params).In base → base.Ns mainGlobals mg → FnOk l.prog w (K w.params) mg base (CX w) k fa fd [x] (sp w))
    (hsp : ∀ (w : World) (H : Hp) (a : Addr) (ns : List Int), ns.length ≤ n → Only H → SqL (K w.params) H a (ns.map V.int) → sp w [.ref a] H (fun v _ => v = .bl true) fun _ _ _ => False)
    (hCX : ∀ (w : World) (H : Hp) (s : Shared) (e : Value) (s' : Shared), CX w [] H s (fun _ _ _ => False) e s' → False) :
    PySem.W.WalkO q loose XP YP l.row.toRowW d [] (fun f vs => PySem.call f vs) := by
  refine Att.attach_call hn hdf fun w s₀ s₁ mg mb fa o pm cd doc a vs ns G Y ho hd hcd hmg hobj hints hlen hg => ?_
  have KX := hY w _ Y
  obtain ⟨fd, hb, hF⟩ := F w mg fa _ KX G.T.g hmg
  exact law_call KX G.T.g G.T.b G.T.builtins G.T.nolimit hg hobj hints (Nat.le_trans hlen hn2) hr hF hb (fun H hO hS => hsp w H a ns hlen hO hS) fun H e s' => hCX w H s₁ e s'
/-- the same where the promise hangs on the written part alone: (sp := My.sp_law), no hole under a binder -/
theorem walk_ofK {l : PySem.W.OpenLaw} {n k : Nat} {q : Program} {loose : List Str} {XP : (Str → Option Value) → Heap → Prop} {YP : World → Heap → Prop} {d : DefRec} {K : Params → PySem.W.Frag} {CX : CXT} {sp : PySem.W.Frag → Sp} {x : Str}
    (hn : l.most = some n) (hn2 : n ≤ sizeLine) (hdf : d.params.defaults = []) (hr : Room k callerA)
    (hY : ∀ (w : World) (h : Heap), YP w h → (K w.params).In h)
    (F : ∀ (w : World) (mg : Str → Option Value) (fa : Addr) (h : Heap), (K w.params).In h → h.Ns mainGlobals mg → mg d.name = some (.ref fa) →
      ∃ fd : FuncData, (∀ (s : Shared) (u : Value), BindsTo s fd ⟨[u], []⟩ [(x, u)]) ∧
        ∀ base : Heap, (K w.params).In base → base.Ns mainGlobals mg → FnOk l.prog w (K w.params) mg base CX k fa fd [x] (sp (K w.params)))
    (hsp : ∀ (K : PySem.W.Frag) (H : Hp) (a : Addr) (ns : List Int), ns.length ≤ n → Only H → SqL K H a (ns.map V.int) → sp K [.ref a] H (fun v _ => v = .bl true) fun _ _ _ => False)
    (hCX : ∀ (H : Hp) (s : Shared) (e : Value) (s' : Shared), CX [] H s (fun _ _ _ => False) e s' → False) :
    PySem.W.WalkO q loose XP YP l.row.toRowW d [] (fun f vs => PySem.call f vs) :=
  walk_of (K := K) (CX := fun _ => CX) (sp := fun w => sp (K w.params)) hn hn2 hdf hr hY F (fun w H a ns h1 h2 h3 => hsp (K w.params) H a ns h1 h2 h3) fun _ H s e s' => hCX H s e s'
end L2

/- THE LAST THEOREM (shape; LID, My.* are yours):
   My.Adr: a structure of the addresses that your layer names (classes, functions); My.Txt K t: a structure (Prop) of the equations over K;
   My.txt_mk : {K} {implicit addresses ..} (e1 : nsIn K mainGlobals "law" = some (some (.ref f))) (e2 : K.lookup f = some ⟨oc, od, .func (fnOf "law" "law" params body scope dV kV doc pm an cdv ct), sl⟩) (e3 : codeIn K cdv "law" = true) .. : ∃ t, My.Txt K t

set_option maxRecDepth 100000 in
set_option maxHeartbeats 0 in
theorem PySem.Challenge.cw_LID_holds : PySem.Challenge.rw_LID.Holds := by
  w_on; o_law; k_head; (case hw => w_witness2)
  k_fill
  refine L2.walk_of (l := PySem.Challenge.rw_LID) (n := 63) (k := 40) (x := "script") (CX := fun w => ..) (sp := fun _ => My.sp_law) rfl (by decide) rfl ⟨rfl, by decide, by decide⟩ (fun w h Y => PySem.W.kIn_of Y) ?F ?S ?C
  case F =>
    intro w mg fa h KX G hmg
    have T : ∃ t, My.Txt (L2.KOf KX) t := by
      dsimp only [L2.KOf]                          -- K must stand as «<heap const> w.params» for k_is
      refine' My.txt_mk ?e1 ?e2 ?e3 ..
      (case e1 => PySem.W.k_is)                    -- in the order: a name -> its address -> its object -> its parts
      (case e2 => PySem.W.k_is)
      ..
    obtain ⟨t, T⟩ := T
    have e0 := hmg.symm.trans (PySem.W.mg_of KX G T.law)
    cases e0                                       -- fa is the law's own address
    exact ⟨_, fun s u => .of_eq rfl, fun base kb nb => My.law_fn T kb nb⟩     -- if «.of_eq rfl» comes too early: refine' ⟨_, ?b, fun base kb nb => My.law_fn T kb nb⟩; exact fun s u => .of_eq rfl
  case S => exact fun w H a ns hl hO hS => ..
  case C => exact ..
(the tactic k_is has no namespace: write k_is) -/

/-! SHORT WORDS over the layer: a def of the text, its body, what a loop and a test want. -/
namespace L2
open PySem PySem.Spec PyProof.Rows

/-! ### the text by places -/
/-- the j-th statement of a class's body -/
def inClass (s : Stmt) (j : Nat) : Stmt := match s with
  | .ClassDef _ _ _ body _ _ _ _ _ _ _ => body.getD j (.Pass ⟨0, 0, 0, 0⟩)
  | _ => .Pass ⟨0, 0, 0, 0⟩
def defArgs (s : Stmt) : Arguments := match s with
  | .FunctionDef _ a _ _ _ _ _ _ _ _ => a
  | _ => { posonlyargs := [], args := [], vararg := none, kwonlyargs := [], kw_defaults := [], kwarg := none, defaults := [] }
def defBody (s : Stmt) : List Stmt := match s with
  | .FunctionDef _ _ b _ _ _ _ _ _ _ => b
  | _ => []
def defScope (s : Stmt) : Scope := match s with
  | .FunctionDef _ _ _ _ _ _ sc _ _ _ => sc
  | _ => { kind := .function, names := [], isGenerator := false, isCoroutine := false }

/-! ### no exception leaves a def -/
abbrev CX0 : CXT := fun _ _ _ _ _ _ => False
abbrev E0 : XK := fun _ _ _ => False
theorem pass0 {X : Cx} : Passes CX0 X E0 := fun _ _ _ _ _ _ _ h => h.elim

/-! ### a def (or method) of the text as it stands behind the top -/
structure Fun (K : PySem.W.Frag) (x qual : Str) (st : Stmt) (f : Addr) (fd : FuncData) : Prop where
  ex : ∃ (oc : Value) (od : Option Addr) (kV doc pm : Value) (an : Option Addr) (cdv ct : Value) (osl : Array (Option Value)),
    fd = PySem.W.fnOf x qual (defArgs st) (defBody st) (defScope st) .none kV doc pm an cdv ct ∧ K.lookup f = some ⟨oc, od, .func fd, osl⟩ ∧ PySem.W.codeIn K cdv qual = true
  kp : PySem.W.keepIn K (.ref f) = true
section
variable {P : Program} {w : World} {K : PySem.W.Frag} {mg : Str → Option Value} {base : Heap}
/-- THE RULE for a def: its body as a term of rules, and the reading of that term -/
theorem Fun.ok {x qual : Str} {st : Stmt} {f : Addr} {fd : FuncData} {N ps : List Str} {k : Nat} {sp : Sp} (F : Fun K x qual st f fd) (S : FnScope N ps (defScope st)) (len : ∀ vs H Q E, sp vs H Q E → vs.length = ps.length)
    (hbody : ∀ (cdv : Value) (A : Around) (outer : List Env) (s : Shared) (H : Hp) (vs : List V) (Q : VK) (E : XK), Room k (A.deeper (envOfC qual (defScope st) s.heap.objs.size f cdv)) → sp vs H Q E →
      ∃ t, PSs (cxOf CX0 P w K mg base N qual (defScope st) f cdv A outer s H E).nox (defBody st) t ∧ t { nx := fun _ H' => Q .non H', rt := Q } (start N vs) H) : FnOk P w K mg base CX0 (k + 1) f fd ps sp := by
  obtain ⟨oc, od, kV, doc, pm, an, cdv, ct, osl, rfl, lk, hcd⟩ := F.ex
  refine fn_of lk hcd S len fun A outer s H vs Q E hr hsp => ?_
  obtain ⟨t, h, q⟩ := hbody cdv A outer s H vs Q E hr hsp
  exact ⟨t, h.nox, q⟩
/-- how its arguments bind (no defaults): h is «fun _ _ _ _ _ _ us hl => match us, hl with | [_, _], _ => rfl», one _ a parameter -/
theorem Fun.binds {x qual : Str} {st : Stmt} {f : Addr} {fd : FuncData} {ps : List Str} (F : Fun K x qual st f fd)
    (h : ∀ (kV doc pm : Value) (an : Option Addr) (cdv ct : Value) (us : List Value), us.length = ps.length → bindArgs (PySem.W.fnOf x qual (defArgs st) (defBody st) (defScope st) .none kV doc pm an cdv ct) ⟨us, []⟩ = pure (ps.zip us)) : Binds K fd ps [] := by
  obtain ⟨oc, od, kV, doc, pm, an, cdv, ct, osl, rfl, lk, hcd⟩ := F.ex
  exact .all (h kV doc pm an cdv ct)
theorem fun_mk {x qual : Str} {st : Stmt} {f : Addr} {oc : Value} {od an : Option Addr} {osl : Array (Option Value)} {kV doc pm cdv ct : Value} (l : K.lookup f = some ⟨oc, od, .func (PySem.W.fnOf x qual (defArgs st) (defBody st) (defScope st) .none kV doc pm an cdv ct), osl⟩)
    (c : PySem.W.codeIn K cdv qual = true) (k : PySem.W.keepIn K (.ref f) = true) : Fun K x qual st f (PySem.W.fnOf x qual (defArgs st) (defBody st) (defScope st) .none kV doc pm an cdv ct) := ⟨⟨oc, od, kV, doc, pm, an, cdv, ct, osl, rfl, l, c⟩, k⟩
end
theorem hu_of {A : Around} {k : Nat} (hr : Room k A) : A.units + 1 < cLine := Nat.lt_of_le_of_lt (Nat.add_le_add_left (by decide : 1 ≤ 64) _) hr.units
theorem small1000 {n : Nat} (h : n ≤ 1000) : n < sizeLine := Nat.lt_of_le_of_lt h (by decide)

/-! ### expressions in short: the name that stands in the i-th slot -/
section
variable {X : Cx}
theorem pv (i : Nat) {x : Str} {pos : Pos} (hN : X.N[i]? = some x := by rfl) (hv : Vis X.env.scope x := by first | exact Or.inl rfl | exact Or.inr (Or.inl rfl) | exact Or.inr (Or.inr rfl)) (hd : (x == ("__debug__" : Str)) = false := by decide)
    (hcd : (x == ("__classdict__" : Str)) = false := by decide) : PE X (.Name x pos) (tVar i) := pe_var hN hv hd hcd
/-- len of a dict -/
theorem call_lenD : CallR X (.builtin "len") (fun xs H Q => ∃ a kvs, xs = [V.ref a] ∧ H a = some (.dK kvs) ∧ Q (.int kvs.length) H) := by
  intro pins s σ H xs us Q I r h
  obtain ⟨a, kvs, rfl, ha, q⟩ := h
  obtain ⟨u, rfl, ru⟩ := vals1 r
  cases ru
  exact d_len I (.inl ha) fun t s' I' => ⟨.int kvs.length, H, I', ⟨t, rfl⟩, q⟩
end

/-! ### tests -/
theorem iteF {A B : Prop} (h : B) : if false = true then A else B := by
  rw [if_neg Bool.false_ne_true]
  exact h
theorem iteT {A B : Prop} (h : A) : if true = true then A else B := by
  rw [if_pos rfl]
  exact h
theorem ite2 {c A B : Prop} [Decidable c] (h1 : c → A) (h2 : ¬ c → B) : if c then A else B := by
  by_cases h : c
  · rw [if_pos h]
    exact h1 h
  · rw [if_neg h]
    exact h2 h
theorem iteNS {c A B : Prop} [Decidable c] (hc : c) (h : B) : if (!decide c) = true then A else B := by
  rw [decide_eq_true hc]
  exact iteF h

/-! ### heaps -/
/-- all that was tracked is as it was -/
def Same (H H' : Hp) : Prop := ∀ b o, H b = some o → H' b = some o
theorem Same.refl (H : Hp) : Same H H := fun _ _ h => h
theorem Same.trans {H H1 H2 : Hp} (a : Same H H1) (b : Same H1 H2) : Same H H2 := fun c o h => b c o (a c o h)
theorem Same.free {H H' : Hp} (e : Same H H') {l : Addr} (h : H' l = Option.none) : H l = Option.none := by
  cases q : H l with
  | none => rfl
  | some o =>
    rw [e l o q] at h
    cases h
theorem Same.seq {K : PySem.W.Frag} {H H' : Hp} {a : Addr} {xs : List V} (e : Same H H') (h : SqL K H a xs) : SqL K H' a xs := by
  rcases h with (h | ⟨o, h⟩) | h
  · exact .inl (.inl (e _ _ h))
  · exact .inl (.inr ⟨o, e _ _ h⟩)
  · exact .inr h

/-! ### a dict's pairs: keys that differ -/
section
variable {κ : Type} [DecidableEq κ]
theorem valV_not {kvs : List (κ × V)} {k : κ} (h : valV kvs k = none) : ¬ k ∈ kvs.map (·.1) := by
  intro m
  obtain ⟨p, hp, e⟩ := List.mem_map.mp m
  have q : (kvs.any fun kv => decide (kv.1 = k)) = true := List.any_eq_true.mpr ⟨p, hp, decide_eq_true e⟩
  rw [valV_any, h] at q
  exact absurd q (by simp)
theorem valV_in {kvs : List (κ × V)} {k : κ} {v : V} (h : valV kvs k = some v) : k ∈ kvs.map (·.1) := by
  have q : (kvs.any fun kv => decide (kv.1 = k)) = true := by
    rw [valV_any, h]
    all_goals rfl
  obtain ⟨p, hp, e⟩ := List.any_eq_true.mp q
  exact List.mem_map.mpr ⟨p, hp, of_decide_eq_true e⟩
theorem nd_snoc : ∀ {l : List κ} {k : κ}, l.Nodup → ¬ k ∈ l → (l ++ [k]).Nodup
  | [], k, _, _ => by simp
  | a :: r, k, h, hk => by
    obtain ⟨h1, h2⟩ := List.nodup_cons.mp h
    show (a :: (r ++ [k])).Nodup
    refine List.nodup_cons.mpr ⟨fun m => ?_, nd_snoc h2 fun m => hk (List.mem_cons.mpr (Or.inr m))⟩
    rcases List.mem_append.mp m with q | q
    · exact h1 q
    · exact hk (List.mem_cons.mpr (Or.inl (List.mem_singleton.mp q).symm))
theorem nd_putK {kvs : List (κ × V)} {k : κ} (v : V) (hn : (kvs.map (·.1)).Nodup) (h : valV kvs k = none) : ((putK kvs k v).map (·.1)).Nodup := by
  rw [putK_new v h, List.map_append]
  exact nd_snoc hn (valV_not h)
theorem dropK_pos {p : κ × V} {r : List (κ × V)} {k : κ} (e : p.1 = k) : dropK (p :: r) k = dropK r k := by
  unfold dropK
  rw [List.filter_cons, if_neg (by simp [e])]
theorem dropK_neg {p : κ × V} {r : List (κ × V)} {k : κ} (e : ¬ p.1 = k) : dropK (p :: r) k = p :: dropK r k := by
  unfold dropK
  rw [List.filter_cons, if_pos (by simp [e])]
theorem dropK_no : ∀ {kvs : List (κ × V)} {k : κ}, ¬ k ∈ kvs.map (·.1) → dropK kvs k = kvs
  | [], _, _ => rfl
  | p :: r, k, h => by
    have h' : ¬ k ∈ r.map (·.1) := fun m => by
      obtain ⟨q, hq, e⟩ := List.mem_map.mp m
      exact h (List.mem_map.mpr ⟨q, List.mem_cons.mpr (Or.inr hq), e⟩)
    rw [dropK_neg fun e => h (List.mem_map.mpr ⟨p, List.mem_cons.mpr (Or.inl rfl), e⟩), dropK_no h']
theorem dropK_mem {kvs : List (κ × V)} {k : κ} {p : κ × V} (h : p ∈ dropK kvs k) : p ∈ kvs := (List.mem_filter.mp h).1
theorem nd_dropK : ∀ {kvs : List (κ × V)} {k : κ}, (kvs.map (·.1)).Nodup → ((dropK kvs k).map (·.1)).Nodup
  | [], _, _ => List.nodup_nil
  | p :: r, k, h => by
    have h : (p.1 :: r.map (·.1)).Nodup := h
    obtain ⟨h1, h2⟩ := List.nodup_cons.mp h
    by_cases e : p.1 = k
    · rw [dropK_pos e]
      exact nd_dropK h2
    · rw [dropK_neg e]
      show (p.1 :: (dropK r k).map (·.1)).Nodup
      refine List.nodup_cons.mpr ⟨fun m => h1 ?_, nd_dropK h2⟩
      obtain ⟨q, hq, eq⟩ := List.mem_map.mp m
      exact List.mem_map.mpr ⟨q, dropK_mem hq, eq⟩
theorem dropK_len : ∀ {kvs : List (κ × V)} {k : κ}, (kvs.map (·.1)).Nodup → k ∈ kvs.map (·.1) → (dropK kvs k).length + 1 = kvs.length
  | [], _, _, m => by simp at m
  | p :: r, k, h, m => by
    have h : (p.1 :: r.map (·.1)).Nodup := h
    have m : k = p.1 ∨ k ∈ r.map (·.1) := List.mem_cons.mp m
    obtain ⟨h1, h2⟩ := List.nodup_cons.mp h
    by_cases e : p.1 = k
    · subst e
      rw [dropK_pos rfl, dropK_no h1]
      all_goals rfl
    · have m' : k ∈ r.map (·.1) := m.resolve_left fun z => e z.symm
      have q := dropK_len h2 m'
      rw [dropK_neg e, List.length_cons, List.length_cons]
      omega
end
end L2

/-! ### list comprehensions: one for, none or one if; the block runs in a context of its own -/
namespace L2
open PySem PySem.Spec PyProof.Rows
section
variable {prog : Program} {w : World} {A : Around} {R : Result → Shared → Prop} {s : Shared}
theorem compLoop_any {elt target iter : Expr} {ifs : List Expr} {scope : Scope} {pos : Pos} {it acc : Value} {env : Env} (I : Nat → Shared → Prop)
    (turn : ∀ n s, I n s → wpAny (model prog w) A (pyNext it) (fun r s₁ => match r with
      | none => R (.ok .next) s₁
      | some v => wpAny (model prog w) A (letOwnedTupleGo target it v) (fun _ s₂ => wpAny (model prog w) A (assign target env v) (fun _ s₃ =>
          wpAny (model prog w) A (forIn ifs true fun c r => if r = true then do let ok ← isTrue c env (eval c env); pure (ForInStep.yield ok) else pure (ForInStep.yield r)) (fun ok s₄ =>
            if ok = true then wpAny (model prog w) A (eval elt env) (fun x s₅ =>
              wpAny (model prog w) A (call (.builtin "list.append") [acc, x]) (fun _ s₆ => ∃ m, m < n ∧ I m s₆) (fun _ _ => False) s₅) (fun _ _ => False) s₄
            else ∃ m, m < n ∧ I m s₄) (fun _ _ => False) s₃) (fun _ _ => False) s₂) (fun _ _ => False) s₁) (fun _ _ => False) s)
    (n : Nat) (h : I n s) :
    codeAny (model prog w) A (.compLoop (.ListComp elt [⟨target, iter, ifs, 0⟩] scope pos) 0 it acc env) R s := by
  refine codeAny_loop rfl I (fun n s hI => ?_) n h
  show wpAny _ A ((compTurn (.ListComp elt [⟨target, iter, ifs, 0⟩] scope pos) 0 it acc env).onRaise (fun x => do noteFrame x env; theTreesLotGoes x)) _ _ s
  refine wpAny_noted ?_
  rw [compTurn_list]
  refine wpAny_bind (wpAny_standAt (wpAny_bind (wpAny_mono (turn n s hI) (fun r s₁ h₁ => ?_) fun _ _ z => z.elim)))
  cases r with
  | none => exact wpAny_pure h₁
  | some v =>
    refine wpAny_bind (wpAny_mono h₁ (fun _ s₂ h₂ => wpAny_bind (wpAny_mono h₂ (fun _ s₃ h₃ => wpAny_bind (wpAny_mono h₃ (fun ok s₄ h₄ => ?_) fun _ _ z => z.elim)) fun _ _ z => z.elim)) fun _ _ z => z.elim)
    cases ok with
    | false => exact wpAny_pure ⟨rfl, h₄⟩
    | true =>
      exact wpAny_bind (wpAny_bind (wpAny_mono h₄ (fun x s₅ h₅ => wpAny_bind (wpAny_mono h₅ (fun _ s₆ h₆ => wpAny_pure (wpAny_pure ⟨rfl, h₆⟩)) fun _ _ z => z.elim)) fun _ _ z => z.elim))
end

/-- the context of a comprehension's block -/
def cxComp (X : Cx) (N : List Str) (scope : Scope) (cl : List (Str × Addr)) (C : Addr) (s₀ : Shared) (H₀ : Hp) (fp : List Addr) (pl : List (Addr × Obj)) : Cx where
  prog := X.prog
  w := X.w
  K := X.K
  mg := X.mg
  base := X.base
  A := X.A
  N := N
  s₀ := s₀
  H₀ := H₀
  env := compEnvC scope cl C X.env
  outer := X.stack
  stack := X.stack
  ex := fp
  fn := fun _ => false
  calm := X.calm
  pn := X.pn ++ pl
  xe := fun _ _ => False

/-- the names that the block takes from around it, with their slots there -/
inductive Frees (X : Cx) (scope : Scope) : List Str → List Nat → Prop where
  | nil : Frees X scope [] []
  | cons {x : Str} {j : Nat} {xs : List Str} {js : List Nat} : X.N[j]? = some x → (X.env.kindOf x = some .cell ∨ X.env.kindOf x = some .free) →
      ((relabel scope X.env).names.lookup x = some .cell ∨ (relabel scope X.env).names.lookup x = some .free) → Frees X scope xs js → Frees X scope (x :: xs) (j :: js)
theorem Frees.length {X : Cx} {scope : Scope} : ∀ {xs : List Str} {js : List Nat}, Frees X scope xs js → xs.length = js.length
  | _, _, .nil => rfl
  | _, _, .cons _ _ _ t => congrArg (· + 1) t.length
theorem Frees.get {X : Cx} {scope : Scope} : ∀ {xs : List Str} {js : List Nat}, Frees X scope xs js → ∀ {i : Nat} {x : Str}, xs[i]? = some x → ∃ j, js[i]? = some j ∧ X.N[j]? = some x ∧ (X.env.kindOf x = some .cell ∨ X.env.kindOf x = some .free) ∧
      ((relabel scope X.env).names.lookup x = some .cell ∨ (relabel scope X.env).names.lookup x = some .free)
  | _, _, .nil, i, x, h => by simp at h
  | _, _, .cons a b c _, 0, x, h => by simp at h; subst h; exact ⟨_, rfl, a, b, c⟩
  | _, _, .cons _ _ _ t, i + 1, x, h => by
    obtain ⟨j, h1, h2⟩ := t.get (i := i) (x := x) (by simpa using h)
    exact ⟨j, by simpa using h1, h2⟩
def start0 (ls : List Str) (js : List Nat) (σ : St) : St := ls.map (fun _ => none) ++ js.map fun j => (σ[j]?).join

structure CompOk (X : Cx) (scope : Scope) (cl : List (Str × Addr)) (ls fs : List Str) (js : List Nat) : Prop where
  kind : scope.kind = .function
  nocell : ∀ y ∈ scope.names, y.2 ≠ .cell
  locs : ∀ x ∈ scope.names, x.2 = .local → scope.names.lookup x.1 = some .local
  clos : closureFor scope X.env = pure cl
  cells : ∀ x c, cl.lookup x = some c → X.env.cells.lookup x = some c
  has : ∀ x, ((relabel scope X.env).names.lookup x = some .cell ∨ (relabel scope X.env).names.lookup x = some .free) → ∃ c, cl.lookup x = some c
  frees : Frees X scope fs js

theorem inv_comp {X : Cx} {pins : List (Addr × Obj)} {σ : St} {H : Hp} {s : Shared} {scope : Scope} {cl : List (Str × Addr)} {ls fs : List Str} {js : List Nat} {fp : List Addr} {h₁ : Heap} {m : Str → Option Value} {t' : Nat}
    (I : Inv X pins σ H s) (co : CompOk X scope cl ls fs js) (hfp : ∀ b ∈ fp, FpOk X pins H b ∧ b < s.heap.objs.size) (hns : h₁.Ns s.heap.objs.size m) (hk : ∀ b o, s.heap.get? b = some o → h₁.get? b = some o) :
    Inv (cxComp X (ls ++ fs) scope cl s.heap.objs.size s H fp pins) [] (start0 ls js σ) H { s with heap := h₁, toks := t' } := by
  have lk : ∀ b o, s.heap.get? b = some o → b ≠ s.heap.objs.size := fun b o e => Nat.ne_of_lt (Heap.lt_size e)
  refine ⟨⟨I.ok.mod, co.kind, I.ok.glob, I.ok.blt, Nat.le_refl _, fun x y c h1 h2 => ?_, fun x hx => co.has x hx, fun x c h _ => absurd (show false = true from h) Bool.false_ne_true, I.ok.hd, I.ok.frames, .inl rfl, fun b hb => ⟨Nat.ne_of_lt (hfp b hb).2, fun x c e => ?_⟩,
      fun b o e => I.bs b o e, Nat.le_trans I.ok.bsz I.sz, fun b o e hb => ?_, fun b hb hf => ?_, I.stack, fun b hb => I.stkFree b hb⟩,
    rfl, I.bare, Un.kept hk, ⟨m, hns, fun i x v h1 h2 h3 => ?_⟩, fun x c e => ?_, I.hok.fresh (Nat.le_refl _), fun x c e => I.freeC x c (co.cells x c e), fun p hp => ?_, I.hok.kept hk, ?_⟩
  · exact I.ok.inj x y c (co.cells x c h1) (co.cells y c h2)
  · exact (hfp b hb).1.2.2.2.2.1 x c (co.cells x c e)
  · obtain ⟨f0, f1, f2, f3, _⟩ := (hfp b hb).1
    rcases f3 with z | z
    · exact I.ok.noex b o e z
    · exact absurd (Nat.lt_of_lt_of_le (Heap.lt_size (I.ok.bs b o e).1) z) (Nat.lt_irrefl _)
  · obtain ⟨f0, f1, f2, f3, _⟩ := (hfp b hb).1
    rcases List.mem_cons.mp (I.stkSub b hf) with z | z
    · exact f1 z
    · exact f2 z
  · have hi : ¬ i < ls.length := fun hi => by
      have h2' : (start0 ls js σ)[i]? = some (some v) := h2
      unfold start0 at h2'
      rw [List.getElem?_append_left (by simpa using hi), List.getElem?_map, List.getElem?_eq_getElem hi] at h2'
      cases h2'
    have hN : fs[i - ls.length]? = some x := by
      have h1' : (ls ++ fs)[i]? = some x := h1
      rwa [List.getElem?_append_right (by omega)] at h1'
    obtain ⟨j, hj, hx, hc, hl⟩ := co.frees.get hN
    have hσ : σ[j]? = some (some v) := by
      have h2' : (start0 ls js σ)[i]? = some (some v) := h2
      unfold start0 at h2'
      rw [List.getElem?_append_right (by simpa using hi), List.length_map, List.getElem?_map, hj] at h2'
      have q : (σ[j]?).join = some v := by simpa using h2'
      cases e : σ[j]? with
      | none => rw [e] at q; cases q
      | some o => rw [e] at q; have q' : o = some v := q; rw [q']
    obtain ⟨mX, _, hlX⟩ := I.loc
    have vis : Vis X.env.scope x := by
      rcases hc with z | z
      · exact .inr (.inl z)
      · exact .inr (.inr z)
    obtain ⟨u, ru, lo⟩ := hlX j x v hx hσ vis
    refine ⟨u, ru, .inr ⟨hl, ?_⟩⟩
    obtain ⟨c, ec⟩ := co.has x hl
    refine ⟨c, ec, ?_⟩
    rcases lo with ⟨kl, _⟩ | ⟨_, c', e', z⟩
    · rcases hc with q | q <;> (rw [q] at kl; cases kl)
    · rw [co.cells x c ec] at e'
      cases e'
      obtain ⟨o, ho, hd⟩ := z
      exact ⟨o, hk _ _ ho, hd⟩
  · obtain ⟨v, o, ho, hd⟩ := I.cell x c (co.cells x c e)
    exact ⟨v, o, hk _ _ ho, hd⟩
  · have hp' : p ∈ X.pn ++ pins := by
      have q : p ∈ (X.pn ++ pins) ++ [] := hp
      simpa using q
    obtain ⟨e, n, ne, nf, d⟩ := I.pin p hp'
    refine ⟨hk _ _ e, n, lk _ _ e, fun hb => ?_, d⟩
    rcases List.mem_cons.mp (I.stkSub p.1 hb) with z | z
    · exact ne z
    · exact nf z
  · show (start0 ls js σ).length = (ls ++ fs).length
    unfold start0
    rw [List.length_append, List.length_map, List.length_map, List.length_append, co.frees.length]

/-- the tests of a comprehension -/
def PTs (X : Cx) (ifs : List Expr) (t : TT) : Prop :=
  ∀ (pins : List (Addr × Obj)) (s : Shared) (σ : St) (H : Hp) (Q : Bool → Hp → Prop), Inv X pins σ H s → t σ H Q →
    wpAny (model X.prog X.w) X.A (forIn ifs true fun c r => if r = true then do let ok ← isTrue c X.env (eval c X.env); pure (ForInStep.yield ok) else pure (ForInStep.yield r)) (TP X pins σ Q) X.xe s
def tAll : TT := fun _ H Q => Q true H
theorem pts_nil {X : Cx} : PTs X [] tAll := fun _ _ _ H _ I h => wpAny_tests_nil ⟨H, I, h⟩
theorem pts_one {X : Cx} {c : Expr} {t : TT} (h : PT X c t) : PTs X [c] t := fun pins s σ H Q I q => wpAny_tests_one (h pins s σ H Q I q)

/-- what a comprehension wants -/
def tComp (wi : TI) (ls : List Str) (js : List Nat) (g : TG) (tt : TT) (te : TE) : TE := fun σ H Q => wi σ H fun J H1 => ∀ p, H1 p = none → ∃ W : Nat → Nat → St → Hp → Prop, (∃ m, W 0 m (start0 ls js σ) (upd H1 p (.lst []))) ∧ ∀ i m σ' H', W i m σ' H' →
  (J.stop i H' ∧ Q (.ref p) H') ∨ (J.go i H' ∧ ∃ N : St → Hp → Prop, (∀ σ2 H2, N σ2 H2 → ∃ m', m' < m ∧ W (i + 1) m' σ2 H2) ∧ ∀ x H2, J.yld i H' x H2 → g x σ' H2 fun σ3 H3 => tt σ3 H3 fun c H4 =>
    if c = true then te σ3 H4 fun y H5 => ∃ ys, H5 p = some (.lst ys) ∧ ys.length < sizeLine ∧ N σ3 (upd H5 p (.lst (ys ++ [y]))) else N σ3 H4)

section
variable {X : Cx} {tg iter elt : Expr} {ifs : List Expr} {scope : Scope} {cl : List (Str × Addr)} {pos : Pos} {ls fs : List Str} {js : List Nat} {wi : TI} {g : TG} {tt : TT} {te : TE}

theorem comp_run {pins : List (Addr × Obj)} {σ : St} {s2 : Shared} {it : Addr} {fp : List Addr} {tn : Nat → Heap → Prop} {J : It} {H1 : Hp} {R : Value → Addr → Result → Shared → Prop} {Q : VK} {E : Value → Shared → Prop} (hc : X.calm = true) (co : CompOk X scope cl ls fs js)
    (hY : ∀ (C : Addr) (s₀ : Shared) (H₀ : Hp) (fp : List Addr) (pl : List (Addr × Obj)), PG (cxComp X (ls ++ fs) scope cl C s₀ H₀ fp pl) tg g ∧ PTs (cxComp X (ls ++ fs) scope cl C s₀ H₀ fp pl) ifs tt ∧ PE (cxComp X (ls ++ fs) scope cl C s₀ H₀ fp pl) elt te)
    (I : Inv X pins σ H1 s2) (T : Turn X.prog X.w X.K tg J fp it tn) (st : tn 0 s2.heap) (hf : ∀ b ∈ fp, FpOk X pins H1 b)
    (q : ∀ p, H1 p = none → ∃ W : Nat → Nat → St → Hp → Prop, (∃ m, W 0 m (start0 ls js σ) (upd H1 p (.lst []))) ∧ ∀ i m σ' H', W i m σ' H' →
      (J.stop i H' ∧ Q (.ref p) H') ∨ (J.go i H' ∧ ∃ N : St → Hp → Prop, (∀ σ2 H2, N σ2 H2 → ∃ m', m' < m ∧ W (i + 1) m' σ2 H2) ∧ ∀ x H2, J.yld i H' x H2 → g x σ' H2 fun σ3 H3 => tt σ3 H3 fun c H4 =>
        if c = true then te σ3 H4 fun y H5 => ∃ ys, H5 p = some (.lst ys) ∧ ys.length < sizeLine ∧ N σ3 (upd H5 p (.lst (ys ++ [y]))) else N σ3 H4))
    (hR : ∀ (p C : Addr) (H' : Hp) (s' : Shared) (m : Str → Option Value), s'.heap.Ns C m → Inv X pins σ H' s' → H' C = none → C ≠ X.env.locals → X.s₀.heap.objs.size ≤ C → (∀ x c, X.env.cells.lookup x = some c → c ≠ C) → (∀ pp ∈ X.pn ++ pins, pp.1 ≠ C) → Q (.ref p) H' → R (.ref p) C (.ok .next) s') :
    wpAny (model X.prog X.w) X.A (newList []) (fun acc s₃ => wpAny (model X.prog X.w) X.A (newFunctionEnv scope X.env.globals cl [] X.env.qual none .none (some X.env)) (fun cenv s₄ =>
      codeAny (model X.prog X.w) X.A (.compStart (.ListComp elt [⟨tg, iter, ifs, 0⟩] scope pos) 0 (.ref it) acc { cenv with scope := relabel scope X.env }) (R acc cenv.locals) s₄) E s₃) E s2 := by
  have hp0 : H1 s2.heap.objs.size = none := I.hok.fresh (Nat.le_refl _)
  obtain ⟨W, ⟨m0, w0⟩, turn⟩ := q s2.heap.objs.size hp0
  refine wpAny_newObj_type (wpAny_newFunctionEnv co.nocell (by intro y hy; simp at hy) (fun h₁ hns₁ hsb₁ => ?_) co.kind)
  dsimp only at hns₁ hsb₁ ⊢
  have I3 : Inv X pins σ (upd H1 s2.heap.objs.size (.lst [])) { s2 with heap := s2.heap.push { cls := .type "list", dict := none, data := .seq ([] : List Value).toArray } } :=
    I.lnew (its := []) (t' := s2.toks) .nil (Nat.zero_le _)
  generalize hs3 : ({ s2 with heap := s2.heap.push { cls := .type "list", dict := none, data := .seq ([] : List Value).toArray } } : Shared) = s3 at I3
  have hh3 : s2.heap.push { cls := .type "list", dict := none, data := .seq ([] : List Value).toArray } = s3.heap := by rw [← hs3]
  rw [hh3] at hns₁ hsb₁ ⊢
  have hsz3 : s3.heap.objs.size = s2.heap.objs.size + 1 := by rw [← hh3, Heap.size_push]
  have hk3 : ∀ b o, s2.heap.get? b = some o → s3.heap.get? b = some o := fun b o e => by rw [← hh3]; exact Heap.get?_push_of_some _ e
  have hlt : ∀ b ∈ fp, b < s2.heap.objs.size := fun b hb => by
    obtain ⟨o, e, _⟩ := T.obj _ _ st b hb
    exact Heap.lt_size e
  have hnp : ∀ b ∈ fp, upd H1 s2.heap.objs.size (.lst []) b = none := fun b hb => by
    rw [upd_ne (Nat.ne_of_lt (hlt b hb))]
    exact (hf b hb).1
  have hf3 : ∀ b ∈ fp, FpOk X pins (upd H1 s2.heap.objs.size (.lst [])) b ∧ b < s3.heap.objs.size := fun b hb => ⟨⟨hnp b hb, (hf b hb).2⟩, by rw [hsz3]; exact Nat.lt_succ_of_lt (hlt b hb)⟩
  have hk4 : ∀ b o, s3.heap.get? b = some o → h₁.get? b = some o := fun b o e => hsb₁.extBut b o (Nat.ne_of_lt (Heap.lt_size e)) (Heap.get?_push_of_some _ e)
  have st4 : tn 0 h₁ := T.keep _ _ _ st fun b hb o e => hk4 b o (hk3 b o e)
  have I4 := inv_comp (t' := s3.toks) I3 co hf3 hns₁ hk4
  obtain ⟨hg, ht, he⟩ := hY s3.heap.objs.size s3 (upd H1 s2.heap.objs.size (.lst [])) fp pins
  have stat : ∀ {H' : Hp}, (∀ b ∈ fp, H' b = none) → ∀ b ∈ fp, FpOk (cxComp X (ls ++ fs) scope cl s3.heap.objs.size s3 (upd H1 s2.heap.objs.size (.lst [])) fp pins) [] H' b := fun {H'} hn b hb => by
    obtain ⟨f0, f1, f2, f3, f4, f5⟩ := hf b hb
    refine ⟨hn b hb, Nat.ne_of_lt (hf3 b hb).2, fun z => ?_, .inl hb, fun x c e => f4 x c (co.cells x c e), fun pp hp => f5 pp ?_⟩
    · rcases List.mem_cons.mp (I3.stkSub b z) with y | y
      · exact f1 y
      · exact f2 y
    · have q : pp ∈ (X.pn ++ pins) ++ [] := hp
      simpa using q
  have loop : ∀ s₄ : Shared, s₄ = { s3 with heap := h₁, toks := s3.toks } →
      codeAny (model X.prog X.w) X.A (.compLoop (.ListComp elt [⟨tg, iter, ifs, 0⟩] scope pos) 0 (.ref it) (.ref s2.heap.objs.size) (compEnvC scope cl s3.heap.objs.size X.env)) (R (.ref s2.heap.objs.size) s3.heap.objs.size) s₄ := by
    rintro s₄ rfl
    refine compLoop_any (fun n s' => ∃ i σ' H', Inv (cxComp X (ls ++ fs) scope cl s3.heap.objs.size s3 (upd H1 s2.heap.objs.size (.lst [])) fp pins) [] σ' H' s' ∧ tn i s'.heap ∧ (∀ b ∈ fp, H' b = none) ∧ W i n σ' H') ?_ m0 ⟨0, _, _, I4, st4, hnp, w0⟩
    rintro n s5 ⟨i, σ5, H5, I5, st5, fr5, w5⟩
    rcases turn i n σ5 H5 w5 with ⟨stop, qn⟩ | ⟨go, N, hN, step⟩
    · refine thn (T.done (cxComp X (ls ++ fs) scope cl s3.heap.objs.size s3 (upd H1 s2.heap.objs.size (.lst [])) fp pins) rfl rfl rfl hc i [] s5 σ5 H5 _ I5 (stat fr5) st5 stop) fun r s6 ⟨hr, I6⟩ => ?_
      subst hr
      obtain ⟨m6, hn6, _⟩ := I6.loc
      have IX : Inv X pins σ H5 s6 := I3.call' I6.os I6.base I6.hok I6.bare fun b hb => ⟨(hf b hb).2.2.2.1, (hf b hb).2.1, (hf b hb).2.2.2.2.1, (hf b hb).2.2.2.2.2⟩
      refine hR _ _ H5 s6 m6 hn6 IX I6.free (Nat.ne_of_gt I3.lt) I3.sz (fun x c e z => ?_) (fun pp hp z => ?_) qn
      · obtain ⟨v, zz⟩ := I3.cell x c e
        have zl := zz.lt
        rw [z] at zl
        exact Nat.lt_irrefl _ zl
      · have zl := Heap.lt_size (I3.pin pp hp).1
        rw [z] at zl
        exact Nat.lt_irrefl _ zl
    · refine thn (T.item (cxComp X (ls ++ fs) scope cl s3.heap.objs.size s3 (upd H1 s2.heap.objs.size (.lst [])) fp pins) rfl rfl rfl hc i [] s5 σ5 H5 _ I5 (stat fr5) st5 go) fun r s6 ⟨u, hr, h6⟩ => ?_
      subst hr
      refine thn h6 fun _ s7 ⟨x, H7, I7, r7, y7, st7, fr7⟩ => ?_
      have I7' := I7.pinned (stat fr7) (T.obj _ _ st7)
      refine thn (hg _ s7 σ5 H7 x u _ I7' r7 (step x H7 y7)) fun _ s8 ⟨σ8, H8, I8, q8⟩ => ?_
      have again : ∀ {σ9 : St} {H9 : Hp} {s9 : Shared}, Inv (cxComp X (ls ++ fs) scope cl s3.heap.objs.size s3 (upd H1 s2.heap.objs.size (.lst [])) fp pins) ([] ++ pinsAt fp s7.heap) σ9 H9 s9 → N σ9 H9 →
          ∃ m, m < n ∧ ∃ i σ' H', Inv (cxComp X (ls ++ fs) scope cl s3.heap.objs.size s3 (upd H1 s2.heap.objs.size (.lst [])) fp pins) [] σ' H' s9 ∧ tn i s9.heap ∧ (∀ b ∈ fp, H' b = none) ∧ W i m σ' H' := fun {σ9 H9 s9} I9 n9 => by
        obtain ⟨m', hm, w9⟩ := hN σ9 H9 n9
        refine ⟨m', hm, i + 1, σ9, H9, I9.unpinned, T.keep _ _ _ st7 fun b hb o e => (I9.pin (b, o) (List.mem_append_right _ (List.mem_append_right _ (mem_pinsAt hb e)))).1, fun b hb => ?_, w9⟩
        obtain ⟨o, e, d⟩ := T.obj _ _ st7 b hb
        exact (I9.pin (b, o) (List.mem_append_right _ (List.mem_append_right _ (mem_pinsAt hb e)))).2.1
      refine thn (ht _ s8 σ8 H8 _ I8 q8) fun ok s9 ⟨H9, I9, q9⟩ => ?_
      cases ok with
      | false => exact again I9 q9
      | true =>
        refine thn (he _ s9 σ8 H9 _ I9 q9) fun xv s10 ⟨y, H10, I10, r10, ys, hp, hl, n10⟩ => ?_
        obtain ⟨z, its, n', r, hl', e⟩ := I10.lstM hp
        refine call_meets F.slot_list_append ⟨_, e, rfl⟩ F.entry_list_append (F.args_list_append_2 _ _) (PySem.list_append s2.heap.objs.size its.toArray n' xv (by rw [List.size_toArray]; omega)) ⟨e, ?_⟩
        refine again (I10.lset (its' := its ++ [xv]) hp e (by simp) (r.append (.cons r10 .nil)) ?_) n10
        rw [List.length_append, List.length_singleton]
        omega
  have se : ({ s2 with heap := h₁, toks := s2.toks + ([] : List (Str × Value)).length } : Shared) = { s3 with heap := h₁, toks := s3.toks } := by rw [← hs3]; rfl
  exact codeAny_compStart_list (loop _ se) (T.self _ 0 _ _ _ st4 (loop _ se))

/-- [elt for tg in iter if ..] -/
theorem pe_comp (hc : X.calm = true) (co : CompOk X scope cl ls fs js) (hi : PI X tg iter wi)
    (hY : ∀ (C : Addr) (s₀ : Shared) (H₀ : Hp) (fp : List Addr) (pl : List (Addr × Obj)), PG (cxComp X (ls ++ fs) scope cl C s₀ H₀ fp pl) tg g ∧ PTs (cxComp X (ls ++ fs) scope cl C s₀ H₀ fp pl) ifs tt ∧ PE (cxComp X (ls ++ fs) scope cl C s₀ H₀ fp pl) elt te)
    (hs : ∀ x, foldedSetIterable iter X.env x = pure x := by intro _; rfl) : PE X (.ListComp elt [⟨tg, iter, ifs, 0⟩] scope pos) (tComp wi ls js g tt te) := by
  intro pins s σ H Q I h
  rw [eval_ListComp]
  refine wpAny_comprehension_free (use := none) rfl hs co.clos co.kind co.locs (thn (hi pins s σ H _ I h) fun xv s1 h1 => thn h1 fun itv s2 h2 => ?_)
  obtain ⟨it, fp, tn, J, H2, e, I2, T, st2, f2, q⟩ := h2
  subst e
  refine comp_run (R := fun acc C => compPost (model X.prog X.w) X.A X.xe none (EP X pins σ Q) acc C) (Q := Q) hc co hY I2 T st2 f2 q ?_
  intro p C H' s' m hn IX hC hL hge hcell hpin hq
  exact ⟨m, hn, fun h' sb => ⟨.ref p, H', IX.turned (t' := s'.toks) (fun b o hb e => sb.extBut b o hb e) hC hL (.inr hge) hcell hpin, rfl, hq⟩⟩

/-- x = [elt for tg in iter if ..], where the list is stored ahead of the block's end -/
def tCompS (i : Nat) (t : TE) : TS := fun D σ H => t σ H fun v H1 => D.nx (σ.set i (some v)) H1
theorem ps_comp {i : Nat} {x : Str} {px spos : Pos} (hN : X.N.Nodup) (hix : X.N[i]? = some x) (hx : Loc X.env.scope x) (hc : X.calm = true) (co : CompOk X scope cl ls fs js) (hi : PI X tg iter wi)
    (hY : ∀ (C : Addr) (s₀ : Shared) (H₀ : Hp) (fp : List Addr) (pl : List (Addr × Obj)), PG (cxComp X (ls ++ fs) scope cl C s₀ H₀ fp pl) tg g ∧ PTs (cxComp X (ls ++ fs) scope cl C s₀ H₀ fp pl) ifs tt ∧ PE (cxComp X (ls ++ fs) scope cl C s₀ H₀ fp pl) elt te)
    (hsw : swapsWith (.ListComp elt [⟨tg, iter, ifs, 0⟩] scope pos) (some (.Name x px)) spos.line X.env = pure true := by rfl)
    (hs : ∀ x, foldedSetIterable iter X.env x = pure x := by intro _; rfl) (hf : X.fn x = true ∨ X.env.scope.names.lookup x = some .local := by first | exact .inl rfl | exact .inr rfl | assumption) :
    PS X (.Assign [.Name x px] (.ListComp elt [⟨tg, iter, ifs, 0⟩] scope pos) spos) (tCompS i (tComp wi ls js g tt te)) := by
  intro pins s σ H D I h
  rw [exec_Assign_Name_used _ _ _ _ hsw]
  refine wpAny_bind (wpAny_standAt (wpAny_bind ?_))
  show wpAny _ X.A (do let _ ← comprehension (.ListComp elt [⟨tg, iter, ifs, 0⟩] scope pos) scope X.env _ (newList []) false (eval iter X.env) (some (assign (.Name x px) X.env))) _ _ s
  refine wpAny_bind (wpAny_mono (wpAny_comprehension_free (use := some (assign (.Name x px) X.env)) (Q := fun _ s' => SP X pins D .next s') rfl hs co.clos co.kind co.locs
    (thn (hi pins s σ H _ I h) fun xv s1 h1 => thn h1 fun itv s2 h2 => ?_)) (fun _ s' hq => wpAny_pure (wpAny_pure hq)) fun _ _ e => e)
  obtain ⟨it, fp, tn, J, H2, e, I2, T, st2, f2, q⟩ := h2
  subst e
  refine comp_run (R := fun acc C => compPost (model X.prog X.w) X.A X.xe (some (assign (.Name x px) X.env)) (fun _ s' => SP X pins D .next s') acc C) (Q := fun v H1 => D.nx (σ.set i (some v)) H1) hc co hY I2 T st2 f2 q ?_
  intro p C H' s' m hn IX hC hL hge hcell hpin hq
  show wpAny _ X.A (assign (.Name x px) X.env (.ref p)) _ _ _
  refine wpAny_assign_Name (store_ok2 IX hN hix hx (v := .ref p) rfl (fun s'' I'' hb => ?_) hf)
  obtain ⟨a, sb, ha⟩ := hb
  have hne : C ≠ a := by
    rcases ha with z | z
    · rw [z]; exact hL
    · exact fun y => hcell x a z y.symm
  refine ⟨m, hn.sameBut sb hne, fun h3 sb3 => ?_⟩
  exact ⟨_, H', I''.turned (t' := s''.toks) (fun b o hb e => sb3.extBut b o hb e) hC hL (.inr hge) hcell hpin, hq⟩
end
end L2

/-! ### zip and enumerate over lists and tuples; isinstance, all; tuples put together; a try that nothing leaves -/
namespace L2
open PySem PySem.Spec PyProof.Rows

/-- an iterator of a list or a tuple, at place i -/
inductive SrcIt (h : Heap) (it a : Addr) (i : Nat) (items : Array Value) : Prop where
  | lst : h.IsListIter it a i → h.IsList a items → SrcIt h it a i items
  | tup : h.IsTupleIter it a i → h.IsTuple a items → SrcIt h it a i items
/-- the iterator alone -/
def SrcTn (b : Bool) (it a : Addr) (i : Nat) (h : Heap) : Prop := if b = true then h.IsListIter it a i else h.IsTupleIter it a i
def SrcSq (b : Bool) (h : Heap) (a : Addr) (items : Array Value) : Prop := if b = true then h.IsList a items else h.IsTuple a items
theorem SrcTn.lt {b : Bool} {it a : Addr} {i : Nat} {h : Heap} (x : SrcTn b it a i h) : ∃ o, h.get? it = some o ∧ ∀ v, o.data ≠ .cell v := by
  cases b with
  | true => obtain ⟨o, e, c, d⟩ := (show h.IsListIter it a i from x); exact ⟨o, e, fun v z => by rw [d] at z; cases z⟩
  | false => obtain ⟨o, e, c, d⟩ := (show h.IsTupleIter it a i from x); exact ⟨o, e, fun v z => by rw [d] at z; cases z⟩
theorem SrcTn.keep {b : Bool} {it a : Addr} {i : Nat} {h h' : Heap} (x : SrcTn b it a i h) (k : ∀ o, h.get? it = some o → h'.get? it = some o) : SrcTn b it a i h' := by
  cases b with
  | true => obtain ⟨o, e, r⟩ := (show h.IsListIter it a i from x); exact (show h'.IsListIter it a i from ⟨o, k o e, r⟩)
  | false => obtain ⟨o, e, r⟩ := (show h.IsTupleIter it a i from x); exact (show h'.IsTupleIter it a i from ⟨o, k o e, r⟩)
theorem SrcSq.keep {b : Bool} {a : Addr} {items : Array Value} {h h' : Heap} (x : SrcSq b h a items) (k : ∀ o, h.get? a = some o → h'.get? a = some o) : SrcSq b h' a items := by
  cases b with
  | true => obtain ⟨o, e, r⟩ := (show h.IsList a items from x); exact (show h'.IsList a items from ⟨o, k o e, r⟩)
  | false => obtain ⟨o, e, r⟩ := (show h.IsTuple a items from x); exact (show h'.IsTuple a items from ⟨o, k o e, r⟩)
theorem SrcSq.ne {b : Bool} {it a : Addr} {i : Nat} {items : Array Value} {h : Heap} (x : SrcSq b h a items) {b' : Bool} {a' : Addr} (y : SrcTn b' it a' i h) : a ≠ it := by
  intro e; subst e
  cases b with
  | true =>
    obtain ⟨o, e1, c1, n, d1⟩ := (show h.IsList a items from x)
    cases b' with
    | true => obtain ⟨o', e2, c2, d2⟩ := (show h.IsListIter a a' i from y); rw [e1] at e2; cases e2; rw [d1] at d2; cases d2
    | false => obtain ⟨o', e2, c2, d2⟩ := (show h.IsTupleIter a a' i from y); rw [e1] at e2; cases e2; rw [d1] at d2; cases d2
  | false =>
    obtain ⟨o, e1, c1, n, d1⟩ := (show h.IsTuple a items from x)
    cases b' with
    | true => obtain ⟨o', e2, c2, d2⟩ := (show h.IsListIter a a' i from y); rw [e1] at e2; cases e2; rw [d1] at d2; cases d2
    | false => obtain ⟨o', e2, c2, d2⟩ := (show h.IsTupleIter a a' i from y); rw [e1] at e2; cases e2; rw [d1] at d2; cases d2

section
variable {prog : Program} {w : World} {A : Around} {E : Value → Shared → Prop} {s : Shared}
theorem nextOf_tuple_item {it l : Addr} {i : Nat} {items : Array Value} {x : Value} {Q : Value → Shared → Prop} (hit : s.heap.IsTupleIter it l i) (hl : s.heap.IsTuple l items) (hx : items[i]? = some x)
    (hQ : ∀ h', h'.IsTupleIter it l (i + 1) → Heap.SameBut it s.heap h' → Q x { s with heap := h' }) : wpAny (model prog w) A (Builtin.SmallTypes.nextOf (.ref it)) Q E s := by
  obtain ⟨o, ho, hc, hd⟩ := id hit
  obtain ⟨ol, hol, _, nl, hdl⟩ := hl
  unfold Builtin.SmallTypes.nextOf
  refine wpAny_bind (wpAny_callSpecial?_slot (name := Str.ofString "__next__") hit.typeIs F.slot_tuple_iterator_next
    (wpAny_call_entry F.slot_tuple_iterator_next hit.typeIs F.entry_tuple_iterator_next ?_ (F.args_tuple_iterator_next_1 _)))
  show wpAny _ _ (field (.ref it) 0 >>= _) _ _ s
  refine wpAny_bind (wpAny_field ho hd (x := .ref l) rfl ?_)
  show wpAny _ _ (if (Value.ref l == Value.none) = true then _ else _) _ _ s
  rw [if_neg (show ¬ ((Value.ref l == Value.none) = true) from Bool.false_ne_true)]
  show wpAny _ _ (field (.ref it) 1 >>= _) _ _ s
  refine wpAny_bind (wpAny_field ho hd (x := .int i 0) rfl ?_)
  show wpAny _ _ (seqItems? (.ref l) >>= _) _ _ s
  refine wpAny_bind (wpAny_seqItems hol hdl ?_)
  simp only [Int.toNat_natCast, hx]
  refine wpAny_bind (wpAny_setField ho hd (by simp) (wpAny_pure ⟨x, rfl, wpAny_pure (hQ _ ?_ (Heap.SameBut.update ..))⟩))
  exact ⟨_, Heap.get?_update_self _ ho (Obj.isFreed_of_fields (Obj.data_mapFields hd _)), (Obj.cls_mapFields ..).trans hc, by
    rw [Obj.data_mapFields hd]; simp [rawInt]⟩
theorem nextOf_tuple_end {it l : Addr} {i : Nat} {items : Array Value} {Q : Value → Shared → Prop} (hh : A.handled = none) (hit : s.heap.IsTupleIter it l i) (hl : s.heap.IsTuple l items) (hx : items[i]? = none)
    (hE : ∀ h' e, Heap.ExtBut it s.heap h' → (∃ o, h'.get? e = some o ∧ o.cls = .type "StopIteration") → E (.ref e) { s with heap := h' }) : wpAny (model prog w) A (Builtin.SmallTypes.nextOf (.ref it)) Q E s := by
  obtain ⟨o, ho, hc, hd⟩ := id hit
  obtain ⟨ol, hol, _, nl, hdl⟩ := hl
  unfold Builtin.SmallTypes.nextOf
  refine wpAny_bind (wpAny_callSpecial?_slot (name := Str.ofString "__next__") hit.typeIs F.slot_tuple_iterator_next
    (wpAny_call_entry F.slot_tuple_iterator_next hit.typeIs F.entry_tuple_iterator_next ?_ (F.args_tuple_iterator_next_1 _)))
  show wpAny _ _ (field (.ref it) 0 >>= _) _ _ s
  refine wpAny_bind (wpAny_field ho hd (x := .ref l) rfl ?_)
  show wpAny _ _ (if (Value.ref l == Value.none) = true then _ else _) _ _ s
  rw [if_neg (show ¬ ((Value.ref l == Value.none) = true) from Bool.false_ne_true)]
  show wpAny _ _ (field (.ref it) 1 >>= _) _ _ s
  refine wpAny_bind (wpAny_field ho hd (x := .int i 0) rfl ?_)
  show wpAny _ _ (seqItems? (.ref l) >>= _) _ _ s
  refine wpAny_bind (wpAny_seqItems hol hdl ?_)
  simp only [Int.toNat_natCast, hx]
  refine wpAny_bind (wpAny_rule (wpAny_bind (wpAny_setField ho hd (by simp) ?_)))
  show wpAny _ _ (newExc (.type "StopIteration") [] >>= _) _ _ _
  refine wpAny_bind ?_
  simp only [newExc, newTuple]
  refine wpAny_bind (wpAny_newObj_type ?_ (by size_fits))
  refine wpAny_bind (m := firstArgMember _ _) (wpAny_of_eq (a := Value.none) (by first | rfl | (simp only [firstArgMember]; rfl)) ?_)
  refine wpAny_newObj_type ?_ (by size_fits)
  simp only [raiseNew]
  refine wpAny_bind (wpAny_handled ?_)
  first | rw [show A.in1.handled = none from hh] | rw [hh]
  refine wpAny_bind (wpAny_pure (wpAny_throw ?_))
  exact hE _ _ (((Heap.SameBut.update ..).extBut.push _).push _) ⟨_, Heap.get?_push_size _ rfl, rfl⟩

theorem nextOf_src_item {b : Bool} {it l : Addr} {i : Nat} {items : Array Value} {x : Value} {Q : Value → Shared → Prop} (hit : SrcTn b it l i s.heap) (hl : SrcSq b s.heap l items) (hx : items[i]? = some x)
    (hQ : ∀ h', SrcTn b it l (i + 1) h' → Heap.SameBut it s.heap h' → Q x { s with heap := h' }) : wpAny (model prog w) A (Builtin.SmallTypes.nextOf (.ref it)) Q E s := by
  cases b with
  | true => exact wpAny_nextOf_list_item hit hl hx hQ
  | false => exact nextOf_tuple_item hit hl hx hQ
theorem nextOf_src_end {b : Bool} {it l : Addr} {i : Nat} {items : Array Value} {Q : Value → Shared → Prop} (hh : A.handled = none) (hit : SrcTn b it l i s.heap) (hl : SrcSq b s.heap l items) (hx : items[i]? = none)
    (hE : ∀ h' e, Heap.ExtBut it s.heap h' → (∃ o, h'.get? e = some o ∧ o.cls = .type "StopIteration") → E (.ref e) { s with heap := h' }) : wpAny (model prog w) A (Builtin.SmallTypes.nextOf (.ref it)) Q E s := by
  cases b with
  | true => exact wpAny_nextOf_list_end hh hit hl hx hE
  | false => exact nextOf_tuple_end hh hit hl hx hE
def srcCls (b : Bool) : String := if b = true then "list_iterator" else "tuple_iterator"
theorem pyIter_src {b : Bool} {l : Addr} {items : Array Value} {Q : Value → Shared → Prop} (hl : SrcSq b s.heap l items)
    (hQ : Q (.ref s.heap.objs.size) { s with heap := s.heap.push { cls := .type (srcCls b), data := .fields #[.ref l, .int 0 0] } }) : wpAny (model prog w) A (pyIter (.ref l)) Q E s := by
  cases b with
  | true => exact wpAny_pyIter_list hl hQ
  | false => exact wpAny_pyIter_tuple hl hQ
theorem src_new {b : Bool} {h : Heap} {it l : Addr} (e : h.get? it = some { cls := .type (srcCls b), data := .fields #[.ref l, .int 0 0] }) : SrcTn b it l 0 h := by
  cases b with
  | true => exact (show h.IsListIter it l 0 from ⟨_, e, rfl, rfl⟩)
  | false => exact (show h.IsTupleIter it l 0 from ⟨_, e, rfl, rfl⟩)

/-! ### zip -/
structure ZApart (z TI TO i1 i2 : Addr) : Prop where
  TIz : TI ≠ z
  TOz : TO ≠ z
  i1z : i1 ≠ z
  i2z : i2 ≠ z
  TITO : TI ≠ TO
  TIi1 : TI ≠ i1
  TIi2 : TI ≠ i2
  TOi1 : TO ≠ i1
  TOi2 : TO ≠ i2
  i12 : i1 ≠ i2
/-- what stands beside the zip's own objects -/
def Off (z TO i1 i2 l : Addr) : Prop := l ≠ z ∧ l ≠ TO ∧ l ≠ i1 ∧ l ≠ i2

theorem zip_item {b1 b2 : Bool} {z TI TO i1 i2 l1 l2 : Addr} {k1 k2 : Nat} {xs ys : Array Value} {x y a b : Value} {Q : Value → Shared → Prop} (D : ZApart z TI TO i1 i2) (O1 : Off z TO i1 i2 l1) (O2 : Off z TO i1 i2 l2)
    (hz : IsZip s.heap z TI TO .none) (hTI : IsPair s.heap TI (.ref i1) (.ref i2)) (hTO : IsPair s.heap TO a b)
    (h1 : SrcTn b1 i1 l1 k1 s.heap) (h2 : SrcTn b2 i2 l2 k2 s.heap) (hl1 : SrcSq b1 s.heap l1 xs) (hl2 : SrcSq b2 s.heap l2 ys) (hx : xs[k1]? = some x) (hy : ys[k2]? = some y)
    (hQ : ∀ h', IsZip h' z TI TO (rawInt s.heap.objs.size) → IsPair h' TO x y → SrcTn b1 i1 l1 (k1 + 1) h' → SrcTn b2 i2 l2 (k2 + 1) h' → IsPair h' s.heap.objs.size x y → h'.objs.size = s.heap.objs.size + 1 →
      (∀ c o, c ≠ z → c ≠ TO → c ≠ i1 → c ≠ i2 → s.heap.get? c = some o → h'.get? c = some o) → Q (.ref s.heap.objs.size) { s with heap := h' }) :
    wpAny (model prog w) A (Builtin.«zip.__next__» ⟨[.ref z], []⟩) (fun fin s' => ∃ v, fin = .done (.ret v) ∧ Q v s') E s := by
  show wpAny _ _ (field (.ref z) 2 >>= _) _ _ _
  refine wpAny_bind (wpAny_field hz rfl (x := .bool false) rfl ?_)
  show wpAny _ _ (field (.ref z) 3 >>= _) _ _ _
  refine wpAny_bind (wpAny_field hz rfl (x := .ref TI) rfl ?_)
  refine wpAny_bind (wpAny_seqItems hTI rfl ?_)
  show wpAny _ _ (Builtin.SmallTypes.ownedTupleIsFree (.ref z) >>= _) _ _ _
  refine wpAny_bind ?_
  unfold Builtin.SmallTypes.ownedTupleIsFree
  refine wpAny_bind (wpAny_field hz rfl (x := .none) rfl (wpAny_pure ?_))
  simp only [if_true]
  refine wpAny_bind (wpAny_rule ?_)
  refine wpAny_bind (wpAny_field hz rfl (x := .ref TO) rfl ?_)
  refine wpAny_bind (wpAny_setField_rec hz (by simp) fun h₁ hz₁ hs₁ => ?_)
  replace hz₁ : IsZip h₁ z TI TO .ellipsis := hz₁
  refine wpAny_bind ?_
  simp only [List.zipIdx_cons, List.zipIdx_nil, List.forIn_cons, List.forIn_nil]
  refine wpAny_bind (wpAny_bind (wpAny_onRaise ?_))
  show wpAny _ _ (Builtin.SmallTypes.nextOf (.ref i1) >>= _) _ _ _
  refine wpAny_bind (nextOf_src_item (h1.keep fun o e => hs₁.extBut _ o D.i1z e) (hl1.keep fun o e => hs₁.extBut _ o O1.1 e) hx fun h₂ h1₂ hs₂ => wpAny_pure ?_)
  have hTO₂ : IsPair h₂ TO a b := hs₂.extBut _ _ D.TOi1 (hs₁.extBut _ _ D.TOz hTO)
  refine wpAny_bind (wpAny_seqItems hTO₂ rfl ?_)
  refine wpAny_bind (wpAny_updateSeq_pair hTO₂ fun h₃ hTO₃ hs₃ => ?_)
  replace hTO₃ : IsPair h₃ TO x b := hTO₃
  refine wpAny_bind (wpAny_letGo (wpAny_pure ?_))
  refine wpAny_bind (wpAny_bind (wpAny_onRaise ?_))
  show wpAny _ _ (Builtin.SmallTypes.nextOf (.ref i2) >>= _) _ _ _
  refine wpAny_bind (nextOf_src_item (h2.keep fun o e => hs₃.extBut _ o D.TOi2.symm (hs₂.extBut _ o D.i12.symm (hs₁.extBut _ o D.i2z e)))
    (hl2.keep fun o e => hs₃.extBut _ o O2.2.1 (hs₂.extBut _ o O2.2.2.1 (hs₁.extBut _ o O2.1 e))) hy fun h₄ h2₄ hs₄ => wpAny_pure ?_)
  have hTO₄ : IsPair h₄ TO x b := hs₄.extBut _ _ D.TOi2 hTO₃
  refine wpAny_bind (wpAny_seqItems hTO₄ rfl ?_)
  refine wpAny_bind (wpAny_updateSeq_pair hTO₄ fun h₅ hTO₅ hs₅ => ?_)
  replace hTO₅ : IsPair h₅ TO x y := hTO₅
  refine wpAny_bind (wpAny_letGo (wpAny_pure (wpAny_pure ?_)))
  refine wpAny_bind (wpAny_seqItems hTO₅ rfl ?_)
  refine wpAny_bind (wpAny_newTuple ?_)
  have hsz : h₅.objs.size = s.heap.objs.size := by rw [hs₅.1, hs₄.1, hs₃.1, hs₂.1, hs₁.1]
  have hz₅ : IsZip h₅ z TI TO .ellipsis := hs₅.extBut _ _ D.TOz.symm (hs₄.extBut _ _ D.i2z.symm (hs₃.extBut _ _ D.TOz.symm (hs₂.extBut _ _ D.i1z.symm hz₁)))
  have hk₅ : ∀ c o, c ≠ z → c ≠ TO → c ≠ i1 → c ≠ i2 → s.heap.get? c = some o → h₅.get? c = some o := fun c o c1 c2 c3 c4 e =>
    hs₅.extBut _ _ c2 (hs₄.extBut _ _ c4 (hs₃.extBut _ _ c2 (hs₂.extBut _ _ c3 (hs₁.extBut _ _ c1 e))))
  have h1₅ : SrcTn b1 i1 l1 (k1 + 1) h₅ := h1₂.keep fun o e => hs₅.extBut _ o D.TOi1.symm (hs₄.extBut _ o D.i12 (hs₃.extBut _ o D.TOi1.symm e))
  have h2₅ : SrcTn b2 i2 l2 (k2 + 1) h₅ := h2₄.keep fun o e => hs₅.extBut _ o D.TOi2.symm e
  have hzlt : z < h₅.objs.size := Heap.lt_size hz₅
  show wpAny _ _ (Builtin.SmallTypes.ownedTupleHandOut (.ref z) (.ref h₅.objs.size) >>= _) _ _ _
  refine wpAny_bind ?_
  unfold Builtin.SmallTypes.ownedTupleHandOut
  have hz₆ : IsZip (h₅.push { cls := .type "tuple", data := .seq #[x, y] }) z TI TO .ellipsis := Heap.get?_push_of_some _ hz₅
  refine wpAny_bind (wpAny_setField_rec hz₆ (by simp) fun h₇ hz₇ hs₇ => ?_)
  replace hz₇ : IsZip h₇ z TI TO (rawInt h₅.objs.size) := hz₇
  refine wpAny_setField_rec hz₇ (by simp) fun h₈ hz₈ hs₈ => ?_
  replace hz₈ : IsZip h₈ z TI TO (rawInt h₅.objs.size) := hz₈
  have up : ∀ c o, c ≠ z → h₅.get? c = some o → h₈.get? c = some o := fun c o c1 e => hs₈.extBut _ _ c1 (hs₇.extBut _ _ c1 (Heap.get?_push_of_some _ e))
  have hT₈ : IsPair h₈ h₅.objs.size x y := hs₈.extBut _ _ (Nat.ne_of_gt hzlt) (hs₇.extBut _ _ (Nat.ne_of_gt hzlt) (Heap.get?_push_size _ rfl))
  have hz8 : h₈.objs.size = h₅.objs.size + 1 := by rw [hs₈.1, hs₇.1, Heap.size_push]
  rw [hsz] at hz₈ hT₈ hz8
  refine wpAny_pure ⟨_, rfl, ?_⟩
  show Q (.ref h₅.objs.size) _
  rw [hsz]
  exact hQ h₈ hz₈ (up _ _ D.TOz hTO₅) (h1₅.keep fun o e => up _ o D.i1z e) (h2₅.keep fun o e => up _ o D.i2z e) hT₈ hz8 fun c o c1 c2 c3 c4 e => up c o c1 (hk₅ c o c1 c2 c3 c4 e)

theorem zip_end {b1 b2 : Bool} {z TI TO i1 i2 l1 l2 : Addr} {k1 k2 : Nat} {xs ys : Array Value} {a b : Value} {Q : Fin → Shared → Prop} (hh : A.handled = none) (D : ZApart z TI TO i1 i2) (O1 : Off z TO i1 i2 l1) (O2 : Off z TO i1 i2 l2)
    (hz : IsZip s.heap z TI TO .none) (hTI : IsPair s.heap TI (.ref i1) (.ref i2)) (hTO : IsPair s.heap TO a b)
    (h1 : SrcTn b1 i1 l1 k1 s.heap) (h2 : SrcTn b2 i2 l2 k2 s.heap) (hl1 : SrcSq b1 s.heap l1 xs) (hl2 : SrcSq b2 s.heap l2 ys) (hend : xs[k1]? = none ∨ ys[k2]? = none)
    (hE : ∀ h' e, (∀ c o, c ≠ z → c ≠ TO → c ≠ i1 → c ≠ i2 → s.heap.get? c = some o → h'.get? c = some o) → (∃ o, h'.get? e = some o ∧ o.cls = .type "StopIteration") → E (.ref e) { s with heap := h' }) :
    wpAny (model prog w) A (Builtin.«zip.__next__» ⟨[.ref z], []⟩) Q E s := by
  show wpAny _ _ (field (.ref z) 2 >>= _) _ _ _
  refine wpAny_bind (wpAny_field hz rfl (x := .bool false) rfl ?_)
  show wpAny _ _ (field (.ref z) 3 >>= _) _ _ _
  refine wpAny_bind (wpAny_field hz rfl (x := .ref TI) rfl ?_)
  refine wpAny_bind (wpAny_seqItems hTI rfl ?_)
  show wpAny _ _ (Builtin.SmallTypes.ownedTupleIsFree (.ref z) >>= _) _ _ _
  refine wpAny_bind ?_
  unfold Builtin.SmallTypes.ownedTupleIsFree
  refine wpAny_bind (wpAny_field hz rfl (x := .none) rfl (wpAny_pure ?_))
  simp only [if_true]
  refine wpAny_bind (wpAny_rule ?_)
  refine wpAny_bind (wpAny_field hz rfl (x := .ref TO) rfl ?_)
  refine wpAny_bind (wpAny_setField_rec hz (by simp) fun h₁ hz₁ hs₁ => ?_)
  replace hz₁ : IsZip h₁ z TI TO .ellipsis := hz₁
  refine wpAny_bind ?_
  simp only [List.zipIdx_cons, List.zipIdx_nil, List.forIn_cons, List.forIn_nil]
  refine wpAny_bind (wpAny_bind (wpAny_onRaise ?_))
  show wpAny _ _ (Builtin.SmallTypes.nextOf (.ref i1) >>= _) _ _ _
  cases hx : xs[k1]? with
  | none =>
    refine wpAny_bind (nextOf_src_end hh (h1.keep fun o e => hs₁.extBut _ o D.i1z e) (hl1.keep fun o e => hs₁.extBut _ o O1.1 e) hx fun h₂ e hs₂ he => ?_)
    obtain ⟨oe, hoe, hce⟩ := he
    have hz₂ : IsZip h₂ z TI TO .ellipsis := hs₂ _ _ D.i1z.symm hz₁
    have hez : e ≠ z := fun x => by subst x; rw [hz₂] at hoe; cases hoe; simp at hce
    refine wpAny_setField_rec hz₂ (by simp) fun h₃ _ hs₃ => hE h₃ e (fun c o c1 _ c3 _ x => hs₃.extBut _ _ c1 (hs₂ _ _ c3 (hs₁.extBut _ _ c1 x))) ⟨oe, hs₃.extBut _ _ hez hoe, hce⟩
  | some x =>
    have hy : ys[k2]? = none := by rcases hend with h | h; rw [hx] at h; cases h; exact h
    refine wpAny_bind (nextOf_src_item (h1.keep fun o e => hs₁.extBut _ o D.i1z e) (hl1.keep fun o e => hs₁.extBut _ o O1.1 e) hx fun h₂ h1₂ hs₂ => wpAny_pure ?_)
    have hTO₂ : IsPair h₂ TO a b := hs₂.extBut _ _ D.TOi1 (hs₁.extBut _ _ D.TOz hTO)
    refine wpAny_bind (wpAny_seqItems hTO₂ rfl ?_)
    refine wpAny_bind (wpAny_updateSeq_pair hTO₂ fun h₃ hTO₃ hs₃ => ?_)
    refine wpAny_bind (wpAny_letGo (wpAny_pure ?_))
    refine wpAny_bind (wpAny_bind (wpAny_onRaise ?_))
    show wpAny _ _ (Builtin.SmallTypes.nextOf (.ref i2) >>= _) _ _ _
    refine wpAny_bind (nextOf_src_end hh (h2.keep fun o e => hs₃.extBut _ o D.TOi2.symm (hs₂.extBut _ o D.i12.symm (hs₁.extBut _ o D.i2z e)))
      (hl2.keep fun o e => hs₃.extBut _ o O2.2.1 (hs₂.extBut _ o O2.2.2.1 (hs₁.extBut _ o O2.1 e))) hy fun h₄ e hs₄ he => ?_)
    obtain ⟨oe, hoe, hce⟩ := he
    have hz₄ : IsZip h₄ z TI TO .ellipsis := hs₄ _ _ D.i2z.symm (hs₃.extBut _ _ D.TOz.symm (hs₂.extBut _ _ D.i1z.symm hz₁))
    have hez : e ≠ z := fun x => by subst x; rw [hz₄] at hoe; cases hoe; simp at hce
    refine wpAny_setField_rec hz₄ (by simp) fun h₅ _ hs₅ => hE h₅ e (fun c o c1 c2 c3 c4 x => hs₅.extBut _ _ c1 (hs₄ _ _ c4 (hs₃.extBut _ _ c2 (hs₂.extBut _ _ c3 (hs₁.extBut _ _ c1 x))))) ⟨oe, hs₅.extBut _ _ hez hoe, hce⟩

theorem pyNext_zip_item {b1 b2 : Bool} {z TI TO i1 i2 l1 l2 : Addr} {k1 k2 : Nat} {xs ys : Array Value} {x y a b : Value} {Q : Option Value → Shared → Prop} (D : ZApart z TI TO i1 i2) (O1 : Off z TO i1 i2 l1) (O2 : Off z TO i1 i2 l2)
    (hz : IsZip s.heap z TI TO .none) (hTI : IsPair s.heap TI (.ref i1) (.ref i2)) (hTO : IsPair s.heap TO a b)
    (h1 : SrcTn b1 i1 l1 k1 s.heap) (h2 : SrcTn b2 i2 l2 k2 s.heap) (hl1 : SrcSq b1 s.heap l1 xs) (hl2 : SrcSq b2 s.heap l2 ys) (hx : xs[k1]? = some x) (hy : ys[k2]? = some y)
    (hQ : ∀ h', IsZip h' z TI TO (rawInt s.heap.objs.size) → IsPair h' TO x y → SrcTn b1 i1 l1 (k1 + 1) h' → SrcTn b2 i2 l2 (k2 + 1) h' → IsPair h' s.heap.objs.size x y → h'.objs.size = s.heap.objs.size + 1 →
      (∀ c o, c ≠ z → c ≠ TO → c ≠ i1 → c ≠ i2 → s.heap.get? c = some o → h'.get? c = some o) → Q (some (.ref s.heap.objs.size)) { s with heap := h' }) :
    wpAny (model prog w) A (pyNext (.ref z)) Q E s := by
  have hT : s.TypeIs (.ref z) "zip" := ⟨_, hz, rfl⟩
  unfold pyNext
  exact wpAny_bind (wpAny_attempt (wpAny_callSpecial?_slot (name := Str.ofString "__next__") hT F.slot_zip_next
    (wpAny_call_entry F.slot_zip_next hT F.entry_zip_next (zip_item D O1 O2 hz hTI hTO h1 h2 hl1 hl2 hx hy fun h' a1 a2 a3 a4 a5 a6 a7 => wpAny_pure (hQ h' a1 a2 a3 a4 a5 a6 a7)) (F.args_zip_next_1 _))))
theorem pyNext_zip_end {b1 b2 : Bool} {z TI TO i1 i2 l1 l2 : Addr} {k1 k2 : Nat} {xs ys : Array Value} {a b : Value} {Q : Option Value → Shared → Prop} (hh : A.handled = none) (D : ZApart z TI TO i1 i2) (O1 : Off z TO i1 i2 l1) (O2 : Off z TO i1 i2 l2)
    (hz : IsZip s.heap z TI TO .none) (hTI : IsPair s.heap TI (.ref i1) (.ref i2)) (hTO : IsPair s.heap TO a b)
    (h1 : SrcTn b1 i1 l1 k1 s.heap) (h2 : SrcTn b2 i2 l2 k2 s.heap) (hl1 : SrcSq b1 s.heap l1 xs) (hl2 : SrcSq b2 s.heap l2 ys) (hend : xs[k1]? = none ∨ ys[k2]? = none)
    (hQ : ∀ h', (∀ c o, c ≠ z → c ≠ TO → c ≠ i1 → c ≠ i2 → s.heap.get? c = some o → h'.get? c = some o) → Q none { s with heap := h' }) : wpAny (model prog w) A (pyNext (.ref z)) Q E s := by
  have hT : s.TypeIs (.ref z) "zip" := ⟨_, hz, rfl⟩
  unfold pyNext
  refine wpAny_bind (wpAny_attempt (wpAny_callSpecial?_slot (name := Str.ofString "__next__") hT F.slot_zip_next
    (wpAny_call_entry F.slot_zip_next hT F.entry_zip_next (zip_end hh D O1 O2 hz hTI hTO h1 h2 hl1 hl2 hend fun h' e hk he => ?_) (F.args_zip_next_1 _))))
  obtain ⟨o, ho, hc⟩ := he
  refine wpAny_bind (wpAny_isInstance (T := "StopIteration") (b := true) ⟨o, ho, hc⟩ isSubtype_stop ?_)
  exact wpAny_pure (hQ _ hk)
end

abbrev zH1 (c1 : String) (h : Heap) (l1 : Addr) : Heap := h.push { cls := .type c1, data := .fields #[.ref l1, .int 0 0] }
abbrev zH2 (c1 c2 : String) (h : Heap) (l1 l2 : Addr) : Heap := (zH1 c1 h l1).push { cls := .type c2, data := .fields #[.ref l2, .int 0 0] }
abbrev zH3 (c1 c2 : String) (h : Heap) (l1 l2 : Addr) : Heap := (zH2 c1 c2 h l1 l2).push { cls := .type "tuple", data := .seq #[.ref h.objs.size, .ref (zH1 c1 h l1).objs.size] }
abbrev zH4 (c1 c2 : String) (h : Heap) (l1 l2 : Addr) : Heap := (zH3 c1 c2 h l1 l2).push { cls := .type "tuple", data := .seq #[.none, .none] }
abbrev zH5 (c1 c2 : String) (h : Heap) (l1 l2 : Addr) : Heap := (zH4 c1 c2 h l1 l2).push { cls := .type "zip", data := .fields #[.none, .bool false, .bool false, .ref (zH2 c1 c2 h l1 l2).objs.size, .ref (zH3 c1 c2 h l1 l2).objs.size] }
theorem meets_zip (b1 b2 : Bool) (l1 l2 : Addr) (xs ys : Array Value) :
    Meets (Builtin.«zip.__new__» ⟨[.type "zip", .ref l1, .ref l2], []⟩) (fun _ R s => SrcSq b1 s.heap l1 xs ∧ SrcSq b2 s.heap l2 ys ∧
      R (.ok (.ret (.ref (zH4 (srcCls b1) (srcCls b2) s.heap l1 l2).objs.size))) { s with heap := zH5 (srcCls b1) (srcCls b2) s.heap l1 l2 }) :=
  .of_wp fun prog w A R s h => by
    obtain ⟨hp, g, d, tk, os⟩ := s; obtain ⟨hl1, hl2, h⟩ := h
    have hsub := sub_zip
    have hL1 : SrcSq b1 (Shared.heap ⟨hp, g, d, tk, os⟩) l1 xs := hl1
    have hL2 : SrcSq b2 (Shared.heap ⟨hp.push { cls := .type (srcCls b1), data := .fields #[.ref l1, .int 0 0] }, g, d, tk, os⟩) l2 ys := SrcSq.keep hl2 fun o e => Heap.get?_push_of_some _ e
    wp_walk using pyIter_src hL1, pyIter_src hL2
    exact ⟨_, rfl, h⟩
section
variable {prog : Program} {w : World} {A : Around} {E : Value → Shared → Prop} {s : Shared}
theorem call_zip {b1 b2 : Bool} {l1 l2 : Addr} {xs ys : Array Value} {Q : Value → Shared → Prop} (hl1 : SrcSq b1 s.heap l1 xs) (hl2 : SrcSq b2 s.heap l2 ys)
    (h : ∀ h', IsZip h' (s.heap.objs.size + 4) (s.heap.objs.size + 2) (s.heap.objs.size + 3) .none → IsPair h' (s.heap.objs.size + 2) (.ref s.heap.objs.size) (.ref (s.heap.objs.size + 1)) →
      IsPair h' (s.heap.objs.size + 3) .none .none → SrcTn b1 s.heap.objs.size l1 0 h' → SrcTn b2 (s.heap.objs.size + 1) l2 0 h' → h'.objs.size = s.heap.objs.size + 5 →
      (∀ c o, s.heap.get? c = some o → h'.get? c = some o) → Q (.ref (s.heap.objs.size + 4)) { s with heap := h' }) :
    wpAny (model prog w) A (call (.type "zip") [.ref l1, .ref l2]) Q E s := by
  refine callType_new F.called_zip (by decide) (F.typeCall_zip_2 _ _) (F.newCall_zip_2 _ _) (fun obj => F.args_object_init_3 obj _ _) F.entry_zip_new (meets_zip b1 b2 l1 l2 xs ys) ⟨hl1, hl2, ?_⟩
  have z1 : (zH1 (srcCls b1) s.heap l1).objs.size = s.heap.objs.size + 1 := Heap.size_push ..
  have z2 : (zH2 (srcCls b1) (srcCls b2) s.heap l1 l2).objs.size = s.heap.objs.size + 2 := by rw [Heap.size_push, z1]
  have z3 : (zH3 (srcCls b1) (srcCls b2) s.heap l1 l2).objs.size = s.heap.objs.size + 3 := by rw [Heap.size_push, z2]
  have z4 : (zH4 (srcCls b1) (srcCls b2) s.heap l1 l2).objs.size = s.heap.objs.size + 4 := by rw [Heap.size_push, z3]
  have z5 : (zH5 (srcCls b1) (srcCls b2) s.heap l1 l2).objs.size = s.heap.objs.size + 5 := by rw [Heap.size_push, z4]
  have g5 : (zH5 (srcCls b1) (srcCls b2) s.heap l1 l2).get? (zH4 (srcCls b1) (srcCls b2) s.heap l1 l2).objs.size = some _ := Heap.get?_push_size _ rfl
  have g4 : (zH5 (srcCls b1) (srcCls b2) s.heap l1 l2).get? (zH3 (srcCls b1) (srcCls b2) s.heap l1 l2).objs.size = some _ := Heap.get?_push_of_some _ (Heap.get?_push_size _ rfl)
  have g3 : (zH5 (srcCls b1) (srcCls b2) s.heap l1 l2).get? (zH2 (srcCls b1) (srcCls b2) s.heap l1 l2).objs.size = some _ := Heap.get?_push_of_some _ (Heap.get?_push_of_some _ (Heap.get?_push_size _ rfl))
  have g2 : (zH5 (srcCls b1) (srcCls b2) s.heap l1 l2).get? (zH1 (srcCls b1) s.heap l1).objs.size = some _ := Heap.get?_push_of_some _ (Heap.get?_push_of_some _ (Heap.get?_push_of_some _ (Heap.get?_push_size _ rfl)))
  have g1 : (zH5 (srcCls b1) (srcCls b2) s.heap l1 l2).get? s.heap.objs.size = some _ := Heap.get?_push_of_some _ (Heap.get?_push_of_some _ (Heap.get?_push_of_some _ (Heap.get?_push_of_some _ (Heap.get?_push_size _ rfl))))
  show _ ∧ _
  rw [z2, z3, z4] at g5
  rw [z1, z2] at g3
  rw [z3] at g4
  rw [z1] at g2
  rw [z4]
  exact ⟨⟨_, g5, rfl⟩, h _ g5 g3 g4 (src_new g1) (src_new g2) z5 fun c o x =>
    Heap.get?_push_of_some _ (Heap.get?_push_of_some _ (Heap.get?_push_of_some _ (Heap.get?_push_of_some _ (Heap.get?_push_of_some _ x))))⟩
end
end L2

namespace L2
open PySem PySem.Spec PyProof.Rows
/-- a list (b) or a tuple that is read -/
def SqB (K : PySem.W.Frag) (b : Bool) (H : Hp) (a : Addr) (xs : List V) : Prop := if b = true then SqL K H a xs else SqT K H a xs
section
variable {X : Cx} {pins : List (Addr × Obj)} {σ : St} {H : Hp} {s : Shared} {a : Addr} {xs ys : List V} {b : Bool}
theorem Inv.src (I : Inv X pins σ H s) (h : SqB X.K b H a xs) : ∃ its : List Value, Vals xs its ∧ SrcSq b s.heap a its.toArray ∧ xs.length ≤ sizeLine := by
  cases b with
  | true => obtain ⟨its, r, p, z⟩ := I.list (show SqL X.K H a xs from h); exact ⟨its, r, p.isList, z⟩
  | false => obtain ⟨its, r, p, z⟩ := I.tuple (show SqT X.K H a xs from h); exact ⟨its, r, p, z⟩
theorem Inv.src_inj (I : Inv X pins σ H s) (h : SqB X.K b H a xs) (h' : SqB X.K b H a ys) : xs = ys := by
  cases b with
  | true => exact I.list_inj (show SqL X.K H a xs from h) h'
  | false => exact I.tuple_inj (show SqT X.K H a xs from h) h'
/-- a sequence that is read is no object of ours that turns -/
theorem Inv.src_ne (I : Inv X pins σ H s) (h : SqB X.K b H a xs) {it : Addr} (f : FpOk X pins H it) : a ≠ it := by
  obtain ⟨f0, f1, f2, f3, f4, f5⟩ := f
  intro e; subst e
  have kne : ∀ o, X.K.lookup a = some o → False := fun o hk => by
    have hb := I.ok.mod.kin a o hk
    rcases f3 with z | z
    · exact I.ok.noex a o hb z
    · exact absurd (Nat.lt_of_lt_of_le (Heap.lt_size (I.ok.bs a o hb).1) z) (Nat.lt_irrefl _)
  cases b with
  | true =>
    rcases (show SqL X.K H a xs from h) with (z | ⟨o, z⟩) | ⟨o, _, _, hk, _⟩
    · rw [f0] at z; cases z
    · rw [f0] at z; cases z
    · exact kne o hk
  | false =>
    rcases (show SqT X.K H a xs from h) with (z | ⟨o, z⟩) | ⟨o, _, _, hk, _⟩
    · rw [f0] at z; cases z
    · rw [f0] at z; cases z
    · exact kne o hk
end

/-! ### zip(a, b) walked -/
def Itz (K : PySem.W.Frag) (b1 b2 : Bool) (l1 l2 : Addr) : It :=
  ⟨fun i H => ∃ xs ys x y, SqB K b1 H l1 xs ∧ SqB K b2 H l2 ys ∧ xs[i]? = some x ∧ ys[i]? = some y,
   fun i H v H' => ∃ T x y, H T = none ∧ v = .ref T ∧ H' = upd H T (.tup [x, y]) ∧ (∀ xs, SqB K b1 H l1 xs → xs[i]? = some x) ∧ (∀ ys, SqB K b2 H l2 ys → ys[i]? = some y),
   fun i H => ∃ xs ys, SqB K b1 H l1 xs ∧ SqB K b2 H l2 ys ∧ (xs.length ≤ i ∨ ys.length ≤ i)⟩
theorem Inv.turned4 {X : Cx} {pins : List (Addr × Obj)} {σ : St} {H : Hp} {s : Shared} {h' : Heap} {t' : Nat} {fp : List Addr} (I : Inv X pins σ H s) (hf : ∀ b ∈ fp, FpOk X pins H b)
    (k : ∀ b o, b ∉ fp → s.heap.get? b = some o → h'.get? b = some o) : Inv X pins σ H { s with heap := h', toks := t' } := by
  have nfp : ∀ b u, H b = some u → b ∉ fp := fun b u e z => by have := (hf b z).1; rw [e] at this; cases this
  refine I.step (g' := s.gens) (d' := s.drawn) (ch := fp) (fun b hb => ?_) (fun b o _ _ hc e _ => k b o hc e) (fun b o _ _ hc e _ => ⟨o.slots, k b o hc e⟩) (fun _ _ _ _ n => n)
    (fun b o hc e => ⟨o, k b o hc e⟩) (fun _ _ e => e) (fun _ _ _ e => e) (fun b ps e => ⟨#[], by rw [e]; simp⟩) (fun m hm => ?_) (fun b u e => ?_) I.bare
  · obtain ⟨f0, f1, f2, f3, f4, f5⟩ := hf b hb
    exact ⟨f3, f1, f4, f5⟩
  · obtain ⟨o, es, ep, ho, r⟩ := hm
    exact ⟨o, es, ep, k _ o (fun z => (hf _ z).2.1 rfl) ho, r⟩
  · refine (I.hok b u e).stay (fun c v hc q => k c v ?_ q) (fun _ q => q) fun _ _ q => q
    rcases hc with z | z
    · rw [z]; exact nfp b u e
    · exact nfp c _ z
/-- .. and a new tuple is laid at the next address -/
theorem Inv.turnedNew {X : Cx} {pins : List (Addr × Obj)} {σ : St} {H : Hp} {s : Shared} {h' : Heap} {t' : Nat} {fp : List Addr} {zs : List V} {us : List Value} {o' : Obj} (I : Inv X pins σ H s) (hf : ∀ b ∈ fp, FpOk X pins H b)
    (k : ∀ b o, b ∉ fp → s.heap.get? b = some o → h'.get? b = some o) (hlt : ∀ b ∈ fp, ∃ o, s.heap.get? b = some o) (hlv : ∀ b ∈ fp, ∃ o, h'.get? b = some o) (hT : h'.get? s.heap.objs.size = some o') (hoc : o'.cls = .type "tuple") (hod : ∃ n, o'.data = .seq us.toArray n)
    (r : Vals zs us) (hdn : o'.dict = none) (hz : zs.length ≤ sizeLine) : Inv X pins σ (upd H s.heap.objs.size (.tup zs)) { s with heap := h', toks := t' } := by
  have hTn : H s.heap.objs.size = none := I.hok.fresh (Nat.le_refl _)
  have nfp : ∀ b u, H b = some u → b ∉ fp := fun b u e z => by have := (hf b z).1; rw [e] at this; cases this
  refine I.step (g' := s.gens) (d' := s.drawn) (ch := fp) (fun b hb => ?_) (fun b o _ _ hc e _ => k b o hc e) (fun b o _ _ hc e _ => ⟨o.slots, k b o hc e⟩) (fun b o _ e n => by rw [upd_ne (Nat.ne_of_lt (Heap.lt_size e))]; exact n)
    (fun b o hc e => ⟨o, k b o hc e⟩) (fun b zs' e => by rw [upd_ne (ne_of_none e hTn)]; exact e) (fun b o u e => by rw [upd_ne (ne_of_none e hTn)]; exact e) (fun b ps e => ⟨#[], by rw [upd_ne (ne_of_none e hTn), e]; simp⟩) (fun m hm => ?_) (fun b u e => ?_) I.bare
  · obtain ⟨f0, f1, f2, f3, f4, f5⟩ := hf b hb
    exact ⟨f3, f1, f4, f5⟩
  · obtain ⟨o, es, ep, ho, r⟩ := hm
    exact ⟨o, es, ep, k _ o (fun z => (hf _ z).2.1 rfl) ho, r⟩
  · by_cases hb : b = s.heap.objs.size
    · subst hb
      rw [upd_same] at e
      cases e
      obtain ⟨n, hd⟩ := hod
      exact ⟨hz, us, r, ⟨o', hT, ⟨hoc, n, hd⟩, hdn⟩⟩
    · rw [upd_ne hb] at e
      refine (I.hok b u e).stay (fun c v hc q => k c v ?_ q) (fun c q => by rw [upd_ne (ne_of_none q hTn)]; exact q) fun c zs' q => by rw [upd_ne (ne_of_none q hTn)]; exact q
      rcases hc with z | z
      · rw [z]; exact nfp b u e
      · exact nfp c _ z
theorem turn_zip {P : Program} {w : World} {K : PySem.W.Frag} {elts : List Expr} {x1 : Nat} {tp : Pos} (b1 b2 : Bool) (l1 l2 z TI TO i1 i2 : Addr) (D : ZApart z TI TO i1 i2) :
    Turn P w K (.Tuple elts x1 tp) (Itz K b1 b2 l1 l2) [z, TI, TO, i1, i2] z (fun i h => IsZip h z TI TO .none ∧ IsPair h TI (.ref i1) (.ref i2) ∧ (∃ a b, IsPair h TO a b) ∧ SrcTn b1 i1 l1 i h ∧ SrcTn b2 i2 l2 i h) where
  mem := by simp
  obj := fun i h st b hb => by
    obtain ⟨hz, hTI, ⟨a, c, hTO⟩, h1, h2⟩ := st
    have hb' : b = z ∨ b = TI ∨ b = TO ∨ b = i1 ∨ b = i2 := by simpa using hb
    rcases hb' with e | e | e | e | e <;> subst e
    · exact ⟨_, hz, fun v q => nomatch q⟩
    · exact ⟨_, hTI, fun v q => nomatch q⟩
    · exact ⟨_, hTO, fun v q => nomatch q⟩
    · exact h1.lt
    · exact h2.lt
  keep := fun i h h' st k => by
    obtain ⟨hz, hTI, ⟨a, c, hTO⟩, h1, h2⟩ := st
    exact ⟨k z (by simp) _ hz, k TI (by simp) _ hTI, ⟨a, c, k TO (by simp) _ hTO⟩, h1.keep fun o e => k i1 (by simp) o e, h2.keep fun o e => k i2 (by simp) o e⟩
  item := by
    intro X hP hw hK hc i pins s σ H E I hf st hg
    subst hP hw hK
    obtain ⟨xs, ys, x, y, q1, q2, hx, hy⟩ := hg
    obtain ⟨hz, hTI, ⟨a, c, hTO⟩, h1, h2⟩ := st
    obtain ⟨its1, r1, s1, z1⟩ := I.src q1
    obtain ⟨its2, r2, s2, z2⟩ := I.src q2
    obtain ⟨u, hu, ru⟩ := r1.get hx
    obtain ⟨v, hv, rv⟩ := r2.get hy
    have O1 : Off z TO i1 i2 l1 := ⟨I.src_ne q1 (hf z (by simp)), I.src_ne q1 (hf TO (by simp)), I.src_ne q1 (hf i1 (by simp)), I.src_ne q1 (hf i2 (by simp))⟩
    have O2 : Off z TO i1 i2 l2 := ⟨I.src_ne q2 (hf z (by simp)), I.src_ne q2 (hf TO (by simp)), I.src_ne q2 (hf i1 (by simp)), I.src_ne q2 (hf i2 (by simp))⟩
    refine pyNext_zip_item D O1 O2 hz hTI hTO h1 h2 s1 s2 (x := u) (y := v) (by simpa using hu) (by simpa using hv) fun h' a1 a2 a3 a4 a5 a6 hk => ?_
    refine ⟨_, rfl, wpAny_letOwnedTupleGo_zip a1 fun h'' hz'' hs'' => ?_⟩
    have hzs : z ≠ s.heap.objs.size := Nat.ne_of_lt (Heap.lt_size hz)
    have kk : ∀ b o, b ∉ [z, TI, TO, i1, i2] → s.heap.get? b = some o → h''.get? b = some o := fun b o hb e =>
      hs''.extBut b o (fun q => hb (by simp [q])) (hk b o (fun q => hb (by simp [q])) (fun q => hb (by simp [q])) (fun q => hb (by simp [q])) (fun q => hb (by simp [q])) e)
    have hT : h''.get? s.heap.objs.size = some { cls := .type "tuple", data := .seq #[u, v] } := hs''.extBut _ _ hzs.symm a5
    have lv : ∀ b ∈ [z, TI, TO, i1, i2], ∃ o, s.heap.get? b = some o := fun b hb => by
      have hb' : b = z ∨ b = TI ∨ b = TO ∨ b = i1 ∨ b = i2 := by simpa using hb
      rcases hb' with e | e | e | e | e <;> subst e
      · exact ⟨_, hz⟩
      · exact ⟨_, hTI⟩
      · exact ⟨_, hTO⟩
      · obtain ⟨o, e, _⟩ := h1.lt; exact ⟨o, e⟩
      · obtain ⟨o, e, _⟩ := h2.lt; exact ⟨o, e⟩
    have n1 : SrcTn b1 i1 l1 (i + 1) h'' := a3.keep fun o e => hs''.extBut _ o D.i1z e
    have n2 : SrcTn b2 i2 l2 (i + 1) h'' := a4.keep fun o e => hs''.extBut _ o D.i2z e
    have nTI : IsPair h'' TI (.ref i1) (.ref i2) := hs''.extBut _ _ D.TIz (hk _ _ D.TIz D.TITO D.TIi1 D.TIi2 hTI)
    have nTO : IsPair h'' TO u v := hs''.extBut _ _ D.TOz a2
    have lv' : ∀ b ∈ [z, TI, TO, i1, i2], ∃ o, h''.get? b = some o := fun b hb => by
      have hb' : b = z ∨ b = TI ∨ b = TO ∨ b = i1 ∨ b = i2 := by simpa using hb
      rcases hb' with e | e | e | e | e <;> subst e
      · exact ⟨_, hz''⟩
      · exact ⟨_, nTI⟩
      · exact ⟨_, nTO⟩
      · obtain ⟨o, e, _⟩ := n1.lt; exact ⟨o, e⟩
      · obtain ⟨o, e, _⟩ := n2.lt; exact ⟨o, e⟩
    have hTn : H s.heap.objs.size = none := I.hok.fresh (Nat.le_refl _)
    refine ⟨.ref s.heap.objs.size, _, I.turnedNew (s := s) (h' := h'') (t' := s.toks) (zs := [x, y]) (us := [u, v]) hf kk lv lv' hT rfl ⟨_, rfl⟩ (.cons ru (.cons rv .nil)) rfl (by show 2 ≤ sizeLine; decide), rfl, ⟨_, x, y, hTn, rfl, rfl, fun zs hzs' => ?_, fun zs hzs' => ?_⟩, ⟨hz'', nTI, ⟨_, _, nTO⟩, n1, n2⟩, fun b hb => ?_⟩
    · rw [I.src_inj hzs' q1]; exact hx
    · rw [I.src_inj hzs' q2]; exact hy
    · obtain ⟨o, e⟩ := lv b hb
      rw [upd_ne (Nat.ne_of_lt (Heap.lt_size e))]
      exact (hf b hb).1
  done := by
    intro X hP hw hK hc i pins s σ H E I hf st hg
    subst hP hw hK
    obtain ⟨xs, ys, q1, q2, hx⟩ := hg
    obtain ⟨hz, hTI, ⟨a, c, hTO⟩, h1, h2⟩ := st
    obtain ⟨its1, r1, s1, z1⟩ := I.src q1
    obtain ⟨its2, r2, s2, z2⟩ := I.src q2
    have l1' := r1.length
    have l2' := r2.length
    have O1 : Off z TO i1 i2 l1 := ⟨I.src_ne q1 (hf z (by simp)), I.src_ne q1 (hf TO (by simp)), I.src_ne q1 (hf i1 (by simp)), I.src_ne q1 (hf i2 (by simp))⟩
    have O2 : Off z TO i1 i2 l2 := ⟨I.src_ne q2 (hf z (by simp)), I.src_ne q2 (hf TO (by simp)), I.src_ne q2 (hf i1 (by simp)), I.src_ne q2 (hf i2 (by simp))⟩
    refine pyNext_zip_end (I.ok.hd hc) D O1 O2 hz hTI hTO h1 h2 s1 s2 ?_ fun h' hk => ⟨rfl, I.turned4 (t' := s.toks) hf fun b o hb e => hk b o (fun q => hb (by simp [q])) (fun q => hb (by simp [q])) (fun q => hb (by simp [q])) (fun q => hb (by simp [q])) e⟩
    rcases hx with hx | hx
    · exact .inl (by simp; omega)
    · exact .inr (by simp; omega)
  self := fun _ _ _ _ _ st h => wpAny_pyIter_zip st.1 h
section
variable {X : Cx}
def iZip (K : PySem.W.Frag) (b1 b2 : Bool) (t : TA) : TI := fun σ H R => t σ H fun vs H1 => ∃ l1 l2 xs ys, vs = [.ref l1, .ref l2] ∧ SqB K b1 H1 l1 xs ∧ SqB K b2 H1 l2 ys ∧ R (Itz K b1 b2 l1 l2) H1
/-- an iterator just made: all its objects are new -/
theorem Inv.newFp {pins : List (Addr × Obj)} {σ : St} {H : Hp} {s : Shared} {fp : List Addr} (I : Inv X pins σ H s) (hn : ∀ b ∈ fp, s.heap.objs.size ≤ b) : ∀ b ∈ fp, FpOk X pins H b := fun b hb => I.fpOk (hn b hb) (I.hok.fresh (hn b hb))
theorem pi_zip {a b : Expr} {elts : List Expr} {x1 : Nat} {tp : Pos} {ta : TA} {p pos : Pos} (b1 b2 : Bool) (hg : Gl X "zip") (hm : X.mg "zip" = none) (ha : PA X [a, b] ta)
    (hs : starEach [a, b] X.env = [(false, eval a X.env), (false, eval b X.env)] := by rfl) (hs2 : starEach [b] X.env = [(false, eval b X.env)] := by rfl) :
    PI X (.Tuple elts x1 tp) (.Call (.Name "zip" p) [a, b] [] pos) (iZip X.K b1 b2 ta) := by
  intro pins s σ H R I h
  refine Call_ (ld_blt I hg hm (by decide +kernel : bootBuiltins "zip" = some (.type "zip")) (PyProof.Rows.callWith_type1 (thn (ha pos pins s σ H _ I h) fun us s1 ⟨vs, H1, I1, r1, q1⟩ => ?_) (by rw [hs, hs2]) (by rw [hs2]; rfl)))
  obtain ⟨l1, l2, xs, ys, e, q1, q2, q⟩ := q1
  subst e
  obtain ⟨u1, u2, rfl, ru1, ru2⟩ := r1.two
  cases ru1
  cases ru2
  obtain ⟨its1, rv1, sq1, z1⟩ := I1.src q1
  obtain ⟨its2, rv2, sq2, z2⟩ := I1.src q2
  refine call_zip sq1 sq2 fun h' hz hTI hTO h1 h2 hsz hk => ?_
  have I2 : Inv X pins σ H1 { s1 with heap := h' } := I1.kept (t' := s1.toks) hk
  refine wpAny_pyIter_zip (s := { s1 with heap := h' }) hz ?_
  have D : ZApart (s1.heap.objs.size + 4) (s1.heap.objs.size + 2) (s1.heap.objs.size + 3) s1.heap.objs.size (s1.heap.objs.size + 1) := by constructor <;> exact (show (_ : Nat) ≠ (_ : Nat) by omega)
  refine ⟨s1.heap.objs.size + 4, [s1.heap.objs.size + 4, s1.heap.objs.size + 2, s1.heap.objs.size + 3, s1.heap.objs.size, s1.heap.objs.size + 1], _, _, H1, rfl, I2, turn_zip b1 b2 l1 l2 _ _ _ _ _ D, ⟨hz, hTI, ⟨_, _, hTO⟩, h1, h2⟩, fun b hb => ?_, q⟩
  have hb' : s1.heap.objs.size ≤ b := by
    have hb2 : b = s1.heap.objs.size + 4 ∨ b = s1.heap.objs.size + 2 ∨ b = s1.heap.objs.size + 3 ∨ b = s1.heap.objs.size ∨ b = s1.heap.objs.size + 1 := by simpa using hb
    rcases hb2 with e | e | e | e | e <;> rw [e] <;> first | exact Nat.le_add_right _ _ | exact Nat.le_refl _
  exact I1.fpOk (H' := H1) hb' (I1.hok.fresh hb')

/-! ### enumerate -/
def Ite (K : PySem.W.Frag) (b : Bool) (l : Addr) : It :=
  ⟨fun i H => ∃ xs x, SqB K b H l xs ∧ xs[i]? = some x,
   fun i H v H' => ∃ T x, H T = none ∧ v = .ref T ∧ H' = upd H T (.tup [.int i, x]) ∧ (∀ xs, SqB K b H l xs → xs[i]? = some x),
   fun i H => ∃ xs, SqB K b H l xs ∧ xs.length ≤ i⟩
end
section
variable {prog : Program} {w : World} {A : Around} {E : Value → Shared → Prop} {s : Shared}
theorem Draws.src (hh : A.handled = none) (b : Bool) (it l : Addr) (hne : l ≠ it) (items : Array Value) :
    Draws prog w A it [it, l] items.size (fun i v => items[i]? = some v) (fun i h => SrcTn b it l i h ∧ SrcSq b h l items) where
  live := fun _ _ st => let ⟨o, ho, _⟩ := st.1.lt; ⟨o, ho⟩
  frame := fun _ _ _ st hk => ⟨st.1.keep fun o e => hk it (by simp) o e, st.2.keep fun o e => hk l (by simp) o e⟩
  item := fun i s Q E hi st hQ => by
    refine nextOf_src_item st.1 st.2 (x := items[i]) (by simp [hi]) fun h' hit' hs' => ?_
    exact hQ _ h' s.toks (by simp [hi]) ⟨hit', st.2.keep fun o e => hs'.extBut _ o hne e⟩ hs'
  done := fun s Q E st hE => nextOf_src_end hh st.1 st.2 (by simp) hE
theorem meets_enum (b : Bool) (l : Addr) (items : Array Value) :
    Meets (Builtin.«enumerate.__new__» ⟨[.type "enumerate", .ref l], []⟩) (fun _ R s => SrcSq b s.heap l items ∧
      R (.ok (.ret (.ref (s.heap.push { cls := .type (srcCls b), data := .fields #[.ref l, .int 0 0] }).objs.size)))
        { s with heap := (s.heap.push { cls := .type (srcCls b), data := .fields #[.ref l, .int 0 0] }).push { cls := .type "enumerate", data := .fields #[.none, .bool false, .ref s.heap.objs.size, rawInt 0, .none, .none] } }) :=
  .of_wp fun prog w A R s h => by
    obtain ⟨hp, g, d, tk, os⟩ := s; obtain ⟨hl, h⟩ := h
    have hsub := sub_enumerate
    have hL : SrcSq b (Shared.heap ⟨hp, g, d, tk, os⟩) l items := hl
    wp_walk
    refine wpAny_stack_any fun st => wpAny_pure ?_
    split
    · rename_i c _ _ _ _ _
      cases (c == Value.type "enumerate")
      · wp_walk using pyIter_src hL
        exact ⟨_, rfl, h⟩
      · wp_walk using pyIter_src hL
        exact ⟨_, rfl, h⟩
    · wp_walk using pyIter_src hL
      exact ⟨_, rfl, h⟩
theorem call_enum {b : Bool} {l : Addr} {items : Array Value} {Q : Value → Shared → Prop} (hL : SrcSq b s.heap l items)
    (h : ∀ h', IsEnum h' (s.heap.objs.size + 1) s.heap.objs.size 0 .none → SrcTn b s.heap.objs.size l 0 h' → h'.objs.size = s.heap.objs.size + 2 →
      (∀ b o, s.heap.get? b = some o → h'.get? b = some o) → Q (.ref (s.heap.objs.size + 1)) { s with heap := h' }) :
    wpAny (model prog w) A (call (.type "enumerate") [.ref l]) Q E s := by
  refine callType_new F.called_enumerate (by decide) (F.typeCall_enumerate_1 _) (F.newCall_enumerate_1 _) (fun obj => F.args_object_init_2 obj _) F.entry_enumerate_new (meets_enum b l items) ⟨hL, ?_⟩
  have hz : (s.heap.push { cls := .type (srcCls b), data := .fields #[.ref l, .int 0 0] }).objs.size = s.heap.objs.size + 1 := Heap.size_push ..
  show _ ∧ _
  rw [hz]
  have he : IsEnum ((s.heap.push { cls := .type (srcCls b), data := .fields #[.ref l, .int 0 0] }).push
      { cls := .type "enumerate", data := .fields #[.none, .bool false, .ref s.heap.objs.size, rawInt 0, .none, .none] }) (s.heap.objs.size + 1) s.heap.objs.size 0 .none := by
    have := Heap.get?_push_size (s.heap.push { cls := .type (srcCls b), data := .fields #[.ref l, .int 0 0] })
      (o := { cls := .type "enumerate", data := .fields #[.none, .bool false, .ref s.heap.objs.size, rawInt 0, .none, .none] }) rfl
    rw [hz] at this; exact this
  refine ⟨⟨_, he, rfl⟩, h _ he (src_new (Heap.get?_push_of_some _ (Heap.get?_push_size _ rfl))) (by rw [Heap.size_push, hz]) fun b o x => Heap.get?_push_of_some _ (Heap.get?_push_of_some _ x)⟩
end
theorem turn_enum {P : Program} {w : World} {K : PySem.W.Frag} {elts : List Expr} {x1 : Nat} {tp : Pos} (b : Bool) (l e it : Addr) (hei : e ≠ it) :
    Turn P w K (.Tuple elts x1 tp) (Ite K b l) [e, it] e (fun i h => (∃ old, IsEnum h e it i old) ∧ SrcTn b it l i h) where
  mem := by simp
  obj := fun i h st c hc => by
    obtain ⟨⟨old, he⟩, h1⟩ := st
    have hc' : c = e ∨ c = it := by simpa using hc
    rcases hc' with q | q <;> subst q
    · exact ⟨_, he, fun v z => nomatch z⟩
    · exact h1.lt
  keep := fun i h h' st k => by
    obtain ⟨⟨old, he⟩, h1⟩ := st
    exact ⟨⟨old, k e (by simp) _ he⟩, h1.keep fun o q => k it (by simp) o q⟩
  item := by
    intro X hP hw hK hc i pins s σ H E I hf st hg
    subst hP hw hK
    obtain ⟨xs, x, q1, hx⟩ := hg
    obtain ⟨⟨old, he⟩, h1⟩ := st
    obtain ⟨its, r, sq, z1⟩ := I.src q1
    obtain ⟨u, hu, ru⟩ := r.get hx
    have hle : l ≠ e := I.src_ne q1 (hf e (by simp))
    have hli : l ≠ it := I.src_ne q1 (hf it (by simp))
    have hil : i < its.toArray.size := by
      rw [List.size_toArray, ← r.length]
      exact (List.getElem?_eq_some_iff.mp hx).1
    have D : Draws X.prog X.w X.A.in1 it [it, l] its.toArray.size (fun i v => its.toArray[i]? = some v) (fun i h => SrcTn b it l i h ∧ SrcSq b h l its.toArray) := Draws.src (A := X.A.in1) (I.ok.hd hc) b it l hli its.toArray
    refine wpAny_pyNext_enum_itemD D he ⟨h1, sq⟩ hil hei (by simp [hei, Ne.symm hle]) fun v h' tk hv ho hs' hT hsz hk => ?_
    have ev : v = u := by
      have hu' : its.toArray[i]? = some u := by simpa using hu
      rw [hu'] at hv
      exact (Option.some.inj hv).symm
    subst ev
    refine ⟨_, rfl, wpAny_letOwnedTupleGo_enum ho fun h'' he'' hs'' => ?_⟩
    have hes : e ≠ s.heap.objs.size := Nat.ne_of_lt (Heap.lt_size he)
    have n1 : SrcTn b it l (i + 1) h'' := hs'.1.keep fun o q => hs''.extBut _ o hei.symm q
    have kk : ∀ c o, c ∉ [e, it] → s.heap.get? c = some o → h''.get? c = some o := fun c o hc q =>
      hs''.extBut c o (fun z => hc (by simp [z])) (hk c o (fun z => hc (by simp [z])) (fun z => hc (by simp [z])) q)
    have hT' : h''.get? s.heap.objs.size = some { cls := .type "tuple", data := .seq #[.int i tk, v] } := hs''.extBut _ _ hes.symm hT
    have lv : ∀ c ∈ [e, it], ∃ o, s.heap.get? c = some o := fun c hc => by
      have hc' : c = e ∨ c = it := by simpa using hc
      rcases hc' with q | q <;> subst q
      · exact ⟨_, he⟩
      · obtain ⟨o, q, _⟩ := h1.lt; exact ⟨o, q⟩
    have lv' : ∀ c ∈ [e, it], ∃ o, h''.get? c = some o := fun c hc => by
      have hc' : c = e ∨ c = it := by simpa using hc
      rcases hc' with q | q <;> subst q
      · exact ⟨_, he''⟩
      · obtain ⟨o, q, _⟩ := n1.lt; exact ⟨o, q⟩
    have hTn : H s.heap.objs.size = none := I.hok.fresh (Nat.le_refl _)
    refine ⟨.ref s.heap.objs.size, _, I.turnedNew (s := s) (h' := h'') (t' := tk + 1) (zs := [.int i, x]) (us := [.int i tk, v]) hf kk lv lv' hT' rfl ⟨_, rfl⟩ (.cons ⟨tk, rfl⟩ (.cons ru .nil)) rfl (by show 2 ≤ sizeLine; decide), rfl, ⟨_, x, hTn, rfl, rfl, fun zs hzs' => ?_⟩, ⟨⟨v, by simpa using he''⟩, n1⟩, fun c hc => ?_⟩
    · rw [I.src_inj hzs' q1]; exact hx
    · obtain ⟨o, q⟩ := lv c hc
      rw [upd_ne (Nat.ne_of_lt (Heap.lt_size q))]
      exact (hf c hc).1
  done := by
    intro X hP hw hK hc i pins s σ H E I hf st hg
    subst hP hw hK
    obtain ⟨xs, q1, hx⟩ := hg
    obtain ⟨⟨old, he⟩, h1⟩ := st
    obtain ⟨its, r, sq, z1⟩ := I.src q1
    have hli : l ≠ it := I.src_ne q1 (hf it (by simp))
    have hT : s.TypeIs (.ref e) "enumerate" := ⟨_, he, rfl⟩
    have hl := r.length
    unfold pyNext
    refine wpAny_bind (wpAny_attempt (wpAny_callSpecial?_slot (name := Str.ofString "__next__") hT F.slot_enumerate_next
      (wpAny_call_entry F.slot_enumerate_next hT F.entry_enumerate_next ?_ (F.args_enumerate_next_1 _))))
    show wpAny _ _ (field (.ref e) 2 >>= _) _ _ _
    refine wpAny_bind (wpAny_field he rfl (x := .ref it) rfl ?_)
    refine wpAny_bind (nextOf_src_end (I.ok.hd hc) h1 sq (by simp; omega) fun h' x he' hx' => ?_)
    obtain ⟨o, ho, hcl⟩ := hx'
    refine wpAny_bind (wpAny_isInstance (T := "StopIteration") (b := true) ⟨o, ho, hcl⟩ isSubtype_stop ?_)
    exact wpAny_pure ⟨rfl, I.turned4 (t' := s.toks) hf fun c o' hc' q => he' c o' (fun z => hc' (by simp [z])) q⟩
  self := fun _ _ _ _ _ st h => let ⟨⟨_, he⟩, _⟩ := st; wpAny_pyIter_enum he h
section
variable {X : Cx}
def iEnum (K : PySem.W.Frag) (b : Bool) (t : TA) : TI := fun σ H R => t σ H fun vs H1 => ∃ l xs, vs = [.ref l] ∧ SqB K b H1 l xs ∧ R (Ite K b l) H1
theorem pi_enum {a : Expr} {elts : List Expr} {x1 : Nat} {tp : Pos} {ta : TA} {p pos : Pos} (b : Bool) (hg : Gl X "enumerate") (hm : X.mg "enumerate" = none) (ha : PA X [a] ta) (hs : starEach [a] X.env = [(false, eval a X.env)] := by rfl) :
    PI X (.Tuple elts x1 tp) (.Call (.Name "enumerate" p) [a] [] pos) (iEnum X.K b ta) := by
  intro pins s σ H R I h
  refine Call_ (ld_blt I hg hm (by decide +kernel : bootBuiltins "enumerate" = some (.type "enumerate")) (PyProof.Rows.callWith_type1 (thn (ha pos pins s σ H _ I h) fun us s1 ⟨vs, H1, I1, r1, q1⟩ => ?_) hs rfl))
  obtain ⟨l, xs, e, q1, q⟩ := q1
  subst e
  obtain ⟨u1, rfl, ru1⟩ := r1.one
  cases ru1
  obtain ⟨its, rv, sq, z⟩ := I1.src q1
  refine call_enum sq fun h' he h1 hsz hk => ?_
  have I2 : Inv X pins σ H1 { s1 with heap := h' } := I1.kept (t' := s1.toks) hk
  refine wpAny_pyIter_enum (s := { s1 with heap := h' }) he ?_
  refine ⟨s1.heap.objs.size + 1, [s1.heap.objs.size + 1, s1.heap.objs.size], _, _, H1, rfl, I2, turn_enum b l _ _ (show (_ : Nat) ≠ (_ : Nat) by omega), ⟨⟨_, he⟩, h1⟩, fun c hc => ?_, q⟩
  have hc' : s1.heap.objs.size ≤ c := by
    have hc2 : c = s1.heap.objs.size + 1 ∨ c = s1.heap.objs.size := by simpa using hc
    rcases hc2 with e | e <;> rw [e] <;> first | exact Nat.le_add_right _ _ | exact Nat.le_refl _
  exact I1.fpOk (H' := H1) hc' (I1.hok.fresh hc')

/-! ### isinstance, all, any, != [] -/
theorem call_isinst : CallR X (.builtin "isinstance") (fun xs H Q => ∃ x T t b, xs = [x, .ty T] ∧ TyOf X.K H x t ∧ PySem.W.kitOne X.K t (.type T) = some b ∧ Q (.bl b) H) := by
  intro pins s σ H xs us Q I r h
  obtain ⟨x, T, t, b, rfl, ty, e, q⟩ := h
  obtain ⟨u, c, rfl, rx, rc⟩ := r.two
  obtain rfl : c = Value.type T := rc
  exact isinst_ok I rx ty e fun tk => ⟨.bl b, H, I.tok tk, rfl, q⟩
theorem call_all (hc : X.calm = true) : CallR X (.builtin "all") (fun xs H Q => ∃ (l : Addr) (bs : List Bool), xs = [.ref l] ∧ SqL X.K H l (bs.map V.bl) ∧ Q (.bl (bs.all id)) H) := by
  intro pins s σ H xs us Q I r h
  obtain ⟨l, bs, rfl, hq, q⟩ := h
  obtain ⟨u, rfl, ru⟩ := r.one
  cases ru
  obtain ⟨its, rv, p, hz⟩ := I.list hq
  have hl := rv.length
  have hli : l < s.heap.objs.size := by obtain ⟨o, e, _⟩ := p.isList; exact Heap.lt_size e
  have hne : l ≠ s.heap.objs.size := Nat.ne_of_lt hli
  have val : ∀ (i : Nat) (v : Value), its.toArray[i]? = some v → ∃ c, bs[i]? = some c ∧ v = .bool c := fun i v hv => by
    have hv' : its[i]? = some v := by simpa using hv
    have hi : i < bs.length := by
      have := (List.getElem?_eq_some_iff.mp hv').1
      rw [List.length_map] at hl
      omega
    obtain ⟨w', h1, h2⟩ := rv.get (i := i) (x := .bl bs[i]) (by rw [List.getElem?_map, List.getElem?_eq_getElem hi]; rfl)
    rw [hv'] at h1
    cases h1
    exact ⟨bs[i], List.getElem?_eq_getElem hi, h2⟩
  have hsz : its.toArray.size = bs.length := by rw [List.size_toArray, ← hl, List.length_map]
  refine call_all_walk (wpAny_pyIter_list p.isList ⟨s.heap.objs.size, _, _, _, _, _, fun i => bs.getD i false, rfl, Walks.list (A := X.A.in1) (I.ok.hd hc) s.heap.objs.size l hne its.toArray, ⟨⟨_, Heap.get?_push_size _ rfl, rfl, rfl⟩, p.isList.push _⟩, fun i v s' Q' E' hv hq' => ?_, fun h' tk hk => ?_⟩)
  · obtain ⟨c, h1, rfl⟩ := val i v hv
    refine wpAny_truthy_bool ?_
    have eb : bs.getD i false = c := by rw [List.getD_eq_getElem?_getD, h1]; rfl
    have hq2 : Q' (bs.getD i false) s' := hq'
    rw [eb] at hq2
    exact hq2
  · have e : (List.range its.toArray.size).all (fun i => bs.getD i false) = bs.all id := by
      rw [hsz, Bool.eq_iff_iff, List.all_eq_true, List.all_eq_true]
      constructor
      · intro h b hb
        obtain ⟨i, hi, rfl⟩ := List.mem_iff_getElem.mp hb
        have := h i (List.mem_range.mpr hi)
        rwa [List.getD_eq_getElem?_getD, List.getElem?_eq_getElem hi] at this
      · intro h i hi
        have hi' := List.mem_range.mp hi
        rw [List.getD_eq_getElem?_getD, List.getElem?_eq_getElem hi']
        exact h _ (List.getElem_mem hi')
    rw [e]
    refine ⟨.bl (bs.all id), H, ?_, rfl, q⟩
    exact I.kept (t' := tk) fun b o hb => hk b o (by simp; exact Nat.ne_of_lt (Heap.lt_size hb)) (Heap.get?_push_of_some _ hb)
end
end L2

/-! ### dict(zip(a, b)) -/
namespace L2
open PySem PySem.Spec PyProof.Rows
/-- a zip that is walked without its pairs being unpacked -/
abbrev IsZ (h : Heap) (z TI TO : Addr) (f0 : Value) (f1 : Bool) : Prop :=
  h.get? z = some { cls := .type "zip", dict := none, data := .fields #[f0, .bool f1, .bool false, .ref TI, .ref TO], slots := #[] }
theorem entry_zip_getattribute : entryFor table "zip.__getattribute__" = some Builtin.«object.__getattribute__» :=
  entryFor_alias (id' := "object.__getattribute__") (by kernel_rfl) (by decide +kernel) (by decide +kernel) (by kernel_rfl)
theorem zip_getattr_none : typeLookup (.type "zip") "__getattr__" = pure none := by rw [typeLookup_type, builtinLookup_eq_fast]; kernel_rfl
theorem zip_no_keys : typeLookup (.type "zip") "keys" = pure none := by rw [typeLookup_type, builtinLookup_eq_fast]; kernel_rfl
theorem entry_update_loop : entryFor table "dict.update.loop" = some Builtin.«dict.update.loop» := entryFor_of_fast (by kernel_rfl)
theorem plain_update_loop : plainId "dict.update.loop" = true := by decide +kernel
theorem meets_zip_miss (a TI TO : Addr) (f0 : Value) (f1 : Bool) (name : Str) (u : Tok) (hmiss : typeLookup (.type "zip") name = pure none) (hname : (["__module__", "__name__", "__qualname__", "__doc__", "__annotations__"] : List Str).contains name = false) (hsz : name.length + 100 ≤ sizeLine := by size_fits) :
    Meets (Builtin.«object.__getattribute__» ⟨[.ref a, .str name u], []⟩) (fun A R s => IsZ s.heap a TI TO f0 f1 ∧ raisesAttr (.ref a) name A R s) :=
  Meets.of_wp fun prog w A R s hs => by
    obtain ⟨hp, g, d, tk, os⟩ := s
    obtain ⟨hx, hs⟩ := hs
    have hT : (⟨hp, g, d, tk, os⟩ : Shared).TypeIs (.ref a) "zip" := ⟨_, hx, rfl⟩
    unfold Builtin.«object.__getattribute__»
    repeat (any_goals (first | assumption | wp_step))
    simp only [hname, Bool.false_eq_true, if_false]
    repeat (any_goals (first | assumption | wp_step))
    exact wpAny_raiseAttrError hs.1 hs.2 (attrMsg_fits (by decide +kernel) hsz)
section
variable {prog : Program} {w : World} {A : Around} {E : Value → Shared → Prop} {s : Shared}
theorem zip_keys_none {a TI TO : Addr} {f0 : Value} {f1 : Bool} {Q : Option Value → Shared → Prop} (hx : IsZ s.heap a TI TO f0 f1) (hA : A.handled = none)
    (h : ∀ h' tk, (∀ b o, s.heap.get? b = some o → h'.get? b = some o) → Q none { s with heap := h', toks := tk }) : wpAny (model prog w) A (getAttr? (.ref a) "keys") Q E s := by
  obtain ⟨hp, g, d, tk, os⟩ := s
  have hT : ∀ tk', (⟨hp, g, d, tk', os⟩ : Shared).TypeIs (.ref a) "zip" := fun _ => ⟨_, hx, rfl⟩
  have f1' := sub_AttributeError
  have f3 := F.slot_zip_getattribute.lookup
  have f4 := F.slot_zip_getattribute.bind (.ref a)
  have f5 := zip_getattr_none
  unfold getAttr? getAttrBy? getAttrBy
  repeat (any_goals (first | assumption | exact hT _ | ((with_reducible show wpAny _ _ (call (Value.builtin "zip.__getattribute__") _ _) _ _ _); refine call_meets F.slot_zip_getattribute (hT _) entry_zip_getattribute (F.args_zip_getattribute_2 _ _) (meets_zip_miss a TI TO f0 f1 "keys" _ zip_no_keys (by decide +kernel) (by decide +kernel)) ⟨hx, hA, fun h' tk' e hx' => ?_⟩) | wp_step))
  obtain ⟨t', u', he⟩ := hx'.there
  show wpAny _ _ (getattributeRaised _ _ _ _ _ _ _) _ _ _
  unfold getattributeRaised
  repeat (any_goals (first | assumption | wp_step))
  exact h _ _ hx'.keeps

theorem loadAlive_ {M : Model} {a : Addr} {o : Obj} {Q : Option Obj → Shared → Prop} (ho : s.heap.get? a = some o) (h : Q (some o) s) : wpAny M A (loadIfAlive a) Q E s := fun Γ p _ => by
  show Sem.wp M Γ (.loadIfAlive a .pure) _ _ p s
  rw [Sem.wp_loadIfAlive, ho]
  exact h

end
end L2
namespace L2
open PySem PySem.Spec PyProof.Rows
section
variable {prog : Program} {w : World} {A : Around} {E : Value → Shared → Prop} {s : Shared}
/-- the second and every further pair, where the first is still held -/
theorem zip_item2 {b1 b2 f1 : Bool} {z TI TO T i1 i2 l1 l2 : Addr} {k1 k2 : Nat} {xs ys : Array Value} {x y : Value} {oT : Obj} {Q : Value → Shared → Prop} (D : ZApart z TI TO i1 i2) (O1 : l1 ≠ z ∧ l1 ≠ i1) (O2 : l2 ≠ z ∧ l2 ≠ i1 ∧ l2 ≠ i2)
    (hz : IsZ s.heap z TI TO (rawInt T) f1) (hT : s.heap.get? T = some oT) (hTI : IsPair s.heap TI (.ref i1) (.ref i2))
    (h1 : SrcTn b1 i1 l1 k1 s.heap) (h2 : SrcTn b2 i2 l2 k2 s.heap) (hl1 : SrcSq b1 s.heap l1 xs) (hl2 : SrcSq b2 s.heap l2 ys) (hx : xs[k1]? = some x) (hy : ys[k2]? = some y)
    (hQ : ∀ h', IsZ h' z TI TO (rawInt T) true → SrcTn b1 i1 l1 (k1 + 1) h' → SrcTn b2 i2 l2 (k2 + 1) h' → IsPair h' s.heap.objs.size x y → h'.objs.size = s.heap.objs.size + 1 →
      (∀ c o, c ≠ z → c ≠ i1 → c ≠ i2 → s.heap.get? c = some o → h'.get? c = some o) → Q (.ref s.heap.objs.size) { s with heap := h' }) :
    wpAny (model prog w) A (Builtin.«zip.__next__» ⟨[.ref z], []⟩) (fun fin s' => ∃ v, fin = .done (.ret v) ∧ Q v s') E s := by
  show wpAny _ _ (field (.ref z) 2 >>= _) _ _ _
  refine wpAny_bind (wpAny_field hz rfl (x := .bool false) rfl ?_)
  show wpAny _ _ (field (.ref z) 3 >>= _) _ _ _
  refine wpAny_bind (wpAny_field hz rfl (x := .ref TI) rfl ?_)
  refine wpAny_bind (wpAny_seqItems hTI rfl ?_)
  show wpAny _ _ (Builtin.SmallTypes.ownedTupleIsFree (.ref z) >>= _) _ _ _
  refine wpAny_bind ?_
  unfold Builtin.SmallTypes.ownedTupleIsFree
  refine wpAny_bind (wpAny_field hz rfl (x := rawInt T) rfl ?_)
  show wpAny _ _ (loadIfAlive _ >>= _) _ _ _
  refine wpAny_bind (loadAlive_ (o := oT) (by simpa using hT) ?_)
  simp only [Option.isNone_some, Bool.false_eq_true, if_false]
  refine wpAny_bind (wpAny_field hz rfl (x := .bool f1) rfl ?_)
  have go : wpAny (model prog w) A (if (Value.bool f1 != Value.bool true) = true then do setField (Value.ref z) 1 (Value.bool true); pure false else pure false)
      (fun a s' => a = false ∧ ∃ h₀, s' = { s with heap := h₀ } ∧ IsZ h₀ z TI TO (rawInt T) true ∧ (∀ c o, c ≠ z → s.heap.get? c = some o → h₀.get? c = some o) ∧ h₀.objs.size = s.heap.objs.size) E s := by
    cases f1 with
    | true =>
      rw [if_neg (by decide)]
      exact wpAny_pure ⟨rfl, s.heap, rfl, hz, fun _ _ _ e => e, rfl⟩
    | false =>
      rw [if_pos (by decide)]
      refine wpAny_bind (wpAny_setField_rec hz (by simp) fun h₀ hz₀ hs₀ => wpAny_pure ⟨rfl, h₀, rfl, hz₀, fun c o hc e => hs₀.extBut c o hc e, hs₀.1⟩)
  refine wpAny_mono go (fun a s' hq => ?_) fun _ _ e => e
  obtain ⟨rfl, h₀, rfl, hz₀, hk₀, hs₀⟩ := hq
  simp only [Bool.false_eq_true, if_false]
  rw [← Array.forIn_toList]
  simp only [List.forIn_cons, List.forIn_nil]
  refine wpAny_bind (wpAny_bind (wpAny_bind (wpAny_holding ?_)))
  show wpAny _ _ (Builtin.SmallTypes.nextOf (.ref i1) >>= _) _ _ _
  refine wpAny_bind (nextOf_src_item (s := { s with heap := h₀ }) (h1.keep fun o e => hk₀ _ o D.i1z e) (hl1.keep fun o e => hk₀ _ o O1.1 e) hx fun h₂ h1₂ hs₂ => wpAny_pure ?_)
  refine wpAny_pure ?_
  refine wpAny_bind (wpAny_bind (wpAny_holding ?_))
  show wpAny _ _ (Builtin.SmallTypes.nextOf (.ref i2) >>= _) _ _ _
  refine wpAny_bind (nextOf_src_item (s := { s with heap := h₂ }) (h2.keep fun o e => hs₂.extBut _ o D.i12.symm (hk₀ _ o D.i2z e)) (hl2.keep fun o e => hs₂.extBut _ o O2.2.1 (hk₀ _ o O2.1 e)) hy fun h₃ h2₃ hs₃ => wpAny_pure ?_)
  refine wpAny_pure (wpAny_pure ?_)
  refine wpAny_bind (wpAny_newTuple (wpAny_pure ⟨_, rfl, ?_⟩) (by show 2 ≤ sizeLine; decide))
  have e2 : h₂.objs.size = h₀.objs.size := hs₂.1
  have e3 : h₃.objs.size = h₂.objs.size := hs₃.1
  have hsz : h₃.objs.size = s.heap.objs.size := by rw [e3, e2, hs₀]
  have zl : z ≠ i1 := D.i1z.symm
  have zl2 : z ≠ i2 := D.i2z.symm
  show Q (.ref h₃.objs.size) _
  rw [hsz]
  refine hQ _ (Heap.get?_push_of_some _ (hs₃.extBut _ _ zl2 (hs₂.extBut _ _ zl hz₀))) (h1₂.keep fun o e => Heap.get?_push_of_some _ (hs₃.extBut _ o D.i12 e)) (h2₃.keep fun o e => Heap.get?_push_of_some _ e) ?_ ?_ fun c o c1 c2 c3 e => Heap.get?_push_of_some _ (hs₃.extBut _ _ c3 (hs₂.extBut _ _ c2 (hk₀ c o c1 e)))
  · rw [← hsz]
    exact Heap.get?_push_size _ rfl
  · rw [Heap.size_push, hsz]
theorem zip_end2 {b1 b2 f1 : Bool} {z TI TO T i1 i2 l1 l2 : Addr} {k1 k2 : Nat} {xs ys : Array Value} {oT : Obj} {Q : Fin → Shared → Prop} (hh : A.handled = none) (D : ZApart z TI TO i1 i2) (O1 : l1 ≠ z ∧ l1 ≠ i1)
    (hz : IsZ s.heap z TI TO (rawInt T) f1) (hT : s.heap.get? T = some oT) (hTI : IsPair s.heap TI (.ref i1) (.ref i2))
    (h1 : SrcTn b1 i1 l1 k1 s.heap) (hl1 : SrcSq b1 s.heap l1 xs) (hx : xs[k1]? = none)
    (hE : ∀ h' e, (∀ c o, c ≠ z → c ≠ i1 → s.heap.get? c = some o → h'.get? c = some o) → (∃ o, h'.get? e = some o ∧ o.cls = .type "StopIteration") → E (.ref e) { s with heap := h' }) :
    wpAny (model prog w) A (Builtin.«zip.__next__» ⟨[.ref z], []⟩) Q E s := by
  show wpAny _ _ (field (.ref z) 2 >>= _) _ _ _
  refine wpAny_bind (wpAny_field hz rfl (x := .bool false) rfl ?_)
  show wpAny _ _ (field (.ref z) 3 >>= _) _ _ _
  refine wpAny_bind (wpAny_field hz rfl (x := .ref TI) rfl ?_)
  refine wpAny_bind (wpAny_seqItems hTI rfl ?_)
  show wpAny _ _ (Builtin.SmallTypes.ownedTupleIsFree (.ref z) >>= _) _ _ _
  refine wpAny_bind ?_
  unfold Builtin.SmallTypes.ownedTupleIsFree
  refine wpAny_bind (wpAny_field hz rfl (x := rawInt T) rfl ?_)
  show wpAny _ _ (loadIfAlive _ >>= _) _ _ _
  refine wpAny_bind (loadAlive_ (o := oT) (by simpa using hT) ?_)
  simp only [Option.isNone_some, Bool.false_eq_true, if_false]
  refine wpAny_bind (wpAny_field hz rfl (x := .bool f1) rfl ?_)
  have go : wpAny (model prog w) A (if (Value.bool f1 != Value.bool true) = true then do setField (Value.ref z) 1 (Value.bool true); pure false else pure false)
      (fun a s' => a = false ∧ ∃ h₀, s' = { s with heap := h₀ } ∧ (∀ c o, c ≠ z → s.heap.get? c = some o → h₀.get? c = some o)) E s := by
    cases f1 with
    | true =>
      rw [if_neg (by decide)]
      exact wpAny_pure ⟨rfl, s.heap, rfl, fun _ _ _ e => e⟩
    | false =>
      rw [if_pos (by decide)]
      refine wpAny_bind (wpAny_setField_rec hz (by simp) fun h₀ hz₀ hs₀ => wpAny_pure ⟨rfl, h₀, rfl, fun c o hc e => hs₀.extBut c o hc e⟩)
  refine wpAny_mono go (fun a s' hq => ?_) fun _ _ e => e
  obtain ⟨rfl, h₀, rfl, hk₀⟩ := hq
  simp only [Bool.false_eq_true, if_false]
  rw [← Array.forIn_toList]
  simp only [List.forIn_cons, List.forIn_nil]
  refine wpAny_bind (wpAny_bind (wpAny_bind (wpAny_holding ?_)))
  show wpAny _ _ (Builtin.SmallTypes.nextOf (.ref i1) >>= _) _ _ _
  exact wpAny_bind (nextOf_src_end (s := { s with heap := h₀ }) hh (h1.keep fun o e => hk₀ _ o D.i1z e) (hl1.keep fun o e => hk₀ _ o O1.1 e) hx fun h₂ e hs₂ he => hE h₂ e (fun c o c1 c2 q => hs₂ _ _ c2 (hk₀ c o c1 q)) he)

theorem pyNext_zip_item2 {b1 b2 f1 : Bool} {z TI TO T i1 i2 l1 l2 : Addr} {k1 k2 : Nat} {xs ys : Array Value} {x y : Value} {oT : Obj} {Q : Option Value → Shared → Prop} (D : ZApart z TI TO i1 i2) (O1 : l1 ≠ z ∧ l1 ≠ i1) (O2 : l2 ≠ z ∧ l2 ≠ i1 ∧ l2 ≠ i2)
    (hz : IsZ s.heap z TI TO (rawInt T) f1) (hT : s.heap.get? T = some oT) (hTI : IsPair s.heap TI (.ref i1) (.ref i2))
    (h1 : SrcTn b1 i1 l1 k1 s.heap) (h2 : SrcTn b2 i2 l2 k2 s.heap) (hl1 : SrcSq b1 s.heap l1 xs) (hl2 : SrcSq b2 s.heap l2 ys) (hx : xs[k1]? = some x) (hy : ys[k2]? = some y)
    (hQ : ∀ h', IsZ h' z TI TO (rawInt T) true → SrcTn b1 i1 l1 (k1 + 1) h' → SrcTn b2 i2 l2 (k2 + 1) h' → IsPair h' s.heap.objs.size x y → h'.objs.size = s.heap.objs.size + 1 →
      (∀ c o, c ≠ z → c ≠ i1 → c ≠ i2 → s.heap.get? c = some o → h'.get? c = some o) → Q (some (.ref s.heap.objs.size)) { s with heap := h' }) : wpAny (model prog w) A (pyNext (.ref z)) Q E s := by
  have hTy : s.TypeIs (.ref z) "zip" := ⟨_, hz, rfl⟩
  unfold pyNext
  exact wpAny_bind (wpAny_attempt (wpAny_callSpecial?_slot (name := Str.ofString "__next__") hTy F.slot_zip_next
    (wpAny_call_entry F.slot_zip_next hTy F.entry_zip_next (zip_item2 D O1 O2 hz hT hTI h1 h2 hl1 hl2 hx hy fun h' a1 a2 a3 a4 a5 a6 => wpAny_pure (hQ h' a1 a2 a3 a4 a5 a6)) (F.args_zip_next_1 _))))
theorem pyNext_zip_end2 {b1 f1 : Bool} {z TI TO T i1 i2 l1 : Addr} {k1 : Nat} {xs : Array Value} {oT : Obj} {Q : Option Value → Shared → Prop} (hh : A.handled = none) (D : ZApart z TI TO i1 i2) (O1 : l1 ≠ z ∧ l1 ≠ i1)
    (hz : IsZ s.heap z TI TO (rawInt T) f1) (hT : s.heap.get? T = some oT) (hTI : IsPair s.heap TI (.ref i1) (.ref i2)) (h1 : SrcTn b1 i1 l1 k1 s.heap) (hl1 : SrcSq b1 s.heap l1 xs) (hx : xs[k1]? = none)
    (hQ : ∀ h', (∀ c o, c ≠ z → c ≠ i1 → s.heap.get? c = some o → h'.get? c = some o) → Q none { s with heap := h' }) : wpAny (model prog w) A (pyNext (.ref z)) Q E s := by
  have hTy : s.TypeIs (.ref z) "zip" := ⟨_, hz, rfl⟩
  unfold pyNext
  refine wpAny_bind (wpAny_attempt (wpAny_callSpecial?_slot (name := Str.ofString "__next__") hTy F.slot_zip_next
    (wpAny_call_entry F.slot_zip_next hTy F.entry_zip_next (zip_end2 (b2 := true) (l2 := l1) (k2 := 0) (ys := #[]) hh D O1 hz hT hTI h1 hl1 hx fun h' e hk he => ?_) (F.args_zip_next_1 _))))
  obtain ⟨o, ho, hc⟩ := he
  refine wpAny_bind (wpAny_isInstance (T := "StopIteration") (b := true) ⟨o, ho, hc⟩ isSubtype_stop ?_)
  exact wpAny_pure (hQ _ hk)
end

/-- the loop that fills a dict from the pairs, from the second pair on -/
theorem fill_loop {prog : Program} {w : World} {K : Type} [DecidableEq K] {knd : KeyKind prog w K} {A : Around} {R : Result → Shared → Prop} {b1 b2 : Bool} {z TI TO T i1 i2 l1 l2 d : Addr} {xs ys : List Value} {ks : List K} (hh : A.handled = none) (D : ZApart z TI TO i1 i2)
    (O1 : l1 ≠ z ∧ l1 ≠ i1 ∧ l1 ≠ i2 ∧ l1 ≠ d) (O2 : l2 ≠ z ∧ l2 ≠ i1 ∧ l2 ≠ i2 ∧ l2 ≠ d) (Od : d ≠ z ∧ d ≠ i1 ∧ d ≠ i2 ∧ d ≠ TI ∧ d ≠ T) (OT : T ≠ z ∧ T ≠ i1 ∧ T ≠ i2)
    (hk : Paired (fun k v => knd.is k v = true) ks xs) (hl : xs.length = ys.length) (hz : xs.length ≤ 1000) :
    ∀ (n i : Nat) (s : Shared) (f1 : Bool) (kvs : List (K × Value)), n = xs.length - i → i ≤ xs.length → kvs.length ≤ i → IsZ s.heap z TI TO (rawInt T) f1 → (∃ oT, s.heap.get? T = some oT) → IsPair s.heap TI (.ref i1) (.ref i2) →
      SrcTn b1 i1 l1 i s.heap → SrcTn b2 i2 l2 i s.heap → SrcSq b1 s.heap l1 xs.toArray → SrcSq b2 s.heap l2 ys.toArray → s.heap.DictOf knd d kvs →
      (∀ s' : Shared, s'.os = s.os → s'.gens = s.gens → s'.drawn = s.drawn → s'.heap.DictOf knd d (((ks.zip ys).drop i).foldl (fun a p => stored a p.1 p.2) kvs) → (∀ c o, c ≠ z → c ≠ i1 → c ≠ i2 → c ≠ d → s.heap.get? c = some o → s'.heap.get? c = some o) → R (.ok (.ret .none)) s') →
      ∀ tk : Nat, codeAny (model prog w) A (.builtin "dict.update.loop" ⟨[.ref d, .ref z, rawInt tk, .none], []⟩) R s := by
  intro n
  induction n with
  | zero =>
    intro i s f1 kvs hn hi hkl hzz hT hTI h1 h2 s1 s2 hd hR tk
    obtain ⟨oT, hT⟩ := hT
    have hin : i = xs.length := by omega
    refine codeAny_builtin entry_update_loop ?_
    rw [Around.under_plainId plain_update_loop _]
    show wpAny _ A.in1 (pyNext (.ref z) >>= _) _ _ s
    refine wpAny_bind (pyNext_zip_end2 hh D ⟨O1.1, O1.2.1⟩ hzz hT hTI h1 s1 (by simp; omega) fun h' hk' => ?_)
    refine wpAny_bind (m := Builtin.Dict.addKeywords d []) (wpAny_pure ?_)
    refine wpAny_pure (hR _ rfl rfl rfl ?_ fun c o c1 c2 c3 c4 e => hk' c o c1 c2 e)
    rw [List.drop_eq_nil_of_le (by have e := Paired.length hk; rw [List.length_zip]; omega)]
    obtain ⟨o, es, ep, ho, r⟩ := hd
    exact ⟨o, es, ep, hk' d o Od.1 Od.2.1 ho, r⟩
  | succ n ih =>
    intro i s f1 kvs hn hi hkl hzz hT hTI h1 h2 s1 s2 hd hR tk
    obtain ⟨oT, hT⟩ := hT
    have hlt : i < xs.length := by omega
    have hlt2 : i < ys.length := by omega
    refine codeAny_builtin entry_update_loop ?_
    rw [Around.under_plainId plain_update_loop _]
    show wpAny _ A.in1 (pyNext (.ref z) >>= _) _ _ s
    refine wpAny_bind (pyNext_zip_item2 (x := xs[i]) (y := ys[i]) D ⟨O1.1, O1.2.1⟩ ⟨O2.1, O2.2.1, O2.2.2.1⟩ hzz hT hTI h1 h2 s1 s2 (by simp [hlt]) (by simp [hlt2]) fun h' a1 a2 a3 a4 a5 hk' => ?_)
    have hTy : ({ s with heap := h' } : Shared).TypeIs (.ref s.heap.objs.size) "tuple" := ⟨_, a4, rfl⟩
    refine wpAny_bind (wpAny_holding (wpAny_bind (wpAny_tryCatch ?_)))
    unfold Builtin.Dict.pairItems
    refine wpAny_bind (wpAny_typeOf hTy ?_)
    rw [if_pos (by decide)]
    refine wpAny_bind (wpAny_seqItems (s := { s with heap := h' }) a4 rfl (wpAny_pure ?_))
    have hd' : h'.DictOf knd d kvs := by
      obtain ⟨o, es, ep, ho, r⟩ := hd
      exact ⟨o, es, ep, hk' d o Od.1 Od.2.1 Od.2.2.1 ho, r⟩
    have hks : i < ks.length := by rw [Paired.length hk]; exact hlt
    have hkey : knd.is ks[i] xs[i] = true := by
      have : ∀ {l₁ : List K} {l₂ : List Value}, Paired (fun k v => knd.is k v = true) l₁ l₂ → ∀ (j : Nat) (h1 : j < l₁.length) (h2 : j < l₂.length), knd.is l₁[j] l₂[j] = true := by
        intro l₁ l₂ p
        induction p with
        | nil => intro j h1; exact absurd h1 (Nat.not_lt_zero _)
        | cons r _ ihp =>
          intro j h1 h2
          cases j with
          | zero => exact r
          | succ j => exact ihp j (by simpa using h1) (by simpa using h2)
      exact this hk i hks hlt
    have hkz : kvs.length ≤ sizeLine := Nat.le_trans (Nat.le_trans hkl hi) (Nat.le_trans hz (by decide))
    show wpAny _ _ (holding [xs[i], ys[i]] (dictSet d xs[i] ys[i])) _ _ _
    refine wpAny_holding (wpAny_dictSet_pairs (s := { s with heap := h' }) hkey hd' (fun h'' hd'' hs'' => ?_) hkz)
    have kk : ∀ c o, c ≠ z → c ≠ i1 → c ≠ i2 → c ≠ d → s.heap.get? c = some o → h''.get? c = some o := fun c o c1 c2 c3 c4 e => hs''.extBut c o c4 (hk' c o c1 c2 c3 e)
    refine wpAny_pure ⟨plainId_quiet plain_update_loop _, ?_⟩
    have hst : (stored kvs ks[i] ys[i]).length ≤ i + 1 := by
      unfold stored
      split
      · rw [List.length_map]; omega
      · rw [List.length_append, List.length_singleton]; omega
    refine ih (i + 1) { s with heap := h'', toks := s.toks + 1 } true (stored kvs ks[i] ys[i]) (by omega) hlt hst (hs''.extBut _ _ Od.1.symm a1) ⟨oT, kk T oT OT.1 OT.2.1 OT.2.2 Od.2.2.2.2.symm hT⟩ (kk TI _ D.TIz D.TIi1 D.TIi2 Od.2.2.2.1.symm hTI)
      (a2.keep fun o e => hs''.extBut _ o Od.2.1.symm e) (a3.keep fun o e => hs''.extBut _ o Od.2.2.1.symm e) (s1.keep fun o e => kk l1 o O1.1 O1.2.1 O1.2.2.1 O1.2.2.2 e) (s2.keep fun o e => kk l2 o O2.1 O2.2.1 O2.2.2.1 O2.2.2.2 e) hd'' ?_ (tk + 1)
    intro s' q1 q2 q3 q4 q5
    refine hR s' q1 q2 q3 ?_ fun c o c1 c2 c3 c4 e => q5 c o c1 c2 c3 c4 (kk c o c1 c2 c3 c4 e)
    have ez : (ks.zip ys).drop i = (ks[i], ys[i]) :: (ks.zip ys).drop (i + 1) := by
      rw [List.drop_eq_getElem_cons (by rw [List.length_zip]; omega)]
      simp
    rw [ez, List.foldl_cons]
    exact q4

namespace F
theorem mro_dict : mroOf (.type "dict") = pure [.type "dict", .type "object"] := by rw [mroOf_type]; kernel_rfl
theorem lookup_dict_new : typeLookup (.type "dict") "__new__" = pure (some (.builtin "dict.__new__")) := by rw [typeLookup_type, builtinLookup_eq_fast]; kernel_rfl
theorem called_dict : TypeCalled "dict" "dict.__new__" "dict.__init__" :=
  ⟨by decide +kernel, by decide +kernel, ⟨_, _, mro_dict⟩, madeBy_type mro_dict lookup_dict_new (by decide +kernel), by decide +kernel, by rw [isSubtype_type]; kernel_rfl, PySem.F.slot_dict_init⟩
theorem typeCall_dict_1 (a : Value) : checkTypeCall "dict" ⟨[a], []⟩ = pure () := by kernel_rfl
theorem newCall_dict_1 (a : Value) : checkBuiltinCall "dict.__new__" ⟨[.type "dict", a], []⟩ = pure () := by kernel_rfl
theorem entry_dict_new : entryFor table "dict.__new__" = some Builtin.«dict.__new__» := entryFor_of_tree (by kernel_rfl)
theorem plain_dict_new : plainId "dict.__new__" = true := by decide +kernel
theorem sub_dict : isSubtype (.type "dict") (.type "dict") = pure true := by rw [isSubtype_type]; kernel_rfl
end F
section
variable {prog : Program} {w : World} {K : Type} [DecidableEq K] {knd : KeyKind prog w K} {A : Around} {E : Value → Shared → Prop} {s : Shared}
theorem code_dict_new (a : Value) {Q₁ : Value → Shared → Prop} (h : Q₁ (.ref s.heap.objs.size) { s with heap := s.heap.push { cls := .type "dict", data := .dict #[] } }) :
    codeAny (model prog w) A (.call (.builtin "dict.__new__") ⟨[.type "dict", a], []⟩) (wants Q₁ E) s := by
  refine codeAny_call_builtin F.plain_dict_new F.entry_dict_new (wpAny_of_eq (F.newCall_dict_1 a) ?_)
  have hsub := F.sub_dict
  have hmro := F.mro_dict
  obtain ⟨hp, g, d, tk, os⟩ := s
  unfold Builtin.«dict.__new__»
  wp_walk
  exact h
/-- dict of a zip that was just made, of two sequences of one length, not empty -/
theorem call_dict_zip {b1 b2 : Bool} {z TI TO i1 i2 l1 l2 : Addr} {xs ys : List Value} {ks : List K} {Q : Value → Shared → Prop} (hh : A.handled = none) (D : ZApart z TI TO i1 i2) (O1 : Off z TO i1 i2 l1) (O2 : Off z TO i1 i2 l2)
    (hz : IsZip s.heap z TI TO .none) (hTI : IsPair s.heap TI (.ref i1) (.ref i2)) (hTO : ∃ a b, IsPair s.heap TO a b) (h1 : SrcTn b1 i1 l1 0 s.heap) (h2 : SrcTn b2 i2 l2 0 s.heap) (hl1 : SrcSq b1 s.heap l1 xs.toArray) (hl2 : SrcSq b2 s.heap l2 ys.toArray)
    (hk : Paired (fun k v => knd.is k v = true) ks xs) (hl : xs.length = ys.length) (hz0 : 0 < xs.length) (hzz : xs.length ≤ 1000)
    (h : ∀ s' : Shared, s'.os = s.os → s'.gens = s.gens → s'.drawn = s.drawn → s'.heap.DictOf knd s.heap.objs.size ((ks.zip ys).foldl (fun a p => stored a p.1 p.2) []) →
      (∀ c o, c ≠ z → c ≠ TO → c ≠ i1 → c ≠ i2 → s.heap.get? c = some o → s'.heap.get? c = some o) → Q (.ref s.heap.objs.size) s') :
    wpAny (model prog w) A (call (.type "dict") [.ref z]) Q E s := by
  refine callType_codes (Q₁ := fun obj s₁ => obj = .ref s.heap.objs.size ∧ s₁ = { s with heap := s.heap.push { cls := .type "dict", data := .dict #[] } }) F.called_dict (F.typeCall_dict_1 _) F.entry_dict_init (code_dict_new _ ⟨rfl, rfl⟩) ?_
  rintro obj s₁ ⟨rfl, rfl⟩
  have hnew : (s.heap.push { cls := .type "dict", data := .dict #[] }).DictOf knd s.heap.objs.size [] := Heap.DictOf.new s.heap
  refine ⟨hnew.typeIs, F.args_dict_init_2 _ _, ?_⟩
  unfold Builtin.«dict.__init__»
  refine wpAny_bind ?_
  unfold Builtin.Dict.selfAndRest
  refine wpAny_bind (wpAny_notOrdered_dict hnew.typeIs ?_)
  show wpAny _ _ (pure (s.heap.objs.size, [Value.ref z])) _ _ _
  refine wpAny_pure ?_
  show wpAny _ _ (Builtin.Dict.updateFrom "dict.__init__" s.heap.objs.size (.ref z) [] .none) _ _ _
  unfold Builtin.Dict.updateFrom
  have hdz : ∀ c o, s.heap.get? c = some o → c ≠ s.heap.objs.size := fun c o e => Nat.ne_of_lt (Heap.lt_size e)
  have up : ∀ c o, s.heap.get? c = some o → (s.heap.push { cls := .type "dict", data := .dict #[] }).get? c = some o := fun c o e => Heap.get?_push_of_some _ e
  refine wpAny_bind (wpAny_typeOf (T := "zip") ⟨_, up _ _ hz, rfl⟩ ?_)
  rw [if_pos (by decide)]
  refine wpAny_bind (zip_keys_none (f1 := false) (s := { s with heap := s.heap.push { cls := .type "dict", data := .dict #[] } }) (up _ _ hz) hh fun h₁ tk₁ hk₁ => ?_)
  rw [if_pos (show (none : Option Value).isNone = true from rfl)]
  have up1 : ∀ c o, s.heap.get? c = some o → h₁.get? c = some o := fun c o e => hk₁ c o (up c o e)
  refine wpAny_bind (wpAny_rule (wpAny_bind (wpAny_pyIter_zip (s := { s with heap := h₁, toks := tk₁ }) (up1 _ _ hz) (wpAny_pure ⟨plainId_quiet plain_update_loop _, codeAny_builtin entry_update_loop ?_⟩))))
  rw [Around.under_plainId plain_update_loop _]
  show wpAny _ A.in1.in1 (pyNext (.ref z) >>= _) _ _ _
  obtain ⟨a, b, hTO⟩ := hTO
  have hlt2 : 0 < ys.length := by omega
  have hd1 : h₁.DictOf knd s.heap.objs.size [] := by
    obtain ⟨o, es, ep, ho, r⟩ := hnew
    exact ⟨o, es, ep, hk₁ _ o ho, r⟩
  have hnz : s.heap.objs.size ≠ z := (hdz _ _ hz).symm
  have hnTI : s.heap.objs.size ≠ TI := (hdz _ _ hTI).symm
  have hnTO : s.heap.objs.size ≠ TO := (hdz _ _ hTO).symm
  have hni1 : s.heap.objs.size ≠ i1 := by obtain ⟨o, e, _⟩ := h1.lt; exact (hdz _ _ e).symm
  have hni2 : s.heap.objs.size ≠ i2 := by obtain ⟨o, e, _⟩ := h2.lt; exact (hdz _ _ e).symm
  have nl : ∀ {b : Bool} {l : Addr} {us : Array Value}, SrcSq b s.heap l us → l ≠ s.heap.objs.size := fun {b l us} q => by
    cases b with
    | true => obtain ⟨o, e, _⟩ := (show s.heap.IsList l us from q); exact hdz _ _ e
    | false => obtain ⟨o, e, _⟩ := (show s.heap.IsTuple l us from q); exact hdz _ _ e
  refine wpAny_bind (pyNext_zip_item (s := { s with heap := h₁, toks := tk₁ }) (x := xs[0]) (y := ys[0]) D O1 O2 (up1 _ _ hz) (up1 _ _ hTI) (up1 _ _ hTO) (h1.keep fun o e => up1 _ o e) (h2.keep fun o e => up1 _ o e) (hl1.keep fun o e => up1 _ o e) (hl2.keep fun o e => up1 _ o e) (by simp [hz0]) (by simp [hlt2]) fun h₂ a1 a2 a3 a4 a5 a6 hk₂ => ?_)
  have hTy : ({ s with heap := h₂, toks := tk₁ } : Shared).TypeIs (.ref h₁.objs.size) "tuple" := ⟨_, a5, rfl⟩
  refine wpAny_bind (wpAny_holding (wpAny_bind (wpAny_tryCatch ?_)))
  unfold Builtin.Dict.pairItems
  refine wpAny_bind (wpAny_typeOf hTy ?_)
  rw [if_pos (by decide)]
  refine wpAny_bind (wpAny_seqItems (s := { s with heap := h₂, toks := tk₁ }) a5 rfl (wpAny_pure ?_))
  have hks : 0 < ks.length := by rw [Paired.length hk]; exact hz0
  have hkey : knd.is ks[0] xs[0] = true := by
    cases hk with
    | nil => exact absurd hz0 (Nat.lt_irrefl _)
    | cons r _ => exact r
  have hd2 : h₂.DictOf knd s.heap.objs.size [] := by
    obtain ⟨o, es, ep, ho, r⟩ := hd1
    exact ⟨o, es, ep, hk₂ _ o hnz hnTO hni1 hni2 ho, r⟩
  show wpAny _ _ (holding [xs[0], ys[0]] (dictSet s.heap.objs.size xs[0] ys[0])) _ _ _
  refine wpAny_holding (wpAny_dictSet_pairs (s := { s with heap := h₂, toks := tk₁ }) hkey hd2 (fun h₃ hd₃ hs₃ => ?_) (Nat.zero_le _))
  refine wpAny_pure ⟨plainId_quiet plain_update_loop _, ?_⟩
  have T1 : ∀ c o, h₁.get? c = some o → h₁.objs.size ≠ c := fun c o e => Nat.ne_of_gt (Heap.lt_size e)
  have hdl : s.heap.objs.size < h₁.objs.size := by obtain ⟨o, es, ep, ho, r⟩ := hd1; exact Heap.lt_size ho
  have kk : ∀ c o, c ≠ z → c ≠ TO → c ≠ i1 → c ≠ i2 → c ≠ s.heap.objs.size → s.heap.get? c = some o → h₃.get? c = some o := fun c o c1 c2 c3 c4 c5 e => hs₃.extBut c o c5 (hk₂ c o c1 c2 c3 c4 (up1 c o e))
  have hst : (stored ([] : List (K × Value)) ks[0] ys[0]).length ≤ 1 := by simp [stored]
  refine fill_loop (A := A.in1) (T := h₁.objs.size) (l1 := l1) (l2 := l2) (xs := xs) (ys := ys) (ks := ks) hh D ⟨O1.1, O1.2.2.1, O1.2.2.2, nl hl1⟩ ⟨O2.1, O2.2.2.1, O2.2.2.2, nl hl2⟩ ⟨hnz, hni1, hni2, hnTI, Nat.ne_of_lt hdl⟩
    ⟨T1 _ _ (up1 _ _ hz), (by obtain ⟨o, e, _⟩ := h1.lt; exact T1 _ _ (up1 _ _ e)), (by obtain ⟨o, e, _⟩ := h2.lt; exact T1 _ _ (up1 _ _ e))⟩ hk hl hzz (xs.length - 1) 1 { s with heap := h₃, toks := tk₁ + 1 } false (stored [] ks[0] ys[0]) rfl hz0 hst
    (hs₃.extBut _ _ hnz.symm a1) ⟨_, hs₃.extBut _ _ (Nat.ne_of_gt hdl) a5⟩ (kk TI _ D.TIz D.TITO D.TIi1 D.TIi2 hnTI.symm hTI) (a3.keep fun o e => hs₃.extBut _ o hni1.symm e) (a4.keep fun o e => hs₃.extBut _ o hni2.symm e)
    (hl1.keep fun o e => kk l1 o O1.1 O1.2.1 O1.2.2.1 O1.2.2.2 (nl hl1) e) (hl2.keep fun o e => kk l2 o O2.1 O2.2.1 O2.2.2.1 O2.2.2.2 (nl hl2) e) hd₃ ?_ 1
  intro s' q1 q2 q3 q4 q5
  refine ⟨rfl, h s' q1 q2 q3 ?_ fun c o c1 c2 c3 c4 e => q5 c o c1 c3 c4 (hdz c o e) (kk c o c1 c2 c3 c4 (hdz c o e) e)⟩
  have ez : ks.zip ys = (ks[0], ys[0]) :: (ks.zip ys).drop 1 := by
    have := List.drop_eq_getElem_cons (l := ks.zip ys) (i := 0) (by rw [List.length_zip]; omega)
    simpa using this
  rw [ez, List.foldl_cons]
  exact q4
end
end L2
/-! ### a tuple times a number -/
namespace L2
open PySem PySem.Spec PyProof.Rows
theorem noFill_tuple_mul : fillsNumberSlot (.type "tuple") "mul" = pure false :=
  PySem.fillsNumberSlot_seq (id := "tuple.__mul__") (r := some (.builtin "tuple.__rmul__")) PySem.F.slot_tuple_mul.lookup (by decide +kernel) PySem.F.slot_tuple_rmul.lookup (by decide +kernel)
theorem repeat_tuple : seqRepeat? (.type "tuple") = pure (some (.builtin "tuple.__mul__")) := by
  unfold seqRepeat?
  rw [PySem.seqSlot_of (T := "tuple") (name := "__mul__") (id := "tuple.__mul__") PySem.F.slot_tuple_mul.lookup (by decide +kernel), PySem.seqSlot_of (T := "tuple") (name := "__rmul__") (id := "tuple.__rmul__") PySem.F.slot_tuple_rmul.lookup (by decide +kernel)]
  rfl
theorem int_rmul_tuple (a : Int) (t : Tok) (l : Addr) (items : Array Value) (n : Nat) (dd : Option Addr) (sl : Array (Option Value)) :
    Meets (Builtin.«int.__rmul__» ⟨[.int a t, .ref l], []⟩) (fun _ R s => s.heap.get? l = some { cls := .type "tuple", dict := dd, data := .seq items n, slots := sl } ∧ R (.ok (.ret Value.notImplemented)) s) :=
  .of_wp fun prog w A R s h => by obtain ⟨hp, g, d, tk, os⟩ := s; obtain ⟨hl, h⟩ := h; wp_walk; exact ⟨_, rfl, h⟩
theorem tuple_mul_many (l : Addr) (items : Array Value) (n : Nat) (dd : Option Addr) (sl : Array (Option Value)) (x : Int) (u : Tok) (hx : 1 < x) (hx2 : x ≤ 1000) (hi : items.size ≤ 1000) (h0 : items.isEmpty = false) :
    Meets (Builtin.«tuple.__mul__» ⟨[.ref l, .int x u], []⟩) (fun _ R s => s.heap.get? l = some { cls := .type "tuple", dict := dd, data := .seq items n, slots := sl } ∧
      R (.ok (.ret (.ref s.heap.objs.size))) { s with heap := s.heap.push { cls := .type "tuple", data := .seq ((List.replicate x.toNat items).foldl (· ++ ·) #[]) } }) :=
  .of_wp fun prog w A R s h => by
    obtain ⟨hp, g, d, tk, os⟩ := s; obtain ⟨hl, h⟩ := h
    have f1 := AutoSeq1.idx_int; have f2 := AutoSeq1.sub_tuple_tuple
    have g1 : (decide (x < -(2 ^ 63)) || decide (x ≥ 2 ^ 63)) = false := by simp; omega
    have g2 : (items.isEmpty || x == 1) = false := by rw [h0]; simp; omega
    have g3 : (decide (x ≤ 0) || items.isEmpty) = false := by rw [h0]; simp; omega
    have hm : (items.size : Int) * x ≤ 1000000 := by
      have a1 : (items.size : Int) * x ≤ 1000 * x := Int.mul_le_mul_of_nonneg_right (by omega) (by omega)
      omega
    have hm2 : ¬ ((items.size : Int) * x > (2 ^ 63 - 1) / 8) := by omega
    have hm3 : Builtin.Tuple.tupleTooMany ((items.size : Int) * x) = false := by
      unfold Builtin.Tuple.tupleTooMany
      have : (1000000 : Int) ≤ (sizeLine : Int) := by decide
      exact decide_eq_false (by omega)
    wp_walk using wpAny_loadPart' hl
    try simp only [g1, Bool.false_eq_true, if_false]
    wp_walk using wpAny_loadPart' hl
    try simp only [g2, Bool.false_eq_true, if_false]
    wp_walk using wpAny_loadPart' hl
    try simp only [g3, Bool.false_eq_true, if_false]
    wp_walk using wpAny_loadPart' hl
    rw [if_neg hm2]
    simp only [hm3, Bool.false_eq_true, if_false]
    unfold Builtin.Tuple.tupleExact
    have hlen : ((List.replicate x.toNat items).foldl (· ++ ·) #[]).toList.length ≤ sizeLine := by
      have e : ∀ (k : Nat) (acc : Array Value), ((List.replicate k items).foldl (· ++ ·) acc).size = acc.size + k * items.size := by
        intro k
        induction k with
        | zero => intro acc; simp
        | succ k ih => intro acc; rw [List.replicate_succ, List.foldl_cons, ih, Array.size_append, Nat.succ_mul]; omega
      rw [Array.length_toList, e]
      have : x.toNat * items.size ≤ 1000 * 1000 := Nat.mul_le_mul (by omega) hi
      have h2 : (1000 * 1000 : Nat) ≤ sizeLine := by decide
      simp only [List.size_toArray, List.length_nil] at *
      omega
    refine wpAny_bind (wpAny_newTuple (wpAny_pure ⟨_, rfl, ?_⟩) hlen)
    simpa using h
theorem tuple_mul_one (l : Addr) (items : Array Value) (n : Nat) (dd : Option Addr) (sl : Array (Option Value)) (u : Tok) :
    Meets (Builtin.«tuple.__mul__» ⟨[.ref l, .int 1 u], []⟩) (fun _ R s => s.heap.get? l = some { cls := .type "tuple", dict := dd, data := .seq items n, slots := sl } ∧ R (.ok (.ret (.ref l))) s) :=
  .of_wp fun prog w A R s h => by
    obtain ⟨hp, g, d, tk, os⟩ := s; obtain ⟨hl, h⟩ := h
    have f1 := AutoSeq1.idx_int; have f2 := AutoSeq1.sub_tuple_tuple
    have g1 : (decide ((1 : Int) < -(2 ^ 63)) || decide ((1 : Int) ≥ 2 ^ 63)) = false := by decide
    have g2 : (items.isEmpty || (1 : Int) == 1) = true := by simp
    wp_walk using wpAny_loadPart' hl
    try simp only [g1, Bool.false_eq_true, if_false]
    wp_walk using wpAny_loadPart' hl
    try simp only [g2, if_true]
    wp_walk using wpAny_loadPart' hl
    all_goals first | exact ⟨_, rfl, h⟩ | skip
theorem tuple_mul_none (l : Addr) (items : Array Value) (n : Nat) (dd : Option Addr) (sl : Array (Option Value)) (x : Int) (u : Tok) (hx : x ≤ 0) (hx2 : -1000 ≤ x) (h0 : items.isEmpty = false) :
    Meets (Builtin.«tuple.__mul__» ⟨[.ref l, .int x u], []⟩) (fun _ R s => s.heap.get? l = some { cls := .type "tuple", dict := dd, data := .seq items n, slots := sl } ∧
      R (.ok (.ret (.ref s.heap.objs.size))) { s with heap := s.heap.push { cls := .type "tuple", data := .seq #[] } }) :=
  .of_wp fun prog w A R s h => by
    obtain ⟨hp, g, d, tk, os⟩ := s; obtain ⟨hl, h⟩ := h
    have f1 := AutoSeq1.idx_int; have f2 := AutoSeq1.sub_tuple_tuple
    have g1 : (decide (x < -(2 ^ 63)) || decide (x ≥ 2 ^ 63)) = false := by simp; omega
    have g2 : (items.isEmpty || x == 1) = false := by rw [h0]; simp; omega
    have g3 : (decide (x ≤ 0) || items.isEmpty) = true := by simp [hx]
    wp_walk using wpAny_loadPart' hl
    try simp only [g1, Bool.false_eq_true, if_false]
    wp_walk using wpAny_loadPart' hl
    try simp only [g2, Bool.false_eq_true, if_false]
    wp_walk using wpAny_loadPart' hl
    try simp only [g3, if_true]
    all_goals exact ⟨_, rfl, h⟩
section
variable {prog : Program} {w : World} {A : Around} {E : Value → Shared → Prop} {s : Shared}
theorem mul_tuple {l : Addr} {its : List Value} {k : Int} {u : Tok} {Q : Value → Shared → Prop} (ht : s.heap.IsTuple l its.toArray) (h0 : its ≠ []) (hk0 : 0 ≤ k) (hk : k ≤ 1000) (hi : its.length ≤ 1000)
    (h1 : k = 1 → Q (.ref l) s) (h2 : k ≠ 1 → Q (.ref s.heap.objs.size) { s with heap := s.heap.push { cls := .type "tuple", data := .seq (List.replicate k.toNat its).flatten.toArray } }) :
    wpAny (model prog w) A (binaryOp .Mult (.ref l) (.int k u)) Q E s := by
  obtain ⟨⟨cls, dd, data, sl⟩, e, hc, n, hd⟩ := ht
  simp only at hc hd
  subst hc hd
  have he : its.toArray.isEmpty = false := by cases its with | nil => exact absurd rfl h0 | cons a r => rfl
  refine wpAny_binaryOp_repeat_ref (T := "tuple") (U := "int") (by decide) ⟨_, e, rfl⟩ (fun s' => typeIs_int s' k u) noFill_tuple_mul PySem.F.fills_int_mul PySem.F.slot_int_rmul repeat_tuple PySem.F.slot_int_index.lookup
    (call_meets PySem.F.slot_int_rmul (typeIs_int s k u) PySem.F.entry_int_rmul (PySem.F.args_int_rmul_2 _ _) (int_rmul_tuple k u l its.toArray n dd sl) ⟨e, rfl, ⟨_, e, rfl⟩, ?_⟩)
  by_cases hk1 : k = 1
  · subst hk1
    exact call_meets PySem.F.slot_tuple_mul ⟨_, e, rfl⟩ PySem.F.entry_tuple_mul (PySem.F.args_tuple_mul_2 _ _) (tuple_mul_one l its.toArray n dd sl u) ⟨e, h1 rfl⟩
  · have h2' := h2 hk1
    by_cases hk2 : k ≤ 0
    · refine call_meets PySem.F.slot_tuple_mul ⟨_, e, rfl⟩ PySem.F.entry_tuple_mul (PySem.F.args_tuple_mul_2 _ _) (tuple_mul_none l its.toArray n dd sl k u hk2 (by omega) he) ⟨e, ?_⟩
      have ek : k.toNat = 0 := by omega
      rw [ek] at h2'
      exact h2'
    · refine call_meets PySem.F.slot_tuple_mul ⟨_, e, rfl⟩ PySem.F.entry_tuple_mul (PySem.F.args_tuple_mul_2 _ _) (tuple_mul_many l its.toArray n dd sl k u (by omega) hk (by rw [List.size_toArray]; exact hi) he) ⟨e, ?_⟩
      have ef : ∀ (m : Nat) (acc : List Value), List.foldl (fun x1 x2 => x1 ++ x2) acc.toArray (List.replicate m its.toArray) = (acc ++ (List.replicate m its).flatten).toArray := by
        intro m
        induction m with
        | zero => intro acc; simp
        | succ m ih =>
          intro acc
          have e1 : acc.toArray ++ its.toArray = (acc ++ its).toArray := by simp
          rw [List.replicate_succ, List.foldl_cons, e1, ih, List.replicate_succ, List.flatten_cons, List.append_assoc]
      have e0 := ef k.toNat []
      rw [List.nil_append] at e0
      rw [e0]
      exact h2'
end
end L2

/-! ### more rules of the layer -/
namespace L2
open PySem PySem.Spec PyProof.Rows
section
variable {X : Cx}
/-- xs != [] -/
theorem op_neNil (hu : X.A.units < cLine) : OpR X (compareOp .NotEq) (fun x y H Q => ∃ a b xs, x = .ref a ∧ y = .ref b ∧ SqL X.K H a xs ∧ SqL X.K H b [] ∧ Q (.bl (!xs.isEmpty)) H) := by
  intro pins s σ H x y v u Q I rx ry h
  obtain ⟨a, b, xs, rfl, rfl, ha, hb, q⟩ := h
  cases rx
  cases ry
  obtain ⟨its, r, p, _⟩ := I.list ha
  obtain ⟨its2, r2, p2, _⟩ := I.list hb
  obtain rfl : its2 = [] := r2.zero
  cases r with
  | nil =>
    refine SeqAt.RcNeAt.lists (e := fun _ => true) p.isList p2.isList rfl hu (fun j h1 _ => absurd h1 (Nat.not_lt_zero _)) _ _ _ _ ?_
    exact ⟨.bl false, H, I, rfl, q⟩
  | cons r t =>
    refine SeqAt.RcNeAt.lists_lengths p.isList p2.isList (by simp) hu _ _ _ _ ?_
    exact ⟨.bl true, H, I, rfl, q⟩
/-- a try whose body lets nothing out -/
theorem ps_try {body : List Stmt} {h₀ : ExceptHandler} {hs : List ExceptHandler} {t : TS} {pos : Pos} (hb : PSs X.nox body t) : PS X (.Try body (h₀ :: hs) [] [] pos) t := by
  intro pins s σ H D I h
  refine wpAny_Try_except (wpAny_mono (hb pins s σ H D (I.wish _) h) (fun f s1 q => ?_) fun _ _ z => False.elim z)
  cases f with
  | next => exact wpAny_execs_nil q.unwish
  | ret v => exact q.unwish
  | brk => exact q.unwish
  | cont => exact q.unwish
/-- () + t -/
theorem op_catT0 : OpR X (binaryOp .Add) (fun x y H Q => ∃ a b ys, x = .ref a ∧ y = .ref b ∧ SqT X.K H a [] ∧ SqT X.K H b ys ∧ Q (.ref b) H) := by
  intro pins s σ H x y v u Q I rx ry h
  obtain ⟨a, b, ys, rfl, rfl, ha, hb, q⟩ := h
  cases rx
  cases ry
  obtain ⟨its, r1, p1, _⟩ := I.tuple ha
  obtain ⟨its2, r2, p2, _⟩ := I.tuple hb
  obtain rfl : its = [] := r1.zero
  obtain ⟨⟨cls, dd, data, sl⟩, ho, hc, n, hd⟩ := id p1
  obtain ⟨⟨cls2, dd2, data2, sl2⟩, ho2, hc2, n2, hd2⟩ := id p2
  simp only at hc hd hc2 hd2
  subst hc hd hc2 hd2
  exact concat_meets ⟨_, ho, rfl⟩ ⟨_, ho2, rfl⟩ noFill_tuple_add seq_tuple_add PySem.F.slot_tuple_add PySem.F.entry_tuple_add (PySem.F.args_tuple_add_2 _ _)
    (tuple_addW0 a b #[] its2.toArray n n2 dd dd2 sl sl2 rfl) ⟨ho, ho2, ⟨.ref b, H, I, rfl, q⟩⟩
/-- t + u, whatever they are: the value is a tuple of both -/
def rCatA (K : PySem.W.Frag) : R2 := fun x y H Q => ∃ a b xs ys, x = .ref a ∧ y = .ref b ∧ H a = some (.tup xs) ∧ H b = some (.tup ys) ∧ xs.length + ys.length ≤ sizeLine ∧
  ∀ p H', H' p = some (.tup (xs ++ ys)) → Same H H' → Q (.ref p) H'
theorem op_catA : OpR X (binaryOp .Add) (rCatA X.K) := by
  intro pins s σ H x y v u Q I rx ry h
  obtain ⟨a, b, xs, ys, rfl, rfl, ha, hb, hz, q⟩ := h
  by_cases hx : xs = []
  · subst hx
    exact op_catT0 pins s σ H _ _ v u Q I rx ry ⟨a, b, ys, rfl, rfl, SqT.of ha, SqT.of hb, q b H hb (Same.refl H)⟩
  · refine op_catT pins s σ H _ _ v u Q I rx ry ⟨a, b, xs, ys, rfl, rfl, SqT.of ha, SqT.of hb, hx, hz, fun e => ?_, fun _ p hp => ?_⟩
    · subst e
      exact q a H (by rw [List.append_nil]; exact ha) (Same.refl H)
    · exact q p _ upd_same fun c o e => by rw [upd_ne (ne_of_none e hp)]; exact e
/-- t * k, 0 ≤ k -/
theorem op_repT : OpR X (binaryOp .Mult) (fun x y H Q => ∃ a k xs, x = .ref a ∧ y = .int k ∧ H a = some (.tup xs) ∧ xs ≠ [] ∧ 0 ≤ k ∧ k ≤ 1000 ∧ xs.length ≤ 1000 ∧
    ∀ p H', H' p = some (.tup (List.replicate k.toNat xs).flatten) → Same H H' → Q (.ref p) H') := by
  intro pins s σ H x y v u Q I rx ry h
  obtain ⟨a, k, xs, rfl, rfl, ha, hx, hk0, hk, hi, q⟩ := h
  cases rx
  obtain ⟨t, rfl⟩ := ry
  obtain ⟨its, r, p, _⟩ := I.tuple (SqT.of ha)
  have hl := r.length
  refine mul_tuple p (fun z => hx (r.nil_iff.mp z)) hk0 hk (by omega) (fun e => ?_) fun e => ?_
  · subst e
    exact ⟨.ref a, H, I, rfl, q a H (by rw [ha]; simp) (Same.refl H)⟩
  · have hf : H s.heap.objs.size = none := I.hok.fresh (Nat.le_refl _)
    have hz : (List.replicate k.toNat xs).flatten.length ≤ sizeLine := by
      rw [len_rep]
      have h1 : k.toNat * xs.length ≤ 1000 * 1000 := Nat.mul_le_mul (by omega) hi
      exact Nat.le_trans h1 (by decide)
    refine ⟨.ref s.heap.objs.size, _, I.laid (t' := s.toks) (o := .tup (List.replicate k.toNat xs).flatten) (fun b ob z => Heap.get?_push_of_some _ z) (Nat.le_refl _) ⟨hz, _, r.rep k.toNat, ⟨_, Heap.get?_push_size _ rfl, ⟨rfl, _, rfl⟩, rfl⟩⟩, rfl, q _ _ upd_same fun c o z => ?_⟩
    rw [upd_ne (ne_of_none z hf)]
    exact z
/-- a // b, b a power of two or any number that is not too great -/
theorem op_fdivB {n : Nat} (hn : n.log2 < 2000) (hn0 : 0 < n) : OpR X (binaryOp .FloorDiv) (rI (fun _ j => j = (n : Int)) fun i j => .int (i / j)) := opI fun i j _ _ _ _ _ hc q => by
  subst hc
  refine floordiv_int (by omega) ?_ (.inl (PyProof.noPylong_of_log2 (by simpa using Nat.lt_trans hn (by decide))))
  rw [Int.fdiv_eq_ediv_of_nonneg _ (by omega)]
  exact q

/-- dict(zip(a, b)) -/
def tDictZip (K : PySem.W.Frag) (b1 b2 : Bool) (t : TA) : TE := fun σ H Q => t σ H fun vs H1 => ∃ (l1 l2 : Addr) (ks : List Key) (ys : List V), vs = [.ref l1, .ref l2] ∧ SqB K b1 H1 l1 (ks.map kV) ∧ SqB K b2 H1 l2 ys ∧ ks.length = ys.length ∧ 0 < ks.length ∧ ks.length ≤ 1000 ∧
  ∀ d, H1 d = none → Q (.ref d) (upd H1 d (.dK ((ks.zip ys).foldl (fun a p => putK a p.1 p.2) [])))
theorem kV_paired {P : Program} {w : World} : ∀ {ks : List Key} {us : List Value}, Vals (ks.map kV) us → Paired (fun k v => (mixKind P w).is k v = true) ks us
  | [], _, .nil => .nil
  | _ :: _, _, .cons r t => .cons (kV_is r) (kV_paired t)
theorem KV.fold : ∀ {ks : List Key} {ys : List V} {us : List Value} {kvs : List (Key × V)} {vs : List (Key × Value)}, Vals ys us → KV kvs vs →
    KV ((ks.zip ys).foldl (fun a p => putK a p.1 p.2) kvs) ((ks.zip us).foldl (fun a p => stored a p.1 p.2) vs)
  | [], _, _, _, _, _, r => r
  | _ :: _, _, _, _, _, .nil, r => r
  | k :: ks, _, _, _, _, .cons ru t, r => KV.fold (ks := ks) t (KV.put r k ru)
theorem fold_len : ∀ (ps : List (Key × V)) (kvs : List (Key × V)), (ps.foldl (fun a p => putK a p.1 p.2) kvs).length ≤ kvs.length + ps.length
  | [], kvs => Nat.le_refl _
  | p :: ps, kvs => by
    have h1 := fold_len ps (putK kvs p.1 p.2)
    have h2 := length_putK kvs p.1 p.2
    rw [List.foldl_cons, List.length_cons]
    omega
theorem pe_dictZip {a b : Expr} {ta : TA} {p p2 pos pos2 : Pos} (b1 b2 : Bool) (hc : X.calm = true) (hg : Gl X "zip") (hm : X.mg "zip" = none) (hg2 : Gl X "dict") (hm2 : X.mg "dict" = none) (ha : PA X [a, b] ta)
    (hs : starEach [a, b] X.env = [(false, eval a X.env), (false, eval b X.env)] := by rfl) (hs2 : starEach [b] X.env = [(false, eval b X.env)] := by rfl)
    (hs3 : starEach [Expr.Call (.Name "zip" p2) [a, b] [] pos2] X.env = [(false, eval (.Call (.Name "zip" p2) [a, b] [] pos2) X.env)] := by rfl) :
    PE X (.Call (.Name "dict" p) [.Call (.Name "zip" p2) [a, b] [] pos2] [] pos) (tDictZip X.K b1 b2 ta) := by
  intro pins s σ H Q I h
  refine Call_ (ld_blt I hg2 hm2 (by decide +kernel : bootBuiltins "dict" = some (.type "dict")) (PyProof.Rows.callWith_type1 ?_ hs3 rfl))
  rw [hs3]
  show wpAny _ _ (spliced ((false, _) :: backTo pos [])) _ _ s
  refine Calls.spliced_cons ?_
  refine Call_ (ld_blt I hg hm (by decide +kernel : bootBuiltins "zip" = some (.type "zip")) (PyProof.Rows.callWith_type1 (thn (ha pos2 pins s σ H _ I h) fun us s1 ⟨vs, H1, I1, r1, q1⟩ => ?_) (by rw [hs, hs2]) (by rw [hs2]; rfl)))
  obtain ⟨l1, l2, ks, ys, e, q1, q2, hl, h0, hz, q⟩ := q1
  subst e
  obtain ⟨u1, u2, rfl, ru1, ru2⟩ := r1.two
  cases ru1
  cases ru2
  obtain ⟨its1, rv1, sq1, z1⟩ := I1.src q1
  obtain ⟨its2, rv2, sq2, z2⟩ := I1.src q2
  refine call_zip sq1 sq2 fun h' hz' hTI hTO h1 h2 hsz hk => ?_
  refine Calls.spliced_nil ?_
  have e1 := rv1.length
  have e2 := rv2.length
  rw [List.length_map] at e1
  have D : ZApart (s1.heap.objs.size + 4) (s1.heap.objs.size + 2) (s1.heap.objs.size + 3) s1.heap.objs.size (s1.heap.objs.size + 1) := by constructor <;> exact (show (_ : Nat) ≠ (_ : Nat) by omega)
  have lt : ∀ {c : Bool} {l : Addr} {us : Array Value}, SrcSq c s1.heap l us → l < s1.heap.objs.size := fun {c l us} z => by
    cases c with
    | true => obtain ⟨o, e, _⟩ := (show s1.heap.IsList l us from z); exact Heap.lt_size e
    | false => obtain ⟨o, e, _⟩ := (show s1.heap.IsTuple l us from z); exact Heap.lt_size e
  have O : ∀ {l : Addr}, l < s1.heap.objs.size → Off (s1.heap.objs.size + 4) (s1.heap.objs.size + 3) s1.heap.objs.size (s1.heap.objs.size + 1) l := fun {l} z => ⟨Nat.ne_of_lt (Nat.lt_of_lt_of_le z (Nat.le_add_right _ _)), Nat.ne_of_lt (Nat.lt_of_lt_of_le z (Nat.le_add_right _ _)), Nat.ne_of_lt z, Nat.ne_of_lt (Nat.lt_of_lt_of_le z (Nat.le_add_right _ _))⟩
  refine call_dict_zip (s := { s1 with heap := h' }) (knd := mixKind X.prog X.w) (ks := ks) (xs := its1) (ys := its2) (I1.ok.hd hc) D (O (lt sq1)) (O (lt sq2)) hz' hTI ⟨_, _, hTO⟩ h1 h2 (sq1.keep fun o e => hk _ o e) (sq2.keep fun o e => hk _ o e) (kV_paired rv1) (by omega) (by omega) (by omega) ?_
  intro s' o1 o2 o3 hd hkeep
  have hd' : s'.heap.DictOf (mixKind X.prog X.w) h'.objs.size ((ks.zip its2).foldl (fun a p => stored a p.1 p.2) []) := hd
  have hbig := I1.big
  have hnew : ∀ c o, s1.heap.get? c = some o → s'.heap.get? c = some o := fun c o e => by
    have z := Heap.lt_size e
    exact hkeep c o (Nat.ne_of_lt (Nat.lt_of_lt_of_le z (Nat.le_add_right _ _))) (Nat.ne_of_lt (Nat.lt_of_lt_of_le z (Nat.le_add_right _ _))) (Nat.ne_of_lt z) (Nat.ne_of_lt (Nat.lt_of_lt_of_le z (Nat.le_add_right _ _))) (hk c o e)
  have hn : H1 h'.objs.size = none := I1.hok.fresh (by omega)
  obtain ⟨hh', g', d', t', os'⟩ := s'
  obtain rfl : os' = s1.os := o1
  obtain rfl : g' = s1.gens := o2
  obtain rfl : d' = s1.drawn := o3
  refine ⟨.ref h'.objs.size, _, I1.laid (a := h'.objs.size) (o := .dK ((ks.zip ys).foldl (fun a p => putK a p.1 p.2) [])) (t' := t') hnew (by omega) ?_, rfl, q _ hn⟩
  refine dk_new ?_ ?_ (KV.fold rv2 .nil) hd'
  · have := fold_len (ks.zip ys) []
    rw [List.length_zip] at this
    have h3 : (1000 : Nat) ≤ sizeLine := by decide
    simp only [List.length_nil] at this
    omega
  · exact beq_eq_false_iff_ne.mpr (Nat.ne_of_gt (Nat.lt_of_lt_of_le hbig (by rw [hsz]; exact Nat.le_add_right _ _)))
end
end L2

/-! ### what a walk is, in plain words -/
namespace Tw
open PySem L2
/-- structurally alike, to the depth n -/
def Lk (H : Hp) : Nat → V → V → Prop
  | 0, v, w => v = w ∧ flatV v = true
  | n + 1, v, w => (v = w ∧ flatV v = true) ∨ ∃ a b xs ys, v = .ref a ∧ w = .ref b ∧ ((H a = some (.tup xs) ∧ H b = some (.tup ys)) ∨ (H a = some (.lst xs) ∧ H b = some (.lst ys))) ∧ xs.length ≤ 100000 ∧ Paired (Lk H n) xs ys
theorem Lk.up {H : Hp} : ∀ {n : Nat} {v w : V}, Lk H n v w → Lk H (n + 1) v w
  | 0, _, _, h => .inl h
  | n + 1, _, _, h => by
    rcases h with h | ⟨a, b, xs, ys, e1, e2, h, z, p⟩
    · exact .inl h
    · exact .inr ⟨a, b, xs, ys, e1, e2, h, z, Paired.mapP p fun _ _ q => Lk.up q⟩
theorem Lk.mono {H H' : Hp} (s : Same H H') : ∀ {n : Nat} {v w : V}, Lk H n v w → Lk H' n v w
  | 0, _, _, h => h
  | n + 1, _, _, h => by
    rcases h with h | ⟨a, b, xs, ys, e1, e2, h, z, p⟩
    · exact .inl h
    · refine .inr ⟨a, b, xs, ys, e1, e2, ?_, z, Paired.mapP p fun _ _ q => Lk.mono s q⟩
      rcases h with ⟨h1, h2⟩ | ⟨h1, h2⟩
      · exact .inl ⟨s _ _ h1, s _ _ h2⟩
      · exact .inr ⟨s _ _ h1, s _ _ h2⟩
/-- all tuples stay -/
def Tups (H H' : Hp) : Prop := ∀ b xs, H b = some (.tup xs) → H' b = some (.tup xs)
theorem Tups.of {H H' : Hp} (s : Same H H') : Tups H H' := fun b xs h => s b _ h
theorem Tups.refl {H : Hp} : Tups H H := fun _ _ h => h
theorem Tups.trans {H H1 H2 : Hp} (a : Tups H H1) (b : Tups H1 H2) : Tups H H2 := fun c xs h => b c xs (a c xs h)
/-- all but the two at p and q stay -/
def But2 (p q : Addr) (H H' : Hp) : Prop := ∀ b o, H b = some o → b ≠ p → b ≠ q → H' b = some o
theorem But2.refl {p q : Addr} {H : Hp} : But2 p q H H := fun _ _ h _ _ => h
theorem But2.trans {p q : Addr} {H H1 H2 : Hp} (a : But2 p q H H1) (b : But2 p q H1 H2) : But2 p q H H2 := fun c o h h1 h2 => b c o (a c o h h1 h2) h1 h2
theorem But2.of {p q : Addr} {H H' : Hp} (s : Same H H') : But2 p q H H' := fun b o h _ _ => s b o h
theorem But2.tups {p q : Addr} {H H' : Hp} {xs : List V} {o : HO} (a : But2 p q H H') (hp : H p = some (.lst xs) ∨ ∃ kvs, H p = some (.dK kvs)) (hq : H q = some o) (ho : ∀ ys, o ≠ .tup ys) : Tups H H' := fun b ys h => by
  refine a b _ h (fun e => ?_) fun e => ?_
  · subst e
    rcases hp with z | ⟨kvs, z⟩ <;> (rw [h] at z; cases z)
  · subst e
    rw [h] at hq
    exact ho ys (Option.some.inj hq).symm
theorem same_upd {H : Hp} {p : Addr} (h : H p = none) (o : HO) : Same H (upd H p o) := fun b u q => by rw [upd_ne (ne_of_none q h)]; exact q
theorem but2_upd {p q : Addr} {H : Hp} {o : HO} : But2 p q H (upd H p o) := fun b u h h1 _ => by rw [upd_ne h1]; exact h
theorem but2_upd' {p q : Addr} {H : Hp} {o : HO} : But2 p q H (upd H q o) := fun b u h _ h2 => by rw [upd_ne h2]; exact h

/-! ### the pot of draws -/
structure PotAt (H : Hp) (p q : Addr) (ns : List Int) : Prop where
  at_ : ∃ c d e : Int, H p = some (.lst [.ref q, .int c, .int d, .int e])
  cells : H q = some (.lst (ns.map V.int))
  few : ns.length ≤ 63
theorem PotAt.ne {H : Hp} {p q : Addr} {ns : List Int} (P : PotAt H p q ns) : p ≠ q := by
  obtain ⟨c, d, e, h⟩ := P.at_
  intro z
  subst z
  have h2 := P.cells
  rw [h] at h2
  cases ns with
  | nil => cases h2
  | cons a r => cases h2
theorem PotAt.keep {H H' : Hp} {p q : Addr} {ns : List Int} (P : PotAt H p q ns) (s : Same H H') : PotAt H' p q ns :=
  ⟨let ⟨c, d, e, h⟩ := P.at_; ⟨c, d, e, s _ _ h⟩, s _ _ P.cells, P.few⟩

/-! ### steps, numbers, rows -/
def StepAt (H : Hp) (v : V) (s : List Int × Int) : Prop := ∃ a b, v = .ref a ∧ H a = some (.tup [.ref b, .int s.2]) ∧ H b = some (.tup (s.1.map V.int))
theorem StepAt.mono {H H' : Hp} {v : V} {s : List Int × Int} (t : Tups H H') (h : StepAt H v s) : StepAt H' v s := by
  obtain ⟨a, b, e, h1, h2⟩ := h
  exact ⟨a, b, e, t _ _ h1, t _ _ h2⟩
theorem ints_lk (H : Hp) : ∀ ns : List Int, Paired (Lk H 0) (ns.map V.int) (ns.map V.int)
  | [] => .nil
  | _ :: r => .cons ⟨rfl, rfl⟩ (ints_lk H r)
theorem StepAt.lk {H : Hp} {v w : V} {s : List Int × Int} (hs : s.1.length ≤ 100000) (h : StepAt H v s) (h' : StepAt H w s) : Lk H 2 v w := by
  obtain ⟨a, b, rfl, h1, h2⟩ := h
  obtain ⟨a', b', rfl, h1', h2'⟩ := h'
  refine .inr ⟨a, a', _, _, rfl, rfl, .inl ⟨h1, h1'⟩, (by show 2 ≤ 100000; decide), .cons ?_ (.cons (.inl ⟨rfl, rfl⟩) .nil)⟩
  exact .inr ⟨b, b', _, _, rfl, rfl, .inl ⟨h2, h2'⟩, (by rw [List.length_map]; exact hs), ints_lk H _⟩
theorem steps_lk {H : Hp} : ∀ {xs ys : List V} {ss : List (List Int × Int)}, (∀ s ∈ ss, s.1.length ≤ 100000) → Paired (StepAt H) xs ss → Paired (StepAt H) ys ss → Paired (Lk H 2) xs ys
  | _, _, _, _, .nil, .nil => .nil
  | _, _, _, hs, .cons h t, .cons h' t' => .cons (h.lk (hs _ List.mem_cons_self) h') (steps_lk (fun s m => hs s (List.mem_cons_of_mem _ m)) t t')
theorem Paired.len {α β : Type} {F : α → β → Prop} {xs : List α} {ys : List β} (p : Paired F xs ys) : xs.length = ys.length := PySem.Paired.length p
theorem Paired.snoc' {α β : Type} {F : α → β → Prop} : ∀ {xs : List α} {ys : List β} {x : α} {y : β}, Paired F xs ys → F x y → Paired F (xs ++ [x]) (ys ++ [y])
  | _, _, _, _, .nil, h => .cons h .nil
  | _, _, _, _, .cons r t, h => .cons r (Paired.snoc' t h)

inductive Row where
  | put (x : Str) (k : Int)
  | take (x : Str) (i : Int)
  | pick (x y : Str)
  | two (w x y z : Str)
  | ifr (x : Str) (a b : List Row)
  | again (x : Str) (a : List Row)
def isTwo (w : Str) : Prop := w = "sum" ∨ w = "by" ∨ w = "less" ∨ w = "same"
def RowAt (H : Hp) : Nat → V → Row → Prop
  | 0, _, _ => False
  | n + 1, v, r => match r with
    | .put x k => ∃ a, v = .ref a ∧ H a = some (.tup [.str "put", .str x, .int k])
    | .take x i => ∃ a, v = .ref a ∧ H a = some (.tup [.str "take", .str x, .int i])
    | .pick x y => ∃ a, v = .ref a ∧ H a = some (.tup [.str "pick", .str x, .str y])
    | .two w x y z => isTwo w ∧ ∃ a, v = .ref a ∧ H a = some (.tup [.str w, .str x, .str y, .str z])
    | .ifr x p q => ∃ a b c xs ys, v = .ref a ∧ H a = some (.tup [.str "if", .str x, .ref b, .ref c]) ∧ H b = some (.tup xs) ∧ H c = some (.tup ys) ∧ Paired (RowAt H n) xs p ∧ Paired (RowAt H n) ys q
    | .again x p => ∃ a b xs, v = .ref a ∧ H a = some (.tup [.str "again", .str x, .ref b]) ∧ H b = some (.tup xs) ∧ Paired (RowAt H n) xs p
theorem RowAt.mono {H H' : Hp} (t : Tups H H') : ∀ {n : Nat} {v : V} {r : Row}, RowAt H n v r → RowAt H' n v r
  | 0, _, _, h => h
  | n + 1, v, r, h => by
    cases r with
    | put x k => obtain ⟨a, e, h⟩ := h; exact ⟨a, e, t _ _ h⟩
    | take x k => obtain ⟨a, e, h⟩ := h; exact ⟨a, e, t _ _ h⟩
    | pick x k => obtain ⟨a, e, h⟩ := h; exact ⟨a, e, t _ _ h⟩
    | two w x y z => obtain ⟨hw, a, e, h⟩ := h; exact ⟨hw, a, e, t _ _ h⟩
    | ifr x p q => obtain ⟨a, b, c, xs, ys, e, h1, h2, h3, h4, h5⟩ := h; exact ⟨a, b, c, xs, ys, e, t _ _ h1, t _ _ h2, t _ _ h3, Paired.mapP h4 fun _ _ z => RowAt.mono t z, Paired.mapP h5 fun _ _ z => RowAt.mono t z⟩
    | again x p => obtain ⟨a, b, xs, e, h1, h2, h3⟩ := h; exact ⟨a, b, xs, e, t _ _ h1, t _ _ h2, Paired.mapP h3 fun _ _ z => RowAt.mono t z⟩

abbrev Nums := List (Str × Int)
def getN (s : Nums) (x : Str) : Option Int := (s.find? fun p => decide (p.1 = x)).map (·.2)
def setN (s : Nums) (x : Str) (v : Int) : Nums := s.map fun p => if p.1 = x then (p.1, v) else p
def toK (s : Nums) : List (Key × V) := s.map fun p => (Sum.inr p.1, V.int p.2)
theorem toK_val (x : Str) : ∀ s : Nums, valV (toK s) (Sum.inr x) = (getN s x).map V.int
  | [] => rfl
  | p :: r => by
    have ih := toK_val x r
    unfold valV getN toK at *
    by_cases e : p.1 = x
    · simp [List.find?_cons, e]
    · have e2 : ¬ (Sum.inr p.1 : Key) = Sum.inr x := fun z => e (Sum.inr.inj z)
      rw [List.map_cons, List.find?_cons, List.find?_cons]
      simp only [decide_eq_false e, decide_eq_false e2]
      exact ih
theorem any_of_get {x : Str} {v : Int} : ∀ {s : Nums}, getN s x = some v → ((toK s).any fun kv => decide (kv.1 = (Sum.inr x : Key))) = true
  | [], h => by cases h
  | p :: r, h => by
    unfold toK
    rw [List.map_cons, List.any_cons]
    by_cases e : p.1 = x
    · simp [e]
    · have h' : getN r x = some v := by
        unfold getN at h ⊢
        rw [List.find?_cons] at h
        simp only [decide_eq_false e] at h
        exact h
      have := any_of_get h'
      unfold toK at this
      rw [this, Bool.or_true]
theorem toK_put {s : Nums} {x : Str} {v u : Int} (h : getN s x = some u) : putK (toK s) (Sum.inr x) (.int v) = toK (setN s x v) := by
  unfold putK
  rw [if_pos (any_of_get h)]
  unfold toK setN
  rw [List.map_map, List.map_map]
  refine List.map_congr_left fun p _ => ?_
  simp only [Function.comp]
  by_cases e : p.1 = x
  · rw [if_pos (by rw [e]), if_pos e]
  · rw [if_neg (fun z => e (Sum.inr.inj z)), if_neg e]
theorem get_set {x y : Str} {v u : Int} : ∀ {s : Nums}, getN s x = some u → getN (setN s x v) y = if y = x then some v else getN s y
  | [], h => by cases h
  | p :: r, h => by
    unfold getN setN at *
    rw [List.map_cons, List.find?_cons]
    by_cases e : p.1 = x
    · rw [if_pos e]
      by_cases e2 : y = x
      · subst e2
        simp [e]
      · have e3 : ¬ p.1 = y := fun z => e2 (z.symm.trans e)
        rw [if_neg e2]
        simp only [decide_eq_false e3, List.find?_cons]
        clear h
        induction r with
        | nil => rfl
        | cons q r ih =>
          rw [List.map_cons, List.find?_cons, List.find?_cons]
          by_cases e4 : q.1 = x
          · rw [if_pos e4]
            have e5 : ¬ q.1 = y := fun z => e2 (z.symm.trans e4)
            simp only [decide_eq_false e5]
            exact ih
          · rw [if_neg e4]
            cases hd : decide (q.1 = y) with
            | true => rfl
            | false => exact ih
    · rw [if_neg e]
      rw [List.find?_cons] at h
      simp only [decide_eq_false e] at h
      have ih := get_set (v := v) (y := y) (s := r) (by unfold getN; exact h)
      unfold getN setN at ih
      by_cases e2 : p.1 = y
      · have e3 : ¬ y = x := fun z => e (e2.trans z)
        rw [if_neg e3, List.find?_cons]
        simp only [decide_eq_true e2]
      · rw [List.find?_cons]
        simp only [decide_eq_false e2]
        exact ih
theorem set_len (s : Nums) (x : Str) (v : Int) : (setN s x v).length = s.length := by unfold setN; rw [List.length_map]

structure Cfg where
  m : Int
  pieces : List Int
  most : Nat
structure St8 where
  nums : Nums
  steps : List (List Int × Int)
def St8.note (s : St8) (pl : List Int) (v : Int) : St8 := { s with steps := s.steps ++ [(pl, v)] }
def join2 (w : Str) (y z m : Int) : Int := if w = "sum" then (y + z) % m else if w = "by" then y * z % m else if w = "less" then (if y < z then 1 else 0) else (if y = z then 1 else 0)
/-- the number that a row's x becomes -/
def number (c : Cfg) (s : Nums) : Row → Option Int
  | .put _ k => some k
  | .take _ i => if 0 ≤ i then c.pieces[i.toNat]? else none
  | .pick _ y => match getN s y with
    | some v => if 0 < c.pieces.length then c.pieces[(v % (c.pieces.length : Int)).toNat]? else none
    | none => none
  | .two w _ y z => match getN s y, getN s z with
    | some a, some b => some (join2 w a b c.m)
    | _, _ => none
  | _ => none
def rowX : Row → Str
  | .put x _ => x
  | .take x _ => x
  | .pick x _ => x
  | .two _ x _ _ => x
  | .ifr x _ _ => x
  | .again x _ => x
inductive DoRows (F : Row → List Int → St8 → St8 → Prop) : List Row → List Int → Nat → St8 → St8 → Prop where
  | nil {pl : List Int} {j : Nat} {s : St8} : DoRows F [] pl j s s
  | cons {r : Row} {rs : List Row} {pl : List Int} {j : Nat} {s s1 s2 : St8} : F r (pl ++ [(j : Int)]) s s1 → DoRows F rs pl (j + 1) s1 s2 → DoRows F (r :: rs) pl j s s2
inductive DoLoop (most : Nat) (B : Nat → St8 → St8 → Prop) (x : Str) (pl : List Int) : Nat → St8 → St8 → Prop where
  | stop {t : Nat} {s : St8} : getN s.nums x = some 0 → s.steps.length < most → DoLoop most B x pl t s (s.note (pl ++ [(t : Int)]) 0)
  | go {t : Nat} {s s1 s2 : St8} {v : Int} : getN s.nums x = some v → v ≠ 0 → s.steps.length < most → B t (s.note (pl ++ [(t : Int)]) 1) s1 → DoLoop most B x pl (t + 1) s1 s2 → DoLoop most B x pl t s s2
def DoRow (c : Cfg) : Nat → Row → List Int → St8 → St8 → Prop
  | 0, _, _, _, _ => False
  | n + 1, r, pl, s, s' => match r with
    | .ifr x a b => ∃ v, getN s.nums x = some v ∧ s.steps.length < c.most ∧ DoRows (DoRow c n) (if v = 0 then b else a) (pl ++ [if v = 0 then 0 else 1]) 0 (s.note pl (if v = 0 then 0 else 1)) s'
    | .again x a => DoLoop c.most (fun t s1 s2 => DoRows (DoRow c n) a (pl ++ [(t : Int)]) 0 s1 s2) x pl 0 s s'
    | r => ∃ v u, number c s.nums r = some v ∧ 0 ≤ v ∧ v < 1000 ∧ s.steps.length < c.most ∧ getN s.nums (rowX r) = some u ∧ s' = { nums := setN s.nums (rowX r) v, steps := s.steps ++ [(pl, v)] }
end Tw

/-! ### more rules: a text times a number, tuple.index, comprehensions that take names from around -/
namespace L2
open PySem PySem.Spec PyProof.Rows
theorem foldl_first {c : Nat} : ∀ (l : List (Array Nat)) (acc : Array Nat), acc[0]? = some c → (l.foldl (· ++ ·) acc)[0]? = some c
  | [], _, h => h
  | a :: l, acc, h => by
    rw [List.foldl_cons]
    refine foldl_first l (acc ++ a) ?_
    have h0 : 0 < acc.size := by
      rcases Nat.lt_or_ge 0 acc.size with z | z
      · exact z
      · rw [Array.getElem?_eq_none (by omega)] at h; cases h
    rw [Array.getElem?_append_left h0]
    exact h
theorem rep_size {c : Nat} : ∀ (k : Nat) (acc : Array Nat), ((List.replicate k #[c]).foldl (· ++ ·) acc).size = acc.size + k
  | 0, _ => by simp
  | k + 1, acc => by
    rw [List.replicate_succ, List.foldl_cons, rep_size k (acc ++ #[c]), Array.size_append]
    simp
    omega
section
variable {X : Cx}
/-- a text of one sign times a number: a text that begins with it -/
theorem op_repS : OpR X (binaryOp .Mult) (fun x y H Q => ∃ c k, x = .str ⟨#[c]⟩ ∧ y = .int k ∧ 1 ≤ k ∧ k ≤ 1000 ∧ ∀ w : Str, w.cps[0]? = some c → Q (.str w) H) := by
  intro pins s σ H x y v u Q I rx ry h
  obtain ⟨c, k, rfl, rfl, h1, h2, q⟩ := h
  obtain ⟨t, rfl⟩ := rx
  obtain ⟨t', rfl⟩ := ry
  have hlen : (⟨#[c]⟩ : Str).length = 1 := rfl
  have hsl : sizeLine = 16777216 := rfl
  refine PySem.P.mul_str ?_ ?_ ?_ ?_
  · rw [decide_eq_false (by omega), decide_eq_false (by omega)]; rfl
  · intro _ _ hc
    rw [hlen] at hc
    have : (1 : Int) ≤ (2 ^ 63 - 1) / k := Int.le_ediv_of_mul_le (by omega) (by omega)
    omega
  · intro _ _
    rw [hlen]
    unfold PySem.Builtin.Str.tooLong
    exact decide_eq_false (by omega)
  · rw [if_neg (by omega)]
    by_cases hk : k = 1
    · rw [if_pos (by rw [hk]; rfl)]
      exact ⟨.str ⟨#[c]⟩, H, I, ⟨_, rfl⟩, q _ rfl⟩
    · rw [if_neg (by simp [hlen, hk])]
      obtain ⟨n, hn⟩ : ∃ n, k.toNat = n + 1 := ⟨k.toNat - 1, by omega⟩
      refine ⟨?_, .str _, H, I.tok _, ⟨_, rfl⟩, q _ ?_⟩
      · show ((List.replicate k.toNat #[c]).foldl (· ++ ·) #[]).size ≤ sizeLine
        rw [rep_size]
        simp
        omega
      · show ((List.replicate k.toNat #[c]).foldl (· ++ ·) #[])[0]? = some c
        rw [hn, List.replicate_succ, List.foldl_cons]
        exact foldl_first _ _ (by simp)
theorem wpAny_forRange {M : Model} {A : Around} {E : Value → Shared → Prop} {s : Shared} {β : Type} {n : Nat} (f : Nat → β → Sem (ForInStep β)) (I : Nat → β → Shared → Prop) (Q : β → Shared → Prop)
    (turn : ∀ i b s, i < n → I i b s → wpAny M A (f i b) (fun r s' => match r with | .yield b' => I (i + 1) b' s' | .done b' => Q b' s') E s)
    (fin : ∀ b s, I n b s → Q b s) (b : β) (h : I 0 b s) : wpAny M A (forIn [0:n] b f) Q E s := by
  rw [Std.Legacy.Range.forIn_eq_forIn_range']
  have hsz : ([0:n] : Std.Legacy.Range).size = n := by simp [Std.Legacy.Range.size]
  show wpAny M A (forIn (List.range' 0 ([0:n] : Std.Legacy.Range).size 1) b f) Q E s
  rw [hsz]
  refine wpAny_forIn_list f (fun l c s => ∃ i, i ≤ n ∧ l = List.range' i (n - i) 1 ∧ I i c s) Q ?_ ?_ _ b ⟨0, Nat.zero_le _, rfl, h⟩
  · rintro x rest c s ⟨i, hi, hl, hI⟩
    have hlt : i < n := by
      rcases Nat.lt_or_ge i n with h' | h'
      · exact h'
      · rw [show n - i = 0 by omega] at hl; simp at hl
    obtain ⟨k, hk⟩ : ∃ k, n - i = k + 1 := ⟨n - i - 1, by omega⟩
    rw [hk, List.range'_succ] at hl
    obtain ⟨rfl, rfl⟩ := List.cons.inj hl
    refine wpAny_mono (turn x c s hlt hI) (fun r s' h' => ?_) fun _ _ e => e
    cases r with
    | done c' => exact h'
    | yield c' => exact ⟨x + 1, by omega, by congr 1; omega, h'⟩
  · rintro c s ⟨i, hi, hl, hI⟩
    have : i = n := by
      rcases Nat.lt_or_ge i n with h' | h'
      · obtain ⟨k, hk⟩ : ∃ k, n - i = k + 1 := ⟨n - i - 1, by omega⟩
        rw [hk, List.range'_succ] at hl; cases hl
      · omega
    subst this
    exact fin _ _ hI
theorem tuple_index (l : Addr) (items : Array Value) (n : Nat) (dd : Option Addr) (sl : Array (Option Value)) (x : Value) (e : Value → Bool) (he : ∀ y, y ∈ items → MeetsSeq.EqGives y x (e y)) (j : Nat) (hj : j < items.size) (hit : e items[j] = true)
    (hno : ∀ m (hm : m < items.size), m < j → e items[m] = false) :
    Meets (Builtin.«tuple.index» ⟨[.ref l, x], []⟩) (fun _ R s => s.heap.get? l = some { cls := .type "tuple", dict := dd, data := .seq items n, slots := sl } ∧ R (.ok (.ret (.int j s.toks))) { s with toks := s.toks + 1 }) :=
  .of_wp fun prog w A R s h => by
    obtain ⟨hp, g, d, tk, os⟩ := s; obtain ⟨hl, h⟩ := h
    wp_walk using AutoSeq1.wpAny_loadPart' hl
    refine wpAny_forRange (n := min items.size items.size) _ (fun i (b : Option _ × _) s' => b.1 = none ∧ i ≤ j ∧ s' = ⟨hp, g, d, tk, os⟩) _ ?turn ?fin _ ?strt
    case turn =>
      rintro i b s' hi ⟨hb, hij, rfl⟩
      have hlt : i < items.size := by omega
      have hi' : items[i]? = some items[i] := by simp [hlt]
      simp only [hi']
      refine wpAny_bind (he _ (Array.getElem_mem hlt) prog w _ _ _ _ ?_)
      by_cases hx : i = j
      · subst hx
        rw [hit]
        wp_walk
        exact ⟨_, rfl, h⟩
      · rw [hno i hlt (by omega)]
        wp_walk
        exact ⟨rfl, by omega, rfl⟩
    case fin =>
      rintro ⟨b1, b2⟩ s' ⟨hb, hij, rfl⟩
      omega
    case strt =>
      exact ⟨rfl, Nat.zero_le _, rfl⟩
/-- the object of a tuple -/
theorem Inv.tupD {pins : List (Addr × Obj)} {σ : St} {H : Hp} {s : Shared} {a : Addr} {xs : List V} (I : Inv X pins σ H s) (h : H a = some (.tup xs)) :
    ∃ (its : List Value) (n : Nat) (sl : Array (Option Value)), Vals xs its ∧ s.heap.get? a = some { cls := .type "tuple", dict := none, data := .seq its.toArray n, slots := sl } := by
  obtain ⟨z, its, r, ⟨cls, dd, data, slots⟩, e, ⟨c, n, d⟩, dn⟩ := I.hok a _ h
  simp only at c d dn
  subst c d dn
  exact ⟨its, n, slots, r, e⟩
theorem vals_strs : ∀ {names : List Str} {us : List Value}, Vals (names.map V.str) us → ∀ (j : Nat) (h : j < us.length), ∃ (y : Str) (t : Tok), names[j]? = some y ∧ us[j] = .str y t
  | [], us, r, j, h => by cases r; exact absurd h (Nat.not_lt_zero _)
  | x :: names, us, r, j, h => by
    rw [List.map_cons] at r
    cases r with
    | cons r1 r2 =>
      cases j with
      | zero => obtain ⟨t, rfl⟩ := r1; exact ⟨x, t, rfl, rfl⟩
      | succ j => obtain ⟨y, t, h1, h2⟩ := vals_strs r2 j (by simpa using h); exact ⟨y, t, by simpa using h1, by simpa using h2⟩
def rTIdx : V → List V → Hp → VK → Prop := fun x vs H Q => ∃ (a : Addr) (names : List Str) (z : Str) (j : Nat), x = .ref a ∧ vs = [.str z] ∧ H a = some (.tup (names.map V.str)) ∧ names.length ≤ 1000 ∧ names[j]? = some z ∧ (∀ m, m < j → names[m]? ≠ some z) ∧ Q (.int (j : Int)) H
theorem mt_tindex : MtR X "tuple.index" rTIdx := by
  intro pins s σ H x vs v us Q I rx rv h
  obtain ⟨a, names, z, j, rfl, rfl, ha, hz, hj, hno, q⟩ := h
  cases rx
  obtain ⟨u, rfl, ru⟩ := rv.one
  obtain ⟨t, rfl⟩ := ru
  obtain ⟨its, n, sl, r, e⟩ := I.tupD ha
  have hl := r.length
  rw [List.length_map] at hl
  have hjl : j < names.length := by
    rcases Nat.lt_or_ge j names.length with z' | z'
    · exact z'
    · rw [List.getElem?_eq_none z'] at hj; cases hj
  have hjs : j < its.toArray.size := by rw [List.size_toArray]; omega
  refine call_meets PySem.F.slot_tuple_index ⟨_, e, rfl⟩ PySem.F.entry_tuple_index (PySem.F.args_tuple_index_2 _ _)
    (tuple_index a its.toArray n none sl (.str z t) (fun v => match v with | .str y _ => y == z | _ => false) (fun y hy => ?_) j hjs ?_ fun m hm hmj => ?_) ⟨e, ?_⟩
  · obtain ⟨m, hm, rfl⟩ := List.getElem_of_mem (by simpa using hy : y ∈ its)
    obtain ⟨y', t', h1, h2⟩ := vals_strs r m hm
    rw [h2]
    exact eqGives_str y' z t' t
  · obtain ⟨y', t', h1, h2⟩ := vals_strs r j (by omega)
    rw [hj] at h1
    cases h1
    simp [h2]
  · obtain ⟨y', t', h1, h2⟩ := vals_strs r m (by rw [List.size_toArray] at hm; exact hm)
    have h3 := hno m hmj
    rw [h1] at h3
    have ne : ¬ y' = z := fun e => h3 (by rw [e])
    simp [h2, ne]
  · exact ⟨.int (j : Int), H, I.tok _, ⟨_, rfl⟩, q⟩
/-- o.m(e, ..) of a tuple -/
def tTM (r : V → List V → Hp → VK → Prop) (to : TE) (t : TA) : TE := fun σ H Q => to σ H fun x H1 => (∃ a xs, x = .ref a ∧ H1 a = some (.tup xs)) ∧ t σ H1 fun xs H2 => r x xs H2 Q
theorem pe_tm {o e : Expr} {es : List Expr} {to : TE} {t : TA} {name : Str} {apos cpos : Pos} {id : String} {r : V → List V → Hp → VK → Prop} (slot : Slot "tuple" name id) (hty : typeOf (.builtin id) = pure (.type "method_descriptor")) (hm : MtR X id r) (ho : PE X o to) (ha : PA X (e :: es) t)
    (hbase : attributeBase o name X.env (eval o X.env) = eval o X.env := by rfl)
    (hfew : ((backTo cpos (starEach (e :: es) X.env)).all (fun x => !x.1) && (backToKw cpos (keywordEach [] X.env)).all (fun x => x.1.isSome)
      && decide ((e :: es).length + ([] : List Keyword).length + (if ([] : List Keyword).isEmpty then 0 else 1) < 30)) = true := by rfl)
    (hline : (apos.endLine == cpos.line) = true := by rfl) (hs : starEach (e :: es) X.env = (false, eval e X.env) :: starEach es X.env := by rfl) (hplain : (backTo cpos (starEach es X.env)).any (·.1) = false := by rfl) :
    PE X (.Call (.Attribute o name apos) (e :: es) [] cpos) (tTM r to t) := by
  intro pins s σ H Q I h
  refine wpAny_Call_method_late hbase hfew hline rfl (thn (ho pins s σ H _ I h) fun v s1 ⟨x, H1, I1, r1, ⟨a, xs, ex, ea⟩, q1⟩ => ?_)
  subst ex
  cases r1
  obtain ⟨its, n, sl, rv, eo⟩ := I1.tupD ea
  refine ⟨"tuple", id, PySem.F.plainAttrs_tuple, slot, hty, ⟨_, eo, rfl⟩, fun b eb => by cases eb; exact ⟨_, eo, rfl⟩, ?_⟩
  have hA := ha cpos pins s1 σ H1 _ I1 q1
  rw [hs] at hA ⊢
  refine Calls.callWith_builtin (by show (false || (backTo cpos (starEach es X.env)).any (·.1)) = false; rw [hplain] <;> rfl) (Calls.evalArgs_plain ?_)
  exact thn hA fun us s2 ⟨vs, H2, I2, r2, q2⟩ => hm pins s2 σ H2 (.ref a) vs _ us Q I2 rfl r2 q2
/-- an if whose two ways come together again -/
theorem rd_if2 {tt : TT} {ta tb : TS} {D : Ends} {σ : St} {H : Hp} (T : Bool → Hp → Prop) (N : St → Hp → Prop) (ht : ∀ Q : Bool → Hp → Prop, (∀ b H', T b H' → Q b H') → tt σ H Q) (ha : ∀ (H' : Hp) (D' : Ends), T true H' → (∀ σ' H', N σ' H' → D'.nx σ' H') → ta D' σ H')
    (hb : ∀ (H' : Hp) (D' : Ends), T false H' → (∀ σ' H', N σ' H' → D'.nx σ' H') → tb D' σ H') (hk : ∀ σ' H', N σ' H' → D.nx σ' H') : tIfS tt ta tb D σ H := by
  refine ht _ fun b H' hT => ?_
  cases b with
  | true => exact iteT (ha H' D hT hk)
  | false => exact iteF (hb H' D hT hk)
end
end L2

/-! ### an own exception, raised, passing through frames, caught by its own class -/
namespace L2
open PySem PySem.Spec PyProof.Rows
/-- the frames l stand in h, and outside of what is hidden -/
theorem funFrames_hide {h base : Heap} {S : List Addr} : ∀ {l : List Env}, h.FunFrames base l → (∀ b ∈ frs l, b ∈ S) → h.FunFrames (PySem.W.hideAll h S) l
  | [], _, _ => trivial
  | env :: r, hl, hs => by
    obtain ⟨hk, ⟨L, o, hf, hn, ho, hd⟩, hr⟩ := hl
    have hL : L ∈ S := hs L (by unfold frs; rw [List.filterMap_cons, hf]; exact List.mem_cons_self)
    exact ⟨hk, ⟨L, o, hf, PySem.W.hideAll_none S hL, ho, hd⟩, funFrames_hide hr fun b hb => hs b (by unfold frs; rw [List.filterMap_cons, hf]; exact List.mem_cons_of_mem _ hb)⟩
/-- an exception of the class at C lies behind a call; B: all that stood there when it was raised, but for the frames -/
def CXD (P : Program) (w : World) (C : Addr) : CXT := fun outer H s E e s' => ∃ (ea : Addr) (H' : Hp) (B : Heap) (a0 : Value), e = .ref ea ∧ s'.os = s.os ∧ AllBare s'.gens ∧ Un (frs outer) [] H H' s.heap s'.heap ∧ HOk P w H' s'.heap ∧
  Heap.FlyingW B outer ea (.ref C) a0 s'.heap ∧ (∀ b u, H' b = some u → ∃ o, B.get? b = some o) ∧ (∀ b o, s.heap.get? b = some o → b ∉ frs outer → ∃ o', B.get? b = some o') ∧ E (.ref C) none H'
/-- what is tracked stays, where the snapshot stays -/
theorem hok_fly {P : Program} {w : World} {H : Hp} {h h' B : Heap} (hok : HOk P w H h) (k : B.StaysIn h) (k' : B.StaysIn h') (sT : ∀ b u, H b = some u → ∃ o, B.get? b = some o) : HOk P w H h' := fun a o e =>
  (hok a o e).stay (fun b u hb q => by
    obtain ⟨v, hv⟩ : ∃ v, B.get? b = some v := by
      rcases hb with rfl | z
      · exact sT _ _ e
      · exact sT _ _ z
    have := k b v hv
    rw [q] at this
    cases this
    exact k' b _ hv) (fun _ q => q) fun _ _ q => q
theorem un_fly {fs : List Addr} {H H' : Hp} {h h1 h2 B : Heap} (un : Un fs [] H H' h h1) (k1 : B.StaysIn h1) (k2 : B.StaysIn h2) (up : h1.UpToSlots h2) (sA : ∀ b o, h.get? b = some o → b ∉ fs → ∃ o', B.get? b = some o')
    (nf : ∀ b ∈ fs, ∀ o, h.get? b = some o → ∀ vs, o.data ≠ .fields vs) (fr : ∀ b ∈ fs, H b = none) : Un fs [] H H' h h2 where
  keep := fun b o q n hb hx => by
    have q1 := un.keep b o q n hb hx
    obtain ⟨o', ho'⟩ := sA b o q hb
    have := k1 b o' ho'
    rw [q1] at this
    cases this
    exact k2 b _ ho'
  slot := fun b o q n hb hx => by
    obtain ⟨sl, q1⟩ := un.slot b o q n hb hx
    obtain ⟨sl2, q2⟩ := up b _ q1 (nf b hb o q)
    exact ⟨sl2, q2⟩
  free := un.free
  there := fun b o q hx => by
    by_cases hb : b ∈ fs
    · obtain ⟨sl, q1⟩ := un.slot b o q (fr b hb) hb hx
      obtain ⟨sl2, q2⟩ := up b _ q1 (nf b hb o q)
      exact ⟨_, q2⟩
    · obtain ⟨o', ho'⟩ := sA b o q hb
      exact ⟨o', k2 b o' ho'⟩
  tups := un.tups
  frzs := un.frzs
  tbls := un.tbls
section
variable {P : Program} {w : World} {K : PySem.W.Frag} {mg : Str → Option Value} {base : Heap} {N : List Str} {qual : Str} {scope : Scope} {f C : Addr} {cd : Value} {A : Around} {outer : List Env} {s0 : Shared} {H0 : Hp} {E : XK}
theorem frs_cons {env : Env} {L : Addr} {l : List Env} (h : env.frame = some L) : frs (env :: l) = L :: frs l := by unfold frs; rw [List.filterMap_cons, h]
/-- the exception of a callee leaves this frame, too -/
theorem passD : Passes (CXD P w C) (cxOf (CXD P w C) P w K mg base N qual scope f cd A outer s0 H0 E) E := by
  intro pins σ H s e s' I hx
  obtain ⟨ea, H', B, a0, rfl, hos, hb, un, hok, hfl, sT, sA, hE⟩ := hx
  have hsk : (cxOf (CXD P w C) P w K mg base N qual scope f cd A outer s0 H0 E).stack = envOfC qual scope s0.heap.objs.size f cd :: outer := rfl
  have hfr : (envOfC qual scope s0.heap.objs.size f cd).frame = some s0.heap.objs.size := rfl
  have hfs : frs (envOfC qual scope s0.heap.objs.size f cd :: outer) = s0.heap.objs.size :: frs outer := frs_cons hfr
  rw [hsk] at un hfl sA
  show wpAny (model P w) (A.deeper (envOfC qual scope s0.heap.objs.size f cd)) (leaving (envOfC qual scope s0.heap.objs.size f cd) (.ref ea)) (fun _ s'' => CXD P w C outer H0 s0 E (.ref ea) s'') (fun e' s'' => CXD P w C outer H0 s0 E e' s'') s'
  refine wpAny_leaves_onW I.ok.frames hfr hfl fun h' hfl' hup => ?_
  have u1 : Un (frs outer) [] H0 H s0.heap s.heap := I.base
  have nofr : ∀ {b : Addr} {o : Obj}, s0.heap.get? b = some o → b ∉ frs outer → b ∉ frs (envOfC qual scope s0.heap.objs.size f cd :: outer) := fun {b o} q hb z => by
    rw [hfs] at z
    rcases List.mem_cons.mp z with e | z
    · exact Nat.lt_irrefl _ (e ▸ Heap.lt_size q)
    · exact hb z
  have un2 : Un (frs (envOfC qual scope s0.heap.objs.size f cd :: outer)) [] H H' s.heap h' := by
    refine un_fly un hfl.1 hfl'.1 hup sA (fun b hb o q vs => ?_) fun b hb => ?_
    · obtain ⟨_, o', ho', hd⟩ := I.stack.mem (show b ∈ _ from hb)
      rw [q] at ho'
      cases ho'
      exact hd vs
    · exact I.stkFree b hb
  refine ⟨ea, H', B, a0, rfl, hos.trans I.os, hb, ?_, hok_fly hok hfl.1 hfl'.1 sT, hfl', sT, fun b o q hb => ?_, hE⟩
  · refine ⟨fun b o q n hb hx => ?_, fun b o q n hb hx => ?_, fun b o q n hx => ?_, fun b o q hx => ?_, fun b xs q => un2.tups b xs (u1.tups b xs q), fun b o u q => un2.frzs b o u (u1.frzs b o u q), fun b ps q => ?_⟩
    · exact un2.keep b o (u1.keep b o q n hb hx) (u1.free b o q n hx) (nofr q hb) hx
    · obtain ⟨sl, q1⟩ := u1.slot b o q n hb hx
      obtain ⟨sl2, q2⟩ := un2.slot b _ q1 (u1.free b o q n hx) (by rw [hfs]; exact List.mem_cons_of_mem _ hb) hx
      exact ⟨sl2, q2⟩
    · obtain ⟨o1, q1⟩ := u1.there b o q hx
      exact un2.free b o1 q1 (u1.free b o q n hx) hx
    · obtain ⟨o1, q1⟩ := u1.there b o q hx
      exact un2.there b o1 q1 hx
    · obtain ⟨m1, e1⟩ := u1.tbls b ps q
      obtain ⟨m2, e2⟩ := un2.tbls b _ e1
      exact ⟨m1 ++ m2, by rw [e2, Array.append_assoc]⟩
  · obtain ⟨o1, q1⟩ := u1.there b o q (by simp)
    exact sA b o1 q1 (nofr q hb)
/-- a def whose exceptions lie as CXD says -/
theorem Fun.okX {x qual : Str} {st : Stmt} {f : Addr} {fd : FuncData} {N ps : List Str} {k : Nat} {sp : Sp} (F : Fun K x qual st f fd) (S : FnScope N ps (defScope st)) (len : ∀ vs H Q E, sp vs H Q E → vs.length = ps.length)
    (hbody : ∀ (cdv : Value) (A : Around) (outer : List Env) (s : Shared) (H : Hp) (vs : List V) (Q : VK) (E : XK), Room k (A.deeper (envOfC qual (defScope st) s.heap.objs.size f cdv)) → sp vs H Q E →
      ∃ t, PSs (cxOf (CXD P w C) P w K mg base N qual (defScope st) f cdv A outer s H E) (defBody st) t ∧ t { nx := fun _ H' => Q .non H', rt := Q } (start N vs) H) : FnOk P w K mg base (CXD P w C) (k + 1) f fd ps sp := by
  obtain ⟨oc, od, kV, doc, pm, an, cdv, ct, osl, rfl, lk, hcd⟩ := F.ex
  exact fn_of lk hcd S len fun A outer s H vs Q E hr hsp => hbody cdv A outer s H vs Q E hr hsp
/-- a def that lets nothing out lets nothing out as CXD says either -/
theorem FnOk.toD {k : Nat} {f : Addr} {fd : FuncData} {ps : List Str} {sp : Sp} (F : FnOk P w K mg base CX0 k f fd ps sp) : FnOk P w K mg base (CXD P w C) k f fd ps sp :=
  ⟨F.len, fun A outer s H args us vs Q E hr he hb hv hs => codeAny_mono (F.run A outer s H args us vs Q E hr he hb hv hs) fun r s' h => by
    cases r with
    | ok fl => cases fl <;> exact h
    | error e => exact h.elim⟩
/-- the class of the exception, as it stands in the module -/
structure ExcAt (K : PySem.W.Frag) (C : Addr) : Prop where
  at_ : ∃ (nm q : Str) (Nn : Addr) (bs bm bmB : List Value) (hdct : Bool) (sn : List Str) (sub : List Value) (ab : Bool) (col : Option Bool) (dd : Option Addr) (k0 k1 k2 k3 k5 : Option Value) (newId initId Bs : String) (mN : Str → Option Value),
    (∀ h : Heap, K.In h → h.get? C = some (excClassObj nm q C Nn bs bm hdct sn sub ab col dd k0 k1 k2 k3 k5 newId) ∧ h.Ns Nn mN ∧ OwnTail h bmB bm) ∧ mN "__init__" = none ∧ ExcBaseFacts Bs newId initId bmB ∧ bmB.contains (.type Bs) = true ∧ bm.contains (.type "BaseException") = true
theorem ObjOk.obj {P : Program} {w : World} {H : Hp} {h : Heap} {a : Addr} {o : HO} (x : ObjOk P w H h a o) : ∃ v, h.get? a = some v := by
  cases o with
  | lst xs => obtain ⟨_, _, _, _, e⟩ := x; exact ⟨_, e⟩
  | tup xs => obtain ⟨_, _, _, _, e, _⟩ := x; exact ⟨_, e⟩
  | dK kvs => obtain ⟨_, _, _, _, o, _, _, e, _⟩ := x; exact ⟨_, e⟩
  | dT kvs => obtain ⟨_, _, _, _, o, _, _, e, _⟩ := x; exact ⟨_, e⟩
  | set S n => obtain ⟨o, _, _, _, e, _⟩ := x; exact ⟨_, e⟩
  | ins C dx fs => obtain ⟨_, _, _, e, _⟩ := x; exact ⟨_, e⟩
  | own y => obtain ⟨_, e⟩ := x; exact ⟨_, e⟩
  | xd fs => obtain ⟨_, ⟨_, _, _, e, _⟩, _⟩ := x; exact ⟨_, e⟩
  | rng lo hi => obtain ⟨_, _, _, e⟩ := x; exact ⟨_, e⟩
  | frz ob u => obtain ⟨e, _⟩ := x; exact ⟨_, e⟩
  | tbl ps => exact ⟨_, (show h.get? a = some _ from x)⟩
  | met f y => exact ⟨_, (show h.get? a = some _ from x)⟩
  | ext φ => obtain ⟨_, ⟨_, e⟩, _⟩ := x; exact ⟨_, e⟩
theorem un_comp {fs : List Addr} {L : Addr} {H0 H H' : Hp} {h0 h h' : Heap} (u1 : Un fs [] H0 H h0 h) (un2 : Un (L :: fs) [] H H' h h') (hL : h0.objs.size ≤ L) : Un fs [] H0 H' h0 h' := by
  have nofr : ∀ {b : Addr} {o : Obj}, h0.get? b = some o → b ∉ fs → b ∉ L :: fs := fun {b o} q hb z => by
    rcases List.mem_cons.mp z with e | z
    · exact Nat.lt_irrefl _ (Nat.lt_of_lt_of_le (e ▸ Heap.lt_size q) hL)
    · exact hb z
  refine ⟨fun b o q n hb hx => un2.keep b o (u1.keep b o q n hb hx) (u1.free b o q n hx) (nofr q hb) hx, fun b o q n hb hx => ?_, fun b o q n hx => ?_, fun b o q hx => ?_, fun b xs q => un2.tups b xs (u1.tups b xs q), fun b o u q => un2.frzs b o u (u1.frzs b o u q), fun b ps q => ?_⟩
  · obtain ⟨sl, q1⟩ := u1.slot b o q n hb hx
    obtain ⟨sl2, q2⟩ := un2.slot b _ q1 (u1.free b o q n hx) (List.mem_cons_of_mem _ hb) hx
    exact ⟨sl2, q2⟩
  · obtain ⟨o1, q1⟩ := u1.there b o q hx
    exact un2.free b o1 q1 (u1.free b o q n hx) hx
  · obtain ⟨o1, q1⟩ := u1.there b o q hx
    exact un2.there b o1 q1 hx
  · obtain ⟨m1, e1⟩ := u1.tbls b ps q
    obtain ⟨m2, e2⟩ := un2.tbls b _ e1
    exact ⟨m1 ++ m2, by rw [e2, Array.append_assoc]⟩
def tRaise (E : XK) (C : Addr) : TS := fun _ _ H => E (.ref C) none H
theorem ps_raise {x msg : Str} {np cpos pos apos : Pos} {jj} (X : ExcAt K C) (hm : mg x = some (.ref C)) (hg : Gl (cxOf (CXD P w C) P w K mg base N qual scope f cd A outer s0 H0 E) x)
    (hd : (x == ("__debug__" : Str)) = false := by decide)
    (hs : starEach [.Constant (.str msg) jj apos] (cxOf (CXD P w C) P w K mg base N qual scope f cd A outer s0 H0 E).env = [(false, eval (.Constant (.str msg) jj apos) (cxOf (CXD P w C) P w K mg base N qual scope f cd A outer s0 H0 E).env)] := by rfl) :
    PS (cxOf (CXD P w C) P w K mg base N qual scope f cd A outer s0 H0 E) (.Raise (some (.Call (.Name x np) [.Constant (.str msg) jj apos] [] cpos)) none pos) (tRaise E C) := by
  intro pins s σ H D I h
  obtain ⟨nm, q, Nn, bs, bm, bmB, hdct, sn, sub, ab, col, dd, k0, k1, k2, k3, k5, newId, initId, Bs, mN, hX, hni, FB, hBs, hbase⟩ := X.at_
  refine wpAny_Raise_call_subU (C := C) (nm := nm) (q := q) (N := Nn) (bs := bs) (bm := bm) (hdct := hdct) (sn := sn) (sub := sub) (ab := ab) (col := col) (dd := dd) (k0 := k0) (k1 := k1) (k2 := k2) (k3 := k3) (k5 := k5) FB hBs FB (mN := mN) hbase (I.ok.hd rfl) (by rw [hs]; rfl) hni
    (ld_glob I hg hm ⟨rfl, ?_⟩ hd)
  have hA := (pa_cons pe_str pa_nil hs) cpos pins s σ H (fun xs H1 => xs.length = 1 ∧ E (.ref C) none H1) I ⟨rfl, h⟩
  rw [hs] at hA ⊢
  refine Calls.evalArgs_plain (wpAny_mono hA (fun vs s₂ h₂ => ?_) fun _ _ y => y)
  obtain ⟨vv, H1, I1, r, hlen, hE⟩ := h₂
  obtain ⟨hC, hN, T⟩ := hX s₂.heap I1.kIn
  refine ⟨rfl, ?_, hC, hN, T, fun h' e hx => ?_⟩
  · show vs.length ≤ sizeLine
    rw [← r.length, hlen]
    decide
  have hfr : (envOfC qual scope s0.heap.objs.size f cd).frame = some s0.heap.objs.size := rfl
  have hfs : frs (envOfC qual scope s0.heap.objs.size f cd :: outer) = s0.heap.objs.size :: frs outer := frs_cons hfr
  have kB : (PySem.W.hideAll s₂.heap (frs (envOfC qual scope s0.heap.objs.size f cd :: outer))).StaysIn s₂.heap := fun b o e => PySem.W.of_hideAll _ e
  show wpAny (model P w) (A.deeper (envOfC qual scope s0.heap.objs.size f cd)) (leaving (envOfC qual scope s0.heap.objs.size f cd) (.ref e)) (fun _ s'' => CXD P w C outer H0 s0 E (.ref e) s'') (fun e' s'' => CXD P w C outer H0 s0 E e' s'') _
  refine wpAny_leaves_madeW I1.ok.frames hfr kB (funFrames_hide I1.stack fun b hb => hb) hx fun h'' t hfl _ _ hup => ?_
  have up2 : s₂.heap.UpToSlots h'' := (Heap.UpToSlots.of_keeps hx.keeps).trans hup
  have inB : ∀ {b : Addr} {o : Obj}, s₂.heap.get? b = some o → b ∉ frs (envOfC qual scope s0.heap.objs.size f cd :: outer) → (PySem.W.hideAll s₂.heap (frs (envOfC qual scope s0.heap.objs.size f cd :: outer))).get? b = some o := fun e n => PySem.W.hideAll_get _ e n
  have sT : ∀ b u, H1 b = some u → ∃ o, (PySem.W.hideAll s₂.heap (frs (envOfC qual scope s0.heap.objs.size f cd :: outer))).get? b = some o := fun b u e => by
    obtain ⟨v, hv⟩ := ObjOk.obj (I1.hok b u e)
    exact ⟨v, inB hv fun z => by rw [I1.stkFree b z] at e; cases e⟩
  have un2 : Un (frs (envOfC qual scope s0.heap.objs.size f cd :: outer)) [] H1 H1 s₂.heap h'' := by
    refine un_fly Un.refl kB hfl.1 up2 (fun b o q hb => ⟨o, inB q hb⟩) (fun b hb o q vs => ?_) fun b hb => I1.stkFree b hb
    obtain ⟨_, o', ho', hd'⟩ := I1.stack.mem (show b ∈ _ from hb)
    rw [q] at ho'
    cases ho'
    exact hd' vs
  rw [hfs] at un2
  refine ⟨e, H1, _, .ref t, rfl, I1.os, I1.bare, un_comp I1.base un2 (Nat.le_refl _), hok_fly I1.hok kB hfl.1 sT, hfl, sT, fun b o q hb => ?_, hE⟩
  obtain ⟨o1, q1⟩ := I1.base.there b o q (fun z => absurd (show b ∈ ([] : List Addr) from z) (by simp))
  refine ⟨o1, inB q1 fun z => ?_⟩
  rw [hfs] at z
  rcases List.mem_cons.mp z with e' | z
  · exact Nat.lt_irrefl _ (e' ▸ Heap.lt_size q)
  · exact hb z
end
/-- within the suite of an except -/
abbrev Cx.marked (X : Cx) (e : Value) : Cx := { X with A := X.A.mark (some e), calm := false, xe := fun _ _ => False }
section
variable {X : Cx} {pins : List (Addr × Obj)} {σ : St} {H : Hp} {s : Shared} {e : Value}
theorem Cx.Ok.mark (ok : X.Ok) (e : Value) : (X.marked e).Ok :=
  ⟨ok.mod, ok.kind, ok.glob, ok.blt, ok.above, ok.inj, ok.has, ok.cab, fun z => (Bool.noConfusion z), ok.frames, ok.stk, ok.exf, ok.bs, ok.bsz, ok.noex, ok.exfs, ok.funs, ok.frf⟩
theorem Inv.mark (I : Inv X pins σ H s) (e : Value) : Inv (X.marked e) pins σ H s := ⟨I.ok.mark e, I.os, I.bare, I.base, I.loc, I.cell, I.free, I.freeC, I.pin, I.hok, I.len⟩
theorem Inv.unmark (ok : X.Ok) (I : Inv (X.marked e) pins σ H s) : Inv X pins σ H s := ⟨ok, I.os, I.bare, I.base, I.loc, I.cell, I.free, I.freeC, I.pin, I.hok, I.len⟩
theorem SP.unmark {D : Ends} {f : Flow} {s' : Shared} (ok : X.Ok) (h : SP (X.marked e) pins D f s') : SP X pins D f s' := by
  cases f with
  | next => obtain ⟨σ', H', I, q⟩ := h; exact ⟨σ', H', I.unmark ok, q⟩
  | brk => obtain ⟨σ', H', I, q⟩ := h; exact ⟨σ', H', I.unmark ok, q⟩
  | cont => obtain ⟨σ', H', I, q⟩ := h; exact ⟨σ', H', I.unmark ok, q⟩
  | ret u => obtain ⟨v, σ', H', I, r, q⟩ := h; exact ⟨v, σ', H', I.unmark ok, r, q⟩
/-- try: f(..) except C: suite -/
def tTryCall (C : Addr) (sp : Sp) (dvs : List V) (ta : TA) (ts : TS) : TS := fun D σ H => ta σ H fun vs H1 => sp (vs ++ dvs) H1 (fun _ H2 => D.nx σ H2) (fun _ _ H2 => ts D σ H2)
theorem ps_tryCall {C f : Addr} {k : Nat} {fd : FuncData} {ps : List Str} {sp : Sp} {dvs : List V} {ds : List Value} {x cx : Str} {p cp ep np hpos pos : Pos} {e : Expr} {es : List Expr} {ta : TA} {b₀ : Stmt} {suite : List Stmt} {ts : TS}
    (hst : X.stack = X.env :: X.outer) (hfL : X.env.frame = some X.env.locals) (F : FnOk X.prog X.w X.K X.mg X.base (CXD X.prog X.w C) k f fd ps sp) (hr : Room k X.A) (hg : Gl X x) (hm : X.mg x = some (.ref f)) (hk : PySem.W.keepIn X.K (.ref f) = true) (hb : Binds X.K fd ps ds) (hd : Vals dvs ds)
    (ha : PA X.nox (e :: es) ta) (EX : ExcAt X.K C) (hgC : Gl X cx) (hmC : X.mg cx = some (.ref C)) (hsu : ∀ ea : Addr, PSs (X.marked (.ref ea)) (b₀ :: suite) ts)
    (hdb : (x == ("__debug__" : Str)) = false := by decide) (hdC : (cx == ("__debug__" : Str)) = false := by decide) (he : starEach (e :: es) X.env = (false, eval e X.env) :: starEach es X.env := by rfl) (hpl : (backTo cp (starEach es X.env)).any (·.1) = false := by rfl)
    (hsw : swapsWith (.Call (.Name x p) (e :: es) [] cp) none ep.line X.env = pure false := by rfl) :
    PS X (.Try [.Expr (.Call (.Name x p) (e :: es) [] cp) ep] [.ExceptHandler (some (.Name cx np)) none (b₀ :: suite) hpos] [] [] pos) (tTryCall C sp dvs ta ts) := by
  intro pins s σ H D I h
  refine wpAny_Try_except (wpAny_execs_cons (wpAny_Expr_any ?_ I.quiet hsw))
  refine wpAny_Call_Name_kw (ld_glob I hg hm ?_ hdb)
  refine PySem.W.callWith_K (h₀ := X.base) I.ok.mod.kin hk (wpAny_mono (ha cp pins s σ H _ (I.wish _) h) (fun us s1 ⟨vs, H1, I1', r, q⟩ => ?_) fun _ _ z => False.elim z) he hpl
  have I1 : Inv X pins σ H1 s1 := I1'.unwish
  refine ⟨I1.kIn, ?_⟩
  have r2 : Vals (vs ++ dvs) (us ++ ds) := r.append hd
  have hl : (us ++ ds).length = ps.length := by rw [← r2.length]; exact F.len _ _ _ _ q
  refine wpAny_call (codeAny_mono (F.run X.A X.stack s1 H1 ⟨us, []⟩ (us ++ ds) (vs ++ dvs) _ _ hr I1.env0 (hb s1 us I1.kIn hl) r2 q) fun rr s' hq => ?_)
  cases rr with
  | ok fl =>
    cases fl with
    | ret u =>
      obtain ⟨x', H2, I2, _, q2⟩ := I1.after hq
      exact wpAny_execs_nil (wpAny_execs_nil ⟨σ, H2, I2, q2⟩)
    | next => exact False.elim hq
    | brk => exact False.elim hq
    | cont => exact False.elim hq
  | error er =>
    obtain ⟨ea, H', B, a0, rfl, hos, hbare, un, hok, hfl, sT, sA, hE⟩ := hq
    obtain ⟨nm, qn, Nn, bs, bm, bmB, hdct, sn, sub, ab, col, dd, k0, k1, k2, k3, k5, newId, initId, Bs, mN, hX, hni, FB, hBs, hbase⟩ := EX.at_
    have nf : ∀ b ∈ frs X.stack, ∀ o, s1.heap.get? b = some o → ∀ vs, o.data ≠ .fields vs := fun b hb' o q' vs => by
      obtain ⟨_, o', ho', hd'⟩ := I1.stack.mem (show b ∈ _ from hb')
      rw [q'] at ho'
      cases ho'
      exact hd' vs
    have shift : ∀ h' : Heap, B.StaysIn h' → s'.heap.UpToSlots h' → Inv X pins σ H' { s' with heap := h' } := fun h' k up =>
      I1.call' (s' := { s' with heap := h' }) hos (un_fly un hfl.1 k up sA nf fun b hb' => I1.stkFree b hb') (hok_fly hok hfl.1 k sT) hbare fun b z => absurd (show b ∈ ([] : List Addr) from z) (by simp)
    rw [hst] at hfl
    have hfr : X.A.frames = some (X.env :: X.outer) := by rw [← hst]; exact I1.ok.frames
    refine wpAny_looks_onW hfr hfL hfl fun h4 held4 up4 => ?_
    refine wpAny_landsW held4 fun h5 hfl5 up5 => ?_
    have I5 := (shift h5 hfl5.1 (up4.trans up5)).mark (.ref ea)
    obtain ⟨hC, _, _⟩ := hX h5 I5.kIn
    obtain ⟨ob, hob, hobc⟩ := hfl5.there
    refine wpAny_handleBy_cons (codeAny_handlers_test (ld_glob I5 hgC hmC ?_ hdC)) (by intro q'; cases q')
    refine wpAny_excMatches_sub_self hC hob hobc hbase (codeAny_handlers_suite ?_)
    refine lands_againW hfl5 fun h6 hfl6 up6 => ?_
    have I6 := (shift h6 hfl6.1 ((up4.trans up5).trans up6)).mark (.ref ea)
    exact wpAny_mono (hsu ea pins _ σ H' D I6 hE) (fun fl s7 q7 => q7.unmark I.ok) fun _ _ z => False.elim z
end
end L2

namespace Tw
open PySem L2
def top (i : Nat) : Stmt := PySem.Challenge.pw_twinstride_k11_marks.main.body.getD i (.Pass ⟨0, 0, 0, 0⟩)
abbrev sInit : Stmt := inClass (top 4) 0
abbrev sNote : Stmt := inClass (top 4) 1
abbrev sLook : Stmt := inClass (top 4) 2
abbrev sRun : Stmt := top 5
abbrev sMark : Stmt := top 6
abbrev sRows : Stmt := top 7
abbrev sRow : Stmt := top 8
abbrev sIf : Stmt := top 9
abbrev sAgain : Stmt := top 10
abbrev sNum : Stmt := top 11
abbrev sPiece : Stmt := top 12
abbrev sJoin : Stmt := top 13
abbrev sStir : Stmt := top 15
abbrev sPot : Stmt := top 16
abbrev sDraw : Stmt := top 17
abbrev sNames : Stmt := top 18
abbrev sLRow : Stmt := top 19
abbrev sBlock : Stmt := top 20
abbrev sLRows : Stmt := top 21
abbrev sPlan : Stmt := top 22
abbrev sStand : Stmt := top 23
abbrev sAlike : Stmt := top 24
abbrev sLaw : Stmt := top 25
end Tw

namespace Tw
open PySem L2
theorem bt_list : bootBuiltins "list" = some (.type "list") := by decide +kernel
theorem bt_tuple : bootBuiltins "tuple" = some (.type "tuple") := by decide +kernel
theorem bt_all : bootBuiltins "all" = some (.builtin "all") := by decide +kernel
theorem bt_isinst : bootBuiltins "isinstance" = some (.builtin "isinstance") := by decide +kernel
theorem bt_bool : bootBuiltins "bool" = some (.type "bool") := by decide +kernel
theorem bt_int : bootBuiltins "int" = some (.type "int") := by decide +kernel
theorem bt_str : bootBuiltins "str" = some (.type "str") := by decide +kernel
theorem bt_min : bootBuiltins "min" = some (.builtin "min") := by decide +kernel
section
variable {P : Program} {w : World} {K : PySem.W.Frag} {mg : Str → Option Value} {base : Heap}
def spStir : Sp := fun vs H Q _ => ∃ c t : Int, vs = [.int c, .int t] ∧ ∀ r : Int, 0 ≤ r → Q (.int r) H
theorem scStir : FnScope ["cell", "turn", "one"] ["cell", "turn"] (defScope sStir) := ⟨rfl, rfl, rfl, by decide +kernel, rfl, by decide +kernel, by decide +kernel⟩
theorem ok_stir {f : Addr} {fd : FuncData} (F : Fun K "_law_stirred" "_law_stirred" sStir f fd) : FnOk P w K mg base CX0 1 f fd ["cell", "turn"] spStir := by
  refine F.ok scStir (fun vs H Q E h => ?_) (fun cdv A outer s H vs Q E hr h => ?_)
  · obtain ⟨c, t, rfl, _⟩ := h; rfl
  obtain ⟨c, t, rfl, q⟩ := h
  refine ⟨_, pss_cons (ps_set (i := 2) scStir.nd rfl (Or.inl rfl) (pe_op op_mod (pe_op op_add (pe_op op_add (pe_op op_mul (pv 0) pe_int) (pe_op op_mul (pv 1) pe_int)) pe_int) pe_int))
    (pss_cons (ps_set (i := 2) scStir.nd rfl (Or.inl rfl) (pe_op op_mod (pe_op op_mul (pe_op op_xor (pv 2) (pe_op (op_fdivB (n := 2147483648) (by decide) (by decide)) (pv 2) pe_int)) pe_int) pe_int))
    (pss_one (ps_ret (pe_op op_fdiv (pv 2) pe_int)))), ?_⟩
  refine ⟨_, rfl, _, _, rfl, rfl, .inr ⟨by decide, by decide⟩, _, rfl, _, _, rfl, rfl, .inr ⟨by decide, by decide⟩, _, _, rfl, rfl, _, _, rfl, rfl, _, _, rfl, rfl, (by show (0 : Int) < 18446744073709551616; decide), ?_⟩
  refine ⟨_, rfl, _, rfl, _, _, rfl, rfl, rfl, _, _, rfl, rfl, _, _, rfl, rfl, .inr ⟨by decide, by decide⟩, _, _, rfl, rfl, (by show (0 : Int) < 18446744073709551616; decide), ?_⟩
  refine ⟨_, rfl, _, _, rfl, rfl, ⟨by decide, by decide⟩, ?_⟩
  refine q _ (Int.ediv_nonneg (Int.emod_nonneg _ (by decide)) (by decide))

def spPot (K : PySem.W.Frag) : Sp := fun vs H Q _ => ∃ (a : Addr) (ns : List Int), vs = [.ref a] ∧ SqL K H a (ns.map V.int) ∧ ns.length ≤ 63 ∧ ∀ (p q : Addr) (ms : List Int) (H' : Hp), H p = none → H q = none → PotAt H' p q ms → Same H H' → Q (.ref p) H'
theorem scPot : FnScope ["script", "seed", "cell"] ["script"] (defScope sPot) := ⟨rfl, rfl, rfl, by decide +kernel, rfl, by decide +kernel, by decide +kernel⟩
theorem cut63 {ns : List Int} (h : ns.length ≤ 63) : cutV (ns.map V.int) none (some 63) = ns.map V.int := by
  unfold cutV
  have h1 : HT.sIx (ns.map V.int).length 0 none = 0 := rfl
  have h2 : HT.sIx (ns.map V.int).length (ns.map V.int).length (some 63) = (ns.map V.int).length := by
    have := HT.sIx_nat (ns.map V.int).length (ns.map V.int).length 63
    rw [show (some (63 : Int)) = some ((63 : Nat) : Int) from rfl, this, List.length_map]
    omega
  rw [h1, h2, List.drop_zero, Nat.sub_zero, List.take_length]
theorem ok_pot {f : Addr} {fd : FuncData} (F : Fun K "_law_pot" "_law_pot" sPot f fd) (ml : mg "list" = none) : FnOk P w K mg base CX0 1 f fd ["script"] (spPot K) := by
  refine F.ok scPot (fun vs H Q E h => ?_) (fun cdv A outer s H vs Q E hr h => ?_)
  · obtain ⟨a, ns, rfl, _⟩ := h; rfl
  obtain ⟨a, ns, rfl, hS, h63, q⟩ := h
  refine ⟨_, pss_cons (ps_set (i := 1) scPot.nd rfl (Or.inl rfl) pe_int)
    (pss_cons (ps_for PassesOwn.never rfl (pi_list (pe_slice sl_list (pv 0) po_none (po_some pe_int))) (pg_name (i := 2) scPot.nd rfl (Or.inl rfl))
      (pss_one (ps_set (i := 1) scPot.nd rfl (Or.inl rfl) (pe_op op_mod (pe_op op_add (pe_op op_mul (pv 1) pe_int) (pv 2)) pe_int))))
    (pss_one (ps_ret (pe_lst (pa_cons (pe_callTy call_list_of rfl ml bt_list (pa_cons (pe_slice sl_list (pv 0) po_none (po_some pe_int)) pa_nil)) (pa_cons pe_int (pa_cons pe_int (pa_cons (pv 1) pa_nil)))))))), ?_⟩
  refine ⟨_, rfl, _, rfl, a, _, rfl, hS, fun p hp => ?_⟩
  rw [cut63 h63]
  have s1 : Same H (upd H p (.lst (ns.map V.int))) := same_upd hp _
  refine ⟨p, rfl, ⟨_, SqL.of upd_same⟩, for_list (K := K) (a := p) (xs := ns.map V.int) (fun i σ H2 => ∃ (e : Int) (v : Option V), σ = [some (.ref a), some (.int e), v] ∧ H2 = upd H p (.lst (ns.map V.int)))
    ⟨7, none, rfl, rfl⟩ (fun i σ H2 _ ⟨_, _, _, e⟩ => by rw [e]; exact SqL.of upd_same) ?_ ?_⟩
  · rintro i y σ H2 hi ⟨e, v, rfl, rfl⟩
    obtain ⟨z, rfl⟩ : ∃ z, y = V.int z := by
      rw [List.getElem?_map] at hi
      cases e : ns[i]? with
      | none => rw [e] at hi; cases hi
      | some z => rw [e] at hi; exact ⟨z, (Option.some.inj hi).symm⟩
    refine ⟨_, rfl, _, _, rfl, rfl, .inr ⟨by decide, by decide⟩, _, rfl, _, _, rfl, rfl, _, _, rfl, rfl, (by show (0 : Int) < 18446744073709551616; decide), ?_⟩
    exact ⟨_, _, rfl, rfl⟩
  · rintro σ H2 ⟨e, v, rfl, rfl⟩
    refine ⟨_, rfl, _, rfl, a, _, rfl, s1.seq hS, fun p2 hp2 => ?_⟩
    rw [cut63 h63]
    have s2 : Same (upd H p (.lst (ns.map V.int))) (upd (upd H p (.lst (ns.map V.int))) p2 (.lst (ns.map V.int))) := same_upd hp2 _
    refine ⟨p2, _, rfl, .inl (SqL.of upd_same), fun l hl => ?_⟩
    refine ⟨_, rfl, (by show 4 ≤ sizeLine; decide), fun r hr' => ?_⟩
    have s3 := same_upd hl (.lst (ns.map V.int))
    have s4 := same_upd hr' (.lst [.ref l, .int 0, .int 0, .int e])
    refine q r l ns _ ((s1.trans (s2.trans s3)).free hr') ((s1.trans s2).free hl) ⟨⟨_, _, _, upd_same⟩, s4 _ _ upd_same, h63⟩ (s1.trans (s2.trans (s3.trans s4)))

def spDraw : Sp := fun vs H Q _ => ∃ (p q : Addr) (ns : List Int) (n : Int), vs = [.ref p, .int n] ∧ PotAt H p q ns ∧ 0 < n ∧ n < 1073741824 ∧
  ∀ (r : Int) (ms : List Int) (H' : Hp), 0 ≤ r → r < n → PotAt H' p q ms → But2 p q H H' → Q (.int r) H'
theorem scDraw : FnScope ["pot", "many", "cell", "found"] ["pot", "many"] (defScope sDraw) := ⟨rfl, rfl, rfl, by decide +kernel, rfl, by decide +kernel, by decide +kernel⟩
end
end Tw

namespace Tw
open PySem L2
section
variable {P : Program} {w : World} {K : PySem.W.Frag} {mg : Str → Option Value} {base : Heap}
theorem ok_draw {f g : Addr} {fd gd : FuncData} (F : Fun K "_law_draw" "_law_draw" sDraw f fd) (G : FnOk P w K mg base CX0 1 g gd ["cell", "turn"] spStir) (bG : Binds K gd ["cell", "turn"] []) (kG : PySem.W.keepIn K (.ref g) = true) (mG : mg "_law_stirred" = some (.ref g)) :
    FnOk P w K mg base CX0 2 f fd ["pot", "many"] spDraw := by
  refine F.ok scDraw (fun vs H Q E h => ?_) (fun cdv A outer s H vs Q E hr h => ?_)
  · obtain ⟨p, q, ns, n, rfl, _⟩ := h; rfl
  obtain ⟨p, q, ns, n, rfl, Po, h0, h30, k⟩ := h
  have hu := hr.units0
  refine ⟨_, pss_cons (ps_asg (pe_op op_add (pe_ix ix_list (pv 0) pe_int (fun _ _ => rfl)) pe_int) (pg_sub (pv 0) pe_int set_list))
    (pss_cons (ps_if (PW.pt (pw_and (pt_cmpR op_eq (pe_ix ix_list (pv 0) pe_int (fun _ _ => rfl)) pe_int (nomark _)) (pw_and1 (pt_cmpR (op_neNil hu) (pe_ix ix_list (pv 0) pe_int (fun _ _ => rfl)) (pe_lst pa_nil) (nomark _)))))
      (pss_cons (ps_set (i := 2) scDraw.nd rfl (Or.inl rfl) (pe_bm PySem.F.plainAttrs_list PySem.F.slot_list_pop PySem.F.type_list_pop mt_popAt (pe_ix ix_list (pv 0) pe_int (fun _ _ => rfl)) (pa_cons pe_int pa_nil)))
      (pss_cons (ps_if (pt_cmpR op_lt (pv 2) (pe_op op_pow pe_int pe_int) (nomark _))
          (pss_one (ps_ret (pe_op op_mod (pe_call G hr rfl mG kG bG .nil pass0 (pa_cons (pv 2) (pa_cons (pe_ix ix_list (pv 0) pe_int (fun _ _ => rfl)) pa_nil))) (pv 1)))) pss_nil)
      (pss_one (ps_asg (pv 2) (pg_sub (pv 0) pe_int set_list))))) pss_nil)
    (pss_cons (ps_if (pt_cmpR op_eq (pe_ix ix_list (pv 0) pe_int (fun _ _ => rfl)) pe_int (nomark _))
        (pss_one (ps_ret (pe_op op_mod (pe_call G hr rfl mG kG bG .nil pass0 (pa_cons (pe_ix ix_list (pv 0) pe_int (fun _ _ => rfl)) (pa_cons (pe_ix ix_list (pv 0) pe_int (fun _ _ => rfl)) pa_nil))) (pv 1)))) pss_nil)
    (pss_cons (ps_set (i := 3) scDraw.nd rfl (Or.inl rfl) (pe_op op_mod (pe_ix ix_list (pv 0) pe_int (fun _ _ => rfl)) (pv 1)))
    (pss_cons (ps_asg (pe_op op_fdiv (pe_ix ix_list (pv 0) pe_int (fun _ _ => rfl)) (pv 1)) (pg_sub (pv 0) pe_int set_list))
    (pss_one (ps_ret (pv 3))))))), ?_⟩
  obtain ⟨⟨c, d, e, hp⟩, hq, h63⟩ := id Po
  have npq := Po.ne
  -- pot[1] = pot[1] + 1
  refine ⟨_, rfl, p, _, 1, _, rfl, rfl, SqL.of hp, rfl, _, _, rfl, rfl, _, rfl, p, _, _, 1, rfl, rfl, hp, rfl, ?_⟩
  -- the rest, from any pot
  have low : ∀ (H1 : Hp) (ms : List Int) (c1 d1 e1 : Int) (σ2 : Option V), H1 p = some (.lst [.ref q, .int c1, .int d1, .int e1]) → H1 q = some (.lst (ms.map V.int)) → ms.length ≤ 63 → But2 p q H H1 →
      tSeq (tIfS (tTest (tOp rEq (tOp (rIxL K) (tVar 0) (tC (.int 2))) (tC (.int 0)))) (tRet (tOp (rI (fun _ j => 0 < j) fun i j => .int (i % j)) (tCall spStir [] E0 (tCons (tOp (rIxL K) (tVar 0) (tC (.int 3))) (tCons (tOp (rIxL K) (tVar 0) (tC (.int 1))) tNil))) (tVar 1))) tNext)
        (tSeq (tAsg (tOp (rI (fun _ j => 0 < j) fun i j => .int (i % j)) (tOp (rIxL K) (tVar 0) (tC (.int 2))) (tVar 1)) (gName 3)) (tSeq (tAsg (tOp (rI CDiv fun i j => .int (i / j)) (tOp (rIxL K) (tVar 0) (tC (.int 2))) (tVar 1)) (gSub (tVar 0) (tC (.int 2)) rSetL)) (tRet (tVar 3))))
        { nx := fun _ H' => Q .non H', rt := Q } [some (.ref p), some (.int n), σ2, none] H1 := by
    intro H1 ms c1 d1 e1 σ2 hp1 hq1 h631 b1
    refine ⟨_, rfl, p, _, 2, _, rfl, rfl, SqL.of hp1, rfl, rfl, _, rfl, ite2 (fun _ => ?_) (fun _ => ?_)⟩
    · refine ⟨_, rfl, p, _, 3, _, rfl, rfl, SqL.of hp1, rfl, _, rfl, p, _, 1, _, rfl, rfl, SqL.of hp1, rfl, e1, c1, rfl, fun r _ => ⟨_, rfl, _, _, rfl, rfl, h0, ?_⟩⟩
      exact k (r % n) ms H1 (Int.emod_nonneg _ (by omega)) (Int.emod_lt_of_pos _ h0) ⟨⟨_, _, _, hp1⟩, hq1, h631⟩ b1
    · refine ⟨_, rfl, p, _, 2, _, rfl, rfl, SqL.of hp1, rfl, _, rfl, _, _, rfl, rfl, h0, ?_⟩
      refine ⟨_, rfl, p, _, 2, _, rfl, rfl, SqL.of hp1, rfl, _, rfl, _, _, rfl, rfl, ⟨h0, h30⟩, _, rfl, p, _, _, 2, rfl, rfl, hp1, rfl, _, rfl, ?_⟩
      exact k (d1 % n) ms _ (Int.emod_nonneg _ (by omega)) (Int.emod_lt_of_pos _ h0) ⟨⟨_, _, _, upd_same⟩, (by rw [upd_ne npq.symm]; exact hq1), h631⟩ (b1.trans but2_upd)
  have hp' : upd H p (.lst [.ref q, .int (c + 1), .int d, .int e]) p = some (.lst [.ref q, .int (c + 1), .int d, .int e]) := upd_same
  have hq' : upd H p (.lst [.ref q, .int (c + 1), .int d, .int e]) q = some (.lst (ns.map V.int)) := by rw [upd_ne npq.symm]; exact hq
  have b' : But2 p q H (upd H p (.lst [.ref q, .int (c + 1), .int d, .int e])) := but2_upd
  refine ⟨_, rfl, p, _, 2, _, rfl, rfl, SqL.of hp', rfl, rfl, _, rfl, ite2 (fun _ => ?_) (fun _ => ?_)⟩
  · refine ⟨_, rfl, p, _, 0, _, rfl, rfl, SqL.of hp', rfl, (by show 0 ≤ sizeLine; decide), fun z hz => ?_⟩
    have hzq : q ≠ z := ne_of_none hq' hz
    have hzp : p ≠ z := ne_of_none hp' hz
    refine ⟨q, z, ns.map V.int, rfl, rfl, SqL.of (by rw [upd_ne hzq]; exact hq'), SqL.of upd_same, _, rfl, ite2 (fun hne => ?_) (fun _ => ?_)⟩
    · -- a cell is taken
      cases ns with
      | nil => cases hne
      | cons x ms =>
        have hp2 : upd (upd H p (.lst [.ref q, .int (c + 1), .int d, .int e])) z (.lst []) p = some (.lst [.ref q, .int (c + 1), .int d, .int e]) := by rw [upd_ne hzp]; exact hp'
        have hq2 : upd (upd H p (.lst [.ref q, .int (c + 1), .int d, .int e])) z (.lst []) q = some (.lst ((x :: ms).map V.int)) := by rw [upd_ne hzq]; exact hq'
        have b2 : But2 p q H (upd (upd H p (.lst [.ref q, .int (c + 1), .int d, .int e])) z (.lst [])) := b'.trans (But2.of (same_upd hz _))
        refine ⟨_, rfl, p, _, 0, _, rfl, rfl, SqL.of hp2, rfl, .inl ⟨rfl, _, SqL.of hq2⟩, q, _, 0, 0, _, rfl, rfl, hq2, (by decide), (by decide), seqIndex_of (by decide) (by simp), rfl, ?_⟩
        have hp3 : upd (upd (upd H p (.lst [.ref q, .int (c + 1), .int d, .int e])) z (.lst [])) q (.lst (ms.map V.int)) p = some (.lst [.ref q, .int (c + 1), .int d, .int e]) := by rw [upd_ne npq]; exact hp2
        have l63 : ms.length ≤ 63 := by simp at h63; omega
        refine ⟨_, rfl, _, _, rfl, rfl, ⟨by decide, by decide, by decide⟩, _, _, rfl, rfl, _, rfl, ite2 (fun _ => ?_) (fun _ => ?_)⟩
        · refine ⟨_, rfl, _, rfl, p, _, 1, _, rfl, rfl, SqL.of hp3, rfl, x, c + 1, rfl, fun r _ => ⟨_, rfl, _, _, rfl, rfl, h0, ?_⟩⟩
          exact k (r % n) ms _ (Int.emod_nonneg _ (by omega)) (Int.emod_lt_of_pos _ h0) ⟨⟨_, _, _, hp3⟩, upd_same, l63⟩ (b2.trans but2_upd')
        · refine ⟨_, rfl, _, rfl, p, _, _, 2, rfl, rfl, hp3, rfl, ?_⟩
          exact low _ ms (c + 1) x e _ upd_same (by rw [upd_ne npq.symm]; exact upd_same) l63 ((b2.trans but2_upd').trans but2_upd)
    · exact low _ ns (c + 1) d e _ (by rw [upd_ne hzp]; exact hp') (by rw [upd_ne hzq]; exact hq') h63 (b'.trans (But2.of (same_upd hz _)))
  · exact low _ ns (c + 1) d e _ hp' hq' h63 b'
end
end Tw

namespace Tw
open PySem L2
theorem kit_eq {K : PySem.W.Frag} (T : String) : PySem.W.kitOne K (.type T) (.type T) = some true := by
  unfold PySem.W.kitOne
  rw [if_pos (by simp)]
theorem kit_n_b {K : PySem.W.Frag} : PySem.W.kitOne K (.type "NoneType") (.type "bool") = some false := by kernel_rfl
theorem kit_b_i {K : PySem.W.Frag} : PySem.W.kitOne K (.type "bool") (.type "int") = some true := by kernel_rfl
theorem kit_i_b {K : PySem.W.Frag} : PySem.W.kitOne K (.type "int") (.type "bool") = some false := by kernel_rfl
theorem kit_s_b {K : PySem.W.Frag} : PySem.W.kitOne K (.type "str") (.type "bool") = some false := by kernel_rfl
theorem kit_s_i {K : PySem.W.Frag} : PySem.W.kitOne K (.type "str") (.type "int") = some false := by kernel_rfl
theorem kit_t_b {K : PySem.W.Frag} : PySem.W.kitOne K (.type "tuple") (.type "bool") = some false := by kernel_rfl
theorem kit_t_i {K : PySem.W.Frag} : PySem.W.kitOne K (.type "tuple") (.type "int") = some false := by kernel_rfl
theorem kit_t_s {K : PySem.W.Frag} : PySem.W.kitOne K (.type "tuple") (.type "str") = some false := by kernel_rfl
theorem kit_t_l {K : PySem.W.Frag} : PySem.W.kitOne K (.type "tuple") (.type "list") = some false := by kernel_rfl
theorem kit_l_b {K : PySem.W.Frag} : PySem.W.kitOne K (.type "list") (.type "bool") = some false := by kernel_rfl
theorem kit_l_i {K : PySem.W.Frag} : PySem.W.kitOne K (.type "list") (.type "int") = some false := by kernel_rfl
theorem kit_l_s {K : PySem.W.Frag} : PySem.W.kitOne K (.type "list") (.type "str") = some false := by kernel_rfl
theorem kit_l_t {K : PySem.W.Frag} : PySem.W.kitOne K (.type "list") (.type "tuple") = some false := by kernel_rfl
structure Bt (mg : Str → Option Value) : Prop where
  isi : mg "isinstance" = none
  bool : mg "bool" = none
  int : mg "int" = none
  str : mg "str" = none
  tuple : mg "tuple" = none
  list : mg "list" = none
  len : mg "len" = none
  all : mg "all" = none
  zip : mg "zip" = none
  range : mg "range" = none
section
variable {P : Program} {w : World} {K : PySem.W.Frag} {mg : Str → Option Value} {base : Heap}
/-- a built-in class by its name -/
theorem pe_ty {X : Cx} {x : Str} {T : String} {pos : Pos} (hg : Gl X x) (hm : X.mg x = none) (hv : bootBuiltins x = some (.type T)) (hn : x ≠ "__name__" := by decide +kernel) (hd : (x == ("__debug__" : Str)) = false := by decide +kernel) : PE X (.Name x pos) (tC (.ty T)) :=
  pe_bltn hg hm hv rfl hn hd
def spAlike (n : Nat) : Sp := fun vs H Q _ => ∃ v w : V, vs = [v, w] ∧ Lk H n v w ∧ ∀ H', Same H H' → Q (.bl true) H'
theorem scAlike : FnScope ["found", "due"] ["found", "due"] (defScope sAlike) := ⟨rfl, rfl, rfl, by decide +kernel, rfl, by decide +kernel, by decide +kernel⟩
end
end Tw

namespace L2
open PySem PySem.Spec PyProof.Rows
/-! ### a comprehension that takes no name, or one, from around it -/
theorem relabel_names {scope : Scope} {env : Env} {x : Str} {k : NameKind} (h : (relabel scope env).names.lookup x = some k) : ∃ k', (x, k') ∈ scope.names ∧ (k = k' ∨ (k' = .free ∧ k = .cell)) := by
  have hm := PySem.mem_of_lookup h
  obtain ⟨⟨n, kk⟩, h1, h2⟩ := List.mem_map.mp hm
  by_cases hc : (kk == NameKind.free && env.scope.kind == .function && env.kindOf n == some .cell) = true
  · have h2' : (n, NameKind.cell) = (x, k) := by rw [← h2]; show _ = (if _ then _ else _); rw [if_pos hc]
    cases h2'
    have hf : kk = .free := by
      simp only [Bool.and_eq_true] at hc
      exact beq_iff_eq.mp hc.1.1
    exact ⟨kk, h1, .inr ⟨hf, rfl⟩⟩
  · have h2' : (n, kk) = (x, k) := by rw [← h2]; show _ = (if _ then _ else _); rw [if_neg hc]
    cases h2'
    exact ⟨_, h1, .inl rfl⟩
theorem compOk0 {X : Cx} {scope : Scope} {ls : List Str} (hk : scope.kind = .function) (hn : ∀ y ∈ scope.names, y.2 ≠ .cell ∧ y.2 ≠ .free) (hl : ∀ x ∈ scope.names, x.2 = .local → scope.names.lookup x.1 = some .local) : CompOk X scope [] ls [] [] where
  kind := hk
  nocell := fun y hy => (hn y hy).1
  locs := hl
  clos := closureFor_none fun x hx => (hn x hx).2
  cells := fun x c h => by cases h
  has := fun x h => by
    rcases h with h | h
    · obtain ⟨k', h1, h2 | ⟨h2, _⟩⟩ := relabel_names h
      · exact absurd h2.symm (hn _ h1).1
      · exact absurd h2 (hn _ h1).2
    · obtain ⟨k', h1, h2 | ⟨h2, _⟩⟩ := relabel_names h
      · exact absurd h2.symm (hn _ h1).2
      · exact absurd h2 (hn _ h1).2
  frees := .nil
theorem compOk1 {X : Cx} {scope : Scope} {ls : List Str} {x : Str} {c : Addr} {j : Nat} (hk : scope.kind = .function) (hn : ∀ y ∈ scope.names, y.2 ≠ .cell ∧ (y.2 = .free → y.1 = x)) (hl : ∀ x ∈ scope.names, x.2 = .local → scope.names.lookup x.1 = some .local)
    (hcl : closureFor scope X.env = pure [(x, c)]) (hc : X.env.cells.lookup x = some c) (hf : Frees X scope [x] [j]) : CompOk X scope [(x, c)] ls [x] [j] where
  kind := hk
  nocell := fun y hy => (hn y hy).1
  locs := hl
  clos := hcl
  cells := fun y d h => by
    rw [List.lookup_cons] at h
    cases e : y == x with
    | true =>
      rw [e] at h
      have e' : y = x := by simpa using e
      subst e'
      cases h
      exact hc
    | false => rw [e] at h; cases h
  has := fun y h => by
    have hy : y = x := by
      rcases h with h | h
      · obtain ⟨k', h1, h2 | ⟨h2, _⟩⟩ := relabel_names h
        · exact absurd h2.symm (hn _ h1).1
        · exact (hn _ h1).2 h2
      · obtain ⟨k', h1, h2 | ⟨h2, _⟩⟩ := relabel_names h
        · exact (hn _ h1).2 h2.symm
        · exact (hn _ h1).2 h2
    subst hy
    exact ⟨c, by simp [List.lookup_cons]⟩
  frees := hf
/-- the target of a comprehension: a name, two names -/
theorem cg_one {X : Cx} {N : List Str} {scope : Scope} {cl : List (Str × Addr)} {C : Addr} {s₀ : Shared} {H₀ : Hp} {fp : List Addr} {pl : List (Addr × Obj)} {x : Str} {p : Pos} (nd : N.Nodup) (h0 : N[0]? = some x) (hx : (relabel scope X.env).names.lookup x = some .local) :
    PG (cxComp X N scope cl C s₀ H₀ fp pl) (.Name x p) (gName 0) := pg_name (i := 0) nd h0 (Or.inl hx) (Or.inr hx)
theorem cg_two {X : Cx} {N : List Str} {scope : Scope} {cl : List (Str × Addr)} {C : Addr} {s₀ : Shared} {H₀ : Hp} {fp : List Addr} {pl : List (Addr × Obj)} {x y : Str} {p1 p2 tp : Pos} {k : Nat} (nd : N.Nodup) (h0 : N[0]? = some x) (h1 : N[1]? = some y)
    (hx : (relabel scope X.env).names.lookup x = some .local) (hy : (relabel scope X.env).names.lookup y = some .local) (hc : X.calm = true) :
    PG (cxComp X N scope cl C s₀ H₀ fp pl) (.Tuple [.Name x p1, .Name y p2] k tp) (gTup X.K 2 (gCons (gName 0) (gCons (gName 1) gNil))) :=
  pg_tup (X := cxComp X N scope cl C s₀ H₀ fp pl) (n := 2) hc (pgs_cons (pg_name (i := 0) nd h0 (Or.inl hx) (Or.inr hx)) (pgs_cons (pg_name (i := 1) nd h1 (Or.inl hy) (Or.inr hy)) pgs_nil))
end L2
namespace Tw
open PySem L2
section
variable {P : Program} {w : World} {K : PySem.W.Frag} {mg : Str → Option Value} {base : Heap}
theorem same_cases {v : V} (h : flatV v = true) : v = .non ∨ (∃ b, v = .bl b) ∨ (∃ i, v = .int i) ∨ ∃ x, v = .str x := by
  cases v with
  | non => exact .inl rfl
  | bl b => exact .inr (.inl ⟨b, rfl⟩)
  | int i => exact .inr (.inr (.inl ⟨i, rfl⟩))
  | str x => exact .inr (.inr (.inr ⟨x, rfl⟩))
  | byt b => cases h
  | flt b => cases h
  | ref a => cases h
  | ty n => cases h
theorem pe_isi {X : Cx} {a : Expr} {ta : TE} {T : Str} {T' : String} {p1 p2 p3 : Pos} (hg : Gl X "isinstance") (hm : X.mg "isinstance" = none) (ha : PE X a ta) (hT : Gl X T) (hmT : X.mg T = none) (hv : bootBuiltins T = some (.type T'))
    (hn : T ≠ "__name__" := by decide +kernel) (hd : (T == ("__debug__" : Str)) = false := by decide +kernel) (hs : starEach [a, Expr.Name T p2] X.env = (false, eval a X.env) :: starEach [Expr.Name T p2] X.env := by rfl) (hs2 : (backTo p3 (starEach [Expr.Name T p2] X.env)).any (·.1) = false := by rfl) (hs3 : starEach [Expr.Name T p2] X.env = [(false, eval (Expr.Name T p2) X.env)] := by rfl) :
    PE X (.Call (.Name "isinstance" p1) [a, .Name T p2] [] p3) (tCB (fun xs H Q => ∃ x T t b, xs = [x, .ty T] ∧ TyOf X.K H x t ∧ PySem.W.kitOne X.K t (.type T) = some b ∧ Q (.bl b) H) (tCons ta (tCons (tC (.ty T')) tNil))) :=
  pe_callB call_isinst hg hm bt_isinst (pa_cons ha (pa_cons (pe_ty hT hmT hv hn hd) pa_nil hs3) hs) (he := hs) (hpl := hs2)
theorem alike_flat {f : Addr} {fd : FuncData} {n : Nat} {cdv : Value} {A : Around} {outer : List Env} {s : Shared} {H : Hp} {Q : VK} {E : XK} {v : V} (B : Bt mg) (hv : flatV v = true) (q : Q (.bl true) H) :
    ∃ t, PSs (cxOf CX0 P w K mg base ["found", "due"] "_law_alike" (defScope sAlike) f cdv A outer s H E).nox (defBody sAlike) t ∧ t { nx := fun _ H' => Q .non H', rt := Q } (start ["found", "due"] [v, v]) H := by
  refine ⟨_, pss_cons (ps_if (pt_cmp (pc_isN (pv 1))) (pss_one (ps_ret (pe_cmp (pc_isN (pv 0))))) pss_nil)
    (pss_cons (ps_if (pt_val (pe_isi rfl B.isi (pv 1) rfl B.bool bt_bool)) (pss_one (ps_ret (pe_and (pe_isi rfl B.isi (pv 0) rfl B.bool bt_bool) (pe_one (pe_cmpR op_eq (pv 0) (pv 1) (nomark _)))))) pss_nil)
    (pss_cons (ps_if (pt_val (pe_isi rfl B.isi (pv 1) rfl B.int bt_int)) (pss_one (ps_ret (pe_and (pe_isi rfl B.isi (pv 0) rfl B.int bt_int) (pe_and (pe_not (pe_isi rfl B.isi (pv 0) rfl B.bool bt_bool)) (pe_one (pe_cmpR op_eq (pv 0) (pv 1) (nomark _))))))) pss_nil)
    (pss_cons (ps_if (pt_val (pe_isi rfl B.isi (pv 1) rfl B.str bt_str)) (pss_one (ps_ret (pe_and (pe_isi rfl B.isi (pv 0) rfl B.str bt_str) (pe_one (pe_cmpR op_eq (pv 0) (pv 1) (nomark _)))))) pss_nil)
    pss_never))), ?_⟩
  rcases same_cases hv with rfl | ⟨b, rfl⟩ | ⟨i, rfl⟩ | ⟨x, rfl⟩
  · refine ⟨_, rfl, _, rfl, iteT ?_⟩
    exact ⟨_, rfl, q⟩
  · refine ⟨_, rfl, _, rfl, iteF ?_⟩
    refine ⟨_, rfl, _, _, _, true, rfl, .bl b, kit_eq "bool", _, rfl, iteT ?_⟩
    refine ⟨_, rfl, _, _, _, true, rfl, .bl b, kit_eq "bool", _, rfl, iteT ?_⟩
    refine ⟨_, rfl, _, rfl, (by cases b <;> rfl), ?_⟩
    rw [decide_eq_true rfl]; exact q
  · refine ⟨_, rfl, _, rfl, iteF ?_⟩
    refine ⟨_, rfl, _, _, _, false, rfl, .int i, kit_i_b, _, rfl, iteF ?_⟩
    refine ⟨_, rfl, _, _, _, true, rfl, .int i, kit_eq "int", _, rfl, iteT ?_⟩
    refine ⟨_, rfl, _, _, _, true, rfl, .int i, kit_eq "int", _, rfl, iteT ?_⟩
    refine ⟨_, rfl, _, _, _, false, rfl, .int i, kit_i_b, _, rfl, _, rfl, iteT ?_⟩
    refine ⟨_, rfl, _, rfl, rfl, ?_⟩
    rw [decide_eq_true rfl]; exact q
  · refine ⟨_, rfl, _, rfl, iteF ?_⟩
    refine ⟨_, rfl, _, _, _, false, rfl, .str x, kit_s_b, _, rfl, iteF ?_⟩
    refine ⟨_, rfl, _, _, _, false, rfl, .str x, kit_s_i, _, rfl, iteF ?_⟩
    refine ⟨_, rfl, _, _, _, true, rfl, .str x, kit_eq "str", _, rfl, iteT ?_⟩
    refine ⟨_, rfl, _, _, _, true, rfl, .str x, kit_eq "str", _, rfl, iteT ?_⟩
    refine ⟨_, rfl, _, rfl, rfl, ?_⟩
    rw [decide_eq_true rfl]; exact q
end
end Tw

namespace Tw
open PySem L2
def HOs (b : Bool) (xs : List V) : HO := if b = true then .lst xs else .tup xs
theorem sqB_of {K : PySem.W.Frag} {H : Hp} {a : Addr} {xs : List V} {b : Bool} (h : H a = some (HOs b xs)) : SqB K b H a xs := by
  cases b with
  | true => exact SqL.of h
  | false => exact SqT.of h
theorem sqLT_of {K : PySem.W.Frag} {H : Hp} {a : Addr} {xs : List V} {b : Bool} (h : H a = some (HOs b xs)) : SqL K H a xs ∨ SqT K H a xs := by
  cases b with
  | true => exact .inl (SqL.of h)
  | false => exact .inr (SqT.of h)
theorem tyB_of {K : PySem.W.Frag} {H : Hp} {a : Addr} {xs : List V} {b : Bool} (h : H a = some (HOs b xs)) : TyOf K H (.ref a) (.type (if b = true then "list" else "tuple")) := by
  cases b with
  | true => exact .lst h
  | false => exact .tup h
theorem kitB_b {K : PySem.W.Frag} (b : Bool) : PySem.W.kitOne K (.type (if b = true then "list" else "tuple")) (.type "bool") = some false := by cases b; exact kit_t_b; exact kit_l_b
theorem kitB_i {K : PySem.W.Frag} (b : Bool) : PySem.W.kitOne K (.type (if b = true then "list" else "tuple")) (.type "int") = some false := by cases b; exact kit_t_i; exact kit_l_i
theorem kitB_s {K : PySem.W.Frag} (b : Bool) : PySem.W.kitOne K (.type (if b = true then "list" else "tuple")) (.type "str") = some false := by cases b; exact kit_t_s; exact kit_l_s
theorem kitB_t {K : PySem.W.Frag} (b : Bool) : PySem.W.kitOne K (.type (if b = true then "list" else "tuple")) (.type "tuple") = some (!b) := by cases b; exact kit_eq _; exact kit_l_t
theorem kitB_l {K : PySem.W.Frag} (b : Bool) : PySem.W.kitOne K (.type (if b = true then "list" else "tuple")) (.type "list") = some b := by cases b; exact kit_t_l; exact kit_eq _
section
variable {P : Program} {w : World} {K : PySem.W.Frag} {mg : Str → Option Value} {base : Heap}
theorem alike_seq {f : Addr} {fd : FuncData} {n : Nat} {cdv : Value} {A : Around} {outer : List Env} {s : Shared} {H : Hp} {Q : VK} {E : XK} {a b : Addr} {xs ys : List V} {fl : Bool} (B : Bt mg) (G : FnOk P w K mg base CX0 (n + 1) f fd ["found", "due"] (spAlike n)) (bG : Binds K fd ["found", "due"] []) (kG : PySem.W.keepIn K (.ref f) = true) (mG : mg "_law_alike" = some (.ref f))
    (hr : Room (n + 1) (A.deeper (PyProof.Rows.envOfC "_law_alike" (defScope sAlike) s.heap.objs.size f cdv))) (ha : H a = some (HOs fl xs)) (hb : H b = some (HOs fl ys)) (hp : Paired (Lk H n) xs ys) (hz : xs.length < 16777216) (q : ∀ H', Same H H' → Q (.bl true) H') :
    ∃ t, PSs (cxOf CX0 P w K mg base ["found", "due"] "_law_alike" (defScope sAlike) f cdv A outer s H E).nox (defBody sAlike) t ∧ t { nx := fun _ H' => Q .non H', rt := Q } (start ["found", "due"] [.ref a, .ref b]) H := by
  refine ⟨_, pss_cons (ps_if (pt_cmp (pc_isN (pv 1))) (pss_one (ps_ret (pe_cmp (pc_isN (pv 0))))) pss_nil)
    (pss_cons (ps_if (pt_val (pe_isi rfl B.isi (pv 1) rfl B.bool bt_bool)) pss_never pss_nil)
    (pss_cons (ps_if (pt_val (pe_isi rfl B.isi (pv 1) rfl B.int bt_int)) pss_never pss_nil)
    (pss_cons (ps_if (pt_val (pe_isi rfl B.isi (pv 1) rfl B.str bt_str)) pss_never pss_nil)
    (pss_cons (ps_if (PW.pt (pw_or (pt_cmpR op_ne (pe_isi rfl B.isi (pv 1) rfl B.tuple bt_tuple) (pe_isi rfl B.isi (pv 0) rfl B.tuple bt_tuple) (nomark _)) (pw_or1 (pt_cmpR op_ne (pe_isi rfl B.isi (pv 1) rfl B.list bt_list) (pe_isi rfl B.isi (pv 0) rfl B.list bt_list) (nomark _))))) pss_never pss_nil)
    (pss_cons (ps_if (pt_cmpR op_ne (pe_callB call_len_seq rfl B.len PySem.boot_len (pa_cons (pv 0) pa_nil)) (pe_callB call_len_seq rfl B.len PySem.boot_len (pa_cons (pv 1) pa_nil)) (nomark _)) pss_never pss_nil)
    (pss_one (ps_ret (pe_callB (call_all rfl) rfl B.all bt_all (pa_cons (pe_comp (ls := ["one", "other"]) rfl (compOk0 rfl (by decide +kernel) (by decide +kernel)) (pi_zip fl fl rfl B.zip (pa_cons (pv 0) (pa_cons (pv 1) pa_nil)))
      (fun C s₀ H₀ fp pl => ⟨cg_two (by decide +kernel) rfl rfl rfl rfl rfl, pts_nil, pe_call G hr rfl mG kG bG .nil pass0 (pa_cons (pv 0) (pa_cons (pv 1) pa_nil))⟩)) pa_nil))))))))), ?_⟩
  have hl := Paired.len hp
  refine ⟨_, rfl, _, rfl, iteF ?_⟩
  refine ⟨_, rfl, _, _, _, false, rfl, tyB_of hb, kitB_b fl, _, rfl, iteF ?_⟩
  refine ⟨_, rfl, _, _, _, false, rfl, tyB_of hb, kitB_i fl, _, rfl, iteF ?_⟩
  refine ⟨_, rfl, _, _, _, false, rfl, tyB_of hb, kitB_s fl, _, rfl, iteF ?_⟩
  refine ⟨_, rfl, _, _, _, !fl, rfl, tyB_of hb, kitB_t fl, _, rfl, _, _, _, !fl, rfl, tyB_of ha, kitB_t fl, (by cases fl <;> rfl), _, rfl, ?_⟩
  refine iteNS rfl ?_
  refine ⟨_, rfl, _, _, _, fl, rfl, tyB_of hb, kitB_l fl, _, rfl, _, _, _, fl, rfl, tyB_of ha, kitB_l fl, (by cases fl <;> rfl), _, rfl, ?_⟩
  refine iteNS rfl ?_
  refine ⟨_, rfl, a, xs, rfl, sqLT_of ha, _, rfl, b, ys, rfl, sqLT_of hb, rfl, _, rfl, iteNS (by rw [hl]) ?_⟩
  refine ⟨_, rfl, _, rfl, a, b, xs, ys, rfl, sqB_of ha, sqB_of hb, fun p hpn => ?_⟩
  have s0 : Same H (upd H p (.lst [])) := same_upd hpn _
  refine ⟨fun i m σ' H' => m = xs.length - i ∧ i ≤ xs.length ∧ (∃ c d, σ' = [c, d]) ∧ H' p = some (.lst ((List.replicate i true).map V.bl)) ∧ (∀ c o, H c = some o → H' c = some o), ⟨xs.length, rfl, Nat.zero_le _, ⟨none, none, rfl⟩, upd_same, s0⟩, ?_⟩
  rintro i m σ' H' ⟨rfl, hi, ⟨c, d, rfl⟩, hp', s'⟩
  by_cases hlt : i < xs.length
  · have hlt2 : i < ys.length := by omega
    refine .inr ⟨⟨xs, ys, xs[i], ys[i], sqB_of (s' _ _ ha), sqB_of (s' _ _ hb), by simp [hlt], by simp [hlt2]⟩, fun σ2 H2 => (∃ c d, σ2 = [c, d]) ∧ H2 p = some (.lst ((List.replicate (i + 1) true).map V.bl)) ∧ (∀ c o, H c = some o → H2 c = some o),
      fun σ2 H2 ⟨h1, h2, h3⟩ => ⟨xs.length - (i + 1), by omega, rfl, hlt, h1, h2, h3⟩, ?_⟩
    rintro x H2 ⟨T, x1, y1, hT, rfl, rfl, hx1, hy1⟩
    have ex : x1 = xs[i] := by
      have := hx1 xs (sqB_of (s' _ _ ha))
      rw [List.getElem?_eq_getElem hlt] at this
      exact (Option.some.inj this).symm
    have ey : y1 = ys[i] := by
      have := hy1 ys (sqB_of (s' _ _ hb))
      rw [List.getElem?_eq_getElem hlt2] at this
      exact (Option.some.inj this).symm
    subst ex ey
    refine ⟨T, _, rfl, SqT.of upd_same, rfl, _, _, rfl, _, _, rfl, rfl, ?_⟩
    have sT : Same H' (upd H' T (.tup [xs[i], ys[i]])) := same_upd hT _
    have hlk : Lk H n xs[i] ys[i] := by
      have : ∀ {l₁ l₂ : List V}, Paired (Lk H n) l₁ l₂ → ∀ (j : Nat) (h1 : j < l₁.length) (h2 : j < l₂.length), Lk H n l₁[j] l₂[j] := by
        intro l₁ l₂ p
        induction p with
        | nil => intro j h1; exact absurd h1 (Nat.not_lt_zero _)
        | cons r _ ihp =>
          intro j h1 h2
          cases j with
          | zero => exact r
          | succ j => exact ihp j (by simpa using h1) (by simpa using h2)
      exact this hp i hlt hlt2
    have sH : Same H (upd H' T (.tup [xs[i], ys[i]])) := fun c o e => sT _ _ (s' c o e)
    refine ⟨_, rfl, _, rfl, xs[i], ys[i], rfl, hlk.mono sH, fun H3 s3 => ?_⟩
    refine ⟨_, s3 _ _ (sT _ _ hp'), ?_, ⟨_, _, rfl⟩, ?_, fun c o e => ?_⟩
    · rw [List.length_map, List.length_replicate]
      have : sizeLine = 16777216 := rfl
      omega
    · rw [upd_same, List.replicate_succ', List.map_append]
      rfl
    · rw [upd_ne (ne_of_none e hpn)]
      exact s3 _ _ (sH c o e)
  · have e : i = xs.length := by omega
    subst e
    refine .inl ⟨⟨xs, ys, sqB_of (s' _ _ ha), sqB_of (s' _ _ hb), .inl (Nat.le_refl _)⟩, ?_⟩
    refine ⟨p, List.replicate xs.length true, rfl, SqL.of hp', ?_⟩
    have : (List.replicate xs.length true).all id = true := by rw [List.all_eq_true]; intro b hb'; exact (List.eq_of_mem_replicate hb')
    rw [this]
    exact q _ s'
theorem ok_alike {f : Addr} {fd : FuncData} (B : Bt mg) (F : Fun K "_law_alike" "_law_alike" sAlike f fd) (bG : Binds K fd ["found", "due"] []) (mG : mg "_law_alike" = some (.ref f)) :
    ∀ n : Nat, FnOk P w K mg base CX0 (n + 1) f fd ["found", "due"] (spAlike n) := by
  intro n
  induction n with
  | zero =>
    refine F.ok scAlike (fun vs H Q E h => ?_) (fun cdv A outer s H vs Q E hr h => ?_)
    · obtain ⟨v, w, rfl, _⟩ := h; rfl
    obtain ⟨v, w', rfl, ⟨rfl, hf⟩, q⟩ := h
    exact alike_flat (fd := fd) (n := 0) B hf (q H (Same.refl H))
  | succ n ih =>
    refine F.ok scAlike (fun vs H Q E h => ?_) (fun cdv A outer s H vs Q E hr h => ?_)
    · obtain ⟨v, w, rfl, _⟩ := h; rfl
    obtain ⟨v, w', rfl, hL, q⟩ := h
    rcases hL with ⟨rfl, hf⟩ | ⟨a, b, xs, ys, rfl, rfl, h, hz, hp⟩
    · exact alike_flat (fd := fd) (n := 0) B hf (q H (Same.refl H))
    · have hz' : xs.length < 16777216 := by omega
      rcases h with ⟨h1, h2⟩ | ⟨h1, h2⟩
      · exact alike_seq (fl := false) B ih bG F.kp mG hr h1 h2 hp hz' q
      · exact alike_seq (fl := true) B ih bG F.kp mG hr h1 h2 hp hz' q
end
end Tw

namespace Tw
open PySem L2
/-! ### the Walk: its fields in the order of __init__ -/
def wf (pn d pa : Addr) (most : Int) (l : Addr) : List (Str × V) :=
  [("plan", .ref pn), ("numbers", .ref d), ("pieces", .ref pa), ("most", .int most), ("steps", .ref l)]
theorem wf_plan (pn d pa : Addr) (most : Int) (l : Addr) : (wf pn d pa most l).lookup ("plan" : Str) = some (.ref pn) := by
  simp [wf, List.lookup_cons]
theorem wf_numbers (pn d pa : Addr) (most : Int) (l : Addr) : (wf pn d pa most l).lookup ("numbers" : Str) = some (.ref d) := by
  have e0 : (("numbers" : Str) == "plan") = false := by decide +kernel
  simp [wf, List.lookup_cons, e0]
theorem wf_pieces (pn d pa : Addr) (most : Int) (l : Addr) : (wf pn d pa most l).lookup ("pieces" : Str) = some (.ref pa) := by
  have e0 : (("pieces" : Str) == "plan") = false := by decide +kernel
  have e1 : (("pieces" : Str) == "numbers") = false := by decide +kernel
  simp [wf, List.lookup_cons, e0, e1]
theorem wf_most (pn d pa : Addr) (most : Int) (l : Addr) : (wf pn d pa most l).lookup ("most" : Str) = some (.int most) := by
  have e0 : (("most" : Str) == "plan") = false := by decide +kernel
  have e1 : (("most" : Str) == "numbers") = false := by decide +kernel
  have e2 : (("most" : Str) == "pieces") = false := by decide +kernel
  simp [wf, List.lookup_cons, e0, e1, e2]
theorem wf_steps (pn d pa : Addr) (most : Int) (l : Addr) : (wf pn d pa most l).lookup ("steps" : Str) = some (.ref l) := by
  have e0 : (("steps" : Str) == "plan") = false := by decide +kernel
  have e1 : (("steps" : Str) == "numbers") = false := by decide +kernel
  have e2 : (("steps" : Str) == "pieces") = false := by decide +kernel
  have e3 : (("steps" : Str) == "most") = false := by decide +kernel
  simp [wf, List.lookup_cons, e0, e1, e2, e3]
theorem wf_no {x : Str} (h : ∀ y ∈ (["plan", "numbers", "pieces", "most", "steps"] : List Str), (x == y) = false) (pn d pa : Addr) (most : Int) (l : Addr) : (wf pn d pa most l).lookup x = none := by
  simp [wf, List.lookup_cons, h "plan" (by simp), h "numbers" (by simp), h "pieces" (by simp), h "most" (by simp), h "steps" (by simp)]
theorem putF_new {x : Str} {v : V} : ∀ {fs : List (Str × V)}, (∀ p ∈ fs, ¬ p.1 = x) → putF x v fs = fs ++ [(x, v)]
  | [], _ => rfl
  | p :: r, h => by
    obtain ⟨y, u⟩ := p
    show (if y = x then (y, v) :: r else (y, u) :: putF x v r) = _
    rw [if_neg (h (y, u) List.mem_cons_self), putF_new fun p hp => h p (List.mem_cons_of_mem _ hp)]
    rfl
structure WalkAt (C : Addr) (H : Hp) (a d l pa : Addr) (c : Cfg) (s : St8) : Prop where
  ob : ∃ dx pn, H a = some (.ins C dx (wf pn d pa (c.most : Int) l)) ∧ ∃ nm rw mk, H pn = some (.tup [.int c.m, nm, .int (c.pieces.length : Int), rw, mk])
  dc : H d = some (.dK (toK s.nums))
  pc : H pa = some (.tup (c.pieces.map V.int))
  st : ∃ xs, H l = some (.lst xs) ∧ Paired (StepAt H) xs s.steps
  rng : ∀ x v, getN s.nums x = some v → 0 ≤ v ∧ v < 1000
  few : s.nums.length ≤ 100
  mm : 0 < c.m ∧ c.m < 1000
  sm : c.most ≤ 100000 ∧ s.steps.length ≤ c.most
structure Txt (K : PySem.W.Frag) (mg : Str → Option Value) (C : Addr) : Prop where
  cl : Cls K C
  nplan : NoAttr K C "plan"
  nnumbers : NoAttr K C "numbers"
  npieces : NoAttr K C "pieces"
  nmost : NoAttr K C "most"
  nsteps : NoAttr K C "steps"
section
variable {P : Program} {w : World} {K : PySem.W.Frag} {mg : Str → Option Value} {base : Heap}
theorem WalkAt.keep {C : Addr} {H H' : Hp} {a d l pa : Addr} {c : Cfg} {s : St8} (W : WalkAt C H a d l pa c s) (k : Same H H') : WalkAt C H' a d l pa c s :=
  ⟨let ⟨dx, pn, h, nm, rv, mv, h2⟩ := W.ob; ⟨dx, pn, k _ _ h, nm, rv, mv, k _ _ h2⟩, k _ _ W.dc, k _ _ W.pc, let ⟨xs, h, p⟩ := W.st; ⟨xs, k _ _ h, Paired.mapP p fun _ _ z => z.mono (Tups.of k)⟩, W.rng, W.few, W.mm, W.sm⟩
theorem WalkAt.ne {C : Addr} {H : Hp} {a d l pa : Addr} {c : Cfg} {s : St8} (W : WalkAt C H a d l pa c s) : a ≠ d ∧ a ≠ l ∧ d ≠ l ∧ pa ≠ d ∧ pa ≠ l := by
  obtain ⟨dx, pn, h1, _⟩ := W.ob
  obtain ⟨xs, h2, _⟩ := W.st
  exact ⟨ne_of h1 W.dc (by intro z; cases z), ne_of h1 h2 (by intro z; cases z), ne_of W.dc h2 (by intro z; cases z), ne_of W.pc W.dc (by intro z; cases z), ne_of W.pc h2 (by intro z; cases z)⟩
theorem But2.tupsW {C : Addr} {H H' : Hp} {a d l pa : Addr} {c : Cfg} {s : St8} (W : WalkAt C H a d l pa c s) (b : But2 d l H H') : Tups H H' := by
  obtain ⟨xs, h2, _⟩ := W.st
  exact b.tups (xs := []) (.inr ⟨_, W.dc⟩) h2 (fun ys z => nomatch z)
/-- note_step: the steps grow by one -/
def spNote (C : Addr) : Sp := fun vs H Q _ => ∃ (a d l pa : Addr) (c : Cfg) (s : St8) (p : Addr) (pl : List Int) (v : Int), vs = [.ref a, .ref p, .int v] ∧ WalkAt C H a d l pa c s ∧ H p = some (.tup (pl.map V.int)) ∧ s.steps.length < c.most ∧
  ∀ H', WalkAt C H' a d l pa c (s.note pl v) → But2 d l H H' → Q .non H'
theorem scNote : FnScope ["self", "place", "number"] ["self", "place", "number"] (defScope sNote) := ⟨rfl, rfl, rfl, by decide +kernel, rfl, by decide +kernel, by decide +kernel⟩
theorem ok_note {f C : Addr} {fd : FuncData} (F : Fun K "note_step" "Walk.note_step" sNote f fd) (T : Txt K mg C) (B : Bt mg) : FnOk P w K mg base CX0 1 f fd ["self", "place", "number"] (spNote C) := by
  refine F.ok scNote (fun vs H Q E h => ?_) (fun cdv A outer s0 H vs Q E hr h => ?_)
  · obtain ⟨a, d, l, pa, c, s, p, pl, v, rfl, _⟩ := h; rfl
  obtain ⟨a, d, l, pa, c, s, p, pl, v, rfl, W, hp, hm, k⟩ := h
  refine ⟨_, pss_cons (ps_if (pt_cmpR op_ge (pe_callB call_len_seq rfl B.len PySem.boot_len (pa_cons (pe_fld (pv 0) rfl) pa_nil)) (pe_fld (pv 0) rfl) (nomark _)) pss_never pss_nil)
    (pss_one (ps_expr (pe_bm PySem.F.plainAttrs_list PySem.F.slot_list_append PySem.F.type_list_append mt_append (pe_fld (pv 0) rfl) (pa_cons (pe_tup (pa_cons (pv 1) (pa_cons (pv 2) pa_nil))) pa_nil)))), ?_⟩
  obtain ⟨⟨dx, pn, ho, nm, rw, mk, hpn⟩, hd, hpc, ⟨xs, hl, hs⟩, hr1, hf, hmm, hsm⟩ := id W
  obtain ⟨n1, n2, n3, n4, n5⟩ := W.ne
  have hlen := Paired.len hs
  refine ⟨_, rfl, a, C, dx, _, _, rfl, ho, T.cl, T.nsteps, wf_steps _ _ _ _ _, l, xs, rfl, .inl (SqL.of hl), _, rfl, a, C, dx, _, _, rfl, ho, T.cl, T.nmost, wf_most _ _ _ _ _, _, _, rfl, rfl, _, rfl, ite2 (fun z => ?_) (fun _ => ?_)⟩
  · exact absurd (of_decide_eq_true z) (by omega)
  refine ⟨_, rfl, a, C, dx, _, _, rfl, ho, T.cl, T.nsteps, wf_steps _ _ _ _ _, .inl ⟨rfl, xs, SqL.of hl⟩, _, rfl, _, rfl, (by show 2 ≤ sizeLine; decide), fun t ht => ?_⟩
  have st : Same H (upd H t (.tup [.ref p, .int v])) := same_upd ht _
  refine ⟨l, xs, .ref t, rfl, rfl, st _ _ hl, (by have : sizeLine = 16777216 := rfl; omega), ?_⟩
  have e1 : ∀ b o, b ≠ l → H b = some o → upd (upd H t (.tup [.ref p, .int v])) l (.lst (xs ++ [.ref t])) b = some o := fun b o hb hh => by rw [upd_ne hb]; exact st _ _ hh
  have hlt : l ≠ t := ne_of_none hl ht
  have tu : Tups H (upd (upd H t (.tup [.ref p, .int v])) l (.lst (xs ++ [.ref t]))) := fun b zs hh => e1 b _ (ne_of hh hl (by intro z; cases z)) hh
  refine k _ ⟨⟨dx, pn, e1 _ _ n2 ho, nm, rw, mk, tu _ _ hpn⟩, e1 _ _ n3 hd, e1 _ _ n5 hpc, ⟨_, upd_same, Paired.snoc' (Paired.mapP hs fun _ _ z => z.mono tu) ⟨t, p, rfl, ?_, tu _ _ hp⟩⟩, hr1, hf, hmm, hsm.1, ?_⟩ (fun b o hh _ h2 => e1 b o h2 hh)
  · rw [upd_ne hlt.symm, upd_same]
  · show (s.steps ++ [(pl, v)]).length ≤ c.most
    rw [List.length_append, List.length_singleton]
    omega
end
end Tw

namespace Tw
open PySem L2
theorem ifY {c A B : Prop} [Decidable c] (hc : c) (h : A) : if decide c = true then A else B := by rw [decide_eq_true hc]; exact iteT h
theorem ifN {c A B : Prop} [Decidable c] (hc : ¬ c) (h : B) : if decide c = true then A else B := by rw [decide_eq_false hc]; exact iteF h
theorem neS {x y : Str} (h : (x == y) = false) : ¬ V.str x = V.str y := fun z => by
  injection z with z
  rw [z] at h
  simp at h
section
variable {P : Program} {w : World} {K : PySem.W.Frag} {mg : Str → Option Value} {base : Heap}
theorem dget_of {H : Hp} {d : Addr} {s : Nums} {x : Str} {v : Int} (hd : H d = some (.dK (toK s))) (hv : getN s x = some v) : DGet H d (.str x) (some (.int v)) := by
  have := DGet.k (k := Sum.inr x) hd
  rw [toK_val, hv] at this
  exact this
def look1 (v : Int) : Int := if v = 0 then 0 else 1
def spLook (C : Addr) : Sp := fun vs H Q _ => ∃ (a d l pa : Addr) (c : Cfg) (s : St8) (p : Addr) (pl : List Int) (x : Str) (v : Int), vs = [.ref a, .ref p, .str x] ∧ WalkAt C H a d l pa c s ∧ H p = some (.tup (pl.map V.int)) ∧ s.steps.length < c.most ∧ getN s.nums x = some v ∧
  ∀ H', WalkAt C H' a d l pa c (s.note pl (look1 v)) → But2 d l H H' → Q (.int (look1 v)) H'
theorem scLook : FnScope ["self", "place", "name", "seen"] ["self", "place", "name"] (defScope sLook) := ⟨rfl, rfl, rfl, by decide +kernel, rfl, by decide +kernel, by decide +kernel⟩
theorem ok_look {f C g : Addr} {fd gd : FuncData} (F : Fun K "look" "Walk.look" sLook f fd) (T : Txt K mg C) (G : FnOk P w K mg base CX0 1 g gd ["self", "place", "number"] (spNote C)) (bG : Binds K gd ["self", "place", "number"] []) (mG : Meth K C "note_step" g) : FnOk P w K mg base CX0 2 f fd ["self", "place", "name"] (spLook C) := by
  refine F.ok scLook (fun vs H Q E h => ?_) (fun cdv A outer s0 H vs Q E hr h => ?_)
  · obtain ⟨a, d, l, pa, c, s, p, pl, x, v, rfl, _⟩ := h; rfl
  obtain ⟨a, d, l, pa, c, s, p, pl, x, v, rfl, W, hp, hm, hv, k⟩ := h
  have hu := hu_of hr
  refine ⟨_, pss_cons (ps_set (i := 3) scLook.nd rfl (Or.inl rfl) (pe_ifExp (pt_cmpR op_eq (pe_dget hu (pe_fld (pv 0) rfl) (pv 2) (fun _ _ => rfl)) pe_int (nomark _)) pe_int pe_int))
    (pss_cons (ps_expr (pe_meth (pv 0) T.cl mG G hr bG .nil pass0 (pa_cons (pv 1) (pa_cons (pv 3) pa_nil)))) (pss_one (ps_ret (pv 3)))), ?_⟩
  obtain ⟨dx, pndx, ho, _⟩ := W.ob
  refine ⟨_, rfl, a, C, dx, _, _, rfl, ho, T.cl, T.nnumbers, wf_numbers _ _ _ _ _, _, rfl, d, _, rfl, dget_of W.dc hv, rfl, _, rfl, ?_⟩
  have rest : ∀ u : Int, u = look1 v → tSeq (tDrop (tMeth C "note_step" (spNote C) [] E0 (tVar 0) (tCons (tVar 1) (tCons (tVar 3) tNil)))) (tRet (tVar 3)) { nx := fun _ H' => Q .non H', rt := Q } [some (.ref a), some (.ref p), some (.str x), some (.int u)] H := by
    rintro u rfl
    refine ⟨_, rfl, a, dx, _, rfl, ho, wf_no (by decide +kernel) _ _ _ _ _, _, rfl, _, rfl, a, d, l, pa, c, s, p, pl, look1 v, rfl, W, hp, hm, fun H' W' b' => ⟨_, rfl, k H' W' b'⟩⟩
  by_cases hz : v = 0
  · exact ifY (by rw [hz]) (rest 0 (by unfold look1; rw [if_pos hz]))
  · exact ifN (fun z => hz (by injection z)) (rest 1 (by unfold look1; rw [if_neg hz]))

def spJoin : Sp := fun vs H Q _ => ∃ (w : Str) (y z m : Int), vs = [.str w, .int y, .int z, .int m] ∧ isTwo w ∧ 0 < m ∧ 0 ≤ y ∧ y < 1000 ∧ Q (.int (join2 w y z m)) H
theorem scJoin : FnScope ["word", "y", "z", "wheel"] ["word", "y", "z", "wheel"] (defScope sJoin) := ⟨rfl, rfl, rfl, by decide +kernel, rfl, by decide +kernel, by decide +kernel⟩
theorem ok_join {f : Addr} {fd : FuncData} (F : Fun K "joined" "joined" sJoin f fd) : FnOk P w K mg base CX0 1 f fd ["word", "y", "z", "wheel"] spJoin := by
  refine F.ok scJoin (fun vs H Q E h => ?_) (fun cdv A outer s0 H vs Q E hr h => ?_)
  · obtain ⟨w, y, z, m, rfl, _⟩ := h; rfl
  obtain ⟨w, y, z, m, rfl, hw, hm, y0, y1, k⟩ := h
  refine ⟨_, pss_cons (ps_if (pt_cmpR op_eq (pv 0) pe_str (nomark _)) (pss_one (ps_ret (pe_op op_mod (pe_op op_add (pv 1) (pv 2)) (pv 3)))) pss_nil)
    (pss_cons (ps_if (pt_cmpR op_eq (pv 0) pe_str (nomark _)) (pss_one (ps_ret (pe_op op_mod (pe_op op_mul (pv 1) (pv 2)) (pv 3)))) pss_nil)
    (pss_cons (ps_if (pt_cmpR op_eq (pv 0) pe_str (nomark _)) (pss_one (ps_ret (pe_ifExp (pt_cmpR op_lt (pv 1) (pv 2) (nomark _)) pe_int pe_int))) pss_nil)
    (pss_one (ps_ret (pe_ifExp (pt_cmpR op_eq (pv 1) (pv 2) (nomark _)) pe_int pe_int))))), ?_⟩
  refine ⟨_, rfl, rfl, _, rfl, ?_⟩
  rcases hw with rfl | rfl | rfl | rfl
  · refine ifY rfl ⟨_, rfl, _, rfl, _, _, rfl, rfl, _, rfl, _, _, rfl, rfl, hm, ?_⟩
    have e : join2 "sum" y z m = (y + z) % m := by unfold join2; rw [if_pos rfl]
    rw [e] at k; exact k
  · refine ifN (neS (by decide +kernel)) ⟨_, rfl, rfl, _, rfl, ifY rfl ⟨_, rfl, _, rfl, _, _, rfl, rfl, .inl ⟨by omega, by omega⟩, _, rfl, _, _, rfl, rfl, hm, ?_⟩⟩
    have e : join2 "by" y z m = y * z % m := by unfold join2; rw [if_neg (by decide +kernel), if_pos rfl]
    rw [e] at k; exact k
  · refine ifN (neS (by decide +kernel)) ⟨_, rfl, rfl, _, rfl, ifN (neS (by decide +kernel)) ⟨_, rfl, rfl, _, rfl, ifY rfl ⟨_, rfl, _, rfl, _, _, rfl, rfl, _, rfl, ?_⟩⟩⟩
    have e : join2 "less" y z m = if y < z then 1 else 0 := by unfold join2; rw [if_neg (by decide +kernel), if_neg (by decide +kernel), if_pos rfl]
    rw [e] at k
    by_cases hc : y < z
    · rw [if_pos hc] at k; exact ifY hc k
    · rw [if_neg hc] at k; exact ifN hc k
  · refine ifN (neS (by decide +kernel)) ⟨_, rfl, rfl, _, rfl, ifN (neS (by decide +kernel)) ⟨_, rfl, rfl, _, rfl, ifN (neS (by decide +kernel)) ⟨_, rfl, _, rfl, rfl, _, rfl, ?_⟩⟩⟩
    have e : join2 "same" y z m = if y = z then 1 else 0 := by unfold join2; rw [if_neg (by decide +kernel), if_neg (by decide +kernel), if_neg (by decide +kernel)]
    rw [e] at k
    by_cases hc : y = z
    · rw [if_pos hc] at k; exact ifY (by rw [hc]) k
    · rw [if_neg hc] at k; exact ifN (fun q => hc (by injection q)) k
end
end Tw

namespace Tw
open PySem L2
def isBase : Row → Prop
  | .ifr _ _ _ => False
  | .again _ _ => False
  | _ => True
section
variable {P : Program} {w : World} {K : PySem.W.Frag} {mg : Str → Option Value} {base : Heap}
/-- the piece that a row reads, as a value -/
def pieceV (many : Int) (nums : Nums) : Row → Option V
  | .put _ _ => some .non
  | .take _ i => some (.int i)
  | .pick _ y => (getN nums y).bind fun u => if 0 < many then some (.int (u % many)) else none
  | .two _ _ _ _ => some .non
  | _ => none
def spPiece : Sp := fun vs H Q _ => ∃ (pn d : Addr) (m many : Int) (nm rw mk : V) (nums : Nums) (r : V) (row : Row) (n : Nat) (v : V), vs = [.ref pn, .ref d, r] ∧ H pn = some (.tup [.int m, nm, .int many, rw, mk]) ∧ H d = some (.dK (toK nums)) ∧ RowAt H (n + 1) r row ∧ isBase row ∧ pieceV many nums row = some v ∧ Q v H
theorem scPiece : FnScope ["plan", "numbers", "row"] ["plan", "numbers", "row"] (defScope sPiece) := ⟨rfl, rfl, rfl, by decide +kernel, rfl, by decide +kernel, by decide +kernel⟩
theorem ok_piece {f : Addr} {fd : FuncData} (F : Fun K "piece_read" "piece_read" sPiece f fd) : FnOk P w K mg base CX0 1 f fd ["plan", "numbers", "row"] spPiece := by
  refine F.ok scPiece (fun vs H Q E h => ?_) (fun cdv A outer s0 H vs Q E hr h => ?_)
  · obtain ⟨pn, d, m, many, nm, rw, mk, nums, r, row, n, v, rfl, _⟩ := h; rfl
  obtain ⟨pn, d, m, many, nm, rw, mk, nums, r, row, n, v, rfl, hpn, hd, hR, hB, hv, k⟩ := h
  have hu := hu_of hr
  refine ⟨_, pss_cons (ps_if (pt_cmpR op_eq (pe_ix ix_tup (pv 2) pe_int (fun _ _ => rfl)) pe_str (nomark _)) (pss_one (ps_ret (pe_ix ix_tup (pv 2) pe_int (fun _ _ => rfl)))) pss_nil)
    (pss_cons (ps_if (pt_cmpR op_eq (pe_ix ix_tup (pv 2) pe_int (fun _ _ => rfl)) pe_str (nomark _)) (pss_one (ps_ret (pe_op op_mod (pe_dget hu (pv 1) (pe_ix ix_tup (pv 2) pe_int (fun _ _ => rfl)) (fun _ _ => rfl)) (pe_ix ix_tup (pv 0) pe_int (fun _ _ => rfl))))) pss_nil)
    (pss_one (ps_ret pe_non))), ?_⟩
  cases row with
  | put x kk =>
    obtain ⟨t, rfl, ht⟩ := hR
    injection hv with e
    subst e
    exact ⟨_, rfl, t, _, 0, _, rfl, rfl, SqT.of ht, rfl, rfl, _, rfl, ifN (neS (by decide +kernel)) ⟨_, rfl, t, _, 0, _, rfl, rfl, SqT.of ht, rfl, rfl, _, rfl, ifN (neS (by decide +kernel)) k⟩⟩
  | take x i =>
    obtain ⟨t, rfl, ht⟩ := hR
    injection hv with e
    subst e
    exact ⟨_, rfl, t, _, 0, _, rfl, rfl, SqT.of ht, rfl, rfl, _, rfl, ifY rfl ⟨_, rfl, t, _, 2, _, rfl, rfl, SqT.of ht, rfl, k⟩⟩
  | pick x y =>
    obtain ⟨t, rfl, ht⟩ := hR
    simp only [pieceV] at hv
    cases hy : getN nums y with
    | none => rw [hy] at hv; cases hv
    | some u =>
      rw [hy] at hv
      by_cases h0 : 0 < many
      · have e : V.int (u % many) = v := by simpa [h0] using hv
        subst e
        exact ⟨_, rfl, t, _, 0, _, rfl, rfl, SqT.of ht, rfl, rfl, _, rfl, ifN (neS (by decide +kernel)) ⟨_, rfl, t, _, 0, _, rfl, rfl, SqT.of ht, rfl, rfl, _, rfl, ifY rfl
          ⟨_, rfl, _, rfl, t, _, 2, _, rfl, rfl, SqT.of ht, rfl, d, _, rfl, dget_of hd hy, _, rfl, pn, _, 2, _, rfl, rfl, SqT.of hpn, rfl, _, _, rfl, rfl, h0, k⟩⟩⟩
      · simp [h0] at hv
  | two ww x y z =>
    obtain ⟨hw, t, rfl, ht⟩ := hR
    injection hv with e
    subst e
    have n2 : ¬ V.str ww = V.str "take" := by rcases hw with rfl | rfl | rfl | rfl <;> exact neS (by decide +kernel)
    have n3 : ¬ V.str ww = V.str "pick" := by rcases hw with rfl | rfl | rfl | rfl <;> exact neS (by decide +kernel)
    exact ⟨_, rfl, t, _, 0, _, rfl, rfl, SqT.of ht, rfl, rfl, _, rfl, ifN n2 ⟨_, rfl, t, _, 0, _, rfl, rfl, SqT.of ht, rfl, rfl, _, rfl, ifN n3 k⟩⟩
  | ifr x p q => exact hB.elim
  | again x p => exact hB.elim
def spNum : Sp := fun vs H Q _ => ∃ (pn d pa : Addr) (c : Cfg) (nm rw mk : V) (nums : Nums) (r : V) (row : Row) (n : Nat) (v : Int), vs = [.ref pn, .ref d, .ref pa, r] ∧ H pn = some (.tup [.int c.m, nm, .int (c.pieces.length : Int), rw, mk]) ∧ H d = some (.dK (toK nums)) ∧ H pa = some (.tup (c.pieces.map V.int)) ∧ (∀ x v, getN nums x = some v → 0 ≤ v ∧ v < 1000) ∧ 0 < c.m ∧ RowAt H (n + 1) r row ∧ isBase row ∧ number c nums row = some v ∧ Q (.int v) H
theorem scNum : FnScope ["plan", "numbers", "pieces", "row", "piece"] ["plan", "numbers", "pieces", "row"] (defScope sNum) := ⟨rfl, rfl, rfl, by decide +kernel, rfl, by decide +kernel, by decide +kernel⟩
theorem ifNotN {x : V} {A B : Prop} (h : ¬ x = .non) (k : A) : if (!decide (x = V.non)) = true then A else B := by rw [decide_eq_false h]; exact iteT k
theorem ifIsN {A B : Prop} (k : B) : if (!decide (V.non = V.non)) = true then A else B := by rw [decide_eq_true rfl]; exact iteF k
theorem ok_num {f g q : Addr} {fd gd qd : FuncData} (F : Fun K "number_of" "number_of" sNum f fd) (G : FnOk P w K mg base CX0 1 g gd ["word", "y", "z", "wheel"] spJoin) (bG : Binds K gd ["word", "y", "z", "wheel"] []) (kG : PySem.W.keepIn K (.ref g) = true) (mG : mg "joined" = some (.ref g))
    (G2 : FnOk P w K mg base CX0 1 q qd ["plan", "numbers", "row"] spPiece) (bG2 : Binds K qd ["plan", "numbers", "row"] []) (kG2 : PySem.W.keepIn K (.ref q) = true) (mG2 : mg "piece_read" = some (.ref q)) :
    FnOk P w K mg base CX0 2 f fd ["plan", "numbers", "pieces", "row"] spNum := by
  refine F.ok scNum (fun vs H Q E h => ?_) (fun cdv A outer s0 H vs Q E hr h => ?_)
  · obtain ⟨pn, d, pa, c, nm, rw, mk, nums, r, row, n, v, rfl, _⟩ := h; rfl
  obtain ⟨pn, d, pa, c, nm, rw, mk, nums, r, row, n, v, rfl, hpn, hd, hpa, hrg, hm, hR, hB, hv, k⟩ := h
  have hu := hu_of hr
  refine ⟨_, pss_cons (ps_if (pt_cmpR op_eq (pe_ix ix_tup (pv 3) pe_int (fun _ _ => rfl)) pe_str (nomark _)) (pss_one (ps_ret (pe_ix ix_tup (pv 3) pe_int (fun _ _ => rfl)))) pss_nil)
    (pss_cons (ps_set (i := 4) scNum.nd rfl (Or.inl rfl) (pe_call G2 hr rfl mG2 kG2 bG2 .nil pass0 (pa_cons (pv 0) (pa_cons (pv 1) (pa_cons (pv 3) pa_nil)))))
    (pss_cons (ps_if (pt_cmpR op_notN (pv 4) pe_non (nomark _)) (pss_one (ps_ret (pe_ix ix_tup (pv 2) (pv 4) (fun _ _ => rfl)))) pss_nil)
    (pss_one (ps_ret (pe_call G hr rfl mG kG bG .nil pass0 (pa_cons (pe_ix ix_tup (pv 3) pe_int (fun _ _ => rfl)) (pa_cons (pe_dget hu (pv 1) (pe_ix ix_tup (pv 3) pe_int (fun _ _ => rfl)) (fun _ _ => rfl)) (pa_cons (pe_dget hu (pv 1) (pe_ix ix_tup (pv 3) pe_int (fun _ _ => rfl)) (fun _ _ => rfl)) (pa_cons (pe_ix ix_tup (pv 0) pe_int (fun _ _ => rfl)) pa_nil))))))))), ?_⟩
  cases row with
  | put x kk =>
    obtain ⟨t, rfl, ht⟩ := hR
    have e : kk = v := by injection hv
    subst e
    exact ⟨_, rfl, t, _, 0, _, rfl, rfl, SqT.of ht, rfl, rfl, _, rfl, ifY rfl ⟨_, rfl, t, _, 2, _, rfl, rfl, SqT.of ht, rfl, k⟩⟩
  | take x i =>
    obtain ⟨t, rfl, ht⟩ := id hR
    simp only [number] at hv
    by_cases hi : 0 ≤ i
    · rw [if_pos hi] at hv
      have ha : atI (c.pieces.map V.int) i = some (.int v) := by
        have := atI_nat (xs := c.pieces.map V.int) (j := i.toNat) (v := .int v) (by rw [List.getElem?_map, hv]; rfl)
        rwa [show ((i.toNat : Nat) : Int) = i by omega] at this
      exact ⟨_, rfl, t, _, 0, _, rfl, rfl, SqT.of ht, rfl, rfl, _, rfl, ifN (neS (by decide +kernel)) ⟨_, rfl, _, rfl, _, rfl, pn, d, c.m, _, nm, rw, mk, nums, .ref t, .take x i, n, .int i, rfl, hpn, hd, hR, trivial, rfl,
        _, rfl, rfl, _, rfl, ifNotN (by intro z; cases z) ⟨_, rfl, _, rfl, pa, _, i, _, rfl, rfl, SqT.of hpa, ha, k⟩⟩⟩
    · rw [if_neg hi] at hv; cases hv
  | pick x y =>
    obtain ⟨t, rfl, ht⟩ := id hR
    simp only [number] at hv
    cases hy : getN nums y with
    | none => rw [hy] at hv; cases hv
    | some u =>
      rw [hy] at hv
      by_cases h0 : 0 < c.pieces.length
      · have hv' : c.pieces[(u % (c.pieces.length : Int)).toNat]? = some v := by simpa [h0] using hv
        have hm0 : 0 ≤ u % (c.pieces.length : Int) := Int.emod_nonneg _ (by omega)
        have ha : atI (c.pieces.map V.int) (u % (c.pieces.length : Int)) = some (.int v) := by
          have := atI_nat (xs := c.pieces.map V.int) (j := (u % (c.pieces.length : Int)).toNat) (v := .int v) (by rw [List.getElem?_map, hv']; rfl)
          rwa [show (((u % (c.pieces.length : Int)).toNat : Nat) : Int) = u % (c.pieces.length : Int) by omega] at this
        have hpv : pieceV (c.pieces.length : Int) nums (.pick x y) = some (.int (u % (c.pieces.length : Int))) := by
          simp only [pieceV, hy, Option.bind_some]
          rw [if_pos (by omega)]
        exact ⟨_, rfl, t, _, 0, _, rfl, rfl, SqT.of ht, rfl, rfl, _, rfl, ifN (neS (by decide +kernel)) ⟨_, rfl, _, rfl, _, rfl, pn, d, c.m, _, nm, rw, mk, nums, .ref t, .pick x y, n, _, rfl, hpn, hd, hR, trivial, hpv,
          _, rfl, rfl, _, rfl, ifNotN (by intro z; cases z) ⟨_, rfl, _, rfl, pa, _, _, _, rfl, rfl, SqT.of hpa, ha, k⟩⟩⟩
      · simp [h0] at hv
  | two ww x y z =>
    obtain ⟨hw, t, rfl, ht⟩ := id hR
    simp only [number] at hv
    cases hy : getN nums y with
    | none => rw [hy] at hv; cases hv
    | some u =>
      cases hz : getN nums z with
      | none => rw [hy, hz] at hv; cases hv
      | some u2 =>
        rw [hy, hz] at hv
        have e : join2 ww u u2 c.m = v := by injection hv
        have hr1 := hrg y u hy
        have n1 : ¬ V.str ww = V.str "put" := by rcases hw with rfl | rfl | rfl | rfl <;> exact neS (by decide +kernel)
        exact ⟨_, rfl, t, _, 0, _, rfl, rfl, SqT.of ht, rfl, rfl, _, rfl, ifN n1 ⟨_, rfl, _, rfl, _, rfl, pn, d, c.m, _, nm, rw, mk, nums, .ref t, .two ww x y z, n, .non, rfl, hpn, hd, hR, trivial, rfl,
          _, rfl, rfl, _, rfl, ifIsN ⟨_, rfl, t, _, 0, _, rfl, rfl, SqT.of ht, rfl, _, rfl, _, rfl, t, _, 2, _, rfl, rfl, SqT.of ht, rfl, d, _, rfl, dget_of hd hy, _, rfl, _, rfl, t, _, 3, _, rfl, rfl, SqT.of ht, rfl, d, _, rfl, dget_of hd hz, _, rfl, pn, _, 0, _, rfl, rfl, SqT.of hpn, rfl, ww, u, u2, c.m, rfl, hw, hm, hr1.1, hr1.2, by rw [e]; exact k⟩⟩⟩
  | ifr x p q => exact hB.elim
  | again x p => exact hB.elim
end
end Tw

namespace Tw
open PySem L2
section
variable {P : Program} {w : World} {K : PySem.W.Frag} {mg : Str → Option Value} {base : Heap}
/-- rows done from the place pl -/
def spRows (C : Addr) (n : Nat) : Sp := fun vs H Q _ => ∃ (a d l pa : Addr) (c : Cfg) (s s' : St8) (r p : Addr) (pl : List Int) (xs : List V) (rs : List Row), vs = [.ref a, .ref r, .ref p] ∧ WalkAt C H a d l pa c s ∧ H r = some (.tup xs) ∧ Paired (RowAt H n) xs rs ∧ H p = some (.tup (pl.map V.int)) ∧ pl.length + 2 * n ≤ 100 ∧
  DoRows (DoRow c n) rs pl 0 s s' ∧ ∀ H', WalkAt C H' a d l pa c s' → But2 d l H H' → Q .non H'
def spRow (C : Addr) (n : Nat) : Sp := fun vs H Q _ => ∃ (a d l pa : Addr) (c : Cfg) (s s' : St8) (r : V) (p : Addr) (pl : List Int) (row : Row), vs = [.ref a, r, .ref p] ∧ WalkAt C H a d l pa c s ∧ RowAt H n r row ∧ H p = some (.tup (pl.map V.int)) ∧ pl.length + 2 * n ≤ 101 ∧
  DoRow c n row pl s s' ∧ ∀ H', WalkAt C H' a d l pa c s' → But2 d l H H' → Q .non H'
theorem scRows : FnScope ["walk", "rows", "place", "j", "row"] ["walk", "rows", "place"] (defScope sRows) := ⟨rfl, rfl, rfl, by decide +kernel, rfl, by decide +kernel, by decide +kernel⟩
theorem map_snoc (pl : List Int) (j : Int) : pl.map V.int ++ [.int j] = (pl ++ [j]).map V.int := by rw [List.map_append]; rfl
theorem ok_rows {f C g : Addr} {fd gd : FuncData} {n k : Nat} (F : Fun K "do_rows" "do_rows" sRows f fd) (me : mg "enumerate" = none) (G : FnOk P w K mg base CX0 k g gd ["walk", "row", "place"] (spRow C n)) (bG : Binds K gd ["walk", "row", "place"] []) (kG : PySem.W.keepIn K (.ref g) = true) (mG : mg "do_row" = some (.ref g)) :
    FnOk P w K mg base CX0 (k + 1) f fd ["walk", "rows", "place"] (spRows C n) := by
  refine F.ok scRows (fun vs H Q E h => ?_) (fun cdv A outer s0 H vs Q E hr h => ?_)
  · obtain ⟨a, d, l, pa, c, s, s', r, p, pl, xs, rs, rfl, _⟩ := h; rfl
  obtain ⟨a, d, l, pa, c, s, s', r, p, pl, xs, rs, rfl, W, hr0, hrs, hp, hpl, hD, kk⟩ := h
  refine ⟨_, pss_one (ps_for PassesOwn.never rfl (pi_enum false rfl me (pa_cons (pv 1) pa_nil)) (pg_tup (n := 2) rfl (pgs_cons (pg_name (i := 3) scRows.nd rfl (Or.inl rfl)) (pgs_cons (pg_name (i := 4) scRows.nd rfl (Or.inl rfl)) pgs_nil)))
    (pss_one (ps_expr (pe_call G hr rfl mG kG bG .nil pass0 (pa_cons (pv 0) (pa_cons (pv 4) (pa_cons (pe_op op_catA (pv 2) (pe_tup (pa_cons (pv 3) pa_nil))) pa_nil))))))), ?_⟩
  have hlen := Paired.len hrs
  refine ⟨_, rfl, r, xs, rfl, SqT.of hr0, ?_⟩
  refine ⟨fun i m σ H1 => m = xs.length - i ∧ i ≤ xs.length ∧ (∃ u v, σ = [some (.ref a), some (.ref r), some (.ref p), u, v]) ∧ ∃ s1, WalkAt C H1 a d l pa c s1 ∧ DoRows (DoRow c n) (rs.drop i) pl i s1 s' ∧ But2 d l H H1, ⟨xs.length, rfl, Nat.zero_le _, ⟨none, none, rfl⟩, s, W, by simpa using hD, But2.refl⟩, ?_⟩
  rintro i m σ H1 ⟨rfl, hi, ⟨u, v, rfl⟩, s1, W1, D1, b1⟩
  have t1 : Tups H H1 := b1.tupsW W
  by_cases hlt : i < xs.length
  · have hlt2 : i < rs.length := by omega
    refine .inr ⟨⟨xs, xs[i], SqT.of (t1 _ _ hr0), by simp [hlt]⟩, fun σ2 H2 => (∃ u v, σ2 = [some (.ref a), some (.ref r), some (.ref p), u, v]) ∧ ∃ s2, WalkAt C H2 a d l pa c s2 ∧ DoRows (DoRow c n) (rs.drop (i + 1)) pl (i + 1) s2 s' ∧ But2 d l H H2,
      fun σ2 H2 ⟨h1, h2⟩ => ⟨xs.length - (i + 1), by omega, rfl, hlt, h1, h2⟩, ?_⟩
    rintro y H2 ⟨T, x1, hT, rfl, rfl, hx1⟩
    have ex : x1 = xs[i] := by
      have := hx1 xs (SqT.of (t1 _ _ hr0))
      rw [List.getElem?_eq_getElem hlt] at this
      exact (Option.some.inj this).symm
    subst ex
    refine ⟨T, _, rfl, SqT.of upd_same, rfl, _, _, rfl, _, _, rfl, rfl, ?_⟩
    have sT : Same H1 (upd H1 T (.tup [.int i, xs[i]])) := same_upd hT _
    have hrow : RowAt H n xs[i] rs[i] := by
      have : ∀ {l₁ : List V} {l₂ : List Row}, Paired (RowAt H n) l₁ l₂ → ∀ (j : Nat) (h1 : j < l₁.length) (h2 : j < l₂.length), RowAt H n l₁[j] l₂[j] := by
        intro l₁ l₂ p
        induction p with
        | nil => intro j h1; exact absurd h1 (Nat.not_lt_zero _)
        | cons r _ ihp =>
          intro j h1 h2
          cases j with
          | zero => exact r
          | succ j => exact ihp j (by simpa using h1) (by simpa using h2)
      exact this hrs i hlt hlt2
    rw [List.drop_eq_getElem_cons hlt2] at D1
    cases D1 with
    | cons hr1 hrest =>
      rename_i s2
      refine ⟨_, rfl, _, rfl, _, rfl, _, rfl, (by show 1 ≤ sizeLine; decide), fun q hq => ?_⟩
      have sq := same_upd hq (.tup [.int i])
      have hp1 : H1 p = some (.tup (pl.map V.int)) := t1 _ _ hp
      refine ⟨p, q, pl.map V.int, [.int i], rfl, rfl, sq _ _ (sT _ _ hp1), upd_same, (by rw [List.length_map]; have : sizeLine = 16777216 := rfl; simp; omega), fun p2 H3 hp2 s3 => ?_⟩
      rw [map_snoc] at hp2
      have s13 : Same H1 H3 := sT.trans (sq.trans s3)
      refine ⟨a, d, l, pa, c, s1, s2, xs[i], p2, pl ++ [(i : Int)], rs[i], rfl, W1.keep s13, hrow.mono (t1.trans (Tups.of s13)), hp2, (by rw [List.length_append, List.length_singleton]; omega), hr1, fun H4 W4 b4 => ?_⟩
      exact ⟨⟨_, _, rfl⟩, s2, W4, hrest, b1.trans ((But2.of s13).trans b4)⟩
  · have e : i = xs.length := by omega
    subst e
    refine .inl ⟨⟨xs, SqT.of (t1 _ _ hr0), Nat.le_refl _⟩, ?_⟩
    rw [hlen, List.drop_length] at D1
    cases D1
    exact kk H1 W1 b1
end
end Tw

namespace Tw
open PySem L2
/-- a loop, by how many rounds it has -/
def LoopN (most : Nat) (B : Nat → St8 → St8 → Prop) (x : Str) (pl : List Int) : Nat → Nat → St8 → St8 → Prop
  | 0, t, s, s' => getN s.nums x = some 0 ∧ s.steps.length < most ∧ s' = s.note (pl ++ [(t : Int)]) 0
  | n + 1, t, s, s' => ∃ v s1, getN s.nums x = some v ∧ v ≠ 0 ∧ s.steps.length < most ∧ B t (s.note (pl ++ [(t : Int)]) 1) s1 ∧ LoopN most B x pl n (t + 1) s1 s'
theorem loop_n {most : Nat} {B : Nat → St8 → St8 → Prop} {x : Str} {pl : List Int} {t : Nat} {s s' : St8} (h : DoLoop most B x pl t s s') : ∃ n, LoopN most B x pl n t s s' := by
  induction h with
  | stop h1 h2 => exact ⟨0, h1, h2, rfl⟩
  | go h1 h2 h3 h4 _ ih =>
    obtain ⟨n, h⟩ := ih
    exact ⟨n + 1, _, _, h1, h2, h3, h4, h⟩
section
variable {P : Program} {w : World} {K : PySem.W.Frag} {mg : Str → Option Value} {base : Heap}
def spIf (C : Addr) (n : Nat) : Sp := fun vs H Q _ => ∃ (a d l pa : Addr) (c : Cfg) (s s' : St8) (r : V) (p : Addr) (pl : List Int) (x : Str) (ra rb : List Row), vs = [.ref a, r, .ref p] ∧ WalkAt C H a d l pa c s ∧ RowAt H (n + 1) r (.ifr x ra rb) ∧ H p = some (.tup (pl.map V.int)) ∧ pl.length + 2 * n ≤ 99 ∧
  DoRow c (n + 1) (.ifr x ra rb) pl s s' ∧ ∀ H', WalkAt C H' a d l pa c s' → But2 d l H H' → Q .non H'
theorem scIf : FnScope ["walk", "row", "place", "seen"] ["walk", "row", "place"] (defScope sIf) := ⟨rfl, rfl, rfl, by decide +kernel, rfl, by decide +kernel, by decide +kernel⟩
theorem ok_if {f C g gl : Addr} {fd gd gld : FuncData} {n k : Nat} (hk : 2 ≤ k) (F : Fun K "do_if" "do_if" sIf f fd) (T : Txt K mg C) (G : FnOk P w K mg base CX0 k g gd ["walk", "rows", "place"] (spRows C n)) (bG : Binds K gd ["walk", "rows", "place"] []) (kG : PySem.W.keepIn K (.ref g) = true) (mG : mg "do_rows" = some (.ref g))
    (L : FnOk P w K mg base CX0 2 gl gld ["self", "place", "name"] (spLook C)) (bL : Binds K gld ["self", "place", "name"] []) (mL : Meth K C "look" gl) : FnOk P w K mg base CX0 (k + 1) f fd ["walk", "row", "place"] (spIf C n) := by
  refine F.ok scIf (fun vs H Q E h => ?_) (fun cdv A outer s0 H vs Q E hr h => ?_)
  · obtain ⟨a, d, l, pa, c, s, s', r, p, pl, x, ra, rb, rfl, _⟩ := h; rfl
  obtain ⟨a, d, l, pa, c, s, s', r, p, pl, x, ra, rb, rfl, W, hR, hp, hpl, hD, kk⟩ := h
  refine ⟨_, pss_cons (ps_set (i := 3) scIf.nd rfl (Or.inl rfl) (pe_meth (pv 0) T.cl mL L (hr.mono hk) bL .nil pass0 (pa_cons (pv 2) (pa_cons (pe_ix ix_tup (pv 1) pe_int (fun _ _ => rfl)) pa_nil))))
    (pss_one (ps_expr (pe_call G hr rfl mG kG bG .nil pass0 (pa_cons (pv 0) (pa_cons (pe_ifExp (pt_cmpR op_eq (pv 3) pe_int (nomark _)) (pe_ix ix_tup (pv 1) pe_int (fun _ _ => rfl)) (pe_ix ix_tup (pv 1) pe_int (fun _ _ => rfl))) (pa_cons (pe_op op_catA (pv 2) (pe_tup (pa_cons (pv 3) pa_nil))) pa_nil)))))), ?_⟩
  obtain ⟨t, b, cc, xs, ys, rfl, ht, hb, hc, hA, hB⟩ := hR
  obtain ⟨v, hv, hm, hD⟩ := hD
  obtain ⟨dx, pndx, ho, _⟩ := W.ob
  refine ⟨_, rfl, a, dx, _, rfl, ho, wf_no (by decide +kernel) _ _ _ _ _, _, rfl, _, rfl, t, _, 1, _, rfl, rfl, SqT.of ht, rfl, a, d, l, pa, c, s, p, pl, x, v, rfl, W, hp, hm, hv, fun H1 W1 b1 => ?_⟩
  have t1 : Tups H H1 := b1.tupsW W
  have fin : ∀ (br : Addr) (zs : List V) (rs : List Row) (u : Int), u = look1 v → H br = some (.tup zs) → Paired (RowAt H n) zs rs → DoRows (DoRow c n) rs (pl ++ [u]) 0 (s.note pl u) s' →
      tCons (tOp (rCatA K) (tVar 2) (tTup (tCons (tVar 3) tNil))) tNil [some (.ref a), some (.ref t), some (.ref p), some (.int u)] H1 fun xs2 H2 => spRows C n (([.ref a, .ref br] ++ xs2) ++ []) H2 (fun _ H' => Q .non H') E0 := by
    rintro br zs rs u rfl hbr hzs hd
    refine ⟨_, rfl, _, rfl, (by show 1 ≤ sizeLine; decide), fun q hq => ?_⟩
    have sq := same_upd hq (.tup [.int (look1 v)])
    refine ⟨p, q, pl.map V.int, [.int (look1 v)], rfl, rfl, sq _ _ (t1 _ _ hp), upd_same, (by rw [List.length_map]; have : sizeLine = 16777216 := rfl; simp; omega), fun p2 H3 hp2 s3 => ?_⟩
    rw [map_snoc] at hp2
    have s13 : Same H1 H3 := sq.trans s3
    have tt : Tups H H3 := t1.trans (Tups.of s13)
    exact ⟨a, d, l, pa, c, _, s', br, p2, pl ++ [look1 v], zs, rs, rfl, W1.keep s13, tt _ _ hbr, Paired.mapP hzs fun _ _ z => z.mono tt, hp2, (by rw [List.length_append, List.length_singleton]; omega), hd, fun H4 W4 b4 => kk H4 W4 (b1.trans ((But2.of s13).trans b4))⟩
  refine ⟨_, rfl, _, rfl, rfl, _, rfl, ?_⟩
  by_cases hz : v = 0
  · have e : look1 v = 0 := by unfold look1; rw [if_pos hz]
    rw [if_pos hz, if_pos hz] at hD
    refine ifN (fun q => by injection q with q; rw [e] at q; exact absurd q (by decide)) ?_
    exact ⟨_, rfl, t, _, 3, _, rfl, rfl, SqT.of (t1 _ _ ht), rfl, fin cc ys rb (look1 v) rfl hc hB (by rw [e]; exact hD)⟩
  · have e : look1 v = 1 := by unfold look1; rw [if_neg hz]
    rw [if_neg hz, if_neg hz] at hD
    refine ifY (by rw [e]) ?_
    exact ⟨_, rfl, t, _, 2, _, rfl, rfl, SqT.of (t1 _ _ ht), rfl, fin b xs ra (look1 v) rfl hb hA (by rw [e]; exact hD)⟩

def spAgain (C : Addr) (n : Nat) : Sp := fun vs H Q _ => ∃ (a d l pa : Addr) (c : Cfg) (s s' : St8) (r : V) (p : Addr) (pl : List Int) (x : Str) (ra : List Row), vs = [.ref a, r, .ref p] ∧ WalkAt C H a d l pa c s ∧ RowAt H (n + 1) r (.again x ra) ∧ H p = some (.tup (pl.map V.int)) ∧ pl.length + 2 * n ≤ 99 ∧
  DoRow c (n + 1) (.again x ra) pl s s' ∧ ∀ H', WalkAt C H' a d l pa c s' → But2 d l H H' → Q .non H'
theorem scAgain : FnScope ["walk", "row", "place", "turn"] ["walk", "row", "place"] (defScope sAgain) := ⟨rfl, rfl, rfl, by decide +kernel, rfl, by decide +kernel, by decide +kernel⟩
theorem ok_again {f C g gl : Addr} {fd gd gld : FuncData} {n k : Nat} (hk : 2 ≤ k) (F : Fun K "do_again" "do_again" sAgain f fd) (T : Txt K mg C) (G : FnOk P w K mg base CX0 k g gd ["walk", "rows", "place"] (spRows C n)) (bG : Binds K gd ["walk", "rows", "place"] []) (kG : PySem.W.keepIn K (.ref g) = true) (mG : mg "do_rows" = some (.ref g))
    (L : FnOk P w K mg base CX0 2 gl gld ["self", "place", "name"] (spLook C)) (bL : Binds K gld ["self", "place", "name"] []) (mL : Meth K C "look" gl) : FnOk P w K mg base CX0 (k + 1) f fd ["walk", "row", "place"] (spAgain C n) := by
  refine F.ok scAgain (fun vs H Q E h => ?_) (fun cdv A outer s0 H vs Q E hr h => ?_)
  · obtain ⟨a, d, l, pa, c, s, s', r, p, pl, x, ra, rfl, _⟩ := h; rfl
  obtain ⟨a, d, l, pa, c, s, s', r, p, pl, x, ra, rfl, W, hR, hp, hpl, hD, kk⟩ := h
  refine ⟨_, pss_cons (ps_set (i := 3) scAgain.nd rfl (Or.inl rfl) pe_int)
    (pss_one (ps_while PassesOwn.never (pt_cmpR op_eq (pe_meth (pv 0) T.cl mL L (hr.mono hk) bL .nil pass0 (pa_cons (pe_op op_catA (pv 2) (pe_tup (pa_cons (pv 3) pa_nil))) (pa_cons (pe_ix ix_tup (pv 1) pe_int (fun _ _ => rfl)) pa_nil))) pe_int (nomark _))
      (pss_cons (ps_expr (pe_call G hr rfl mG kG bG .nil pass0 (pa_cons (pv 0) (pa_cons (pe_ix ix_tup (pv 1) pe_int (fun _ _ => rfl)) (pa_cons (pe_op op_catA (pv 2) (pe_tup (pa_cons (pv 3) pa_nil))) pa_nil)))))
      (pss_one (ps_aug (i := 3) scAgain.nd rfl (Or.inl rfl) pe_int ip_add))))), ?_⟩
  obtain ⟨t, b, xs, rfl, ht, hb, hA⟩ := hR
  obtain ⟨n0, hL⟩ := loop_n (show DoLoop c.most _ x pl 0 s s' from hD)
  refine ⟨fun m σ H1 => ∃ (tt : Nat) (s1 : St8), σ = [some (.ref a), some (.ref t), some (.ref p), some (.int tt)] ∧ WalkAt C H1 a d l pa c s1 ∧ LoopN c.most (fun t s1 s2 => DoRows (DoRow c n) ra (pl ++ [(t : Int)]) 0 s1 s2) x pl m tt s1 s' ∧ But2 d l H H1, ⟨n0, 0, s, rfl, W, hL, But2.refl⟩, ?_⟩
  rintro m σ H1 ⟨tt, s1, rfl, W1, L1, b1⟩
  have t1 : Tups H H1 := b1.tupsW W
  obtain ⟨dx, pndx, ho, _⟩ := W1.ob
  have cat : ∀ (H2 : Hp) (Q2 : VK), Tups H H2 → (∀ p2 H3, H3 p2 = some (.tup ((pl ++ [(tt : Int)]).map V.int)) → Same H2 H3 → Q2 (.ref p2) H3) → tOp (rCatA K) (tVar 2) (tTup (tCons (tVar 3) tNil)) [some (.ref a), some (.ref t), some (.ref p), some (.int tt)] H2 Q2 := by
    intro H2 Q2 t2 q2
    refine ⟨_, rfl, _, rfl, (by show 1 ≤ sizeLine; decide), fun q hq => ?_⟩
    have sq := same_upd hq (.tup [.int tt])
    refine ⟨p, q, pl.map V.int, [.int tt], rfl, rfl, sq _ _ (t2 _ _ hp), upd_same, (by rw [List.length_map]; have : sizeLine = 16777216 := rfl; simp; omega), fun p2 H3 hp2 s3 => ?_⟩
    rw [map_snoc] at hp2
    exact q2 p2 H3 hp2 (sq.trans s3)
  have hlk : ∃ v, getN s1.nums x = some v ∧ s1.steps.length < c.most := by
    cases m with
    | zero => exact ⟨0, L1.1, L1.2.1⟩
    | succ m => obtain ⟨v, s2, h1, h2, h3, _⟩ := L1; exact ⟨v, h1, h3⟩
  obtain ⟨v, hv, hm⟩ := hlk
  refine ⟨_, rfl, a, dx, _, rfl, ho, wf_no (by decide +kernel) _ _ _ _ _, cat H1 _ t1 fun p2 H2 hp2 s2 => ?_⟩
  have t2 : Tups H H2 := t1.trans (Tups.of s2)
  refine ⟨_, rfl, t, _, 1, _, rfl, rfl, SqT.of (t2 _ _ ht), rfl, a, d, l, pa, c, s1, p2, pl ++ [(tt : Int)], x, v, rfl, W1.keep s2, hp2, hm, hv, fun H3 W3 b3 => ?_⟩
  have b13 : But2 d l H H3 := b1.trans ((But2.of s2).trans b3)
  have t3 : Tups H H3 := b13.tupsW W
  refine ⟨rfl, _, rfl, ?_⟩
  cases m with
  | zero =>
    obtain ⟨h1, h2, rfl⟩ := L1
    rw [hv] at h1
    have e0 : v = 0 := Option.some.inj h1
    subst e0
    exact ifN (fun q => by injection q with q; exact absurd q (by decide)) (kk H3 W3 b13)
  | succ m =>
    obtain ⟨v', s2', h1, h2, h3, h4, h5⟩ := L1
    rw [hv] at h1
    have e0 : v = v' := Option.some.inj h1
    subst e0
    have el : look1 v = 1 := by unfold look1; rw [if_neg h2]
    rw [el] at W3
    refine ifY (by rw [el]) ?_
    refine ⟨fun σ2 H2 => ∃ (s2 : St8), σ2 = [some (.ref a), some (.ref t), some (.ref p), some (.int ((tt + 1 : Nat) : Int))] ∧ WalkAt C H2 a d l pa c s2 ∧ LoopN c.most (fun t s1 s2 => DoRows (DoRow c n) ra (pl ++ [(t : Int)]) 0 s1 s2) x pl m (tt + 1) s2 s' ∧ But2 d l H H2,
      fun σ2 H2 ⟨s2, e1, w2, l2, b2⟩ => ⟨m, Nat.lt_succ_self _, tt + 1, s2, e1, w2, l2, b2⟩, ?_⟩
    refine ⟨_, rfl, _, rfl, t, _, 2, _, rfl, rfl, SqT.of (t3 _ _ ht), rfl, cat H3 _ t3 fun p3 H4 hp3 s4 => ?_⟩
    have t4 : Tups H H4 := t3.trans (Tups.of s4)
    refine ⟨a, d, l, pa, c, _, s2', b, p3, pl ++ [(tt : Int)], xs, ra, rfl, W3.keep s4, t4 _ _ hb, Paired.mapP hA fun _ _ z => z.mono t4, hp3, (by rw [List.length_append, List.length_singleton]; omega), h4, fun H5 W5 b5 => ?_⟩
    exact ⟨_, rfl, _, _, rfl, rfl, s2', rfl, W5, h5, b13.trans ((But2.of s4).trans b5)⟩
end
end Tw

namespace Tw
open PySem L2
/-- the word of a row, as its first part -/
theorem row_word {H : Hp} {n : Nat} {v : V} {r : Row} (h : RowAt H (n + 1) v r) (hB : isBase r) : ∃ (a : Addr) (wd : Str) (more : List V), v = .ref a ∧ H a = some (.tup (.str wd :: .str (rowX r) :: more)) ∧ ¬ V.str wd = V.str "if" ∧ ¬ V.str wd = V.str "again" := by
  cases r with
  | put x k => obtain ⟨a, e, h⟩ := h; exact ⟨a, _, _, e, h, neS (by decide +kernel), neS (by decide +kernel)⟩
  | take x k => obtain ⟨a, e, h⟩ := h; exact ⟨a, _, _, e, h, neS (by decide +kernel), neS (by decide +kernel)⟩
  | pick x k => obtain ⟨a, e, h⟩ := h; exact ⟨a, _, _, e, h, neS (by decide +kernel), neS (by decide +kernel)⟩
  | two w x y z =>
    obtain ⟨hw, a, e, h⟩ := h
    refine ⟨a, _, _, e, h, ?_, ?_⟩ <;> rcases hw with rfl | rfl | rfl | rfl <;> exact neS (by decide +kernel)
  | ifr x p q => exact hB.elim
  | again x p => exact hB.elim
theorem base_do {c : Cfg} {n : Nat} {r : Row} {pl : List Int} {s s' : St8} (hB : isBase r) (h : DoRow c (n + 1) r pl s s') :
    ∃ v u, number c s.nums r = some v ∧ 0 ≤ v ∧ v < 1000 ∧ s.steps.length < c.most ∧ getN s.nums (rowX r) = some u ∧ s' = { nums := setN s.nums (rowX r) v, steps := s.steps ++ [(pl, v)] } := by
  cases r with
  | put x k => exact h
  | take x k => exact h
  | pick x k => exact h
  | two w x y z => exact h
  | ifr x p q => exact hB.elim
  | again x p => exact hB.elim
section
variable {P : Program} {w : World} {K : PySem.W.Frag} {mg : Str → Option Value} {base : Heap}
theorem scRow : FnScope ["walk", "row", "place", "number"] ["walk", "row", "place"] (defScope sRow) := ⟨rfl, rfl, rfl, by decide +kernel, rfl, by decide +kernel, by decide +kernel⟩
structure Fns (P : Program) (w : World) (K : PySem.W.Frag) (mg : Str → Option Value) (base : Heap) (C : Addr) (fI fA fN fS : Addr) (dI dA dN dS : FuncData) : Prop where
  bI : Binds K dI ["walk", "row", "place"] []
  kI : PySem.W.keepIn K (.ref fI) = true
  mI : mg "do_if" = some (.ref fI)
  bA : Binds K dA ["walk", "row", "place"] []
  kA : PySem.W.keepIn K (.ref fA) = true
  mA : mg "do_again" = some (.ref fA)
  nN : FnOk P w K mg base CX0 2 fN dN ["plan", "numbers", "pieces", "row"] spNum
  bN : Binds K dN ["plan", "numbers", "pieces", "row"] []
  kN : PySem.W.keepIn K (.ref fN) = true
  mN : mg "number_of" = some (.ref fN)
  nS : FnOk P w K mg base CX0 1 fS dS ["self", "place", "number"] (spNote C)
  bS : Binds K dS ["self", "place", "number"] []
  mS : Meth K C "note_step" fS
theorem ok_row {f C fI fA fN fS : Addr} {fd dI dA dN dS : FuncData} {n k : Nat} (hk : 2 ≤ k) (F : Fun K "do_row" "do_row" sRow f fd) (T : Txt K mg C) (E : Fns P w K mg base C fI fA fN fS dI dA dN dS)
    (GI : FnOk P w K mg base CX0 k fI dI ["walk", "row", "place"] (spIf C n)) (GA : FnOk P w K mg base CX0 k fA dA ["walk", "row", "place"] (spAgain C n)) : FnOk P w K mg base CX0 (k + 1) f fd ["walk", "row", "place"] (spRow C (n + 1)) := by
  refine F.ok scRow (fun vs H Q E h => ?_) (fun cdv A outer s0 H vs Q E' hr h => ?_)
  · obtain ⟨a, d, l, pa, c, s, s', r, p, pl, row, rfl, _⟩ := h; rfl
  obtain ⟨a, d, l, pa, c, s, s', r, p, pl, row, rfl, W, hR, hp, hpl, hD, kk⟩ := h
  have hu := hu_of hr
  refine ⟨_, pss_one (ps_if (pt_cmpR op_eq (pe_ix ix_tup (pv 1) pe_int (fun _ _ => rfl)) pe_str (nomark _)) (pss_one (ps_expr (pe_call GI hr rfl E.mI E.kI E.bI .nil pass0 (pa_cons (pv 0) (pa_cons (pv 1) (pa_cons (pv 2) pa_nil))))))
    (pss_one (ps_if (pt_cmpR op_eq (pe_ix ix_tup (pv 1) pe_int (fun _ _ => rfl)) pe_str (nomark _)) (pss_one (ps_expr (pe_call GA hr rfl E.mA E.kA E.bA .nil pass0 (pa_cons (pv 0) (pa_cons (pv 1) (pa_cons (pv 2) pa_nil))))))
      (pss_cons (ps_set (i := 3) scRow.nd rfl (Or.inl rfl) (pe_call E.nN (hr.mono hk) rfl E.mN E.kN E.bN .nil pass0 (pa_cons (pe_fld (pv 0) rfl) (pa_cons (pe_fld (pv 0) rfl) (pa_cons (pe_fld (pv 0) rfl) (pa_cons (pv 1) pa_nil))))))
      (pss_cons (ps_expr (pe_meth (pv 0) T.cl E.mS E.nS (hr.mono (by omega)) E.bS .nil pass0 (pa_cons (pv 2) (pa_cons (pv 3) pa_nil))))
      (pss_one (ps_dput hu (pe_fld (pv 0) rfl) (pe_ix ix_tup (pv 1) pe_int (fun _ _ => rfl)) (pv 3) rfl))))))), ?_⟩
  by_cases hB : isBase row
  · obtain ⟨v, u, hv, v0, v1, hm, hx, rfl⟩ := base_do hB hD
    obtain ⟨t, wd, more, rfl, ht, n1, n2⟩ := row_word hR hB
    obtain ⟨dx, pn, ho, nm, rwv, mk, hpn⟩ := W.ob
    refine ⟨_, rfl, t, _, 0, _, rfl, rfl, SqT.of ht, atI_nat (j := 0) rfl, rfl, _, rfl, ifN n1 ?_⟩
    refine ⟨_, rfl, t, _, 0, _, rfl, rfl, SqT.of ht, atI_nat (j := 0) rfl, rfl, _, rfl, ifN n2 ?_⟩
    refine ⟨_, rfl, a, C, dx, _, _, rfl, ho, T.cl, T.nplan, wf_plan _ _ _ _ _, _, rfl, a, C, dx, _, _, rfl, ho, T.cl, T.nnumbers, wf_numbers _ _ _ _ _, _, rfl, a, C, dx, _, _, rfl, ho, T.cl, T.npieces, wf_pieces _ _ _ _ _, _, rfl, pn, d, pa, c, nm, rwv, mk, s.nums, .ref t, row, n, v, rfl, hpn, W.dc, W.pc, W.rng, W.mm.1, hR, hB, hv, ?_⟩
    refine ⟨_, rfl, a, dx, _, rfl, ho, wf_no (by decide +kernel) _ _ _ _ _, _, rfl, _, rfl, a, d, l, pa, c, s, p, pl, v, rfl, W, hp, hm, fun H1 W1 b1 => ?_⟩
    have t1 : Tups H H1 := b1.tupsW W
    obtain ⟨dx1, pn1, ho1, nm1, rw1, mk1, hpn1⟩ := W1.ob
    obtain ⟨m1, m2, m3, m4, m5⟩ := W1.ne
    refine ⟨_, rfl, _, rfl, a, C, dx1, _, _, rfl, ho1, T.cl, T.nnumbers, wf_numbers _ _ _ _ _, _, rfl, t, _, 1, _, rfl, rfl, SqT.of (t1 _ _ ht), atI_nat (j := 1) rfl, d, _, rfl, DPut.k (k := Sum.inr (rowX row)) W1.dc (by have := W1.few; unfold toK; rw [List.length_map]; exact small1000 (by omega)), ?_⟩
    have ep : putK (toK (s.note pl v).nums) (Sum.inr (rowX row)) (.int v) = toK (setN s.nums (rowX row) v) := toK_put (s := s.nums) hx
    rw [ep]
    obtain ⟨xs, hl, hs⟩ := W1.st
    have t2 : Tups H1 (upd H1 d (.dK (toK (setN s.nums (rowX row) v)))) := fun b zs hh => by rw [upd_ne (ne_of hh W1.dc (by intro z; cases z))]; exact hh
    refine kk _ ⟨⟨dx1, pn1, by rw [upd_ne m1]; exact ho1, nm1, rw1, mk1, t2 _ _ hpn1⟩, upd_same, by rw [upd_ne m4]; exact W1.pc, ⟨xs, by rw [upd_ne m3.symm]; exact hl, Paired.mapP hs fun _ _ z => z.mono t2⟩, fun y z hy => ?_, by rw [set_len]; exact W.few, W.mm, W1.sm⟩ (b1.trans but2_upd)
    rw [get_set hx] at hy
    split at hy
    · cases hy; exact ⟨v0, v1⟩
    · exact W.rng y z hy
  cases row with
  | put x kk => exact absurd trivial hB
  | take x i => exact absurd trivial hB
  | pick x y => exact absurd trivial hB
  | two ww x y z => exact absurd trivial hB
  | ifr x ra rb =>
    obtain ⟨t, b, cc, xs, ys, rfl, ht, hrest⟩ := id hR
    exact ⟨_, rfl, t, _, 0, _, rfl, rfl, SqT.of ht, rfl, rfl, _, rfl, ifY rfl ⟨_, rfl, _, rfl, _, rfl, a, d, l, pa, c, s, s', .ref t, p, pl, x, ra, rb, rfl, W, hR, hp, by omega, hD, kk⟩⟩
  | again x ra =>
    obtain ⟨t, b, xs, rfl, ht, hrest⟩ := id hR
    exact ⟨_, rfl, t, _, 0, _, rfl, rfl, SqT.of ht, rfl, rfl, _, rfl, ifN (neS (by decide +kernel)) ⟨_, rfl, t, _, 0, _, rfl, rfl, SqT.of ht, rfl, rfl, _, rfl, ifY rfl ⟨_, rfl, _, rfl, _, rfl, a, d, l, pa, c, s, s', .ref t, p, pl, x, ra, rfl, W, hR, hp, by omega, hD, kk⟩⟩⟩
end
end Tw

namespace Tw
open PySem L2
theorem wf_build (pn d pa : Addr) (most : Int) (l : Addr) :
    putF "steps" (.ref l) (putF "most" (.int most) (putF "pieces" (.ref pa) (putF "numbers" (.ref d) (putF "plan" (.ref pn) [])))) = wf pn d pa most l := by
  have e1 : ¬ ("plan" : Str) = "numbers" := by decide +kernel
  have e2 : ¬ ("plan" : Str) = "pieces" := by decide +kernel
  have e3 : ¬ ("numbers" : Str) = "pieces" := by decide +kernel
  have e4 : ¬ ("plan" : Str) = "most" := by decide +kernel
  have e5 : ¬ ("numbers" : Str) = "most" := by decide +kernel
  have e6 : ¬ ("pieces" : Str) = "most" := by decide +kernel
  have e7 : ¬ ("plan" : Str) = "steps" := by decide +kernel
  have e8 : ¬ ("numbers" : Str) = "steps" := by decide +kernel
  have e9 : ¬ ("pieces" : Str) = "steps" := by decide +kernel
  have e10 : ¬ ("most" : Str) = "steps" := by decide +kernel
  simp only [putF, if_neg e1, if_neg e2, if_neg e3, if_neg e4, if_neg e5, if_neg e6, if_neg e7, if_neg e8, if_neg e9, if_neg e10, wf]
theorem len_le (f : Str) (v : V) (fs : List (Str × V)) : (putF f v fs).length ≤ fs.length + 1 := length_putF f v fs
/-- a dict filled by keys that all differ -/
theorem fold_nodup : ∀ (names : List Str) (vs : List Int) (acc : Nums), names.Nodup → (∀ x ∈ names, ∀ p ∈ acc, ¬ p.1 = x) → names.length = vs.length →
    ((names.map (Sum.inr : Str → Key)).zip (vs.map V.int)).foldl (fun a p => putK a p.1 p.2) (toK acc) = toK (acc ++ names.zip vs)
  | [], [], acc, _, _, _ => by simp [toK]
  | [], _ :: _, _, _, _, h => by simp at h
  | _ :: _, [], _, _, _, h => by simp at h
  | x :: xs, v :: vs, acc, nd, hn, hl => by
    have e : putK (toK acc) (Sum.inr x) (.int v) = toK (acc ++ [(x, v)]) := by
      unfold putK
      rw [if_neg]
      · unfold toK; rw [List.map_append]; rfl
      · intro z
        obtain ⟨kv, h1, h2⟩ := List.any_eq_true.mp z
        unfold toK at h1
        obtain ⟨p, hp, rfl⟩ := List.mem_map.mp h1
        exact hn x List.mem_cons_self p hp (Sum.inr.inj (of_decide_eq_true h2))
    rw [List.map_cons, List.map_cons, List.zip_cons_cons, List.foldl_cons]
    show List.foldl _ (putK (toK acc) (Sum.inr x) (.int v)) _ = _
    rw [e, fold_nodup xs vs (acc ++ [(x, v)]) (List.nodup_cons.mp nd).2 ?_ (by simpa using hl)]
    · rw [List.zip_cons_cons, List.append_assoc]; rfl
    · intro y hy p hp
      rcases List.mem_append.mp hp with z | z
      · exact hn y (List.mem_cons_of_mem _ hy) p z
      · have z' : p = (x, v) := by simpa using z
        subst z'
        intro q
        have q' : x = y := q
        subst q'
        exact (List.nodup_cons.mp nd).1 hy
structure PlanAt (H : Hp) (pl st : Addr) (m : Int) (names : List Str) (many : Int) (rw : Addr) (mark : V) (nums : List Int) (pc : Addr) (pieces : List Int) : Prop where
  plan : ∃ nm, H pl = some (.tup [.int m, .ref nm, .int many, .ref rw, mark]) ∧ H nm = some (.tup (names.map V.str))
  stand : ∃ nu, H st = some (.tup [.ref nu, .ref pc]) ∧ H nu = some (.tup (nums.map V.int))
  pcs : H pc = some (.tup (pieces.map V.int))
  lens : names.length = nums.length
  some_ : 0 < names.length ∧ names.length ≤ 100
  nd : names.Nodup
  mny : many = (pieces.length : Int)
  rng : ∀ v ∈ nums, 0 ≤ v ∧ v < 1000
  mm : 0 < m ∧ m < 1000
theorem PlanAt.keep {H H' : Hp} {pl st : Addr} {m : Int} {names : List Str} {many : Int} {rw : Addr} {mark : V} {nums : List Int} {pc : Addr} {pieces : List Int} (h : PlanAt H pl st m names many rw mark nums pc pieces) (t : Tups H H') : PlanAt H' pl st m names many rw mark nums pc pieces :=
  ⟨let ⟨nm, h1, h2⟩ := h.plan; ⟨nm, t _ _ h1, t _ _ h2⟩, let ⟨nu, h1, h2⟩ := h.stand; ⟨nu, t _ _ h1, t _ _ h2⟩, t _ _ h.pcs, h.lens, h.some_, h.nd, h.mny, h.rng, h.mm⟩
theorem get_zip_mem {x : Str} {v : Int} : ∀ {names : List Str} {nums : List Int}, getN (names.zip nums) x = some v → v ∈ nums
  | [], _, h => by simp [getN] at h
  | _ :: _, [], h => by simp [getN] at h
  | n :: ns, u :: us, h => by
    unfold getN at h
    rw [List.zip_cons_cons, List.find?_cons] at h
    by_cases e : n = x
    · simp only [decide_eq_true e] at h
      have : u = v := by simpa using h
      subst this
      exact List.mem_cons_self
    · simp only [decide_eq_false e] at h
      exact List.mem_cons_of_mem _ (get_zip_mem (names := ns) (nums := us) (by unfold getN; exact h))
section
variable {P : Program} {w : World} {K : PySem.W.Frag} {mg : Str → Option Value} {base : Heap}
theorem row0 {C f : Addr} {fd : FuncData} {k : Nat} : FnOk P w K mg base CX0 k f fd ["walk", "row", "place"] (spRow C 0) := by
  have no : ∀ vs H Q E, ¬ spRow C 0 vs H Q E := fun vs H Q E h => by
    obtain ⟨a, d, l, pa, c, s, s', r, p, pl, row, _, _, hR, _⟩ := h
    exact hR
  exact ⟨fun vs H Q E h => absurd h (no vs H Q E), fun A outer s H args us vs Q E _ _ _ _ h => absurd h (no vs H Q E)⟩
theorem all_rows {C fR fW fI fA fN fS fL : Addr} {dR dW dI dA dN dS dL : FuncData} (T : Txt K mg C) (me : mg "enumerate" = none) (E : Fns P w K mg base C fI fA fN fS dI dA dN dS)
    (FR : Fun K "do_rows" "do_rows" sRows fR dR) (bR : Binds K dR ["walk", "rows", "place"] []) (mR : mg "do_rows" = some (.ref fR)) (FW : Fun K "do_row" "do_row" sRow fW dW) (bW : Binds K dW ["walk", "row", "place"] []) (mW : mg "do_row" = some (.ref fW))
    (FI : Fun K "do_if" "do_if" sIf fI dI) (FA : Fun K "do_again" "do_again" sAgain fA dA) (L : FnOk P w K mg base CX0 2 fL dL ["self", "place", "name"] (spLook C)) (bL : Binds K dL ["self", "place", "name"] []) (mL : Meth K C "look" fL) :
    ∀ n : Nat, FnOk P w K mg base CX0 (3 * n + 3) fR dR ["walk", "rows", "place"] (spRows C n) := by
  intro n
  induction n with
  | zero => exact ok_rows (k := 2) FR me row0 bW FW.kp mW
  | succ n ih =>
    have GI := ok_if (k := 3 * n + 3) (by omega) FI T ih bR FR.kp mR L bL mL
    have GA := ok_again (k := 3 * n + 3) (by omega) FA T ih bR FR.kp mR L bL mL
    have GW := ok_row (k := 3 * n + 3 + 1) (by omega) FW T E GI GA
    exact ok_rows (k := 3 * n + 3 + 1 + 1) FR me GW bW FW.kp mW
def spInit (C : Addr) : Sp := fun vs H Q _ => ∃ (x dx pl st : Addr) (m : Int) (names : List Str) (many : Int) (rw : Addr) (mark : V) (nums : List Int) (pc : Addr) (pieces : List Int) (most : Nat), vs = [.ref x, .ref pl, .ref st, .int (most : Int)] ∧ H x = some (.ins C dx []) ∧ PlanAt H pl st m names many rw mark nums pc pieces ∧ most ≤ 100000 ∧
  ∀ (d l : Addr) (H' : Hp), H d = none → H l = none → WalkAt C H' x d l pc ⟨m, pieces, most⟩ ⟨names.zip nums, []⟩ → (∀ b o, H b = some o → b ≠ x → H' b = some o) → Q .non H'
theorem scInit : FnScope ["self", "plan", "stand", "most"] ["self", "plan", "stand", "most"] (defScope sInit) := ⟨rfl, rfl, rfl, by decide +kernel, rfl, by decide +kernel, by decide +kernel⟩
theorem ok_init {f C : Addr} {fd : FuncData} (F : Fun K "__init__" "Walk.__init__" sInit f fd) (T : Txt K mg C) (B : Bt mg) (md : mg "dict" = none) : FnOk P w K mg base CX0 1 f fd ["self", "plan", "stand", "most"] (spInit C) := by
  refine F.ok scInit (fun vs H Q E h => ?_) (fun cdv A outer s0 H vs Q E hr h => ?_)
  · obtain ⟨x, dx, pl, st, m, names, many, rw, mark, nums, pc, pieces, most, rfl, _⟩ := h; rfl
  obtain ⟨x, dx, pl, st, m, names, many, rw, mark, nums, pc, pieces, most, rfl, hx, hP, hmo, k⟩ := h
  refine ⟨_, pss_cons (ps_fld (pv 0) (pv 1) rfl)
    (pss_cons (ps_fld (pv 0) (pe_dictZip false false rfl rfl B.zip rfl md (pa_cons (pe_ix ix_tup (pv 1) pe_int (fun _ _ => rfl)) (pa_cons (pe_ix ix_tup (pv 2) pe_int (fun _ _ => rfl)) pa_nil))) rfl)
    (pss_cons (ps_fld (pv 0) (pe_ix ix_tup (pv 2) pe_int (fun _ _ => rfl)) rfl)
    (pss_cons (ps_fld (pv 0) (pv 3) rfl)
    (pss_one (ps_fld (pv 0) (pe_lst pa_nil) rfl))))), ?_⟩
  obtain ⟨nm, hpl, hnm⟩ := hP.plan
  obtain ⟨nu, hst, hnu⟩ := hP.stand
  have nx : ∀ {b : Addr} {zs : List V}, H b = some (.tup zs) → b ≠ x := fun hb => ne_of hb hx (by intro z; cases z)
  have up : ∀ {b : Addr} {zs : List V} (o : HO), H b = some (.tup zs) → upd H x o b = some (.tup zs) := fun o hb => by rw [upd_ne (nx hb)]; exact hb
  refine ⟨_, rfl, _, rfl, x, C, dx, _, rfl, hx, T.cl, T.nplan, (by show 0 < 1000; decide), ?_⟩
  have ek : (names.map (Sum.inr : Str → Key)).map kV = names.map V.str := by rw [List.map_map]; rfl
  refine ⟨_, rfl, pl, _, 1, _, rfl, rfl, SqT.of (up _ hpl), rfl, _, rfl, st, _, 0, _, rfl, rfl, SqT.of (up _ hst), rfl, nm, nu, names.map Sum.inr, nums.map V.int, rfl, (by rw [ek]; exact SqT.of (up _ hnm)), SqT.of (up _ hnu), (by rw [List.length_map, List.length_map]; exact hP.lens), (by rw [List.length_map]; exact hP.some_.1), (by rw [List.length_map]; have := hP.some_.2; omega), fun d hd => ?_⟩
  have ed : ((names.map (Sum.inr : Str → Key)).zip (nums.map V.int)).foldl (fun a p => putK a p.1 p.2) [] = toK (names.zip nums) := by
    have := fold_nodup names nums [] hP.nd (fun _ _ p hp => by simp at hp) hP.lens
    simpa [toK] using this
  rw [ed]
  have hdx : d ≠ x := fun e => by rw [e, upd_same] at hd; cases hd
  have hd0 : H d = none := by rw [upd_ne hdx] at hd; exact hd
  refine ⟨_, rfl, x, C, dx, _, rfl, (by rw [upd_ne hdx.symm]; exact upd_same), T.cl, T.nnumbers, (by show 1 < 1000; decide), ?_⟩
  have keep3 : ∀ (o1 o2 o3 : HO) {b : Addr} {o : HO}, H b = some o → b ≠ x → upd (upd (upd H x o1) d o2) x o3 b = some o := fun o1 o2 o3 b o hb hbx => by rw [upd_ne hbx, upd_ne (ne_of_none hb hd0), upd_ne hbx]; exact hb
  refine ⟨_, rfl, st, _, 1, _, rfl, rfl, SqT.of (keep3 _ _ _ hst (nx hst)), rfl, _, rfl, x, C, dx, _, rfl, upd_same, T.cl, T.npieces, (by show 2 < 1000; decide), ?_⟩
  rw [upd_upd]
  refine ⟨_, rfl, _, rfl, x, C, dx, _, rfl, upd_same, T.cl, T.nmost, (by show 3 < 1000; decide), ?_⟩
  rw [upd_upd]
  refine ⟨(by show 0 ≤ sizeLine; decide), fun l hl => ?_⟩
  have hlx : l ≠ x := fun e => by rw [e, upd_same] at hl; cases hl
  have hld : l ≠ d := fun e => by rw [e, upd_ne hdx, upd_same] at hl; cases hl
  have hl0 : H l = none := by rw [upd_ne hlx, upd_ne hld, upd_ne hlx] at hl; exact hl
  refine ⟨_, rfl, x, C, dx, _, rfl, (by rw [upd_ne hlx.symm]; exact upd_same), T.cl, T.nsteps, (by show 4 < 1000; decide), ?_⟩
  have all : ∀ {b : Addr} {o : HO} (o1 o2 o3 o4 o5 : HO), H b = some o → b ≠ x → upd (upd (upd (upd (upd H x o1) d o2) x o3) l o4) x o5 b = some o := fun o1 o2 o3 o4 o5 hb hbx => by
    rw [upd_ne hbx, upd_ne (ne_of_none hb hl0)]
    exact keep3 _ _ _ hb hbx
  refine k d l _ hd0 hl0 ⟨⟨dx, pl, ?_, .ref nm, .ref rw, mark, ?_⟩, ?_, all _ _ _ _ _ hP.pcs (nx hP.pcs), ⟨[], ?_, .nil⟩, fun y v hy => hP.rng v (get_zip_mem hy), ?_, hP.mm, hmo, Nat.zero_le _⟩ fun b o hb hbx => all _ _ _ _ _ hb hbx
  · rw [upd_same, wf_build]
  · rw [← hP.mny]; exact all _ _ _ _ _ hpl (nx hpl)
  · rw [upd_ne hdx, upd_ne hld.symm, upd_ne hdx, upd_same]
  · rw [upd_ne hlx, upd_same]
  · show (names.zip nums).length ≤ 100
    rw [List.length_zip]
    have := hP.some_.2
    omega
end
end Tw

namespace Tw
open PySem L2
section
variable {P : Program} {w : World} {K : PySem.W.Frag} {mg : Str → Option Value} {base : Heap}
/-- a run that isn't dry -/
def spRun (n : Nat) : Sp := fun vs H Q _ => ∃ (pl st : Addr) (m : Int) (names : List Str) (many : Int) (rw : Addr) (mark : V) (nums : List Int) (pc : Addr) (pieces : List Int) (most : Nat) (xs : List V) (rs : List Row) (s' : St8) (es : List Int), vs = [.ref pl, .ref st, .int (most : Int)] ∧ PlanAt H pl st m names many rw mark nums pc pieces ∧ most ≤ 100000 ∧
  H rw = some (.tup xs) ∧ Paired (RowAt H n) xs rs ∧ DoRows (DoRow ⟨m, pieces, most⟩ n) rs [] 0 ⟨names.zip nums, []⟩ s' ∧ Paired (fun nm e => getN s'.nums nm = some e) names es ∧
  ∀ (f L e2 : Addr) (ys : List V) (H' : Hp), H' f = some (.tup [.ref L, .ref e2]) → H' L = some (.lst ys) → Paired (StepAt H') ys s'.steps → H' e2 = some (.tup (es.map V.int)) → Same H H' → Q (.ref f) H'
theorem scRun : FnScope ["plan", "stand", "most", "walk"] ["plan", "stand", "most"] (defScope sRun) := ⟨rfl, rfl, rfl, by decide +kernel, rfl, by decide +kernel, by decide +kernel⟩
theorem ce_look {X : Cx} {N : List Str} {scope : Scope} {cl : List (Str × Addr)} {C : Addr} {s₀ : Shared} {H₀ : Hp} {fp : List Addr} {pl : List (Addr × Obj)} {wk fl x : Str} {p1 p2 p3 p4 : Pos}
    (hu : X.A.units + 1 < cLine) (h1 : N[1]? = some wk) (h0 : N[0]? = some x) (hw : Vis (relabel scope X.env) wk) (hx : Vis (relabel scope X.env) x)
    (hd1 : (wk == ("__debug__" : Str)) = false) (hc1 : (wk == ("__classdict__" : Str)) = false) (hd0 : (x == ("__debug__" : Str)) = false) (hc0 : (x == ("__classdict__" : Str)) = false)
    (hb : attributeBase (.Name wk p1) fl (compEnvC scope cl C X.env) (eval (.Name wk p1) (compEnvC scope cl C X.env)) = eval (.Name wk p1) (compEnvC scope cl C X.env)) :
    PE (cxComp X N scope cl C s₀ H₀ fp pl) (.Subscript (.Attribute (.Name wk p1) fl p2) (.Name x p3) p4) (tDGet (tFld X.K (tVar 1) fl) (tVar 0)) :=
  pe_dget (X := cxComp X N scope cl C s₀ H₀ fp pl) hu (pe_fld (X := cxComp X N scope cl C s₀ H₀ fp pl) (pe_var (X := cxComp X N scope cl C s₀ H₀ fp pl) (i := 1) h1 hw hd1 hc1) hb) (pe_var (X := cxComp X N scope cl C s₀ H₀ fp pl) (i := 0) h0 hx hd0 hc0) (fun _ _ => rfl)
theorem ok_run {f C fI fR : Addr} {fd dI dR : FuncData} {n : Nat} (hn : 2 * n ≤ 100) (F : Fun K "run" "run" sRun f fd) (T : Txt K mg C) (B : Bt mg) (mC : mg "Walk" = some (.ref C)) (M : Mk K C fI) (GI : FnOk P w K mg base CX0 1 fI dI ["self", "plan", "stand", "most"] (spInit C)) (bI : Binds K dI ["self", "plan", "stand", "most"] [])
    (GR : FnOk P w K mg base CX0 (3 * n + 3) fR dR ["walk", "rows", "place"] (spRows C n)) (bR : Binds K dR ["walk", "rows", "place"] []) (kR : PySem.W.keepIn K (.ref fR) = true) (mR : mg "do_rows" = some (.ref fR)) :
    FnOk P w K mg base CX0 (3 * n + 4) f fd ["plan", "stand", "most"] (spRun n) := by
  refine F.ok (k := 3 * n + 3) scRun (fun vs H Q E h => ?_) (fun cdv A outer s0 H vs Q E hr h => ?_)
  · obtain ⟨pl, st, m, names, many, rw, mark, nums, pc, pieces, most, xs, rs, s', es, rfl, _⟩ := h; rfl
  obtain ⟨pl, st, m, names, many, rw, mark, nums, pc, pieces, most, xs, rs, s', es, rfl, hP, hmo, hrw, hrs, hD, hes, k⟩ := h
  have hu := hu_of hr
  have hr2 : Room (1 + 1) (A.deeper (PyProof.Rows.envOfC "run" (defScope sRun) s0.heap.objs.size f cdv)) := hr.mono (by omega)
  refine ⟨_, pss_cons (ps_set (i := 3) scRun.nd rfl (Or.inr rfl) (pe_make M GI hr2 rfl mC bI .nil pass0 (pa_cons (pv 0) (pa_cons (pv 1) (pa_cons (pv 2) pa_nil)))))
    (pss_cons (ps_try (pss_one (ps_expr (pe_call GR hr rfl mR kR bR .nil pass0 (pa_cons (pv 3) (pa_cons (pe_ix ix_tup (pv 0) pe_int (fun _ _ => rfl)) (pa_cons (pe_tup pa_nil) pa_nil)))))))
    (pss_one (ps_ret (pe_tup (pa_cons (pe_fld (pv 3) rfl) (pa_cons (pe_callTy call_tuple_of rfl B.tuple bt_tuple (pa_cons (pe_comp (ls := ["name"]) (fs := ["walk"]) (js := [3]) rfl
      (compOk1 (c := s0.heap.objs.size + 1) rfl (by decide +kernel) (by decide +kernel) rfl rfl (.cons rfl (.inl rfl) (.inl rfl) .nil)) (pi_tup (pe_ix ix_tup (pv 0) pe_int (fun _ _ => rfl)))
      (fun C' s₀ H₀ fp pl' => ⟨cg_one (by decide +kernel) rfl rfl, pts_nil, ce_look hu rfl rfl (Or.inr (Or.inl rfl)) (Or.inl rfl) (by decide +kernel) (by decide +kernel) (by decide +kernel) (by decide +kernel) rfl⟩)) pa_nil)) pa_nil)))))), ?_⟩
  obtain ⟨nm, hpl, hnm⟩ := hP.plan
  refine ⟨_, rfl, _, rfl, _, rfl, fun x dx nx ndx nex => ?_⟩
  have s0' : Same H (upd (upd H dx (.own x)) x (.ins C dx [])) := fun b o e => by
    rw [upd_ne (ne_of_none e nx), upd_ne (ne_of_none e ndx)]
    exact e
  refine ⟨x, dx, pl, st, m, names, many, rw, mark, nums, pc, pieces, most, rfl, upd_same, hP.keep (Tups.of s0'), hmo, fun d l H1 hd hl W1 k1 => ⟨rfl, ?_⟩⟩
  have s1 : Same H H1 := fun b o e => k1 b o (s0' b o e) (ne_of_none e nx)
  refine ⟨_, rfl, _, rfl, pl, _, 3, _, rfl, rfl, SqT.of (s1 _ _ hpl), rfl, (by show 0 ≤ sizeLine; decide), fun p0 hp0 => ?_⟩
  have s2 := same_upd hp0 (.tup [])
  have s12 : Same H (upd H1 p0 (.tup [])) := s1.trans s2
  refine ⟨x, d, l, pc, _, _, s', rw, p0, [], xs, rs, rfl, W1.keep s2, s12 _ _ hrw, Paired.mapP hrs fun _ _ z => z.mono (Tups.of s12), upd_same, (by show 0 + 2 * n ≤ 100; omega), hD, fun H3 W3 b3 => ?_⟩
  have hd0 : H d = none := s0'.free hd
  have hl0 : H l = none := s0'.free hl
  have s13 : Same H H3 := fun b o e => b3 b o (s12 b o e) (ne_of_none e hd0) (ne_of_none e hl0)
  obtain ⟨dx3, pn3, ho3, _⟩ := W3.ob
  refine ⟨_, rfl, x, C, dx3, _, _, rfl, ho3, T.cl, T.nsteps, wf_steps _ _ _ _ _, ?_⟩
  refine ⟨_, rfl, pl, _, 1, _, rfl, rfl, SqT.of (s13 _ _ hpl), rfl, nm, rfl, ⟨_, SqT.of (s13 _ _ hnm)⟩, fun p hp => ?_⟩
  have sp := same_upd hp (.lst [])
  have hle := Paired.len hes
  refine ⟨fun i mm σ' H' => mm = names.length - i ∧ i ≤ names.length ∧ (∃ c0, σ' = [c0, some (.ref x)]) ∧ H' p = some (.lst ((es.take i).map V.int)) ∧ Same H3 H', ⟨names.length, rfl, Nat.zero_le _, ⟨none, rfl⟩, upd_same, sp⟩, ?_⟩
  rintro i mm σ' H' ⟨rfl, hi, ⟨c0, rfl⟩, hp', s'3⟩
  by_cases hlt : i < names.length
  · have hlt2 : i < es.length := by omega
    refine .inr ⟨⟨_, V.str names[i], SqT.of (s'3 _ _ (s13 _ _ hnm)), by simp [hlt]⟩, fun σ2 H2 => (∃ c0, σ2 = [c0, some (.ref x)]) ∧ H2 p = some (.lst ((es.take (i + 1)).map V.int)) ∧ Same H3 H2, fun σ2 H2 ⟨h1, h2, h3⟩ => ⟨names.length - (i + 1), by omega, rfl, hlt, h1, h2, h3⟩, ?_⟩
    rintro y H2 ⟨rfl, hy⟩
    have ey : y = V.str names[i] := by
      have := hy _ (SqT.of (s'3 _ _ (s13 _ _ hnm)))
      rw [List.getElem?_map, List.getElem?_eq_getElem hlt] at this
      exact (Option.some.inj this).symm
    subst ey
    have hg : getN s'.nums names[i] = some es[i] := by
      have : ∀ {l₁ : List Str} {l₂ : List Int}, Paired (fun nm e => getN s'.nums nm = some e) l₁ l₂ → ∀ (j : Nat) (h1 : j < l₁.length) (h2 : j < l₂.length), getN s'.nums l₁[j] = some l₂[j] := by
        intro l₁ l₂ p
        induction p with
        | nil => intro j h1; exact absurd h1 (Nat.not_lt_zero _)
        | cons r _ ihp =>
          intro j h1 h2
          cases j with
          | zero => exact r
          | succ j => exact ihp j (by simpa using h1) (by simpa using h2)
      exact this hes i hlt hlt2
    refine ⟨_, rfl, x, C, dx3, _, _, rfl, s'3 _ _ ho3, T.cl, T.nnumbers, wf_numbers _ _ _ _ _, _, rfl, d, _, rfl, dget_of (s'3 _ _ W3.dc) hg, ?_⟩
    refine ⟨_, hp', ?_, ⟨_, rfl⟩, ?_, fun c o e => ?_⟩
    · rw [List.length_map, List.length_take]
      have : sizeLine = 16777216 := rfl
      have := hP.some_.2
      omega
    · rw [upd_same, List.take_succ_eq_append_getElem hlt2, List.map_append]
      rfl
    · rw [upd_ne (ne_of_none e hp)]
      exact s'3 _ _ e
  · have e : i = names.length := by omega
    subst e
    refine .inl ⟨⟨_, SqT.of (s'3 _ _ (s13 _ _ hnm)), by rw [List.length_map]; exact Nat.le_refl _⟩, ?_⟩
    rw [hle, List.take_length] at hp'
    refine ⟨p, _, rfl, .inl ⟨SqL.of hp', fun e2 he2 => ?_⟩⟩
    have s4 := same_upd he2 (.tup (es.map V.int))
    refine ⟨(by show 2 ≤ sizeLine; decide), fun fr hfr => ?_⟩
    have s5 := same_upd hfr (.tup [.ref l, .ref e2])
    have s35 : Same H3 (upd (upd H' e2 (.tup (es.map V.int))) fr (.tup [.ref l, .ref e2])) := s'3.trans (s4.trans s5)
    obtain ⟨ys, hly, hys⟩ := W3.st
    exact k fr l e2 ys _ upd_same (s35 _ _ hly) (Paired.mapP hys fun _ _ z => z.mono (Tups.of s35)) (s5 _ _ upd_same) (s13.trans s35)
end
end Tw

namespace Tw
open PySem L2
/-! ### walks that may be dry: ok tells whether they come to their end -/
inductive RRows (F : Row → List Int → St8 → Bool → St8 → Prop) : List Row → List Int → Nat → St8 → Bool → St8 → Prop where
  | nil {pl : List Int} {j : Nat} {s : St8} : RRows F [] pl j s true s
  | cons {r : Row} {rs : List Row} {pl : List Int} {j : Nat} {s s1 s2 : St8} {ok : Bool} : F r (pl ++ [(j : Int)]) s true s1 → RRows F rs pl (j + 1) s1 ok s2 → RRows F (r :: rs) pl j s ok s2
  | stop {r : Row} {rs : List Row} {pl : List Int} {j : Nat} {s s1 : St8} : F r (pl ++ [(j : Int)]) s false s1 → RRows F (r :: rs) pl j s false s1
def RLoop (most : Nat) (B : Nat → St8 → Bool → St8 → Prop) (x : Str) (pl : List Int) : Nat → Nat → St8 → Bool → St8 → Prop
  | 0, t, s, ok, s' => ∃ v, getN s.nums x = some v ∧ ((¬ s.steps.length < most ∧ ok = false ∧ s' = s) ∨ (s.steps.length < most ∧ v = 0 ∧ ok = true ∧ s' = s.note (pl ++ [(t : Int)]) 0) ∨ (s.steps.length < most ∧ v ≠ 0 ∧ ok = false ∧ B t (s.note (pl ++ [(t : Int)]) 1) false s'))
  | n + 1, t, s, ok, s' => ∃ v s1, getN s.nums x = some v ∧ v ≠ 0 ∧ s.steps.length < most ∧ B t (s.note (pl ++ [(t : Int)]) 1) true s1 ∧ RLoop most B x pl n (t + 1) s1 ok s'
def RRow (c : Cfg) : Nat → Row → List Int → St8 → Bool → St8 → Prop
  | 0, _, _, _, _, _ => False
  | n + 1, r, pl, s, ok, s' => match r with
    | .ifr x a b => ∃ v, getN s.nums x = some v ∧ ((¬ s.steps.length < c.most ∧ ok = false ∧ s' = s) ∨ (s.steps.length < c.most ∧ RRows (RRow c n) (if v = 0 then b else a) (pl ++ [if v = 0 then 0 else 1]) 0 (s.note pl (if v = 0 then 0 else 1)) ok s'))
    | .again x a => ∃ m, RLoop c.most (fun t s1 ok s2 => RRows (RRow c n) a (pl ++ [(t : Int)]) 0 s1 ok s2) x pl m 0 s ok s'
    | r => ∃ v u, number c s.nums r = some v ∧ 0 ≤ v ∧ v < 1000 ∧ getN s.nums (rowX r) = some u ∧ ((¬ s.steps.length < c.most ∧ ok = false ∧ s' = s) ∨ (s.steps.length < c.most ∧ ok = true ∧ s' = { nums := setN s.nums (rowX r) v, steps := s.steps ++ [(pl, v)] }))
structure Dx (K : PySem.W.Frag) (mg : Str → Option Value) (CD : Addr) : Prop where
  ex : ExcAt K CD
  m : mg "Dry" = some (.ref CD)
section
variable {P : Program} {w : World} {K : PySem.W.Frag} {mg : Str → Option Value} {base : Heap}
def spNoteD (C CD : Addr) : Sp := fun vs H Q E => ∃ (a d l pa : Addr) (c : Cfg) (s : St8) (p : Addr) (pl : List Int) (v : Int), vs = [.ref a, .ref p, .int v] ∧ WalkAt C H a d l pa c s ∧ H p = some (.tup (pl.map V.int)) ∧
  (s.steps.length < c.most → ∀ H', WalkAt C H' a d l pa c (s.note pl v) → But2 d l H H' → Q .non H') ∧ (¬ s.steps.length < c.most → E (.ref CD) none H)
theorem ok_noteD {f C CD : Addr} {fd : FuncData} (F : Fun K "note_step" "Walk.note_step" sNote f fd) (T : Txt K mg C) (B : Bt mg) (X : Dx K mg CD) : FnOk P w K mg base (CXD P w CD) 1 f fd ["self", "place", "number"] (spNoteD C CD) := by
  refine Fun.okX F scNote (fun vs H Q E h => ?_) (fun cdv A outer s0 H vs Q E hr h => ?_)
  · obtain ⟨a, d, l, pa, c, s, p, pl, v, rfl, _⟩ := h; rfl
  obtain ⟨a, d, l, pa, c, s, p, pl, v, rfl, W, hp, k, kd⟩ := h
  refine ⟨_, pss_cons (ps_if (pt_cmpR op_ge (pe_callB call_len_seq rfl B.len PySem.boot_len (pa_cons (pe_fld (pv 0) rfl) pa_nil)) (pe_fld (pv 0) rfl) (nomark _)) (pss_one (ps_raise X.ex X.m rfl)) pss_nil)
    (pss_one (ps_expr (pe_bm PySem.F.plainAttrs_list PySem.F.slot_list_append PySem.F.type_list_append mt_append (pe_fld (pv 0) rfl) (pa_cons (pe_tup (pa_cons (pv 1) (pa_cons (pv 2) pa_nil))) pa_nil)))), ?_⟩
  obtain ⟨⟨dx, pn, ho, nm, rw, mk, hpn⟩, hd, hpc, ⟨xs, hl, hs⟩, hr1, hf, hmm, hsm⟩ := id W
  obtain ⟨n1, n2, n3, n4, n5⟩ := W.ne
  have hlen := Paired.len hs
  refine ⟨_, rfl, a, C, dx, _, _, rfl, ho, T.cl, T.nsteps, wf_steps _ _ _ _ _, l, xs, rfl, .inl (SqL.of hl), _, rfl, a, C, dx, _, _, rfl, ho, T.cl, T.nmost, wf_most _ _ _ _ _, _, _, rfl, rfl, _, rfl, ite2 (fun z => ?_) (fun z => ?_)⟩
  · have := of_decide_eq_true z
    exact kd (by omega)
  have hm : s.steps.length < c.most := by
    have : ¬ _ := fun y => z (decide_eq_true y)
    omega
  refine ⟨_, rfl, a, C, dx, _, _, rfl, ho, T.cl, T.nsteps, wf_steps _ _ _ _ _, .inl ⟨rfl, xs, SqL.of hl⟩, _, rfl, _, rfl, (by show 2 ≤ sizeLine; decide), fun t ht => ?_⟩
  have st : Same H (upd H t (.tup [.ref p, .int v])) := same_upd ht _
  refine ⟨l, xs, .ref t, rfl, rfl, st _ _ hl, (by have : sizeLine = 16777216 := rfl; omega), ?_⟩
  have e1 : ∀ b o, b ≠ l → H b = some o → upd (upd H t (.tup [.ref p, .int v])) l (.lst (xs ++ [.ref t])) b = some o := fun b o hb hh => by rw [upd_ne hb]; exact st _ _ hh
  have hlt : l ≠ t := ne_of_none hl ht
  have tu : Tups H (upd (upd H t (.tup [.ref p, .int v])) l (.lst (xs ++ [.ref t]))) := fun b zs hh => e1 b _ (ne_of hh hl (by intro z; cases z)) hh
  refine k hm _ ⟨⟨dx, pn, e1 _ _ n2 ho, nm, rw, mk, tu _ _ hpn⟩, e1 _ _ n3 hd, e1 _ _ n5 hpc, ⟨_, upd_same, Paired.snoc' (Paired.mapP hs fun _ _ z => z.mono tu) ⟨t, p, rfl, ?_, tu _ _ hp⟩⟩, hr1, hf, hmm, hsm.1, ?_⟩ (fun b o hh _ h2 => e1 b o h2 hh)
  · rw [upd_ne hlt.symm, upd_same]
  · show (s.steps ++ [(pl, v)]).length ≤ c.most
    rw [List.length_append, List.length_singleton]
    omega
def spLookD (C CD : Addr) : Sp := fun vs H Q E => ∃ (a d l pa : Addr) (c : Cfg) (s : St8) (p : Addr) (pl : List Int) (x : Str) (v : Int), vs = [.ref a, .ref p, .str x] ∧ WalkAt C H a d l pa c s ∧ H p = some (.tup (pl.map V.int)) ∧ getN s.nums x = some v ∧
  (s.steps.length < c.most → ∀ H', WalkAt C H' a d l pa c (s.note pl (look1 v)) → But2 d l H H' → Q (.int (look1 v)) H') ∧ (¬ s.steps.length < c.most → E (.ref CD) none H)
theorem ok_lookD {f C CD g : Addr} {fd gd : FuncData} (F : Fun K "look" "Walk.look" sLook f fd) (T : Txt K mg C) (G : FnOk P w K mg base (CXD P w CD) 1 g gd ["self", "place", "number"] (spNoteD C CD)) (bG : Binds K gd ["self", "place", "number"] []) (mG : Meth K C "note_step" g) : FnOk P w K mg base (CXD P w CD) 2 f fd ["self", "place", "name"] (spLookD C CD) := by
  refine Fun.okX F scLook (fun vs H Q E h => ?_) (fun cdv A outer s0 H vs Q E hr h => ?_)
  · obtain ⟨a, d, l, pa, c, s, p, pl, x, v, rfl, _⟩ := h; rfl
  obtain ⟨a, d, l, pa, c, s, p, pl, x, v, rfl, W, hp, hv, k, kd⟩ := h
  have hu := hu_of hr
  refine ⟨_, pss_cons (ps_set (i := 3) scLook.nd rfl (Or.inl rfl) (pe_ifExp (pt_cmpR op_eq (pe_dget hu (pe_fld (pv 0) rfl) (pv 2) (fun _ _ => rfl)) pe_int (nomark _)) pe_int pe_int))
    (pss_cons (ps_expr (pe_meth (pv 0) T.cl mG G hr bG .nil passD (pa_cons (pv 1) (pa_cons (pv 3) pa_nil)))) (pss_one (ps_ret (pv 3)))), ?_⟩
  obtain ⟨dx, pn, ho, _⟩ := W.ob
  refine ⟨_, rfl, a, C, dx, _, _, rfl, ho, T.cl, T.nnumbers, wf_numbers _ _ _ _ _, _, rfl, d, _, rfl, dget_of W.dc hv, rfl, _, rfl, ?_⟩
  have rest : ∀ u : Int, u = look1 v → tSeq (tDrop (tMeth C "note_step" (spNoteD C CD) [] E (tVar 0) (tCons (tVar 1) (tCons (tVar 3) tNil)))) (tRet (tVar 3)) { nx := fun _ H' => Q .non H', rt := Q } [some (.ref a), some (.ref p), some (.str x), some (.int u)] H := by
    rintro u rfl
    refine ⟨_, rfl, a, dx, _, rfl, ho, wf_no (by decide +kernel) _ _ _ _ _, _, rfl, _, rfl, a, d, l, pa, c, s, p, pl, look1 v, rfl, W, hp, fun hm H' W' b' => ⟨_, rfl, k hm H' W' b'⟩, kd⟩
  by_cases hz : v = 0
  · exact ifY (by rw [hz]) (rest 0 (by unfold look1; rw [if_pos hz]))
  · exact ifN (fun z => hz (by injection z)) (rest 1 (by unfold look1; rw [if_neg hz]))
end
end Tw

namespace Tw
open PySem L2
section
variable {P : Program} {w : World} {K : PySem.W.Frag} {mg : Str → Option Value} {base : Heap}
def spRowsD (C CD : Addr) (n : Nat) : Sp := fun vs H Q E => ∃ (a d l pa : Addr) (c : Cfg) (s s' : St8) (r p : Addr) (pl : List Int) (xs : List V) (rs : List Row) (ok : Bool), vs = [.ref a, .ref r, .ref p] ∧ WalkAt C H a d l pa c s ∧ H r = some (.tup xs) ∧ Paired (RowAt H n) xs rs ∧ H p = some (.tup (pl.map V.int)) ∧ pl.length + 2 * n ≤ 100 ∧
  RRows (RRow c n) rs pl 0 s ok s' ∧ (ok = true → ∀ H', WalkAt C H' a d l pa c s' → But2 d l H H' → Q .non H') ∧ (ok = false → ∀ H', WalkAt C H' a d l pa c s' → But2 d l H H' → E (.ref CD) none H')
def spRowD (C CD : Addr) (n : Nat) : Sp := fun vs H Q E => ∃ (a d l pa : Addr) (c : Cfg) (s s' : St8) (r : V) (p : Addr) (pl : List Int) (row : Row) (ok : Bool), vs = [.ref a, r, .ref p] ∧ WalkAt C H a d l pa c s ∧ RowAt H n r row ∧ H p = some (.tup (pl.map V.int)) ∧ pl.length + 2 * n ≤ 101 ∧
  RRow c n row pl s ok s' ∧ (ok = true → ∀ H', WalkAt C H' a d l pa c s' → But2 d l H H' → Q .non H') ∧ (ok = false → ∀ H', WalkAt C H' a d l pa c s' → But2 d l H H' → E (.ref CD) none H')
theorem paired_get {α β : Type} {F : α → β → Prop} : ∀ {xs : List α} {ys : List β}, Paired F xs ys → ∀ (j : Nat) (h1 : j < xs.length) (h2 : j < ys.length), F xs[j] ys[j]
  | _, _, .nil, j, h1, _ => absurd h1 (Nat.not_lt_zero _)
  | _, _, .cons r _, 0, _, _ => r
  | _, _, .cons _ t, j + 1, h1, h2 => paired_get t j (by simpa using h1) (by simpa using h2)
theorem ok_rowsD {f C CD g : Addr} {fd gd : FuncData} {n k : Nat} (F : Fun K "do_rows" "do_rows" sRows f fd) (me : mg "enumerate" = none) (G : FnOk P w K mg base (CXD P w CD) k g gd ["walk", "row", "place"] (spRowD C CD n)) (bG : Binds K gd ["walk", "row", "place"] []) (kG : PySem.W.keepIn K (.ref g) = true) (mG : mg "do_row" = some (.ref g)) :
    FnOk P w K mg base (CXD P w CD) (k + 1) f fd ["walk", "rows", "place"] (spRowsD C CD n) := by
  refine Fun.okX F scRows (fun vs H Q E h => ?_) (fun cdv A outer s0 H vs Q E hr h => ?_)
  · obtain ⟨a, d, l, pa, c, s, s', r, p, pl, xs, rs, ok, rfl, _⟩ := h; rfl
  obtain ⟨a, d, l, pa, c, s, s', r, p, pl, xs, rs, ok, rfl, W, hr0, hrs, hp, hpl, hD, kk, kd⟩ := h
  refine ⟨_, pss_one (ps_for PassesOwn.leaving rfl (pi_enum false rfl me (pa_cons (pv 1) pa_nil)) (pg_tup (n := 2) rfl (pgs_cons (pg_name (i := 3) scRows.nd rfl (Or.inl rfl)) (pgs_cons (pg_name (i := 4) scRows.nd rfl (Or.inl rfl)) pgs_nil)))
    (pss_one (ps_expr (pe_call G hr rfl mG kG bG .nil passD (pa_cons (pv 0) (pa_cons (pv 4) (pa_cons (pe_op op_catA (pv 2) (pe_tup (pa_cons (pv 3) pa_nil))) pa_nil))))))), ?_⟩
  have hlen := Paired.len hrs
  refine ⟨_, rfl, r, xs, rfl, SqT.of hr0, ?_⟩
  refine ⟨fun i m σ H1 => m = xs.length - i ∧ i ≤ xs.length ∧ (∃ u v, σ = [some (.ref a), some (.ref r), some (.ref p), u, v]) ∧ ∃ s1, WalkAt C H1 a d l pa c s1 ∧ RRows (RRow c n) (rs.drop i) pl i s1 ok s' ∧ But2 d l H H1, ⟨xs.length, rfl, Nat.zero_le _, ⟨none, none, rfl⟩, s, W, by simpa using hD, But2.refl⟩, ?_⟩
  rintro i m σ H1 ⟨rfl, hi, ⟨u, v, rfl⟩, s1, W1, D1, b1⟩
  have t1 : Tups H H1 := b1.tupsW W
  by_cases hlt : i < xs.length
  · have hlt2 : i < rs.length := by omega
    refine .inr ⟨⟨xs, xs[i], SqT.of (t1 _ _ hr0), by simp [hlt]⟩, fun σ2 H2 => (∃ u v, σ2 = [some (.ref a), some (.ref r), some (.ref p), u, v]) ∧ ∃ s2, WalkAt C H2 a d l pa c s2 ∧ RRows (RRow c n) (rs.drop (i + 1)) pl (i + 1) s2 ok s' ∧ But2 d l H H2,
      fun σ2 H2 ⟨h1, h2⟩ => ⟨xs.length - (i + 1), by omega, rfl, hlt, h1, h2⟩, ?_⟩
    rintro y H2 ⟨T, x1, hT, rfl, rfl, hx1⟩
    have ex : x1 = xs[i] := by
      have := hx1 xs (SqT.of (t1 _ _ hr0))
      rw [List.getElem?_eq_getElem hlt] at this
      exact (Option.some.inj this).symm
    subst ex
    refine ⟨T, _, rfl, SqT.of upd_same, rfl, _, _, rfl, _, _, rfl, rfl, ?_⟩
    have sT : Same H1 (upd H1 T (.tup [.int i, xs[i]])) := same_upd hT _
    have hrow : RowAt H n xs[i] rs[i] := paired_get hrs i hlt hlt2
    rw [List.drop_eq_getElem_cons hlt2] at D1
    refine ⟨_, rfl, _, rfl, _, rfl, _, rfl, (by show 1 ≤ sizeLine; decide), fun q hq => ?_⟩
    have sq := same_upd hq (.tup [.int i])
    have hp1 : H1 p = some (.tup (pl.map V.int)) := t1 _ _ hp
    refine ⟨p, q, pl.map V.int, [.int i], rfl, rfl, sq _ _ (sT _ _ hp1), upd_same, (by rw [List.length_map]; have : sizeLine = 16777216 := rfl; simp; omega), fun p2 H3 hp2 s3 => ?_⟩
    rw [map_snoc] at hp2
    have s13 : Same H1 H3 := sT.trans (sq.trans s3)
    have hpl2 : (pl ++ [(i : Int)]).length + 2 * n ≤ 101 := by rw [List.length_append, List.length_singleton]; omega
    cases D1 with
    | cons hr1 hrest =>
      rename_i s2
      exact ⟨a, d, l, pa, c, s1, s2, xs[i], p2, pl ++ [(i : Int)], rs[i], true, rfl, W1.keep s13, hrow.mono (t1.trans (Tups.of s13)), hp2, hpl2, hr1, fun _ H4 W4 b4 => ⟨⟨_, _, rfl⟩, s2, W4, hrest, b1.trans ((But2.of s13).trans b4)⟩, fun z => Bool.noConfusion z⟩
    | stop hr1 =>
      exact ⟨a, d, l, pa, c, s1, s', xs[i], p2, pl ++ [(i : Int)], rs[i], false, rfl, W1.keep s13, hrow.mono (t1.trans (Tups.of s13)), hp2, hpl2, hr1, fun z => Bool.noConfusion z, fun _ H4 W4 b4 => kd rfl H4 W4 (b1.trans ((But2.of s13).trans b4))⟩
  · have e : i = xs.length := by omega
    subst e
    refine .inl ⟨⟨xs, SqT.of (t1 _ _ hr0), Nat.le_refl _⟩, ?_⟩
    rw [hlen, List.drop_length] at D1
    cases D1
    exact kk rfl H1 W1 b1
end
end Tw

namespace Tw
open PySem L2
section
variable {P : Program} {w : World} {K : PySem.W.Frag} {mg : Str → Option Value} {base : Heap}
def spIfD (C CD : Addr) (n : Nat) : Sp := fun vs H Q E => ∃ (a d l pa : Addr) (c : Cfg) (s s' : St8) (r : V) (p : Addr) (pl : List Int) (x : Str) (ra rb : List Row) (ok : Bool), vs = [.ref a, r, .ref p] ∧ WalkAt C H a d l pa c s ∧ RowAt H (n + 1) r (.ifr x ra rb) ∧ H p = some (.tup (pl.map V.int)) ∧ pl.length + 2 * n ≤ 99 ∧
  RRow c (n + 1) (.ifr x ra rb) pl s ok s' ∧ (ok = true → ∀ H', WalkAt C H' a d l pa c s' → But2 d l H H' → Q .non H') ∧ (ok = false → ∀ H', WalkAt C H' a d l pa c s' → But2 d l H H' → E (.ref CD) none H')
theorem ok_ifD {f C CD g gl : Addr} {fd gd gld : FuncData} {n k : Nat} (hk : 2 ≤ k) (F : Fun K "do_if" "do_if" sIf f fd) (T : Txt K mg C) (G : FnOk P w K mg base (CXD P w CD) k g gd ["walk", "rows", "place"] (spRowsD C CD n)) (bG : Binds K gd ["walk", "rows", "place"] []) (kG : PySem.W.keepIn K (.ref g) = true) (mG : mg "do_rows" = some (.ref g))
    (L : FnOk P w K mg base (CXD P w CD) 2 gl gld ["self", "place", "name"] (spLookD C CD)) (bL : Binds K gld ["self", "place", "name"] []) (mL : Meth K C "look" gl) : FnOk P w K mg base (CXD P w CD) (k + 1) f fd ["walk", "row", "place"] (spIfD C CD n) := by
  refine Fun.okX F scIf (fun vs H Q E h => ?_) (fun cdv A outer s0 H vs Q E hr h => ?_)
  · obtain ⟨a, d, l, pa, c, s, s', r, p, pl, x, ra, rb, ok, rfl, _⟩ := h; rfl
  obtain ⟨a, d, l, pa, c, s, s', r, p, pl, x, ra, rb, ok, rfl, W, hR, hp, hpl, hD, kk, kd⟩ := h
  refine ⟨_, pss_cons (ps_set (i := 3) scIf.nd rfl (Or.inl rfl) (pe_meth (pv 0) T.cl mL L (hr.mono hk) bL .nil passD (pa_cons (pv 2) (pa_cons (pe_ix ix_tup (pv 1) pe_int (fun _ _ => rfl)) pa_nil))))
    (pss_one (ps_expr (pe_call G hr rfl mG kG bG .nil passD (pa_cons (pv 0) (pa_cons (pe_ifExp (pt_cmpR op_eq (pv 3) pe_int (nomark _)) (pe_ix ix_tup (pv 1) pe_int (fun _ _ => rfl)) (pe_ix ix_tup (pv 1) pe_int (fun _ _ => rfl))) (pa_cons (pe_op op_catA (pv 2) (pe_tup (pa_cons (pv 3) pa_nil))) pa_nil)))))), ?_⟩
  obtain ⟨t, b, cc, xs, ys, rfl, ht, hb, hc, hA, hB⟩ := hR
  obtain ⟨v, hv, hD⟩ := hD
  obtain ⟨dx, pndx, ho, _⟩ := W.ob
  refine ⟨_, rfl, a, dx, _, rfl, ho, wf_no (by decide +kernel) _ _ _ _ _, _, rfl, _, rfl, t, _, 1, _, rfl, rfl, SqT.of ht, rfl, a, d, l, pa, c, s, p, pl, x, v, rfl, W, hp, hv, fun hm H1 W1 b1 => ?_, fun hm => ?_⟩
  · rcases hD with ⟨hn, _⟩ | ⟨_, hD⟩
    · exact absurd hm hn
    have t1 : Tups H H1 := b1.tupsW W
    have fin : ∀ (br : Addr) (zs : List V) (rs : List Row) (u : Int), u = look1 v → H br = some (.tup zs) → Paired (RowAt H n) zs rs → RRows (RRow c n) rs (pl ++ [u]) 0 (s.note pl u) ok s' →
        tCons (tOp (rCatA K) (tVar 2) (tTup (tCons (tVar 3) tNil))) tNil [some (.ref a), some (.ref t), some (.ref p), some (.int u)] H1 fun xs2 H2 => spRowsD C CD n (([.ref a, .ref br] ++ xs2) ++ []) H2 (fun _ H' => Q .non H') E := by
      rintro br zs rs u rfl hbr hzs hd
      refine ⟨_, rfl, _, rfl, (by show 1 ≤ sizeLine; decide), fun q hq => ?_⟩
      have sq := same_upd hq (.tup [.int (look1 v)])
      refine ⟨p, q, pl.map V.int, [.int (look1 v)], rfl, rfl, sq _ _ (t1 _ _ hp), upd_same, (by rw [List.length_map]; have : sizeLine = 16777216 := rfl; simp; omega), fun p2 H3 hp2 s3 => ?_⟩
      rw [map_snoc] at hp2
      have s13 : Same H1 H3 := sq.trans s3
      have tt : Tups H H3 := t1.trans (Tups.of s13)
      exact ⟨a, d, l, pa, c, _, s', br, p2, pl ++ [look1 v], zs, rs, ok, rfl, W1.keep s13, tt _ _ hbr, Paired.mapP hzs fun _ _ z => z.mono tt, hp2, (by rw [List.length_append, List.length_singleton]; omega), hd, fun z H4 W4 b4 => kk z H4 W4 (b1.trans ((But2.of s13).trans b4)), fun z H4 W4 b4 => kd z H4 W4 (b1.trans ((But2.of s13).trans b4))⟩
    refine ⟨_, rfl, _, rfl, rfl, _, rfl, ?_⟩
    by_cases hz : v = 0
    · have e : look1 v = 0 := by unfold look1; rw [if_pos hz]
      rw [if_pos hz, if_pos hz] at hD
      refine ifN (fun q => by injection q with q; rw [e] at q; exact absurd q (by decide)) ?_
      exact ⟨_, rfl, t, _, 3, _, rfl, rfl, SqT.of (t1 _ _ ht), rfl, fin cc ys rb (look1 v) rfl hc hB (by rw [e]; exact hD)⟩
    · have e : look1 v = 1 := by unfold look1; rw [if_neg hz]
      rw [if_neg hz, if_neg hz] at hD
      refine ifY (by rw [e]) ?_
      exact ⟨_, rfl, t, _, 2, _, rfl, rfl, SqT.of (t1 _ _ ht), rfl, fin b xs ra (look1 v) rfl hb hA (by rw [e]; exact hD)⟩
  · rcases hD with ⟨_, e, e2⟩ | ⟨hn, _⟩
    · subst e2
      exact kd e H W But2.refl
    · exact absurd hn hm
def spAgainD (C CD : Addr) (n : Nat) : Sp := fun vs H Q E => ∃ (a d l pa : Addr) (c : Cfg) (s s' : St8) (r : V) (p : Addr) (pl : List Int) (x : Str) (ra : List Row) (ok : Bool), vs = [.ref a, r, .ref p] ∧ WalkAt C H a d l pa c s ∧ RowAt H (n + 1) r (.again x ra) ∧ H p = some (.tup (pl.map V.int)) ∧ pl.length + 2 * n ≤ 99 ∧
  RRow c (n + 1) (.again x ra) pl s ok s' ∧ (ok = true → ∀ H', WalkAt C H' a d l pa c s' → But2 d l H H' → Q .non H') ∧ (ok = false → ∀ H', WalkAt C H' a d l pa c s' → But2 d l H H' → E (.ref CD) none H')
theorem ok_againD {f C CD g gl : Addr} {fd gd gld : FuncData} {n k : Nat} (hk : 2 ≤ k) (F : Fun K "do_again" "do_again" sAgain f fd) (T : Txt K mg C) (G : FnOk P w K mg base (CXD P w CD) k g gd ["walk", "rows", "place"] (spRowsD C CD n)) (bG : Binds K gd ["walk", "rows", "place"] []) (kG : PySem.W.keepIn K (.ref g) = true) (mG : mg "do_rows" = some (.ref g))
    (L : FnOk P w K mg base (CXD P w CD) 2 gl gld ["self", "place", "name"] (spLookD C CD)) (bL : Binds K gld ["self", "place", "name"] []) (mL : Meth K C "look" gl) : FnOk P w K mg base (CXD P w CD) (k + 1) f fd ["walk", "row", "place"] (spAgainD C CD n) := by
  refine Fun.okX F scAgain (fun vs H Q E h => ?_) (fun cdv A outer s0 H vs Q E hr h => ?_)
  · obtain ⟨a, d, l, pa, c, s, s', r, p, pl, x, ra, ok, rfl, _⟩ := h; rfl
  obtain ⟨a, d, l, pa, c, s, s', r, p, pl, x, ra, ok, rfl, W, hR, hp, hpl, hD, kk, kd⟩ := h
  refine ⟨_, pss_cons (ps_set (i := 3) scAgain.nd rfl (Or.inl rfl) pe_int)
    (pss_one (ps_while PassesOwn.leaving (pt_cmpR op_eq (pe_meth (pv 0) T.cl mL L (hr.mono hk) bL .nil passD (pa_cons (pe_op op_catA (pv 2) (pe_tup (pa_cons (pv 3) pa_nil))) (pa_cons (pe_ix ix_tup (pv 1) pe_int (fun _ _ => rfl)) pa_nil))) pe_int (nomark _))
      (pss_cons (ps_expr (pe_call G hr rfl mG kG bG .nil passD (pa_cons (pv 0) (pa_cons (pe_ix ix_tup (pv 1) pe_int (fun _ _ => rfl)) (pa_cons (pe_op op_catA (pv 2) (pe_tup (pa_cons (pv 3) pa_nil))) pa_nil)))))
      (pss_one (ps_aug (i := 3) scAgain.nd rfl (Or.inl rfl) pe_int ip_add))))), ?_⟩
  obtain ⟨t, b, xs, rfl, ht, hb, hA⟩ := hR
  obtain ⟨n0, hL⟩ := (show ∃ m, RLoop c.most _ x pl m 0 s ok s' from hD)
  refine ⟨fun m σ H1 => ∃ (tt : Nat) (s1 : St8), σ = [some (.ref a), some (.ref t), some (.ref p), some (.int tt)] ∧ WalkAt C H1 a d l pa c s1 ∧ RLoop c.most (fun t s1 ok s2 => RRows (RRow c n) ra (pl ++ [(t : Int)]) 0 s1 ok s2) x pl m tt s1 ok s' ∧ But2 d l H H1, ⟨n0, 0, s, rfl, W, hL, But2.refl⟩, ?_⟩
  rintro m σ H1 ⟨tt, s1, rfl, W1, L1, b1⟩
  have t1 : Tups H H1 := b1.tupsW W
  obtain ⟨dx, pndx, ho, _⟩ := W1.ob
  have cat : ∀ (H2 : Hp) (Q2 : VK), Tups H H2 → (∀ p2 H3, H3 p2 = some (.tup ((pl ++ [(tt : Int)]).map V.int)) → Same H2 H3 → Q2 (.ref p2) H3) → tOp (rCatA K) (tVar 2) (tTup (tCons (tVar 3) tNil)) [some (.ref a), some (.ref t), some (.ref p), some (.int tt)] H2 Q2 := by
    intro H2 Q2 t2 q2
    refine ⟨_, rfl, _, rfl, (by show 1 ≤ sizeLine; decide), fun q hq => ?_⟩
    have sq := same_upd hq (.tup [.int tt])
    refine ⟨p, q, pl.map V.int, [.int tt], rfl, rfl, sq _ _ (t2 _ _ hp), upd_same, (by rw [List.length_map]; have : sizeLine = 16777216 := rfl; simp; omega), fun p2 H3 hp2 s3 => ?_⟩
    rw [map_snoc] at hp2
    exact q2 p2 H3 hp2 (sq.trans s3)
  obtain ⟨v, hv⟩ : ∃ v, getN s1.nums x = some v := by
    cases m with
    | zero => obtain ⟨v, h, _⟩ := L1; exact ⟨v, h⟩
    | succ m => obtain ⟨v, s2, h, _⟩ := L1; exact ⟨v, h⟩
  refine ⟨_, rfl, a, dx, _, rfl, ho, wf_no (by decide +kernel) _ _ _ _ _, cat H1 _ t1 fun p2 H2 hp2 s2 => ?_⟩
  have t2 : Tups H H2 := t1.trans (Tups.of s2)
  refine ⟨_, rfl, t, _, 1, _, rfl, rfl, SqT.of (t2 _ _ ht), rfl, a, d, l, pa, c, s1, p2, pl ++ [(tt : Int)], x, v, rfl, W1.keep s2, hp2, hv, fun hm H3 W3 b3 => ?_, fun hm => ?_⟩
  · have b13 : But2 d l H H3 := b1.trans ((But2.of s2).trans b3)
    have t3 : Tups H H3 := b13.tupsW W
    refine ⟨rfl, _, rfl, ?_⟩
    have body : ∀ (okb : Bool) (s2' : St8), v ≠ 0 → RRows (RRow c n) ra (pl ++ [(tt : Int)]) 0 (s1.note (pl ++ [(tt : Int)]) 1) okb s2' → ∀ (N : Hp → Prop), (okb = true → ∀ H5, WalkAt C H5 a d l pa c s2' → But2 d l H H5 → N H5) → (okb = false → ∀ H5, WalkAt C H5 a d l pa c s2' → But2 d l H H5 → E (.ref CD) none H5) →
        tCall (spRowsD C CD n) [] E (tCons (tVar 0) (tCons (tOp (rIxT K) (tVar 1) (tC (.int 2))) (tCons (tOp (rCatA K) (tVar 2) (tTup (tCons (tVar 3) tNil))) tNil))) [some (.ref a), some (.ref t), some (.ref p), some (.int tt)] H3 fun _ H5 => N H5 := by
      intro okb s2' hv0 hbody N kN kE
      have el : look1 v = 1 := by unfold look1; rw [if_neg hv0]
      rw [el] at W3
      refine ⟨_, rfl, _, rfl, t, _, 2, _, rfl, rfl, SqT.of (t3 _ _ ht), rfl, cat H3 _ t3 fun p3 H4 hp3 s4 => ?_⟩
      have t4 : Tups H H4 := t3.trans (Tups.of s4)
      exact ⟨a, d, l, pa, c, _, s2', b, p3, pl ++ [(tt : Int)], xs, ra, okb, rfl, W3.keep s4, t4 _ _ hb, Paired.mapP hA fun _ _ z => z.mono t4, hp3, (by rw [List.length_append, List.length_singleton]; omega), hbody, fun z H5 W5 b5 => kN z H5 W5 (b13.trans ((But2.of s4).trans b5)), fun z H5 W5 b5 => kE z H5 W5 (b13.trans ((But2.of s4).trans b5))⟩
    cases m with
    | zero =>
      obtain ⟨v', hv', hc⟩ := L1
      rw [hv] at hv'
      have e0 : v = v' := Option.some.inj hv'
      subst e0
      rcases hc with ⟨hn, _⟩ | ⟨_, h0, hok, rfl⟩ | ⟨_, h0, hok, hbd⟩
      · exact absurd hm hn
      · subst h0
        exact ifN (fun q => by injection q with q; exact absurd q (by decide)) (kk hok H3 W3 b13)
      · have el : look1 v = 1 := by unfold look1; rw [if_neg h0]
        refine ifY (by rw [el]) ⟨fun _ _ => False, fun _ _ z => z.elim, ?_⟩
        exact body false s' h0 hbd _ (fun z => Bool.noConfusion z) fun _ H5 W5 b5 => kd hok H5 W5 b5
    | succ m =>
      obtain ⟨v', s2', h1, h2, h3, h4, h5⟩ := L1
      rw [hv] at h1
      have e0 : v = v' := Option.some.inj h1
      subst e0
      have el : look1 v = 1 := by unfold look1; rw [if_neg h2]
      refine ifY (by rw [el]) ?_
      refine ⟨fun σ2 H2 => ∃ (s2 : St8), σ2 = [some (.ref a), some (.ref t), some (.ref p), some (.int ((tt + 1 : Nat) : Int))] ∧ WalkAt C H2 a d l pa c s2 ∧ RLoop c.most (fun t s1 ok s2 => RRows (RRow c n) ra (pl ++ [(t : Int)]) 0 s1 ok s2) x pl m (tt + 1) s2 ok s' ∧ But2 d l H H2,
        fun σ2 H2 ⟨s2, e1, w2, l2, b2⟩ => ⟨m, Nat.lt_succ_self _, tt + 1, s2, e1, w2, l2, b2⟩, ?_⟩
      exact body true s2' h2 h4 _ (fun _ H5 W5 b5 => ⟨_, rfl, _, _, rfl, rfl, s2', rfl, W5, h5, b5⟩) fun z => Bool.noConfusion z
  · have b12 : But2 d l H H2 := b1.trans (But2.of s2)
    cases m with
    | zero =>
      obtain ⟨v', hv', hc⟩ := L1
      rcases hc with ⟨hn, hok, rfl⟩ | ⟨hl, _⟩ | ⟨hl, _⟩
      · exact kd hok H2 (W1.keep s2) b12
      · exact absurd hl hm
      · exact absurd hl hm
    | succ m =>
      obtain ⟨v', s2', h1, h2, h3, _⟩ := L1
      exact absurd h3 hm
end
end Tw

namespace Tw
open PySem L2
theorem base_doD {c : Cfg} {n : Nat} {r : Row} {pl : List Int} {s s' : St8} {ok : Bool} (hB : isBase r) (h : RRow c (n + 1) r pl s ok s') :
    ∃ v u, number c s.nums r = some v ∧ 0 ≤ v ∧ v < 1000 ∧ getN s.nums (rowX r) = some u ∧ ((¬ s.steps.length < c.most ∧ ok = false ∧ s' = s) ∨ (s.steps.length < c.most ∧ ok = true ∧ s' = { nums := setN s.nums (rowX r) v, steps := s.steps ++ [(pl, v)] })) := by
  cases r with
  | put x k => exact h
  | take x k => exact h
  | pick x k => exact h
  | two w x y z => exact h
  | ifr x p q => exact hB.elim
  | again x p => exact hB.elim
section
variable {P : Program} {w : World} {K : PySem.W.Frag} {mg : Str → Option Value} {base : Heap}
structure FnsD (P : Program) (w : World) (K : PySem.W.Frag) (mg : Str → Option Value) (base : Heap) (C CD : Addr) (fI fA fN fS : Addr) (dI dA dN dS : FuncData) : Prop where
  bI : Binds K dI ["walk", "row", "place"] []
  kI : PySem.W.keepIn K (.ref fI) = true
  mI : mg "do_if" = some (.ref fI)
  bA : Binds K dA ["walk", "row", "place"] []
  kA : PySem.W.keepIn K (.ref fA) = true
  mA : mg "do_again" = some (.ref fA)
  nN : FnOk P w K mg base CX0 2 fN dN ["plan", "numbers", "pieces", "row"] spNum
  bN : Binds K dN ["plan", "numbers", "pieces", "row"] []
  kN : PySem.W.keepIn K (.ref fN) = true
  mN : mg "number_of" = some (.ref fN)
  nS : FnOk P w K mg base (CXD P w CD) 1 fS dS ["self", "place", "number"] (spNoteD C CD)
  bS : Binds K dS ["self", "place", "number"] []
  mS : Meth K C "note_step" fS
theorem ok_rowD {f C CD fI fA fN fS : Addr} {fd dI dA dN dS : FuncData} {n k : Nat} (hk : 2 ≤ k) (F : Fun K "do_row" "do_row" sRow f fd) (T : Txt K mg C) (E : FnsD P w K mg base C CD fI fA fN fS dI dA dN dS)
    (GI : FnOk P w K mg base (CXD P w CD) k fI dI ["walk", "row", "place"] (spIfD C CD n)) (GA : FnOk P w K mg base (CXD P w CD) k fA dA ["walk", "row", "place"] (spAgainD C CD n)) : FnOk P w K mg base (CXD P w CD) (k + 1) f fd ["walk", "row", "place"] (spRowD C CD (n + 1)) := by
  refine Fun.okX F scRow (fun vs H Q E h => ?_) (fun cdv A outer s0 H vs Q E' hr h => ?_)
  · obtain ⟨a, d, l, pa, c, s, s', r, p, pl, row, ok, rfl, _⟩ := h; rfl
  obtain ⟨a, d, l, pa, c, s, s', r, p, pl, row, ok, rfl, W, hR, hp, hpl, hD, kk, kd⟩ := h
  have hu := hu_of hr
  refine ⟨_, pss_one (ps_if (pt_cmpR op_eq (pe_ix ix_tup (pv 1) pe_int (fun _ _ => rfl)) pe_str (nomark _)) (pss_one (ps_expr (pe_call GI hr rfl E.mI E.kI E.bI .nil passD (pa_cons (pv 0) (pa_cons (pv 1) (pa_cons (pv 2) pa_nil))))))
    (pss_one (ps_if (pt_cmpR op_eq (pe_ix ix_tup (pv 1) pe_int (fun _ _ => rfl)) pe_str (nomark _)) (pss_one (ps_expr (pe_call GA hr rfl E.mA E.kA E.bA .nil passD (pa_cons (pv 0) (pa_cons (pv 1) (pa_cons (pv 2) pa_nil))))))
      (pss_cons (ps_set (i := 3) scRow.nd rfl (Or.inl rfl) (pe_call E.nN (hr.mono hk) rfl E.mN E.kN E.bN .nil pass0 (pa_cons (pe_fld (pv 0) rfl) (pa_cons (pe_fld (pv 0) rfl) (pa_cons (pe_fld (pv 0) rfl) (pa_cons (pv 1) pa_nil))))))
      (pss_cons (ps_expr (pe_meth (pv 0) T.cl E.mS E.nS (hr.mono (by omega)) E.bS .nil passD (pa_cons (pv 2) (pa_cons (pv 3) pa_nil))))
      (pss_one (ps_dput hu (pe_fld (pv 0) rfl) (pe_ix ix_tup (pv 1) pe_int (fun _ _ => rfl)) (pv 3) rfl))))))), ?_⟩
  by_cases hB : isBase row
  · obtain ⟨v, u, hv, v0, v1, hx, hcase⟩ := base_doD hB hD
    obtain ⟨t, wd, more, rfl, ht, n1, n2⟩ := row_word hR hB
    obtain ⟨dx, pn, ho, nm, rwv, mk, hpn⟩ := W.ob
    refine ⟨_, rfl, t, _, 0, _, rfl, rfl, SqT.of ht, atI_nat (j := 0) rfl, rfl, _, rfl, ifN n1 ?_⟩
    refine ⟨_, rfl, t, _, 0, _, rfl, rfl, SqT.of ht, atI_nat (j := 0) rfl, rfl, _, rfl, ifN n2 ?_⟩
    refine ⟨_, rfl, a, C, dx, _, _, rfl, ho, T.cl, T.nplan, wf_plan _ _ _ _ _, _, rfl, a, C, dx, _, _, rfl, ho, T.cl, T.nnumbers, wf_numbers _ _ _ _ _, _, rfl, a, C, dx, _, _, rfl, ho, T.cl, T.npieces, wf_pieces _ _ _ _ _, _, rfl, pn, d, pa, c, nm, rwv, mk, s.nums, .ref t, row, n, v, rfl, hpn, W.dc, W.pc, W.rng, W.mm.1, hR, hB, hv, ?_⟩
    refine ⟨_, rfl, a, dx, _, rfl, ho, wf_no (by decide +kernel) _ _ _ _ _, _, rfl, _, rfl, a, d, l, pa, c, s, p, pl, v, rfl, W, hp, fun hm H1 W1 b1 => ?_, fun hm => ?_⟩
    · rcases hcase with ⟨hn, _⟩ | ⟨_, hok, rfl⟩
      · exact absurd hm hn
      have t1 : Tups H H1 := b1.tupsW W
      obtain ⟨dx1, pn1, ho1, nm1, rw1, mk1, hpn1⟩ := W1.ob
      obtain ⟨m1, m2, m3, m4, m5⟩ := W1.ne
      refine ⟨_, rfl, _, rfl, a, C, dx1, _, _, rfl, ho1, T.cl, T.nnumbers, wf_numbers _ _ _ _ _, _, rfl, t, _, 1, _, rfl, rfl, SqT.of (t1 _ _ ht), atI_nat (j := 1) rfl, d, _, rfl, DPut.k (k := Sum.inr (rowX row)) W1.dc (by have := W1.few; unfold toK; rw [List.length_map]; exact small1000 (by omega)), ?_⟩
      have ep : putK (toK (s.note pl v).nums) (Sum.inr (rowX row)) (.int v) = toK (setN s.nums (rowX row) v) := toK_put (s := s.nums) hx
      rw [ep]
      obtain ⟨xs, hl, hs⟩ := W1.st
      have t2 : Tups H1 (upd H1 d (.dK (toK (setN s.nums (rowX row) v)))) := fun b zs hh => by rw [upd_ne (ne_of hh W1.dc (by intro z; cases z))]; exact hh
      refine kk hok _ ⟨⟨dx1, pn1, by rw [upd_ne m1]; exact ho1, nm1, rw1, mk1, t2 _ _ hpn1⟩, upd_same, by rw [upd_ne m4]; exact W1.pc, ⟨xs, by rw [upd_ne m3.symm]; exact hl, Paired.mapP hs fun _ _ z => z.mono t2⟩, fun y z hy => ?_, by rw [set_len]; exact W.few, W.mm, W1.sm⟩ (b1.trans but2_upd)
      rw [get_set hx] at hy
      split at hy
      · cases hy; exact ⟨v0, v1⟩
      · exact W.rng y z hy
    · rcases hcase with ⟨_, hok, rfl⟩ | ⟨hn, _⟩
      · exact kd hok H W But2.refl
      · exact absurd hn hm
  cases row with
  | put x kk => exact absurd trivial hB
  | take x i => exact absurd trivial hB
  | pick x y => exact absurd trivial hB
  | two ww x y z => exact absurd trivial hB
  | ifr x ra rb =>
    obtain ⟨t, b, cc, xs, ys, rfl, ht, hrest⟩ := id hR
    exact ⟨_, rfl, t, _, 0, _, rfl, rfl, SqT.of ht, rfl, rfl, _, rfl, ifY rfl ⟨_, rfl, _, rfl, _, rfl, a, d, l, pa, c, s, s', .ref t, p, pl, x, ra, rb, ok, rfl, W, hR, hp, by omega, hD, kk, kd⟩⟩
  | again x ra =>
    obtain ⟨t, b, xs, rfl, ht, hrest⟩ := id hR
    exact ⟨_, rfl, t, _, 0, _, rfl, rfl, SqT.of ht, rfl, rfl, _, rfl, ifN (neS (by decide +kernel)) ⟨_, rfl, t, _, 0, _, rfl, rfl, SqT.of ht, rfl, rfl, _, rfl, ifY rfl ⟨_, rfl, _, rfl, _, rfl, a, d, l, pa, c, s, s', .ref t, p, pl, x, ra, ok, rfl, W, hR, hp, by omega, hD, kk, kd⟩⟩⟩
theorem row0D {C CD f : Addr} {fd : FuncData} {k : Nat} : FnOk P w K mg base (CXD P w CD) k f fd ["walk", "row", "place"] (spRowD C CD 0) := by
  have no : ∀ vs H Q E, ¬ spRowD C CD 0 vs H Q E := fun vs H Q E h => by
    obtain ⟨a, d, l, pa, c, s, s', r, p, pl, row, ok, _, _, hR, _⟩ := h
    exact hR
  exact ⟨fun vs H Q E h => absurd h (no vs H Q E), fun A outer s H args us vs Q E _ _ _ _ h => absurd h (no vs H Q E)⟩
theorem all_rowsD {C CD fR fW fI fA fN fS fL : Addr} {dR dW dI dA dN dS dL : FuncData} (T : Txt K mg C) (me : mg "enumerate" = none) (E : FnsD P w K mg base C CD fI fA fN fS dI dA dN dS)
    (FR : Fun K "do_rows" "do_rows" sRows fR dR) (bR : Binds K dR ["walk", "rows", "place"] []) (mR : mg "do_rows" = some (.ref fR)) (FW : Fun K "do_row" "do_row" sRow fW dW) (bW : Binds K dW ["walk", "row", "place"] []) (mW : mg "do_row" = some (.ref fW))
    (FI : Fun K "do_if" "do_if" sIf fI dI) (FA : Fun K "do_again" "do_again" sAgain fA dA) (L : FnOk P w K mg base (CXD P w CD) 2 fL dL ["self", "place", "name"] (spLookD C CD)) (bL : Binds K dL ["self", "place", "name"] []) (mL : Meth K C "look" fL) :
    ∀ n : Nat, FnOk P w K mg base (CXD P w CD) (3 * n + 3) fR dR ["walk", "rows", "place"] (spRowsD C CD n) := by
  intro n
  induction n with
  | zero => exact ok_rowsD (k := 2) FR me row0D bW FW.kp mW
  | succ n ih =>
    have GI := ok_ifD (k := 3 * n + 3) (by omega) FI T ih bR FR.kp mR L bL mL
    have GA := ok_againD (k := 3 * n + 3) (by omega) FA T ih bR FR.kp mR L bL mL
    have GW := ok_rowD (k := 3 * n + 3 + 1) (by omega) FW T E GI GA
    exact ok_rowsD (k := 3 * n + 3 + 1 + 1) FR me GW bW FW.kp mW
end
end Tw

namespace Tw
open PySem L2
section
variable {P : Program} {w : World} {K : PySem.W.Frag} {mg : Str → Option Value} {base : Heap}
/-- a run, dry or not -/
def spRunD (n : Nat) : Sp := fun vs H Q _ => ∃ (pl st : Addr) (m : Int) (names : List Str) (many : Int) (rw : Addr) (mark : V) (nums : List Int) (pc : Addr) (pieces : List Int) (most : Nat) (xs : List V) (rs : List Row) (s' : St8) (es : List Int) (ok : Bool), vs = [.ref pl, .ref st, .int (most : Int)] ∧ PlanAt H pl st m names many rw mark nums pc pieces ∧ most ≤ 100000 ∧
  H rw = some (.tup xs) ∧ Paired (RowAt H n) xs rs ∧ RRows (RRow ⟨m, pieces, most⟩ n) rs [] 0 ⟨names.zip nums, []⟩ ok s' ∧ (ok = true → Paired (fun nm e => getN s'.nums nm = some e) names es) ∧
  (ok = true → ∀ (f L e2 : Addr) (ys : List V) (H' : Hp), H' f = some (.tup [.ref L, .ref e2]) → H' L = some (.lst ys) → Paired (StepAt H') ys s'.steps → H' e2 = some (.tup (es.map V.int)) → Same H H' → H L = none → Q (.ref f) H') ∧
  (ok = false → ∀ (f L : Addr) (ys : List V) (H' : Hp), H' f = some (.tup [.ref L, .non]) → H' L = some (.lst ys) → Paired (StepAt H') ys s'.steps → Same H H' → H L = none → Q (.ref f) H')
theorem su_ret {X : Cx} {e : Value} {wk fl : Str} {p1 p2 p3 p4 p5 : Pos} {jj k} (h3 : X.N[3]? = some wk) (hv : Vis X.env.scope wk) (hd : (wk == ("__debug__" : Str)) = false) (hc : (wk == ("__classdict__" : Str)) = false)
    (hb : attributeBase (.Name wk p1) fl X.env (eval (.Name wk p1) X.env) = eval (.Name wk p1) X.env) :
    PSs (X.marked e) [.Return (some (.Tuple [.Attribute (.Name wk p1) fl p2, .Constant .none jj p3] k p4)) p5] (tRet (tTup (tCons (tFld X.K (tVar 3) fl) (tCons (tC .non) tNil)))) :=
  pss_one (ps_ret (pe_tup (X := X.marked e) (pa_cons (X := X.marked e) (pe_fld (X := X.marked e) (pe_var (X := X.marked e) (i := 3) h3 hv hd hc) hb) (pa_cons (X := X.marked e) pe_non pa_nil))))
theorem ok_runD {f C CD fI fR : Addr} {fd dI dR : FuncData} {n : Nat} (hn : 2 * n ≤ 100) (F : Fun K "run" "run" sRun f fd) (T : Txt K mg C) (B : Bt mg) (mC : mg "Walk" = some (.ref C)) (M : Mk K C fI) (GI : FnOk P w K mg base CX0 1 fI dI ["self", "plan", "stand", "most"] (spInit C)) (bI : Binds K dI ["self", "plan", "stand", "most"] [])
    (X : Dx K mg CD) (GR : FnOk P w K mg base (CXD P w CD) (3 * n + 3) fR dR ["walk", "rows", "place"] (spRowsD C CD n)) (bR : Binds K dR ["walk", "rows", "place"] []) (kR : PySem.W.keepIn K (.ref fR) = true) (mR : mg "do_rows" = some (.ref fR)) :
    FnOk P w K mg base CX0 (3 * n + 4) f fd ["plan", "stand", "most"] (spRunD n) := by
  refine F.ok (k := 3 * n + 3) scRun (fun vs H Q E h => ?_) (fun cdv A outer s0 H vs Q E hr h => ?_)
  · obtain ⟨pl, st, m, names, many, rw, mark, nums, pc, pieces, most, xs, rs, s', es, ok, rfl, _⟩ := h; rfl
  obtain ⟨pl, st, m, names, many, rw, mark, nums, pc, pieces, most, xs, rs, s', es, ok, rfl, hP, hmo, hrw, hrs, hD, hes, k, kd⟩ := h
  have hu := hu_of hr
  have hr2 : Room (1 + 1) (A.deeper (PyProof.Rows.envOfC "run" (defScope sRun) s0.heap.objs.size f cdv)) := hr.mono (by omega)
  refine ⟨_, pss_cons (ps_set (i := 3) scRun.nd rfl (Or.inr rfl) (pe_make M GI hr2 rfl mC bI .nil pass0 (pa_cons (pv 0) (pa_cons (pv 1) (pa_cons (pv 2) pa_nil)))))
    (pss_cons (ps_tryCall rfl rfl GR hr rfl mR kR bR .nil (pa_cons (pv 3) (pa_cons (pe_ix ix_tup (pv 0) pe_int (fun _ _ => rfl)) (pa_cons (pe_tup pa_nil) pa_nil))) X.ex rfl X.m (fun ea => su_ret rfl (Or.inr (Or.inl rfl)) (by decide +kernel) (by decide +kernel) rfl))
    (pss_one (ps_ret (pe_tup (pa_cons (pe_fld (pv 3) rfl) (pa_cons (pe_callTy call_tuple_of rfl B.tuple bt_tuple (pa_cons (pe_comp (ls := ["name"]) (fs := ["walk"]) (js := [3]) rfl
      (compOk1 (c := s0.heap.objs.size + 1) rfl (by decide +kernel) (by decide +kernel) rfl rfl (.cons rfl (.inl rfl) (.inl rfl) .nil)) (pi_tup (pe_ix ix_tup (pv 0) pe_int (fun _ _ => rfl)))
      (fun C' s₀ H₀ fp pl' => ⟨cg_one (by decide +kernel) rfl rfl, pts_nil, ce_look hu rfl rfl (Or.inr (Or.inl rfl)) (Or.inl rfl) (by decide +kernel) (by decide +kernel) (by decide +kernel) (by decide +kernel) rfl⟩)) pa_nil)) pa_nil)))))), ?_⟩
  obtain ⟨nm, hpl, hnm⟩ := hP.plan
  refine ⟨_, rfl, _, rfl, _, rfl, fun x dx nx ndx nex => ?_⟩
  have s0' : Same H (upd (upd H dx (.own x)) x (.ins C dx [])) := fun b o e => by
    rw [upd_ne (ne_of_none e nx), upd_ne (ne_of_none e ndx)]
    exact e
  refine ⟨x, dx, pl, st, m, names, many, rw, mark, nums, pc, pieces, most, rfl, upd_same, hP.keep (Tups.of s0'), hmo, fun d l H1 hd hl W1 k1 => ⟨rfl, ?_⟩⟩
  have s1 : Same H H1 := fun b o e => k1 b o (s0' b o e) (ne_of_none e nx)
  refine ⟨_, rfl, _, rfl, pl, _, 3, _, rfl, rfl, SqT.of (s1 _ _ hpl), rfl, (by show 0 ≤ sizeLine; decide), fun p0 hp0 => ?_⟩
  have s2 := same_upd hp0 (.tup [])
  have s12 : Same H (upd H1 p0 (.tup [])) := s1.trans s2
  have hd0 : H d = none := s0'.free hd
  have hl0 : H l = none := s0'.free hl
  refine ⟨x, d, l, pc, _, _, s', rw, p0, [], xs, rs, ok, rfl, W1.keep s2, s12 _ _ hrw, Paired.mapP hrs fun _ _ z => z.mono (Tups.of s12), upd_same, (by show 0 + 2 * n ≤ 100; omega), hD, fun hok H3 W3 b3 => ?_, fun hok H3 W3 b3 => ?_⟩
  rotate_left
  · have s13 : Same H H3 := fun b o e => b3 b o (s12 b o e) (ne_of_none e hd0) (ne_of_none e hl0)
    obtain ⟨dx3, pn3, ho3, _⟩ := W3.ob
    obtain ⟨ys, hly, hys⟩ := W3.st
    refine ⟨_, rfl, x, C, dx3, _, _, rfl, ho3, T.cl, T.nsteps, wf_steps _ _ _ _ _, (by show 2 ≤ sizeLine; decide), fun fr hfr => ?_⟩
    have s5 := same_upd hfr (.tup [.ref l, .non])
    exact kd hok fr l ys _ upd_same (s5 _ _ hly) (Paired.mapP hys fun _ _ z => z.mono (Tups.of s5)) (s13.trans s5) hl0
  replace hes := hes hok
  have s13 : Same H H3 := fun b o e => b3 b o (s12 b o e) (ne_of_none e hd0) (ne_of_none e hl0)
  obtain ⟨dx3, pn3, ho3, _⟩ := W3.ob
  refine ⟨_, rfl, x, C, dx3, _, _, rfl, ho3, T.cl, T.nsteps, wf_steps _ _ _ _ _, ?_⟩
  refine ⟨_, rfl, pl, _, 1, _, rfl, rfl, SqT.of (s13 _ _ hpl), rfl, nm, rfl, ⟨_, SqT.of (s13 _ _ hnm)⟩, fun p hp => ?_⟩
  have sp := same_upd hp (.lst [])
  have hle := Paired.len hes
  refine ⟨fun i mm σ' H' => mm = names.length - i ∧ i ≤ names.length ∧ (∃ c0, σ' = [c0, some (.ref x)]) ∧ H' p = some (.lst ((es.take i).map V.int)) ∧ Same H3 H', ⟨names.length, rfl, Nat.zero_le _, ⟨none, rfl⟩, upd_same, sp⟩, ?_⟩
  rintro i mm σ' H' ⟨rfl, hi, ⟨c0, rfl⟩, hp', s'3⟩
  by_cases hlt : i < names.length
  · have hlt2 : i < es.length := by omega
    refine .inr ⟨⟨_, V.str names[i], SqT.of (s'3 _ _ (s13 _ _ hnm)), by simp [hlt]⟩, fun σ2 H2 => (∃ c0, σ2 = [c0, some (.ref x)]) ∧ H2 p = some (.lst ((es.take (i + 1)).map V.int)) ∧ Same H3 H2, fun σ2 H2 ⟨h1, h2, h3⟩ => ⟨names.length - (i + 1), by omega, rfl, hlt, h1, h2, h3⟩, ?_⟩
    rintro y H2 ⟨rfl, hy⟩
    have ey : y = V.str names[i] := by
      have := hy _ (SqT.of (s'3 _ _ (s13 _ _ hnm)))
      rw [List.getElem?_map, List.getElem?_eq_getElem hlt] at this
      exact (Option.some.inj this).symm
    subst ey
    have hg : getN s'.nums names[i] = some es[i] := by
      have : ∀ {l₁ : List Str} {l₂ : List Int}, Paired (fun nm e => getN s'.nums nm = some e) l₁ l₂ → ∀ (j : Nat) (h1 : j < l₁.length) (h2 : j < l₂.length), getN s'.nums l₁[j] = some l₂[j] := by
        intro l₁ l₂ p
        induction p with
        | nil => intro j h1; exact absurd h1 (Nat.not_lt_zero _)
        | cons r _ ihp =>
          intro j h1 h2
          cases j with
          | zero => exact r
          | succ j => exact ihp j (by simpa using h1) (by simpa using h2)
      exact this hes i hlt hlt2
    refine ⟨_, rfl, x, C, dx3, _, _, rfl, s'3 _ _ ho3, T.cl, T.nnumbers, wf_numbers _ _ _ _ _, _, rfl, d, _, rfl, dget_of (s'3 _ _ W3.dc) hg, ?_⟩
    refine ⟨_, hp', ?_, ⟨_, rfl⟩, ?_, fun c o e => ?_⟩
    · rw [List.length_map, List.length_take]
      have : sizeLine = 16777216 := rfl
      have := hP.some_.2
      omega
    · rw [upd_same, List.take_succ_eq_append_getElem hlt2, List.map_append]
      rfl
    · rw [upd_ne (ne_of_none e hp)]
      exact s'3 _ _ e
  · have e : i = names.length := by omega
    subst e
    refine .inl ⟨⟨_, SqT.of (s'3 _ _ (s13 _ _ hnm)), by rw [List.length_map]; exact Nat.le_refl _⟩, ?_⟩
    rw [hle, List.take_length] at hp'
    refine ⟨p, _, rfl, .inl ⟨SqL.of hp', fun e2 he2 => ?_⟩⟩
    have s4 := same_upd he2 (.tup (es.map V.int))
    refine ⟨(by show 2 ≤ sizeLine; decide), fun fr hfr => ?_⟩
    have s5 := same_upd hfr (.tup [.ref l, .ref e2])
    have s35 : Same H3 (upd (upd H' e2 (.tup (es.map V.int))) fr (.tup [.ref l, .ref e2])) := s'3.trans (s4.trans s5)
    obtain ⟨ys, hly, hys⟩ := W3.st
    exact k hok fr l e2 ys _ upd_same (s35 _ _ hly) (Paired.mapP hys fun _ _ z => z.mono (Tups.of s35)) (s5 _ _ upd_same) (s13.trans s35) hl0
end
end Tw

namespace Tw
open PySem L2
theorem nsMap_eq_of_in {K : PySem.W.Frag} {h h' : Heap} {N : Addr} (X : K.In h) (X' : K.In h') (e : PySem.W.nsOkIn K N = true) : h'.nsMap N = h.nsMap N := by
  unfold PySem.W.nsOkIn at e
  split at e
  · rename_i ho
    funext x
    unfold Heap.nsMap
    rw [X _ _ ho, X' _ _ ho]
  · cases e
/-- what a raise of an own class needs, by what lies in K -/
theorem exc_of_in {K : PySem.W.Frag} {h : Heap} {C : Addr} (X : K.In h) (q : PySem.W.excIn K C [.type "ValueError", .type "Exception", .type "BaseException", .type "object"] "ValueError.__new__" = true) : ExcAt K C := by
  unfold PySem.W.excIn at q
  split at q
  · rename_i dd cd sl ho
    split at q
    · rename_i C' bm k0 k1 k2 k3 n k5 hm hs
      simp only [Bool.and_eq_true, beq_iff_eq, Bool.not_eq_true'] at q
      obtain ⟨⟨⟨⟨⟨rfl, rfl⟩, hdel⟩, ht⟩, hok⟩, hni⟩ := q
      obtain ⟨nm, bs, mro, ns, qn, hd, sn, sub, ab, col, del⟩ := cd
      dsimp only at hm hdel hok hni
      subst hm hdel
      have hsl : sl = #[k0, k1, k2, k3, some (.builtin "ValueError.__new__"), k5] := by
        obtain ⟨l⟩ := sl
        simp only at hs
        rw [hs]
      subst hsl
      refine ⟨⟨nm, qn, ns, bs, bm, _, hd, sn, sub, ab, col, dd, k0, k1, k2, k3, k5, "ValueError.__new__", "ValueError.__init__", "ValueError", h.nsMap ns, fun h' X' => ⟨X' _ _ ho, ?_, PySem.W.tail_of_in X' ht⟩, PySem.W.nsMap_none_of_in X hok hni, PySem.F.excBase_ValueError, by decide, (PySem.W.tail_of_in X ht).hasType (by decide)⟩⟩
      rw [← nsMap_eq_of_in X X' hok]
      exact .of_isNs (PySem.W.isNs_of_in X' hok)
    · cases q
  · cases q
end Tw

namespace Tw
open PySem L2
abbrev Stp := List Int × Int
/-! ### rows that set names: what they do, in plain words -/
def rowOk (m : Int) (names : List Str) (many : Nat) : Row → Prop
  | .put x k => x ∈ names ∧ 0 ≤ k ∧ k < m
  | .take x i => x ∈ names ∧ 0 ≤ i ∧ i < (many : Int)
  | .pick x y => x ∈ names ∧ y ∈ names ∧ 0 < many
  | .two w x y z => isTwo w ∧ x ∈ names ∧ y ∈ names ∧ z ∈ names
  | _ => False
structure NumsOk (m : Int) (names : List Str) (s : Nums) : Prop where
  keys : s.map (·.1) = names
  rng : ∀ x v, getN s x = some v → 0 ≤ v ∧ v < m
theorem get_some {x : Str} : ∀ {s : Nums}, x ∈ s.map (·.1) → ∃ v, getN s x = some v
  | [], h => by cases h
  | p :: r, h => by
    unfold getN
    rw [List.find?_cons]
    by_cases e : p.1 = x
    · exact ⟨p.2, by simp [e]⟩
    · have h' : x ∈ r.map (·.1) := by
        rw [List.map_cons] at h
        rcases List.mem_cons.mp h with z | z
        · exact absurd z.symm e
        · exact z
      obtain ⟨v, hv⟩ := get_some h'
      exact ⟨v, by simp only [decide_eq_false e]; exact hv⟩
theorem NumsOk.get {m : Int} {names : List Str} {s : Nums} (h : NumsOk m names s) {x : Str} (hx : x ∈ names) : ∃ v, getN s x = some v ∧ 0 ≤ v ∧ v < m := by
  obtain ⟨v, hv⟩ := get_some (s := s) (x := x) (by rw [h.keys]; exact hx)
  exact ⟨v, hv, h.rng x v hv⟩
theorem set_keys (s : Nums) (x : Str) (v : Int) : (setN s x v).map (·.1) = s.map (·.1) := by
  unfold setN
  rw [List.map_map]
  refine List.map_congr_left fun p _ => ?_
  simp only [Function.comp]
  split <;> rfl
theorem NumsOk.set {m : Int} {names : List Str} {s : Nums} (h : NumsOk m names s) {x : Str} {v : Int} (hx : x ∈ names) (h0 : 0 ≤ v) (h1 : v < m) : NumsOk m names (setN s x v) := by
  obtain ⟨u, hu, _⟩ := h.get hx
  refine ⟨by rw [set_keys]; exact h.keys, fun y w hw => ?_⟩
  rw [get_set hu] at hw
  split at hw
  · cases hw; exact ⟨h0, h1⟩
  · exact h.rng y w hw
theorem rowX_mem {m : Int} {names : List Str} {many : Nat} {r : Row} (h : rowOk m names many r) : rowX r ∈ names := by
  cases r with
  | put x k => exact h.1
  | take x i => exact h.1
  | pick x y => exact h.1
  | two w x y z => exact h.2.1
  | ifr x a b => exact h.elim
  | again x a => exact h.elim
theorem join_rng {w : Str} {y z m : Int} (hm : 2 ≤ m) : 0 ≤ join2 w y z m ∧ join2 w y z m < m := by
  unfold join2
  split
  · exact ⟨Int.emod_nonneg _ (by omega), Int.emod_lt_of_pos _ (by omega)⟩
  · split
    · exact ⟨Int.emod_nonneg _ (by omega), Int.emod_lt_of_pos _ (by omega)⟩
    · split
      · split <;> omega
      · split <;> omega
theorem number_ok {c : Cfg} {names : List Str} {s : Nums} {r : Row} (hr : rowOk c.m names c.pieces.length r) (hs : NumsOk c.m names s) (hp : ∀ v ∈ c.pieces, 0 ≤ v ∧ v < c.m) (hm : 2 ≤ c.m) :
    ∃ v, number c s r = some v ∧ 0 ≤ v ∧ v < c.m := by
  have at_ : ∀ i : Nat, i < c.pieces.length → ∃ v, c.pieces[i]? = some v ∧ 0 ≤ v ∧ v < c.m := fun i hi =>
    ⟨c.pieces[i], List.getElem?_eq_getElem hi, hp _ (List.getElem_mem hi)⟩
  cases r with
  | put x k => exact ⟨k, rfl, hr.2⟩
  | take x i =>
    obtain ⟨_, h0, h1⟩ := hr
    obtain ⟨v, hv, h⟩ := at_ i.toNat (by omega)
    exact ⟨v, by simp only [number]; rw [if_pos h0]; exact hv, h⟩
  | pick x y =>
    obtain ⟨_, hy, h0⟩ := hr
    obtain ⟨u, hu, _⟩ := hs.get hy
    have e0 := Int.emod_nonneg u (b := (c.pieces.length : Int)) (by omega)
    have e1 := Int.emod_lt_of_pos u (b := (c.pieces.length : Int)) (by omega)
    obtain ⟨v, hv, h⟩ := at_ (u % (c.pieces.length : Int)).toNat (by omega)
    exact ⟨v, by simp only [number, hu]; rw [if_pos h0]; exact hv, h⟩
  | two w x y z =>
    obtain ⟨_, _, hy, hz⟩ := hr
    obtain ⟨a, ha, _⟩ := hs.get hy
    obtain ⟨b, hb, _⟩ := hs.get hz
    exact ⟨join2 w a b c.m, by simp only [number, ha, hb], join_rng hm⟩
  | ifr x a b => exact hr.elim
  | again x a => exact hr.elim
def vOf (c : Cfg) (s : Nums) (r : Row) : Int := (number c s r).getD 0
def nB (c : Cfg) : List Row → Nums → Nums
  | [], s => s
  | r :: rs, s => nB c rs (setN s (rowX r) (vOf c s r))
def sB (c : Cfg) : List Row → List Int → Nat → Nums → List Stp
  | [], _, _, _ => []
  | r :: rs, pl, j, s => (pl ++ [(j : Int)], vOf c s r) :: sB c rs pl (j + 1) (setN s (rowX r) (vOf c s r))
theorem sB_len (c : Cfg) : ∀ (rs : List Row) (pl : List Int) (j : Nat) (s : Nums), (sB c rs pl j s).length = rs.length
  | [], _, _, _ => rfl
  | r :: rs, pl, j, s => by show (sB c rs pl (j + 1) _).length + 1 = _; rw [sB_len c rs]; rfl
theorem sB_pl (c : Cfg) (pl : List Int) : ∀ (rs : List Row) (j : Nat) (s : Nums), sB c rs pl j s = (sB c rs [] j s).map fun p => (pl ++ p.1, p.2)
  | [], _, _ => rfl
  | r :: rs, j, s => by
    show _ :: sB c rs pl (j + 1) _ = _ :: List.map _ (sB c rs [] (j + 1) _)
    rw [sB_pl c pl rs (j + 1)]
    rfl
theorem sB_places (c : Cfg) (pl : List Int) : ∀ (rs : List Row) (j : Nat) (s : Nums), ∀ p ∈ sB c rs pl j s, p.1.length = pl.length + 1
  | [], _, _, p, h => by cases h
  | r :: rs, j, s, p, h => by
    rcases List.mem_cons.mp (show p ∈ _ :: sB c rs pl (j + 1) _ from h) with rfl | z
    · show (pl ++ [(j : Int)]).length = _
      rw [List.length_append, List.length_singleton]
    · exact sB_places c pl rs (j + 1) _ p z
theorem vOf_ok {c : Cfg} {names : List Str} {s : Nums} {r : Row} (hr : rowOk c.m names c.pieces.length r) (hs : NumsOk c.m names s) (hp : ∀ v ∈ c.pieces, 0 ≤ v ∧ v < c.m) (hm : 2 ≤ c.m) :
    number c s r = some (vOf c s r) ∧ 0 ≤ vOf c s r ∧ vOf c s r < c.m := by
  obtain ⟨v, hv, h⟩ := number_ok hr hs hp hm
  have e : vOf c s r = v := by unfold vOf; rw [hv]; rfl
  rw [e]
  exact ⟨hv, h⟩
theorem nB_ok {c : Cfg} {names : List Str} (hp : ∀ v ∈ c.pieces, 0 ≤ v ∧ v < c.m) (hm : 2 ≤ c.m) : ∀ {rs : List Row} {s : Nums}, (∀ r ∈ rs, rowOk c.m names c.pieces.length r) → NumsOk c.m names s → NumsOk c.m names (nB c rs s)
  | [], s, _, hs => hs
  | r :: rs, s, hr, hs => by
    obtain ⟨_, h0, h1⟩ := vOf_ok (hr r List.mem_cons_self) hs hp hm
    exact nB_ok hp hm (rs := rs) (fun q hq => hr q (List.mem_cons_of_mem _ hq)) (hs.set (rowX_mem (hr r List.mem_cons_self)) h0 h1)
theorem base_row {c : Cfg} {n : Nat} {names : List Str} {r : Row} (hr : rowOk c.m names c.pieces.length r) {pl : List Int} {s s' : St8}
    (h : ∃ v u, number c s.nums r = some v ∧ 0 ≤ v ∧ v < 1000 ∧ s.steps.length < c.most ∧ getN s.nums (rowX r) = some u ∧ s' = { nums := setN s.nums (rowX r) v, steps := s.steps ++ [(pl, v)] }) : DoRow c (n + 1) r pl s s' := by
  cases r with
  | put x k => exact h
  | take x k => exact h
  | pick x k => exact h
  | two w x y z => exact h
  | ifr x p q => exact hr.elim
  | again x p => exact hr.elim
theorem do_base {c : Cfg} {n : Nat} {names : List Str} (hp : ∀ v ∈ c.pieces, 0 ≤ v ∧ v < c.m) (hm : 2 ≤ c.m) (hm2 : c.m ≤ 1000) : ∀ {rs : List Row} {pl : List Int} {j : Nat} {s : Nums} {st : List Stp}, (∀ r ∈ rs, rowOk c.m names c.pieces.length r) → NumsOk c.m names s → st.length + rs.length ≤ c.most →
    DoRows (DoRow c (n + 1)) rs pl j ⟨s, st⟩ ⟨nB c rs s, st ++ sB c rs pl j s⟩
  | [], pl, j, s, st, _, _, _ => by
    show DoRows _ [] pl j ⟨s, st⟩ ⟨s, st ++ []⟩
    rw [List.append_nil]
    exact .nil
  | r :: rs, pl, j, s, st, hr, hs, hl => by
    have hx := rowX_mem (hr r List.mem_cons_self)
    obtain ⟨e, h0, h1⟩ := vOf_ok (hr r List.mem_cons_self) hs hp hm
    obtain ⟨u, hu, _⟩ := hs.get hx
    rw [List.length_cons] at hl
    refine .cons (s1 := ⟨setN s (rowX r) (vOf c s r), st ++ [(pl ++ [(j : Int)], vOf c s r)]⟩) (base_row (hr r List.mem_cons_self) ⟨vOf c s r, u, e, h0, by omega, by show st.length < c.most; omega, hu, rfl⟩) ?_
    have := do_base (n := n) (pl := pl) (j := j + 1) (st := st ++ [(pl ++ [(j : Int)], vOf c s r)]) hp hm hm2 (rs := rs) (fun q hq => hr q (List.mem_cons_of_mem _ hq)) (hs.set hx h0 h1) (by rw [List.length_append, List.length_singleton]; omega)
    rw [List.append_assoc] at this
    exact this
def lk (v : Int) : Int := if v = 0 then 0 else 1
/-- an if of rows that set names -/
theorem do_ifr {c : Cfg} {n : Nat} {names : List Str} (hp : ∀ v ∈ c.pieces, 0 ≤ v ∧ v < c.m) (hm : 2 ≤ c.m) (hm2 : c.m ≤ 1000) {x : Str} {v : Int} {a b : List Row} {pl : List Int} {s : Nums} {st : List Stp}
    (ha : ∀ r ∈ a, rowOk c.m names c.pieces.length r) (hb : ∀ r ∈ b, rowOk c.m names c.pieces.length r) (hs : NumsOk c.m names s) (hx : getN s x = some v) (hl : st.length + 1 + (if v = 0 then b else a).length ≤ c.most) :
    DoRow c (n + 2) (.ifr x a b) pl ⟨s, st⟩ ⟨nB c (if v = 0 then b else a) s, (st ++ [(pl, lk v)]) ++ sB c (if v = 0 then b else a) (pl ++ [lk v]) 0 s⟩ := by
  refine ⟨v, hx, by show st.length < c.most; omega, ?_⟩
  refine do_base (st := st ++ [(pl, lk v)]) hp hm hm2 (fun r hr => ?_) hs (by rw [List.length_append, List.length_singleton]; omega)
  split at hr
  · exact hb r hr
  · exact ha r hr
/-- the rows of the law: an if, then a row -/
theorem do_one {c : Cfg} {names : List Str} (hp : ∀ v ∈ c.pieces, 0 ≤ v ∧ v < c.m) (hm : 2 ≤ c.m) (hm2 : c.m ≤ 1000) {x : Str} {v : Int} {a b : List Row} {q : Row} {s : Nums}
    (ha : ∀ r ∈ a, rowOk c.m names c.pieces.length r) (hb : ∀ r ∈ b, rowOk c.m names c.pieces.length r) (hq : rowOk c.m names c.pieces.length q) (hs : NumsOk c.m names s) (hx : getN s x = some v) (hl : 2 + (if v = 0 then b else a).length ≤ c.most) :
    DoRows (DoRow c 3) [.ifr x a b, q] [] 0 ⟨s, []⟩ ⟨nB c [q] (nB c (if v = 0 then b else a) s), [([0], lk v)] ++ sB c (if v = 0 then b else a) [0, lk v] 0 s ++ [([1], vOf c (nB c (if v = 0 then b else a) s) q)]⟩ := by
  have hi : ∀ r ∈ (if v = 0 then b else a), rowOk c.m names c.pieces.length r := fun r hr => by
    split at hr
    · exact hb r hr
    · exact ha r hr
  refine .cons (s1 := ⟨nB c (if v = 0 then b else a) s, ([] ++ [([0], lk v)]) ++ sB c (if v = 0 then b else a) ([0] ++ [lk v]) 0 s⟩) (do_ifr (n := 1) hp hm hm2 ha hb hs hx (by show 0 + 1 + _ ≤ _; omega)) ?_
  exact do_base (n := 2) (rs := [q]) (pl := []) (j := 0 + 1) hp hm hm2 (fun r hr => by rw [List.mem_singleton.mp hr]; exact hq) (nB_ok hp hm hi hs) (by
    rw [List.length_append, sB_len]
    show 1 + _ + 1 ≤ _
    omega)
theorem do_two {c : Cfg} {names : List Str} (hp : ∀ v ∈ c.pieces, 0 ≤ v ∧ v < c.m) (hm : 2 ≤ c.m) (hm2 : c.m ≤ 1000) {x y : Str} {v u : Int} {a b ra rb : List Row} {q : Row} {s : Nums}
    (ha : ∀ r ∈ a, rowOk c.m names c.pieces.length r) (hb : ∀ r ∈ b, rowOk c.m names c.pieces.length r) (hq : rowOk c.m names c.pieces.length q) (hs : NumsOk c.m names s) (hx : getN s x = some v) (hy : getN s y = some u) (hl : 3 + (if v = 0 then b else a).length ≤ c.most)
    (hab : (if u = 0 then rb else ra) = [.ifr x a b]) :
    DoRows (DoRow c 3) [.ifr y ra rb, q] [] 0 ⟨s, []⟩ ⟨nB c [q] (nB c (if v = 0 then b else a) s), [([0], lk u), ([0, lk u, 0], lk v)] ++ sB c (if v = 0 then b else a) [0, lk u, 0, lk v] 0 s ++ [([1], vOf c (nB c (if v = 0 then b else a) s) q)]⟩ := by
  have hi : ∀ r ∈ (if v = 0 then b else a), rowOk c.m names c.pieces.length r := fun r hr => by
    split at hr
    · exact hb r hr
    · exact ha r hr
  refine .cons (s1 := ⟨nB c (if v = 0 then b else a) s, ([([0], lk u)] ++ [([0, lk u, 0], lk v)]) ++ sB c (if v = 0 then b else a) ([0, lk u, 0] ++ [lk v]) 0 s⟩) ?_ ?_
  · refine ⟨u, hy, by show 0 < c.most; omega, ?_⟩
    rw [hab]
    exact .cons (do_ifr (n := 0) (st := [([0], lk u)]) (pl := [0, lk u, 0]) hp hm hm2 ha hb hs hx (by show 1 + 1 + _ ≤ _; omega)) .nil
  · exact do_base (n := 2) (rs := [q]) (pl := []) (j := 0 + 1) hp hm hm2 (fun r hr => by rw [List.mem_singleton.mp hr]; exact hq) (nB_ok hp hm hi hs) (by
      rw [List.length_append, sB_len]
      show 2 + _ + 1 ≤ _
      omega)
/-- the numbers of all names, in order -/
def vals (s : Nums) : List Int := s.map (·.2)
theorem vals_len {m : Int} {names : List Str} {s : Nums} (h : NumsOk m names s) : (vals s).length = names.length := by
  unfold vals
  rw [List.length_map, ← h.keys, List.length_map]
theorem zip_vals : ∀ s : Nums, (s.map (·.1)).zip (vals s) = s
  | [] => rfl
  | p :: r => by
    show (p.1, p.2) :: (r.map (·.1)).zip (vals r) = _
    rw [zip_vals r]
theorem NumsOk.zip {m : Int} {names : List Str} {s : Nums} (h : NumsOk m names s) : names.zip (vals s) = s := by
  rw [← h.keys]
  exact zip_vals s
theorem get_nodup : ∀ {s : Nums} {p : Str × Int}, (s.map (·.1)).Nodup → p ∈ s → getN s p.1 = some p.2
  | [], _, _, h => by cases h
  | q :: r, p, nd, h => by
    unfold getN
    rw [List.find?_cons]
    rcases List.mem_cons.mp h with rfl | z
    · simp
    · have ne : ¬ q.1 = p.1 := fun e => (List.nodup_cons.mp (show (q.1 :: r.map (·.1)).Nodup from nd)).1 (by rw [e]; exact List.mem_map.mpr ⟨p, z, rfl⟩)
      simp only [decide_eq_false ne]
      exact get_nodup (List.nodup_cons.mp (show (q.1 :: r.map (·.1)).Nodup from nd)).2 z
theorem vals_rng {m : Int} {names : List Str} {s : Nums} (h : NumsOk m names s) (nd : names.Nodup) : ∀ v ∈ vals s, 0 ≤ v ∧ v < m := by
  intro v hv
  obtain ⟨p, hp, rfl⟩ := List.mem_map.mp hv
  exact h.rng p.1 p.2 (get_nodup (by rw [h.keys]; exact nd) hp)
theorem numsOk_zip {m : Int} {names : List Str} {nums : List Int} (hl : names.length = nums.length) (hr : ∀ v ∈ nums, 0 ≤ v ∧ v < m) : NumsOk m names (names.zip nums) := by
  refine ⟨List.map_fst_zip (by omega), fun x v hv => ?_⟩
  refine hr v ?_
  unfold getN at hv
  obtain ⟨p, hp, rfl⟩ := Option.map_eq_some_iff.mp hv
  exact (List.of_mem_zip (a := p.1) (b := p.2) (List.mem_of_find?_eq_some hp)).2
end Tw

namespace L2
open PySem PySem.Spec PyProof.Rows
theorem lookup_zip {x : Str} : ∀ {fs : List Str} {cs : List Addr}, fs.length = cs.length → x ∈ fs → ∃ c, (fs.zip cs).lookup x = some c
  | [], _, _, h => by cases h
  | _ :: _, [], h, _ => by simp at h
  | y :: fs, c :: cs, hl, h => by
    rw [List.zip_cons_cons, List.lookup_cons]
    cases e : x == y with
    | true => exact ⟨c, rfl⟩
    | false =>
      have ne : ¬ x = y := fun z => by rw [z] at e; simp at e
      rcases List.mem_cons.mp h with z | z
      · exact absurd z ne
      · exact lookup_zip (by simpa using hl) z
/-- a comprehension that takes the names fs from around it -/
theorem compOkN {X : Cx} {scope : Scope} {ls fs : List Str} {cs : List Addr} {js : List Nat} (hk : scope.kind = .function) (hn : ∀ y ∈ scope.names, y.2 ≠ .cell ∧ (y.2 = .free → y.1 ∈ fs)) (hl : ∀ x ∈ scope.names, x.2 = .local → scope.names.lookup x.1 = some .local)
    (hlen : fs.length = cs.length) (hcl : closureFor scope X.env = pure (fs.zip cs)) (hc : ∀ p ∈ fs.zip cs, X.env.cells.lookup p.1 = some p.2) (hf : Frees X scope fs js) : CompOk X scope (fs.zip cs) ls fs js where
  kind := hk
  nocell := fun y hy => (hn y hy).1
  locs := hl
  clos := hcl
  cells := fun y d h => hc (y, d) (PySem.mem_of_lookup h)
  has := fun y h => by
    have hy : y ∈ fs := by
      rcases h with h | h
      · obtain ⟨k', h1, h2 | ⟨h2, _⟩⟩ := relabel_names h
        · exact absurd h2.symm (hn _ h1).1
        · exact (hn _ h1).2 h2
      · obtain ⟨k', h1, h2 | ⟨h2, _⟩⟩ := relabel_names h
        · exact (hn _ h1).2 h2.symm
        · exact (hn _ h1).2 h2
    exact lookup_zip hlen hy
  frees := hf
end L2
namespace Tw
open PySem L2
theorem gset {i : Nat} {v : V} {σ σ' : St} {H : Hp} {Q : St → Hp → Prop} (e : σ.set i (some v) = σ') (h : Q σ' H) : gName i v σ H Q := by
  subst e
  exact h
theorem PotAt.tups {H H' : Hp} {p q : Addr} {ns : List Int} (P : PotAt H p q ns) (b : But2 p q H H') : Tups H H' := by
  obtain ⟨c, d, e, hp⟩ := P.at_
  exact b.tups (.inl hp) P.cells (fun ys e => nomatch e)
theorem PotAt.new {H : Hp} {p q l : Addr} {ns : List Int} (P : PotAt H p q ns) (hl : H l = none) : l ≠ p ∧ l ≠ q := by
  obtain ⟨c, d, e, hp⟩ := P.at_
  exact ⟨(ne_of_none hp hl).symm, (ne_of_none P.cells hl).symm⟩
theorem PotAt.put {H : Hp} {p q l : Addr} {ns : List Int} {o : HO} (P : PotAt H p q ns) (h1 : l ≠ p) (h2 : l ≠ q) : PotAt (upd H l o) p q ns :=
  ⟨let ⟨c, d, e, h⟩ := P.at_; ⟨c, d, e, by rw [upd_ne h1.symm]; exact h⟩, by rw [upd_ne h2.symm]; exact P.cells, P.few⟩
theorem tups_lst {H : Hp} {l : Addr} {ys zs : List V} (h : H l = some (.lst ys)) : Tups H (upd H l (.lst zs)) := fun b xs hb => by
  rw [upd_ne (fun e => by subst e; rw [h] at hb; cases hb)]
  exact hb
theorem pick_at {α : Type} {f : α → V} {names : List α} {r : Int} (h0 : 0 ≤ r) (h1 : r < (names.length : Int)) : ∃ x ∈ names, atI (names.map f) r = some (f x) := by
  have hl : r.toNat < names.length := by omega
  refine ⟨names[r.toNat], List.getElem_mem hl, ?_⟩
  have := atI_nat (xs := names.map f) (j := r.toNat) (v := f names[r.toNat]) (by rw [List.getElem?_map, List.getElem?_eq_getElem hl]; rfl)
  rwa [show ((r.toNat : Nat) : Int) = r by omega] at this
theorem rd_forN {ta : TA} {g : TG} {tb : TS} {D : Ends} {σ : St} {H : Hp} {n : Nat} (Pv : Nat → St → Hp → Prop) (ha : ∀ Q : List V → Hp → Prop, Q [.int (n : Int)] H → ta σ H Q) (hn : n ≤ 1000) (h0 : Pv 0 σ H)
    (hs : ∀ i σ H, i < n → Pv i σ H → g (.int (i : Int)) σ H fun σ2 H2 => tb { D with nx := Pv (i + 1), ct := Pv (i + 1), bk := D.nx } σ2 H2) (hd : ∀ σ H, Pv n σ H → D.nx σ H) : tFor (iRng1 ta) g tb D σ H := by
  refine ha _ ⟨(n : Int), rfl, by omega, by omega, ?_⟩
  rw [Int.toNat_natCast]
  exact for_range (lo := 0) (n := n) Pv h0 (fun i σ H hi p => by rw [Int.zero_add]; exact hs i σ H hi p) hd
/-- .. with statements behind it -/
theorem rd_forS {ta : TA} {g : TG} {tb U : TS} {D : Ends} {σ : St} {H : Hp} {n : Nat} (Pv : Nat → St → Hp → Prop) (ha : ∀ Q : List V → Hp → Prop, Q [.int (n : Int)] H → ta σ H Q) (hn : n ≤ 1000) (h0 : Pv 0 σ H)
    (hs : ∀ i σ H, i < n → Pv i σ H → g (.int (i : Int)) σ H fun σ2 H2 => tb { D with nx := Pv (i + 1), ct := Pv (i + 1), bk := U D } σ2 H2) (hd : ∀ σ H, Pv n σ H → U D σ H) : tSeq (tFor (iRng1 ta) g tb) U D σ H :=
  rd_forN (D := { D with nx := U D }) Pv ha hn h0 hs hd
theorem rd_ifS {tt : TT} {ta tb U : TS} {D : Ends} {σ : St} {H : Hp} (T : Bool → Hp → Prop) (N : St → Hp → Prop) (ht : ∀ Q : Bool → Hp → Prop, (∀ b H', T b H' → Q b H') → tt σ H Q) (ha : ∀ (H' : Hp) (D' : Ends), T true H' → (∀ σ' H', N σ' H' → D'.nx σ' H') → ta D' σ H')
    (hb : ∀ (H' : Hp) (D' : Ends), T false H' → (∀ σ' H', N σ' H' → D'.nx σ' H') → tb D' σ H') (hk : ∀ σ' H', N σ' H' → U D σ' H') : tSeq (tIfS tt ta tb) U D σ H :=
  rd_if2 (D := { D with nx := U D }) T N ht ha hb hk
/-- [e for k in range(n)]: each turn's e makes a value for which F holds, while the pot is drawn from -/
theorem rd_compR {ls : List Str} {js : List Nat} {te : TE} {σ rest : St} {H : Hp} {R : Addr → Hp → Prop} {p q : Addr} {ns : List Int} {n : Nat} (F : Hp → V → Prop) (hF : ∀ H1 H2 v, Tups H1 H2 → F H1 v → F H2 v) (hn : n ≤ 1000) (h0 : start0 ls js σ = none :: rest) (P0 : PotAt H p q ns)
    (he : ∀ (i : Nat) (ms : List Int) (H1 : Hp) (Q : VK), i < n → PotAt H1 p q ms → But2 p q H H1 → (∀ (v : V) (ms' : List Int) (H2 : Hp), F H2 v → PotAt H2 p q ms' → But2 p q H1 H2 → Q v H2) → te (some (.int (i : Int)) :: rest) H1 Q)
    (k : ∀ (l : Addr) (ys : List V) (ms : List Int) (H1 : Hp), ys.length = n → (∀ y ∈ ys, F H1 y) → H1 l = some (.lst ys) → PotAt H1 p q ms → But2 p q H H1 → R l H1) :
    ∀ l, H l = none → ∃ W : Nat → Nat → St → Hp → Prop, (∃ m, W 0 m (start0 ls js σ) (upd H l (.lst []))) ∧ ∀ i m σ' H', W i m σ' H' →
      ((Itr 0 n).stop i H' ∧ R l H') ∨ ((Itr 0 n).go i H' ∧ ∃ N : St → Hp → Prop, (∀ σ2 H2, N σ2 H2 → ∃ m', m' < m ∧ W (i + 1) m' σ2 H2) ∧ ∀ x H2, (Itr 0 n).yld i H' x H2 → gName 0 x σ' H2 fun σ3 H3 => tAll σ3 H3 fun c H4 =>
        if c = true then te σ3 H4 fun y H5 => ∃ ys, H5 l = some (.lst ys) ∧ ys.length < sizeLine ∧ N σ3 (upd H5 l (.lst (ys ++ [y]))) else N σ3 H4) := by
  intro l hl
  obtain ⟨n1, n2⟩ := P0.new hl
  refine ⟨fun i m σ' H' => m = n - i ∧ i ≤ n ∧ (∃ c0, σ' = c0 :: rest) ∧ ∃ (ys : List V) (ms : List Int), ys.length = i ∧ H' l = some (.lst ys) ∧ (∀ y ∈ ys, F H' y) ∧ PotAt H' p q ms ∧ But2 p q H H',
    ⟨n, by simp, Nat.zero_le _, ⟨none, h0⟩, [], ns, rfl, upd_same, (fun y hy => by cases hy), P0.keep (same_upd hl _), But2.of (same_upd hl _)⟩, ?_⟩
  rintro i m σ' H' ⟨rfl, hi, ⟨c0, rfl⟩, ys, ms, hy, hH, hFy, P1, b1⟩
  by_cases hlt : i < n
  · refine .inr ⟨hlt, fun σ2 H2 => (∃ c0, σ2 = c0 :: rest) ∧ ∃ (ys : List V) (ms : List Int), ys.length = i + 1 ∧ H2 l = some (.lst ys) ∧ (∀ y ∈ ys, F H2 y) ∧ PotAt H2 p q ms ∧ But2 p q H H2, fun σ2 H2 ⟨h1, h2⟩ => ⟨n - (i + 1), by omega, rfl, hlt, h1, h2⟩, ?_⟩
    rintro x H2 ⟨ex, eH⟩
    subst ex eH
    show te (some (.int (0 + (i : Int))) :: rest) _ _
    rw [Int.zero_add]
    refine he i ms _ _ hlt P1 b1 fun v ms' H3 hv P3 b3 => ?_
    have hH3 := b3 _ _ hH n1 n2
    have t3 := P1.tups b3
    have t4 : Tups H3 (upd H3 l (.lst (ys ++ [v]))) := tups_lst hH3
    refine ⟨ys, hH3, ?_, ⟨_, rfl⟩, ys ++ [v], ms', ?_, upd_same, fun y hy' => ?_, P3.put n1 n2, fun b o hb h1 h2 => ?_⟩
    · have : sizeLine = 16777216 := rfl
      omega
    · rw [List.length_append, hy]; rfl
    · rcases List.mem_append.mp hy' with z | z
      · exact hF _ _ _ (t3.trans t4) (hFy y z)
      · rw [List.mem_singleton.mp z]; exact hF _ _ _ t4 hv
    · rw [upd_ne (ne_of_none hb hl)]
      exact b3 _ _ (b1 _ _ hb h1 h2) h1 h2
  · have e : i = n := by omega
    subst e
    exact .inl ⟨Nat.le_refl _, k l ys ms H' hy hFy hH P1 b1⟩
/-- .. for x in t, t a tuple -/
theorem rd_compT {K : PySem.W.Frag} {ls : List Str} {js : List Nat} {te : TE} {σ rest : St} {H : Hp} {R : Addr → Hp → Prop} {p q a : Addr} {ns : List Int} {xs : List V} (F : Hp → V → Prop) (hF : ∀ H1 H2 v, Tups H1 H2 → F H1 v → F H2 v) (hn : xs.length ≤ 1000) (h0 : start0 ls js σ = none :: rest) (P0 : PotAt H p q ns) (ha : H a = some (.tup xs))
    (he : ∀ (x : V) (ms : List Int) (H1 : Hp) (Q : VK), PotAt H1 p q ms → But2 p q H H1 → (∀ (v : V) (ms' : List Int) (H2 : Hp), F H2 v → PotAt H2 p q ms' → But2 p q H1 H2 → Q v H2) → te (some x :: rest) H1 Q)
    (k : ∀ (l : Addr) (ys : List V) (ms : List Int) (H1 : Hp), ys.length = xs.length → (∀ y ∈ ys, F H1 y) → H1 l = some (.lst ys) → PotAt H1 p q ms → But2 p q H H1 → R l H1) :
    ∀ l, H l = none → ∃ W : Nat → Nat → St → Hp → Prop, (∃ m, W 0 m (start0 ls js σ) (upd H l (.lst []))) ∧ ∀ i m σ' H', W i m σ' H' →
      ((Itt K a).stop i H' ∧ R l H') ∨ ((Itt K a).go i H' ∧ ∃ N : St → Hp → Prop, (∀ σ2 H2, N σ2 H2 → ∃ m', m' < m ∧ W (i + 1) m' σ2 H2) ∧ ∀ x H2, (Itt K a).yld i H' x H2 → gName 0 x σ' H2 fun σ3 H3 => tAll σ3 H3 fun c H4 =>
        if c = true then te σ3 H4 fun y H5 => ∃ ys, H5 l = some (.lst ys) ∧ ys.length < sizeLine ∧ N σ3 (upd H5 l (.lst (ys ++ [y]))) else N σ3 H4) := by
  intro l hl
  obtain ⟨n1, n2⟩ := P0.new hl
  refine ⟨fun i m σ' H' => m = xs.length - i ∧ i ≤ xs.length ∧ (∃ c0, σ' = c0 :: rest) ∧ ∃ (ys : List V) (ms : List Int), ys.length = i ∧ H' l = some (.lst ys) ∧ (∀ y ∈ ys, F H' y) ∧ PotAt H' p q ms ∧ But2 p q H H',
    ⟨xs.length, by simp, Nat.zero_le _, ⟨none, h0⟩, [], ns, rfl, upd_same, (fun y hy => by cases hy), P0.keep (same_upd hl _), But2.of (same_upd hl _)⟩, ?_⟩
  rintro i m σ' H' ⟨rfl, hi, ⟨c0, rfl⟩, ys, ms, hy, hH, hFy, P1, b1⟩
  have ha' : H' a = some (.tup xs) := P0.tups b1 _ _ ha
  by_cases hlt : i < xs.length
  · refine .inr ⟨⟨_, xs[i], SqT.of ha', by simp [hlt]⟩, fun σ2 H2 => (∃ c0, σ2 = c0 :: rest) ∧ ∃ (ys : List V) (ms : List Int), ys.length = i + 1 ∧ H2 l = some (.lst ys) ∧ (∀ y ∈ ys, F H2 y) ∧ PotAt H2 p q ms ∧ But2 p q H H2, fun σ2 H2 ⟨h1, h2⟩ => ⟨xs.length - (i + 1), by omega, rfl, hlt, h1, h2⟩, ?_⟩
    rintro x H2 ⟨eH, _⟩
    subst eH
    show te (some x :: rest) _ _
    refine he x ms _ _ P1 b1 fun v ms' H3 hv P3 b3 => ?_
    have hH3 := b3 _ _ hH n1 n2
    have t3 := P1.tups b3
    have t4 : Tups H3 (upd H3 l (.lst (ys ++ [v]))) := tups_lst hH3
    refine ⟨ys, hH3, ?_, ⟨_, rfl⟩, ys ++ [v], ms', ?_, upd_same, fun y hy' => ?_, P3.put n1 n2, fun b o hb h1 h2 => ?_⟩
    · have : sizeLine = 16777216 := rfl
      omega
    · rw [List.length_append, hy]; rfl
    · rcases List.mem_append.mp hy' with z | z
      · exact hF _ _ _ (t3.trans t4) (hFy y z)
      · rw [List.mem_singleton.mp z]; exact hF _ _ _ t4 hv
    · rw [upd_ne (ne_of_none hb hl)]
      exact b3 _ _ (b1 _ _ hb h1 h2) h1 h2
  · have e : i = xs.length := by omega
    subst e
    exact .inl ⟨⟨_, SqT.of ha', Nat.le_refl _⟩, k l ys ms H' hy hFy hH P1 b1⟩
/-- a list of ints by a property of each -/
theorem ints_of {G : Int → Prop} : ∀ {ys : List V}, (∀ y ∈ ys, ∃ r : Int, y = .int r ∧ G r) → ∃ ns : List Int, ys = ns.map V.int ∧ ∀ r ∈ ns, G r
  | [], _ => ⟨[], rfl, fun r h => by cases h⟩
  | y :: ys, h => by
    obtain ⟨r, rfl, hr⟩ := h y List.mem_cons_self
    obtain ⟨ns, rfl, hns⟩ := ints_of (ys := ys) fun z hz => h z (List.mem_cons_of_mem _ hz)
    exact ⟨r :: ns, rfl, fun q hq => by
      rcases List.mem_cons.mp hq with rfl | z
      · exact hr
      · exact hns q z⟩
theorem rows_of {H : Hp} {n : Nat} {G : Row → Prop} : ∀ {ys : List V}, (∀ y ∈ ys, ∃ r : Row, RowAt H n y r ∧ G r) → ∃ rs : List Row, Paired (RowAt H n) ys rs ∧ ∀ r ∈ rs, G r
  | [], _ => ⟨[], .nil, fun r h => by cases h⟩
  | y :: ys, h => by
    obtain ⟨r, h1, hr⟩ := h y List.mem_cons_self
    obtain ⟨rs, h2, hrs⟩ := rows_of (ys := ys) fun z hz => h z (List.mem_cons_of_mem _ hz)
    exact ⟨r :: rs, .cons h1 h2, fun q hq => by
      rcases List.mem_cons.mp hq with rfl | z
      · exact hr
      · exact hrs q z⟩
theorem vals_pair {m : Int} {names : List Str} {s : Nums} (h : NumsOk m names s) (nd : names.Nodup) : Paired (fun nm e => getN s nm = some e) names (vals s) := by
  have go : ∀ r : Nums, (∀ p ∈ r, getN s p.1 = some p.2) → Paired (fun nm e => getN s nm = some e) (r.map (·.1)) (vals r) := by
    intro r
    induction r with
    | nil => intro _; exact .nil
    | cons p r ih => intro hp; exact .cons (hp p List.mem_cons_self) (ih fun q hq => hp q (List.mem_cons_of_mem _ hq))
  have := go s fun p hp => get_nodup (by rw [h.keys]; exact nd) hp
  rw [h.keys] at this
  exact this
end Tw

namespace Tw
open PySem L2
def alpha : Str := "abcdefghijklmnopqrstuvwxyz"
theorem alpha_at : ∀ r : Fin 26, atI alpha.cps.toList ((r : Nat) : Int) = some (97 + (r : Nat)) := by decide +kernel
theorem nodup_first {names : List Str} {t : Nat} (hl : names.length ≤ 12) (h : ∀ (j : Nat) (hj : j < names.length), names[j].cps[0]? = some (97 + (t + 7 * j) % 26)) : names.Nodup := by
  refine List.pairwise_iff_getElem.mpr fun i j hi hj hij e => ?_
  have h1 := h i hi
  have h2 := h j hj
  rw [e, h2] at h1
  have h3 := Option.some.inj h1
  omega
section
variable {P : Program} {w : World} {K : PySem.W.Frag} {mg : Str → Option Value} {base : Heap}
/-- what is known of the draw, at a call -/
structure Dr (P : Program) (w : World) (K : PySem.W.Frag) (mg : Str → Option Value) (base : Heap) (fD : Addr) (dD : FuncData) : Prop where
  g : FnOk P w K mg base CX0 2 fD dD ["pot", "many"] spDraw
  b : Binds K dD ["pot", "many"] []
  k : PySem.W.keepIn K (.ref fD) = true
  m : mg "_law_draw" = some (.ref fD)
def spNames : Sp := fun vs H Q _ => ∃ (p q : Addr) (ns : List Int) (n : Nat), vs = [.ref p, .int (n : Int)] ∧ PotAt H p q ns ∧ n ≤ 12 ∧
  ∀ (a : Addr) (names : List Str) (ms : List Int) (H' : Hp), names.length = n → names.Nodup → H' a = some (.tup (names.map V.str)) → PotAt H' p q ms → But2 p q H H' → Q (.ref a) H'
theorem scNames : FnScope ["pot", "many", "turn", "names", "k", "sign"] ["pot", "many"] (defScope sNames) := ⟨rfl, rfl, rfl, by decide +kernel, rfl, by decide +kernel, by decide +kernel⟩
theorem ok_names {f fD : Addr} {fd dD : FuncData} (F : Fun K "_law_names" "_law_names" sNames f fd) (B : Bt mg) (D : Dr P w K mg base fD dD) : FnOk P w K mg base CX0 3 f fd ["pot", "many"] spNames := by
  refine F.ok (k := 2) scNames (fun vs H Q E h => ?_) (fun cdv A outer s H vs Q E hr h => ?_)
  · obtain ⟨p, q, ns, n, rfl, _⟩ := h; rfl
  obtain ⟨p, q, ns, n, rfl, P0, hn, kk⟩ := h
  refine ⟨_, pss_cons (ps_set (i := 2) scNames.nd rfl (Or.inl rfl) (pe_call D.g hr rfl D.m D.k D.b .nil pass0 (pa_cons (pv 0) (pa_cons pe_int pa_nil))))
    (pss_cons (ps_set (i := 3) scNames.nd rfl (Or.inl rfl) (pe_lst pa_nil))
    (pss_cons (ps_for PassesOwn.never rfl (pi_range1 rfl B.range (pa_cons (pv 1) pa_nil)) (pg_name (i := 4) scNames.nd rfl (Or.inl rfl))
      (pss_cons (ps_set (i := 5) scNames.nd rfl (Or.inl rfl) (pe_ix ix_str pe_str (pe_op op_mod (pe_op op_add (pv 2) (pe_op op_mul pe_int (pv 4))) pe_int) (fun _ _ => rfl)))
      (pss_one (ps_expr (pe_bm PySem.F.plainAttrs_list PySem.F.slot_list_append PySem.F.type_list_append mt_append (pv 3) (pa_cons (pe_op op_repS (pv 5) (pe_op op_add pe_int (pe_call D.g hr rfl D.m D.k D.b .nil pass0 (pa_cons (pv 0) (pa_cons pe_int pa_nil))))) pa_nil))))))
    (pss_one (ps_ret (pe_callTy call_tuple_of rfl B.tuple bt_tuple (pa_cons (pv 3) pa_nil)))))), ?_⟩
  refine ⟨_, rfl, p, q, ns, 26, rfl, P0, by decide, by decide, fun t1 ms H1 t0 tb P1 b1 => ?_⟩
  obtain ⟨t, rfl⟩ : ∃ t : Nat, t1 = t := ⟨t1.toNat, by omega⟩
  refine ⟨(by show 0 ≤ sizeLine; decide), fun l hl => ?_⟩
  obtain ⟨n1, n2⟩ := P1.new hl
  have s1 := same_upd hl (.lst [])
  refine gset (σ' := [some (.ref p), some (.int (n : Int)), some (.int (t : Int)), some (.ref l), none, none]) rfl ?_
  dsimp only
  refine rd_forS (n := n) (fun i σ H' => ∃ (names : List Str) (ms : List Int) (c4 c5 : Option V), σ = [some (.ref p), some (.int (n : Int)), some (.int (t : Int)), some (.ref l), c4, c5] ∧ names.length = i ∧ (∀ (j : Nat) (hj : j < names.length), names[j].cps[0]? = some (97 + (t + 7 * j) % 26)) ∧
      H' l = some (.lst (names.map V.str)) ∧ PotAt H' p q ms ∧ But2 p q H1 H') ?_ (by omega) ?_ ?_ ?_
  · exact fun Q z => ⟨_, rfl, z⟩
  · exact ⟨[], ms, none, none, rfl, rfl, fun j hj => absurd hj (Nat.not_lt_zero _), upd_same, P1.keep s1, But2.of s1⟩
  · rintro i σ H2 hi ⟨names, ms2, c4, c5, rfl, hlen, hch, hH, P2, b2⟩
    have hat : atI alpha.cps.toList (((t : Int) + 7 * (i : Int)) % 26) = some (97 + (t + 7 * i) % 26) := by
      have := alpha_at ⟨(t + 7 * i) % 26, Nat.mod_lt _ (by decide)⟩
      simp only at this
      rw [← this]
      congr 1
    refine ⟨_, rfl, _, rfl, _, _, rfl, rfl, .inl ⟨by decide, by decide⟩, _, _, rfl, rfl, _, _, rfl, rfl, (by show (0 : Int) < 26; decide), alpha, _, _, rfl, rfl, (by decide +kernel), hat, ?_⟩
    refine ⟨_, rfl, .inl ⟨rfl, _, SqL.of hH⟩, _, rfl, _, rfl, p, q, ms2, 8, rfl, P2, by decide, by decide, fun r ms3 H3 r0 rb P3 b3 => ⟨_, _, rfl, rfl, _, _, rfl, rfl, by omega, by omega, fun wd hw => ?_⟩⟩
    have hH3 := b3 _ _ hH n1 n2
    refine ⟨l, _, _, rfl, rfl, hH3, ?_, names ++ [wd], ms3, _, _, rfl, ?_, fun j hj => ?_, ?_, P3.put n1 n2, fun b o hb h1 h2 => ?_⟩
    · rw [List.length_map]
      have : sizeLine = 16777216 := rfl
      omega
    · rw [List.length_append, hlen]; rfl
    · by_cases hj2 : j < names.length
      · rw [List.getElem_append_left hj2]; exact hch j hj2
      · have ej : j = names.length := by rw [List.length_append, List.length_singleton] at hj; omega
        subst ej
        rw [List.getElem_append_right (Nat.le_refl _)]
        simp only [Nat.sub_self, List.getElem_singleton]
        rw [hw, hlen]
    · rw [upd_same, List.map_append]; rfl
    · rw [upd_ne (ne_of_none hb hl)]
      exact b3 _ _ (b2 _ _ hb h1 h2) h1 h2
  · rintro σ H2 ⟨names, ms2, c4, c5, rfl, hlen, hch, hH, P2, b2⟩
    refine ⟨_, rfl, l, _, rfl, .inl ⟨SqL.of hH, fun a ha => ?_⟩⟩
    have s2 := same_upd ha (.tup (names.map V.str))
    exact kk a names ms2 _ hlen (nodup_first (by omega) hch) upd_same (P2.keep s2) ((b1.trans b2).trans (But2.of s2))
end
end Tw

namespace Tw
open PySem L2
theorem rd_gt {i : Nat} {v a b : Int} {σ : St} {H : Hp} {Q : VK} (h : σ[i]? = some (some (.int v))) (k : ∀ n : Int, (n = a ∧ 0 < v) ∨ (n = b ∧ ¬ 0 < v) → Q (.int n) H) :
    tIf (tTest (tOp (rI0 fun i j => .bl (decide (j < i))) (tVar i) (tC (.int 0)))) (tC (.int a)) (tC (.int b)) σ H Q := by
  refine ⟨_, h, _, _, rfl, rfl, _, rfl, ?_⟩
  by_cases hv : (0 : Int) < v
  · exact ifY hv (k a (.inl ⟨rfl, hv⟩))
  · exact ifN hv (k b (.inr ⟨rfl, hv⟩))
/-- the words of rows, by draws -/
theorem way_at {many r n : Int} (hn : (n = 9 ∧ 0 < many) ∨ (n = 7 ∧ ¬ 0 < many)) (h0 : 0 ≤ r) (h1 : r < n) : ∃ wd : Str, atI [V.str "put", V.str "sum", V.str "by", V.str "less", V.str "same", V.str "sum", V.str "put", V.str "take", V.str "pick"] r = some (.str wd) ∧
    (wd = "put" ∨ isTwo wd ∨ (wd = "take" ∧ 0 < many) ∨ (wd = "pick" ∧ 0 < many)) := by
  have hr : r = 0 ∨ r = 1 ∨ r = 2 ∨ r = 3 ∨ r = 4 ∨ r = 5 ∨ r = 6 ∨ (r = 7 ∧ 0 < many) ∨ (r = 8 ∧ 0 < many) := by omega
  rcases hr with rfl | rfl | rfl | rfl | rfl | rfl | rfl | ⟨rfl, hm⟩ | ⟨rfl, hm⟩
  · exact ⟨_, rfl, .inl rfl⟩
  · exact ⟨_, rfl, .inr (.inl (.inl rfl))⟩
  · exact ⟨_, rfl, .inr (.inl (.inr (.inl rfl)))⟩
  · exact ⟨_, rfl, .inr (.inl (.inr (.inr (.inl rfl))))⟩
  · exact ⟨_, rfl, .inr (.inl (.inr (.inr (.inr rfl))))⟩
  · exact ⟨_, rfl, .inr (.inl (.inl rfl))⟩
  · exact ⟨_, rfl, .inl rfl⟩
  · exact ⟨_, rfl, .inr (.inr (.inl ⟨rfl, hm⟩))⟩
  · exact ⟨_, rfl, .inr (.inr (.inr ⟨rfl, hm⟩))⟩
/-- what a plan's rows are told by: the wheel, the names, how many pieces -/
structure ToldAt (H : Hp) (t : Addr) (m : Int) (names : List Str) (many : Nat) : Prop where
  at_ : ∃ na, H t = some (.tup [.int m, .ref na, .int (many : Int)]) ∧ H na = some (.tup (names.map V.str))
  mm : 2 ≤ m ∧ m ≤ 997
  ln : 0 < names.length ∧ names.length ≤ 12
  mny : many ≤ 40
theorem ToldAt.keep {H H' : Hp} {t : Addr} {m : Int} {names : List Str} {many : Nat} (h : ToldAt H t m names many) (s : Tups H H') : ToldAt H' t m names many :=
  ⟨let ⟨na, h1, h2⟩ := h.at_; ⟨na, s _ _ h1, s _ _ h2⟩, h.mm, h.ln, h.mny⟩
structure PlanT (H : Hp) (a : Addr) (m : Int) (names : List Str) (many : Nat) : Prop where
  at_ : ∃ (na ra : Addr) (mk : Str), H a = some (.tup [.int m, .ref na, .int (many : Int), .ref ra, .str mk]) ∧ H na = some (.tup (names.map V.str))
  mm : 2 ≤ m ∧ m ≤ 997
  ln : 0 < names.length ∧ names.length ≤ 12
  mny : many ≤ 40
  nd : names.Nodup
theorem PlanT.keep {H H' : Hp} {t : Addr} {m : Int} {names : List Str} {many : Nat} (h : PlanT H t m names many) (s : Tups H H') : PlanT H' t m names many :=
  ⟨let ⟨na, ra, mv, h1, h2⟩ := h.at_; ⟨na, ra, mv, s _ _ h1, s _ _ h2⟩, h.mm, h.ln, h.mny, h.nd⟩
section
variable {P : Program} {w : World} {K : PySem.W.Frag} {mg : Str → Option Value} {base : Heap}
def spLRow : Sp := fun vs H Q _ => ∃ (p q t : Addr) (ns : List Int) (m : Int) (names : List Str) (many : Nat), vs = [.ref p, .ref t] ∧ PotAt H p q ns ∧ ToldAt H t m names many ∧
  ∀ (a : Addr) (row : Row) (ms : List Int) (H' : Hp), RowAt H' 1 (.ref a) row → rowOk m names many row → PotAt H' p q ms → But2 p q H H' → Q (.ref a) H'
theorem scLRow : FnScope ["pot", "told", "m", "names", "many", "ways", "way", "x", "y"] ["pot", "told"] (defScope sLRow) := ⟨rfl, rfl, rfl, by decide +kernel, rfl, by decide +kernel, by decide +kernel⟩
theorem ok_lrow {f fD : Addr} {fd dD : FuncData} (F : Fun K "_law_row" "_law_row" sLRow f fd) (B : Bt mg) (D : Dr P w K mg base fD dD) : FnOk P w K mg base CX0 3 f fd ["pot", "told"] spLRow := by
  refine F.ok (k := 2) scLRow (fun vs H Q E h => ?_) (fun cdv A outer s H vs Q E hr h => ?_)
  · obtain ⟨p, q, t, ns, m, names, many, rfl, _⟩ := h; rfl
  obtain ⟨p, q, t, ns, m, names, many, rfl, P0, hT, kk⟩ := h
  refine ⟨_, pss_cons (ps_asg (pv 1) (pg_tup rfl (pgs_cons (pg_name (i := 2) scLRow.nd rfl (Or.inl rfl)) (pgs_cons (pg_name (i := 3) scLRow.nd rfl (Or.inl rfl)) (pgs_cons (pg_name (i := 4) scLRow.nd rfl (Or.inl rfl)) pgs_nil)))))
    (pss_cons (ps_set (i := 5) scLRow.nd rfl (Or.inl rfl) (pe_lst (pa_cons pe_str (pa_cons pe_str (pa_cons pe_str (pa_cons pe_str (pa_cons pe_str (pa_cons pe_str (pa_cons pe_str (pa_cons pe_str (pa_cons pe_str pa_nil)))))))))))
    (pss_cons (ps_set (i := 6) scLRow.nd rfl (Or.inl rfl) (pe_ix ix_list (pv 5) (pe_call D.g hr rfl D.m D.k D.b .nil pass0 (pa_cons (pv 0) (pa_cons (pe_ifExp (pt_cmpR op_gt (pv 4) pe_int (nomark _)) pe_int pe_int) pa_nil))) (fun _ _ => rfl)))
    (pss_cons (ps_set (i := 7) scLRow.nd rfl (Or.inl rfl) (pe_ix ix_tup (pv 3) (pe_call D.g hr rfl D.m D.k D.b .nil pass0 (pa_cons (pv 0) (pa_cons (pe_callB call_len_seq rfl B.len PySem.boot_len (pa_cons (pv 3) pa_nil)) pa_nil))) (fun _ _ => rfl)))
    (pss_cons (ps_if (pt_cmpR op_eq (pv 6) pe_str (nomark _)) (pss_one (ps_ret (pe_tup (pa_cons (pv 6) (pa_cons (pv 7) (pa_cons (pe_call D.g hr rfl D.m D.k D.b .nil pass0 (pa_cons (pv 0) (pa_cons (pv 2) pa_nil))) pa_nil)))))) pss_nil)
    (pss_cons (ps_if (pt_cmpR op_eq (pv 6) pe_str (nomark _)) (pss_one (ps_ret (pe_tup (pa_cons (pv 6) (pa_cons (pv 7) (pa_cons (pe_call D.g hr rfl D.m D.k D.b .nil pass0 (pa_cons (pv 0) (pa_cons (pv 4) pa_nil))) pa_nil)))))) pss_nil)
    (pss_cons (ps_set (i := 8) scLRow.nd rfl (Or.inl rfl) (pe_ix ix_tup (pv 3) (pe_call D.g hr rfl D.m D.k D.b .nil pass0 (pa_cons (pv 0) (pa_cons (pe_callB call_len_seq rfl B.len PySem.boot_len (pa_cons (pv 3) pa_nil)) pa_nil))) (fun _ _ => rfl)))
    (pss_cons (ps_if (pt_cmpR op_eq (pv 6) pe_str (nomark _)) (pss_one (ps_ret (pe_tup (pa_cons (pv 6) (pa_cons (pv 7) (pa_cons (pv 8) pa_nil)))))) pss_nil)
    (pss_one (ps_ret (pe_tup (pa_cons (pv 6) (pa_cons (pv 7) (pa_cons (pv 8) (pa_cons (pe_ix ix_tup (pv 3) (pe_call D.g hr rfl D.m D.k D.b .nil pass0 (pa_cons (pv 0) (pa_cons (pe_callB call_len_seq rfl B.len PySem.boot_len (pa_cons (pv 3) pa_nil)) pa_nil))) (fun _ _ => rfl)) pa_nil)))))))))))))), ?_⟩
  obtain ⟨na, ht, hna⟩ := hT.at_
  obtain ⟨m0, m1⟩ := hT.mm
  obtain ⟨l0, l1⟩ := hT.ln
  have hmy := hT.mny
  refine ⟨_, rfl, t, _, rfl, SqT.of ht, rfl, _, _, rfl, _, _, rfl, _, _, rfl, rfl, ?_⟩
  refine ⟨(by show 9 ≤ sizeLine; decide), fun wa hwa => ?_⟩
  obtain ⟨n1, n2⟩ := P0.new hwa
  have s1 := same_upd hwa (.lst [.str "put", .str "sum", .str "by", .str "less", .str "same", .str "sum", .str "put", .str "take", .str "pick"])
  refine gset (σ' := [some (.ref p), some (.ref t), some (.int m), some (.ref na), some (.int (many : Int)), some (.ref wa), none, none, none]) rfl ?_
  refine ⟨_, rfl, _, rfl, rd_gt (v := (many : Int)) rfl fun n hn => ⟨p, q, ns, n, rfl, P0.keep s1, by omega, by omega, fun r1 ms1 H1 r10 r1b P1 b1 => ?_⟩⟩
  obtain ⟨wd, hwd, hcase⟩ := way_at hn r10 r1b
  refine ⟨wa, _, r1, _, rfl, rfl, SqL.of (b1 _ _ upd_same n1 n2), hwd, ?_⟩
  have t1 : Tups H H1 := (Tups.of s1).trans ((P0.keep s1).tups b1)
  have b01 : But2 p q H H1 := (But2.of s1).trans b1
  refine gset (σ' := [some (.ref p), some (.ref t), some (.int m), some (.ref na), some (.int (many : Int)), some (.ref wa), some (.str wd), none, none]) rfl ?_
  have hna1 := t1 _ _ hna
  have hlz : ((names.map V.str).length : Int) = (names.length : Int) := by rw [List.length_map]
  refine ⟨_, rfl, _, rfl, _, rfl, na, _, rfl, .inr (SqT.of hna1), p, q, ms1, _, rfl, P1, by rw [hlz]; omega, by rw [hlz]; omega, fun r2 ms2 H2 r20 r2b P2 b2 => ?_⟩
  rw [hlz] at r2b
  obtain ⟨x, hx, hxa⟩ := pick_at (f := V.str) r20 r2b
  have t2 := t1.trans (P1.tups b2)
  have b02 := b01.trans b2
  refine ⟨na, _, r2, _, rfl, rfl, SqT.of (t2 _ _ hna), hxa, ?_⟩
  refine gset (σ' := [some (.ref p), some (.ref t), some (.int m), some (.ref na), some (.int (many : Int)), some (.ref wa), some (.str wd), some (.str x), none]) rfl ?_
  by_cases hput : wd = "put"
  · subst hput
    refine ⟨_, rfl, rfl, _, rfl, ifY rfl ⟨_, rfl, _, rfl, _, rfl, _, rfl, p, q, ms2, m, rfl, P2, by omega, by omega, fun r3 ms3 H3 r30 r3b P3 b3 => ⟨(by show 3 ≤ sizeLine; decide), fun a ha => ?_⟩⟩⟩
    have s4 := same_upd ha (.tup [.str "put", .str x, .int r3])
    exact kk a (.put x r3) ms3 _ ⟨a, rfl, upd_same⟩ ⟨hx, r30, r3b⟩ (P3.keep s4) (b02.trans (b3.trans (But2.of s4)))
  · have e1 : ¬ V.str wd = V.str "put" := fun z => hput (by injection z)
    refine ⟨_, rfl, rfl, _, rfl, ifN e1 ?_⟩
    by_cases htake : wd = "take"
    · have hm : 0 < (many : Int) := by
        rcases hcase with z | z | z | z
        · exact absurd z hput
        · rw [htake] at z; rcases z with z | z | z | z <;> exact absurd z (by decide +kernel)
        · exact z.2
        · exact z.2
      subst htake
      refine ⟨_, rfl, rfl, _, rfl, ifY rfl ⟨_, rfl, _, rfl, _, rfl, _, rfl, p, q, ms2, (many : Int), rfl, P2, hm, by omega, fun r3 ms3 H3 r30 r3b P3 b3 => ⟨(by show 3 ≤ sizeLine; decide), fun a ha => ?_⟩⟩⟩
      have s4 := same_upd ha (.tup [.str "take", .str x, .int r3])
      exact kk a (.take x r3) ms3 _ ⟨a, rfl, upd_same⟩ ⟨hx, r30, r3b⟩ (P3.keep s4) (b02.trans (b3.trans (But2.of s4)))
    · have e2 : ¬ V.str wd = V.str "take" := fun z => htake (by injection z)
      refine ⟨_, rfl, rfl, _, rfl, ifN e2 ?_⟩
      have hna2 := t2 _ _ hna
      refine ⟨_, rfl, _, rfl, _, rfl, na, _, rfl, .inr (SqT.of hna2), p, q, ms2, _, rfl, P2, by rw [hlz]; omega, by rw [hlz]; omega, fun r3 ms3 H3 r30 r3b P3 b3 => ?_⟩
      rw [hlz] at r3b
      obtain ⟨y, hy, hya⟩ := pick_at (f := V.str) r30 r3b
      have t3 := t2.trans (P2.tups b3)
      have b03 := b02.trans b3
      refine ⟨na, _, r3, _, rfl, rfl, SqT.of (t3 _ _ hna), hya, ?_⟩
      refine gset (σ' := [some (.ref p), some (.ref t), some (.int m), some (.ref na), some (.int (many : Int)), some (.ref wa), some (.str wd), some (.str x), some (.str y)]) rfl ?_
      by_cases hpick : wd = "pick"
      · have hm : 0 < (many : Int) := by
          rcases hcase with z | z | z | z
          · exact absurd z hput
          · rw [hpick] at z; rcases z with z | z | z | z <;> exact absurd z (by decide +kernel)
          · exact z.2
          · exact z.2
        subst hpick
        refine ⟨_, rfl, rfl, _, rfl, ifY rfl ⟨_, rfl, _, rfl, _, rfl, (by show 3 ≤ sizeLine; decide), fun a ha => ?_⟩⟩
        have s4 := same_upd ha (.tup [.str "pick", .str x, .str y])
        exact kk a (.pick x y) ms3 _ ⟨a, rfl, upd_same⟩ ⟨hx, hy, by omega⟩ (P3.keep s4) (b03.trans (But2.of s4))
      · have e3 : ¬ V.str wd = V.str "pick" := fun z => hpick (by injection z)
        have htwo : isTwo wd := by
          rcases hcase with z | z | z | z
          · exact absurd z hput
          · exact z
          · exact absurd z.1 htake
          · exact absurd z.1 hpick
        refine ⟨_, rfl, rfl, _, rfl, ifN e3 ?_⟩
        have hna3 := t3 _ _ hna
        refine ⟨_, rfl, _, rfl, _, rfl, _, rfl, _, rfl, _, rfl, na, _, rfl, .inr (SqT.of hna3), p, q, ms3, _, rfl, P3, by rw [hlz]; omega, by rw [hlz]; omega, fun r4 ms4 H4 r40 r4b P4 b4 => ?_⟩
        rw [hlz] at r4b
        obtain ⟨z, hz, hza⟩ := pick_at (f := V.str) r40 r4b
        refine ⟨na, _, r4, _, rfl, rfl, SqT.of ((t3.trans (P3.tups b4)) _ _ hna), hza, (by show 4 ≤ sizeLine; decide), fun a ha => ?_⟩
        have s4 := same_upd ha (.tup [.str wd, .str x, .str y, .str z])
        exact kk a (.two wd x y z) ms4 _ ⟨htwo, a, rfl, upd_same⟩ ⟨htwo, hx, hy, hz⟩ (P4.keep s4) (b03.trans (b4.trans (But2.of s4)))
end
end Tw

namespace Tw
open PySem L2
theorem mem1 {α : Type} {C : α → Prop} {a : α} (ha : C a) : ∀ p ∈ [a], C p := fun p hp => by rw [List.mem_singleton.mp hp]; exact ha
theorem mem2 {α : Type} {C : α → Prop} {a b : α} (ha : C a) (hb : C b) : ∀ p ∈ [a, b], C p := fun p hp => by
  rcases List.mem_cons.mp hp with rfl | z
  · exact ha
  · rw [List.mem_singleton.mp z]; exact hb
structure StandT (H : Hp) (st : Addr) (m : Int) (n many : Nat) (nums pieces : List Int) : Prop where
  at_ : ∃ nu pc, H st = some (.tup [.ref nu, .ref pc]) ∧ H nu = some (.tup (nums.map V.int)) ∧ H pc = some (.tup (pieces.map V.int))
  ln : nums.length = n
  lp : pieces.length = many
  rn : ∀ v ∈ nums, 0 ≤ v ∧ v < m
  rp : ∀ v ∈ pieces, 0 ≤ v ∧ v < m
theorem StandT.keep {H H' : Hp} {st : Addr} {m : Int} {n many : Nat} {nums pieces : List Int} (h : StandT H st m n many nums pieces) (s : Tups H H') : StandT H' st m n many nums pieces :=
  ⟨let ⟨nu, pc, h1, h2, h3⟩ := h.at_; ⟨nu, pc, s _ _ h1, s _ _ h2, s _ _ h3⟩, h.ln, h.lp, h.rn, h.rp⟩
section
variable {P : Program} {w : World} {K : PySem.W.Frag} {mg : Str → Option Value} {base : Heap}
theorem ce_dr {X : Cx} {N : List Str} {scope : Scope} {cl : List (Str × Addr)} {C : Addr} {s₀ : Shared} {H₀ : Hp} {fp : List Addr} {pl : List (Addr × Obj)} {fD : Addr} {dD : FuncData} {wk pn : Str} {p0 p1 p2 p3 p4 p5 : Pos} {jj}
    (D : Dr X.prog X.w X.K X.mg X.base fD dD) (hr : Room 2 X.A) (hg : Gl (cxComp X N scope cl C s₀ H₀ fp pl) "_law_draw") (h1 : N[1]? = some wk) (h2 : N[2]? = some pn) (hw : Vis (relabel scope X.env) wk) (hp : Vis (relabel scope X.env) pn)
    (hd1 : (wk == ("__debug__" : Str)) = false) (hc1 : (wk == ("__classdict__" : Str)) = false) (hd2 : (pn == ("__debug__" : Str)) = false) (hc2 : (pn == ("__classdict__" : Str)) = false) :
    PE (cxComp X N scope cl C s₀ H₀ fp pl) (.Call (.Name "_law_draw" p0) [.Name wk p1, .Subscript (.Name pn p2) (.Constant (.int 0) jj p3) p4] [] p5) (tCall spDraw [] E0 (tCons (tVar 1) (tCons (tOp (rIxT X.K) (tVar 2) (tC (.int 0))) tNil))) :=
  pe_call (X := cxComp X N scope cl C s₀ H₀ fp pl) D.g hr hg D.m D.k D.b .nil pass0 (pa_cons (X := cxComp X N scope cl C s₀ H₀ fp pl) (pe_var (X := cxComp X N scope cl C s₀ H₀ fp pl) (i := 1) h1 hw hd1 hc1) (pa_cons (X := cxComp X N scope cl C s₀ H₀ fp pl) (pe_ix (X := cxComp X N scope cl C s₀ H₀ fp pl) (ix_tup (X := cxComp X N scope cl C s₀ H₀ fp pl)) (pe_var (X := cxComp X N scope cl C s₀ H₀ fp pl) (i := 2) h2 hp hd2 hc2) pe_int (fun _ _ => rfl)) pa_nil))
def spStand : Sp := fun vs H Q _ => ∃ (p q pl : Addr) (ns : List Int) (m : Int) (names : List Str) (many : Nat), vs = [.ref p, .ref pl] ∧ PotAt H p q ns ∧ PlanT H pl m names many ∧
  ∀ (st : Addr) (nums pieces ms : List Int) (H' : Hp), StandT H' st m names.length many nums pieces → PotAt H' p q ms → But2 p q H H' → Q (.ref st) H'
theorem scStand : FnScope ["pot", "plan", "numbers"] ["pot", "plan"] (defScope sStand) := ⟨rfl, rfl, rfl, by decide +kernel, rfl, by decide +kernel, by decide +kernel⟩
theorem ok_stand {f fD : Addr} {fd dD : FuncData} (F : Fun K "_law_stand" "_law_stand" sStand f fd) (B : Bt mg) (D : Dr P w K mg base fD dD) : FnOk P w K mg base CX0 3 f fd ["pot", "plan"] spStand := by
  refine F.ok (k := 2) scStand (fun vs H Q E h => ?_) (fun cdv A outer s H vs Q E hr h => ?_)
  · obtain ⟨p, q, pl, ns, m, names, many, rfl, _⟩ := h; rfl
  obtain ⟨p, q, pl, ns, m, names, many, rfl, P0, hT, kk⟩ := h
  refine ⟨_, pss_cons (ps_set (i := 2) scStand.nd rfl (Or.inl rfl) (pe_callTy call_tuple_of rfl B.tuple bt_tuple (pa_cons (pe_comp (ls := ["name"]) (fs := ["pot", "plan"]) (js := [0, 1]) rfl
        (compOkN (cs := [s.heap.objs.size + 1, s.heap.objs.size + 2]) rfl (by decide +kernel) (by decide +kernel) rfl rfl (mem2 rfl rfl) (.cons rfl (.inl rfl) (.inl rfl) (.cons rfl (.inl rfl) (.inl rfl) .nil))) (pi_tup (pe_ix ix_tup (pv 1) pe_int (fun _ _ => rfl)))
        (fun C' s₀ H₀ fp pl' => ⟨cg_one (by decide +kernel) rfl rfl, pts_nil, ce_dr D hr rfl rfl rfl (Or.inr (Or.inl rfl)) (Or.inr (Or.inl rfl)) (by decide +kernel) (by decide +kernel) (by decide +kernel) (by decide +kernel)⟩)) pa_nil)))
    (pss_one (ps_ret (pe_tup (pa_cons (pv 2) (pa_cons (pe_callTy call_tuple_of rfl B.tuple bt_tuple (pa_cons (pe_comp (ls := ["k"]) (fs := ["pot", "plan"]) (js := [0, 1]) rfl
        (compOkN (cs := [s.heap.objs.size + 1, s.heap.objs.size + 2]) rfl (by decide +kernel) (by decide +kernel) rfl rfl (mem2 rfl rfl) (.cons rfl (.inl rfl) (.inl rfl) (.cons rfl (.inl rfl) (.inl rfl) .nil))) (pi_range1 rfl B.range (pa_cons (pe_ix ix_tup (pv 1) pe_int (fun _ _ => rfl)) pa_nil))
        (fun C' s₀ H₀ fp pl' => ⟨cg_one (by decide +kernel) rfl rfl, pts_nil, ce_dr D hr rfl rfl rfl (Or.inr (Or.inl rfl)) (Or.inr (Or.inl rfl)) (by decide +kernel) (by decide +kernel) (by decide +kernel) (by decide +kernel)⟩)) pa_nil)) pa_nil))))), ?_⟩
  obtain ⟨na, ra, mk, hpl, hna⟩ := hT.at_
  obtain ⟨m0, m1⟩ := hT.mm
  obtain ⟨l0, l1⟩ := hT.ln
  have hmy := hT.mny
  have elt : ∀ {H1 : Hp} {ms : List Int} {Q : VK} (x : V), PotAt H1 p q ms → But2 p q H H1 → (∀ (v : V) (ms' : List Int) (H2 : Hp), (∃ r : Int, v = .int r ∧ 0 ≤ r ∧ r < m) → PotAt H2 p q ms' → But2 p q H1 H2 → Q v H2) →
      tCall spDraw [] E0 (tCons (tVar 1) (tCons (tOp (rIxT K) (tVar 2) (tC (.int 0))) tNil)) (some x :: [some (.ref p), some (.ref pl)]) H1 Q := fun {H1 ms Q} x P1 b1 qq =>
    ⟨_, rfl, _, rfl, pl, _, 0, _, rfl, rfl, SqT.of (P0.tups b1 _ _ hpl), rfl, p, q, ms, m, rfl, P1, by omega, by omega, fun r ms' H2 r0 rb P2 b2 => qq (.int r) ms' H2 ⟨r, rfl, r0, rb⟩ P2 b2⟩
  refine ⟨_, rfl, pl, _, 1, _, rfl, rfl, SqT.of hpl, rfl, na, rfl, ⟨_, SqT.of hna⟩, rd_compT (xs := names.map V.str) (rest := [some (.ref p), some (.ref pl)]) (fun _ v => ∃ r : Int, v = .int r ∧ 0 ≤ r ∧ r < m) (fun _ _ _ _ h => h) (by rw [List.length_map]; omega) rfl P0 hna (fun x ms H1 Q P1 b1 qq => elt x P1 b1 qq) fun l ys ms1 H1 hyl hF hl P1 b1 => ?_⟩
  obtain ⟨nums, rfl, hrn⟩ := ints_of hF
  rw [List.length_map, List.length_map] at hyl
  refine ⟨l, _, rfl, .inl ⟨SqL.of hl, fun nu hnu => ?_⟩⟩
  have s1 := same_upd hnu (.tup (nums.map V.int))
  have P1' := P1.keep s1
  have b1' : But2 p q H (upd H1 nu (.tup (nums.map V.int))) := b1.trans (But2.of s1)
  have hpl1 := P0.tups b1' _ _ hpl
  refine gset (σ' := [some (.ref p), some (.ref pl), some (.ref nu)]) rfl ?_
  refine ⟨_, rfl, _, rfl, pl, _, 2, _, rfl, rfl, SqT.of hpl1, rfl, (many : Int), rfl, by omega, by omega, ?_⟩
  rw [Int.toNat_natCast]
  refine rd_compR (n := many) (rest := [some (.ref p), some (.ref pl)]) (fun _ v => ∃ r : Int, v = .int r ∧ 0 ≤ r ∧ r < m) (fun _ _ _ _ h => h) (by omega) rfl P1' (fun i ms H2 Q _ P2 b2 qq => elt _ P2 (b1'.trans b2) qq) fun l2 ys ms2 H2 hyl2 hF2 hl2 P2 b2 => ?_
  obtain ⟨pieces, rfl, hrp⟩ := ints_of hF2
  rw [List.length_map] at hyl2
  refine ⟨l2, _, rfl, .inl ⟨SqL.of hl2, fun pc hpc => ⟨(by show 2 ≤ sizeLine; decide), fun st hst => ?_⟩⟩⟩
  have s2 := same_upd hpc (.tup (pieces.map V.int))
  have s3 := same_upd hst (.tup [.ref nu, .ref pc])
  exact kk st nums pieces ms2 _ ⟨⟨nu, pc, upd_same, (s2.trans s3) _ _ (P1'.tups b2 _ _ upd_same), s3 _ _ upd_same⟩, hyl, hyl2, hrn, hrp⟩ (P2.keep (s2.trans s3)) (b1'.trans (b2.trans (But2.of (s2.trans s3))))
end
end Tw

namespace Tw
open PySem L2
/-! ### plans of any rows: each run comes to an end, or is dry -/
def rOk (m : Int) (names : List Str) (many : Nat) : Nat → Row → Prop
  | 0, _ => False
  | n + 1, r => match r with
    | .ifr x a b => x ∈ names ∧ (∀ q ∈ a, rOk m names many n q) ∧ (∀ q ∈ b, rOk m names many n q)
    | .again x a => x ∈ names ∧ (∀ q ∈ a, rOk m names many n q)
    | r => rowOk m names many r
structure StOk (c : Cfg) (names : List Str) (s : St8) : Prop where
  nums : NumsOk c.m names s.nums
  few : s.steps.length ≤ c.most
theorem StOk.note {c : Cfg} {names : List Str} {s : St8} (h : StOk c names s) (hl : s.steps.length < c.most) (pl : List Int) (v : Int) : StOk c names (s.note pl v) :=
  ⟨h.nums, by show (s.steps ++ [(pl, v)]).length ≤ _; rw [List.length_append, List.length_singleton]; omega⟩
theorem note_len (s : St8) (pl : List Int) (v : Int) : (s.note pl v).steps.length = s.steps.length + 1 := by
  show (s.steps ++ [(pl, v)]).length = _
  rw [List.length_append, List.length_singleton]
/-- what a step by F promises: it is there, in order, and never takes steps back -/
def Tot (c : Cfg) (names : List Str) (F : List Int → St8 → Bool → St8 → Prop) : Prop := ∀ (pl : List Int) (s : St8), StOk c names s → ∃ (ok : Bool) (s' : St8), F pl s ok s' ∧ StOk c names s' ∧ s.steps.length ≤ s'.steps.length
theorem rows_tot {c : Cfg} {names : List Str} {F : Row → List Int → St8 → Bool → St8 → Prop} : ∀ {rs : List Row}, (∀ r ∈ rs, Tot c names (F r)) → ∀ (pl : List Int) (j : Nat) (s : St8), StOk c names s → ∃ (ok : Bool) (s' : St8), RRows F rs pl j s ok s' ∧ StOk c names s' ∧ s.steps.length ≤ s'.steps.length
  | [], _, pl, j, s, hs => ⟨true, s, .nil, hs, Nat.le_refl _⟩
  | r :: rs, h, pl, j, s, hs => by
    obtain ⟨ok, s1, h1, hs1, l1⟩ := h r List.mem_cons_self (pl ++ [(j : Int)]) s hs
    cases ok with
    | false => exact ⟨false, s1, .stop h1, hs1, l1⟩
    | true =>
      obtain ⟨ok2, s2, h2, hs2, l2⟩ := rows_tot (rs := rs) (fun q hq => h q (List.mem_cons_of_mem _ hq)) pl (j + 1) s1 hs1
      exact ⟨ok2, s2, .cons h1 h2, hs2, Nat.le_trans l1 l2⟩
theorem loop_tot {c : Cfg} {names : List Str} {B : Nat → St8 → Bool → St8 → Prop} (hB : ∀ t s, StOk c names s → ∃ (ok : Bool) (s' : St8), B t s ok s' ∧ StOk c names s' ∧ s.steps.length ≤ s'.steps.length) {x : Str} (hx : x ∈ names) (pl : List Int) :
    ∀ (k : Nat) (t : Nat) (s : St8), c.most - s.steps.length ≤ k → StOk c names s → ∃ (m : Nat) (ok : Bool) (s' : St8), RLoop c.most B x pl m t s ok s' ∧ StOk c names s' ∧ s.steps.length ≤ s'.steps.length
  | k, t, s, hk, hs => by
    obtain ⟨v, hv, _⟩ := hs.nums.get hx
    by_cases hm : s.steps.length < c.most
    · by_cases h0 : v = 0
      · exact ⟨0, true, _, ⟨v, hv, .inr (.inl ⟨hm, h0, rfl, rfl⟩)⟩, hs.note hm _ _, by rw [note_len]; omega⟩
      · obtain ⟨ok, s1, h1, hs1, l1⟩ := hB t (s.note (pl ++ [(t : Int)]) 1) (hs.note hm _ _)
        rw [note_len] at l1
        cases ok with
        | false => exact ⟨0, false, s1, ⟨v, hv, .inr (.inr ⟨hm, h0, rfl, h1⟩)⟩, hs1, by omega⟩
        | true =>
          cases k with
          | zero => omega
          | succ k =>
            obtain ⟨m, ok2, s2, h2, hs2, l2⟩ := loop_tot hB hx pl k (t + 1) s1 (by omega) hs1
            exact ⟨m + 1, ok2, s2, ⟨v, s1, hv, h0, hm, h1, h2⟩, hs2, by omega⟩
    · exact ⟨0, false, s, ⟨v, hv, .inl ⟨hm, rfl, rfl⟩⟩, hs, Nat.le_refl _⟩
theorem base_tot {c : Cfg} {names : List Str} (hp : ∀ v ∈ c.pieces, 0 ≤ v ∧ v < c.m) (hm : 2 ≤ c.m) (hm2 : c.m ≤ 1000) {r : Row} (h : rowOk c.m names c.pieces.length r) (n : Nat) : Tot c names (RRow c (n + 1) r) := by
  intro pl s hs
  obtain ⟨v, hv, v0, v1⟩ := number_ok h hs.nums hp hm
  obtain ⟨u, hu, _⟩ := hs.nums.get (rowX_mem h)
  have key : ∃ (ok : Bool) (s' : St8), (∃ v u, number c s.nums r = some v ∧ 0 ≤ v ∧ v < 1000 ∧ getN s.nums (rowX r) = some u ∧ ((¬ s.steps.length < c.most ∧ ok = false ∧ s' = s) ∨ (s.steps.length < c.most ∧ ok = true ∧ s' = { nums := setN s.nums (rowX r) v, steps := s.steps ++ [(pl, v)] }))) ∧ StOk c names s' ∧ s.steps.length ≤ s'.steps.length := by
    by_cases hl : s.steps.length < c.most
    · exact ⟨true, _, ⟨v, u, hv, v0, by omega, hu, .inr ⟨hl, rfl, rfl⟩⟩, ⟨hs.nums.set (rowX_mem h) v0 v1, by show (s.steps ++ [(pl, v)]).length ≤ _; rw [List.length_append, List.length_singleton]; omega⟩, by show _ ≤ (s.steps ++ [(pl, v)]).length; rw [List.length_append]; omega⟩
    · exact ⟨false, s, ⟨v, u, hv, v0, by omega, hu, .inl ⟨hl, rfl, rfl⟩⟩, hs, Nat.le_refl _⟩
  obtain ⟨ok, s', h1, h2⟩ := key
  refine ⟨ok, s', ?_, h2⟩
  cases r with
  | put x k => exact h1
  | take x k => exact h1
  | pick x k => exact h1
  | two w x y z => exact h1
  | ifr x p q => exact h.elim
  | again x p => exact h.elim
theorem row_tot {c : Cfg} {names : List Str} (hp : ∀ v ∈ c.pieces, 0 ≤ v ∧ v < c.m) (hm : 2 ≤ c.m) (hm2 : c.m ≤ 1000) : ∀ (n : Nat) {r : Row}, rOk c.m names c.pieces.length n r → Tot c names (RRow c n r)
  | 0, _, h => h.elim
  | n + 1, r, h => by
    cases r with
    | put x k => exact base_tot (r := .put x k) hp hm hm2 h n
    | take x k => exact base_tot (r := .take x k) hp hm hm2 h n
    | pick x k => exact base_tot (r := .pick x k) hp hm hm2 h n
    | two w x y z => exact base_tot (r := .two w x y z) hp hm hm2 h n
    | ifr x a b =>
      intro pl s hs
      obtain ⟨hx, ha, hb⟩ := h
      obtain ⟨v, hv, _⟩ := hs.nums.get hx
      by_cases hl : s.steps.length < c.most
      · obtain ⟨ok, s', h1, h2, h3⟩ := rows_tot (F := RRow c n) (rs := if v = 0 then b else a) (fun r hr => row_tot hp hm hm2 n (by split at hr; exact hb r hr; exact ha r hr)) (pl ++ [if v = 0 then 0 else 1]) 0 (s.note pl (if v = 0 then 0 else 1)) (hs.note hl _ _)
        rw [note_len] at h3
        exact ⟨ok, s', ⟨v, hv, .inr ⟨hl, h1⟩⟩, h2, by omega⟩
      · exact ⟨false, s, ⟨v, hv, .inl ⟨hl, rfl, rfl⟩⟩, hs, Nat.le_refl _⟩
    | again x a =>
      intro pl s hs
      obtain ⟨hx, ha⟩ := h
      obtain ⟨m, ok, s', h1, h2, h3⟩ := loop_tot (B := fun t s1 ok s2 => RRows (RRow c n) a (pl ++ [(t : Int)]) 0 s1 ok s2) (fun t s hs => rows_tot (fun r hr => row_tot hp hm hm2 n (ha r hr)) (pl ++ [(t : Int)]) 0 s hs) hx pl _ 0 s (Nat.le_refl _) hs
      exact ⟨ok, s', ⟨m, h1⟩, h2, h3⟩
end Tw

namespace Tw
open PySem L2
/-! ### rows of any sort, drawn -/
def But3 (p q r : Addr) (H H' : Hp) : Prop := ∀ b o, H b = some o → b ≠ p → b ≠ q → b ≠ r → H' b = some o
theorem But3.refl {p q r : Addr} {H : Hp} : But3 p q r H H := fun _ _ h _ _ _ => h
theorem But3.trans {p q r : Addr} {H H1 H2 : Hp} (a : But3 p q r H H1) (b : But3 p q r H1 H2) : But3 p q r H H2 := fun c o h h1 h2 h3 => b c o (a c o h h1 h2 h3) h1 h2 h3
theorem But3.of2 {p q r : Addr} {H H' : Hp} (b : But2 p q H H') : But3 p q r H H' := fun c o h h1 h2 _ => b c o h h1 h2
theorem But3.of {p q r : Addr} {H H' : Hp} (s : Same H H') : But3 p q r H H' := fun c o h _ _ _ => s c o h
theorem But3.free {p q r l : Addr} {H H' : Hp} (b : But3 p q r H H') (h : H' l = none) (h1 : l ≠ p) (h2 : l ≠ q) (h3 : l ≠ r) : H l = none := by
  cases e : H l with
  | none => rfl
  | some o => have := b l o e h1 h2 h3; rw [h] at this; cases this
structure RmAt (H : Hp) (p q rm : Addr) (ns : List Int) (k : Int) : Prop where
  pot : PotAt H p q ns
  room : H rm = some (.lst [.int k])
  k0 : 0 ≤ k
  k1 : k ≤ 1000
  n1 : rm ≠ p
  n2 : rm ≠ q
theorem RmAt.tups {H H' : Hp} {p q rm : Addr} {ns : List Int} {k : Int} (R : RmAt H p q rm ns k) (b : But3 p q rm H H') : Tups H H' := fun c xs h => by
  obtain ⟨c1, c2, c3, hp⟩ := R.pot.at_
  exact b c _ h (ne_of h hp (by intro z; cases z)) (ne_of h R.pot.cells (by intro z; cases z)) (ne_of h R.room (by intro z; cases z))
theorem RmAt.keep {H H' : Hp} {p q rm : Addr} {ns : List Int} {k : Int} (R : RmAt H p q rm ns k) (s : Same H H') : RmAt H' p q rm ns k := ⟨R.pot.keep s, s _ _ R.room, R.k0, R.k1, R.n1, R.n2⟩
theorem RmAt.drawn {H H' : Hp} {p q rm : Addr} {ns ms : List Int} {k : Int} (R : RmAt H p q rm ns k) (P : PotAt H' p q ms) (b : But2 p q H H') : RmAt H' p q rm ms k := ⟨P, b _ _ R.room R.n1 R.n2, R.k0, R.k1, R.n1, R.n2⟩
theorem RmAt.less {H : Hp} {p q rm : Addr} {ns : List Int} {k j : Int} (R : RmAt H p q rm ns k) (h0 : 0 ≤ j) (h1 : j ≤ k) : RmAt (upd H rm (.lst [.int j])) p q rm ns j := ⟨R.pot.put R.n1 R.n2, upd_same, h0, by have := R.k1; omega, R.n1, R.n2⟩
theorem but3_upd {p q rm : Addr} {H : Hp} {o : HO} : But3 p q rm H (upd H rm o) := fun b u h _ _ h3 => by rw [upd_ne h3]; exact h
theorem RmAt.new {H : Hp} {p q rm l : Addr} {ns : List Int} {k : Int} (R : RmAt H p q rm ns k) (hl : H l = none) : l ≠ p ∧ l ≠ q ∧ l ≠ rm := ⟨(R.pot.new hl).1, (R.pot.new hl).2, (ne_of_none R.room hl).symm⟩
theorem rOk_base {m : Int} {names : List Str} {many n : Nat} {r : Row} (h : rowOk m names many r) : rOk m names many (n + 1) r := by
  cases r with
  | put x k => exact h
  | take x k => exact h
  | pick x k => exact h
  | two w x y z => exact h
  | ifr x p q => exact h.elim
  | again x p => exact h.elim
theorem row_upG {H : Hp} {n : Nat} {v : V} {r : Row} {m : Int} {names : List Str} {many : Nat} (h : RowAt H 1 v r) (ok : rowOk m names many r) : RowAt H (n + 1) v r := by
  cases r with
  | put x k => exact h
  | take x k => exact h
  | pick x k => exact h
  | two w x y z => exact h
  | ifr x p q => exact ok.elim
  | again x p => exact ok.elim
theorem pairedG_app {α β : Type} {F : α → β → Prop} : ∀ {xs xs' : List α} {ys ys' : List β}, Paired F xs ys → Paired F xs' ys' → Paired F (xs ++ xs') (ys ++ ys')
  | _, _, _, _, .nil, h => h
  | _, _, _, _, .cons r t, h => .cons r (pairedG_app t h)
section
variable {P : Program} {w : World} {K : PySem.W.Frag} {mg : Str → Option Value} {base : Heap}
def spGRows (n : Nat) : Sp := fun vs H Q _ => ∃ (p q t rm : Addr) (ns : List Int) (m : Int) (names : List Str) (many : Nat) (k most : Int), vs = [.ref p, .ref t, .ref rm, .int (4 - (n : Int)), .int most] ∧ RmAt H p q rm ns k ∧ ToldAt H t m names many ∧ 0 < most ∧ most ≤ 30 ∧
  ∀ (a : Addr) (xs : List V) (rows : List Row) (ms : List Int) (k' : Int) (H' : Hp), H' a = some (.tup xs) → Paired (RowAt H' (n + 1)) xs rows → (∀ r ∈ rows, rOk m names many (n + 1) r) → xs.length ≤ 90 → RmAt H' p q rm ms k' → But3 p q rm H H' → Q (.ref a) H'
def spGBlock : Nat → Sp
  | 0 => fun _ _ _ _ => False
  | n + 1 => fun vs H Q _ => ∃ (p q t rm : Addr) (ns : List Int) (m : Int) (names : List Str) (many : Nat) (k : Int), vs = [.ref p, .ref t, .ref rm, .int (4 - ((n + 1 : Nat) : Int))] ∧ RmAt H p q rm ns k ∧ ToldAt H t m names many ∧
    ∀ (a : Addr) (xs : List V) (rows : List Row) (ms : List Int) (k' : Int) (H' : Hp), H' a = some (.lst xs) → Paired (RowAt H' (n + 2)) xs rows → (∀ r ∈ rows, rOk m names many (n + 2) r) → xs.length ≤ 3 → RmAt H' p q rm ms k' → But3 p q rm H H' → a ≠ p → a ≠ q → a ≠ rm → Q (.ref a) H'
theorem scGRows : FnScope ["pot", "told", "room", "deep", "most", "rows", "k"] ["pot", "told", "room", "deep", "most"] (defScope sLRows) := ⟨rfl, rfl, rfl, by decide +kernel, rfl, by decide +kernel, by decide +kernel⟩
theorem ok_grows {f fD fB fL : Addr} {fd dD dB dL : FuncData} {n k : Nat} (hk : 3 ≤ k) (F : Fun K "_law_rows" "_law_rows" sLRows f fd) (B : Bt mg) (D : Dr P w K mg base fD dD)
    (GB : FnOk P w K mg base CX0 k fB dB ["pot", "told", "room", "deep"] (spGBlock n)) (bB : Binds K dB ["pot", "told", "room", "deep"] []) (kB : PySem.W.keepIn K (.ref fB) = true) (mB : mg "_law_block" = some (.ref fB))
    (GL : FnOk P w K mg base CX0 3 fL dL ["pot", "told"] spLRow) (bL : Binds K dL ["pot", "told"] []) (kL : PySem.W.keepIn K (.ref fL) = true) (mL : mg "_law_row" = some (.ref fL)) :
    FnOk P w K mg base CX0 (k + 1) f fd ["pot", "told", "room", "deep", "most"] (spGRows n) := by
  refine F.ok (k := k) scGRows (fun vs H Q E h => ?_) (fun cdv A outer s H vs Q E hr h => ?_)
  · obtain ⟨p, q, t, rm, ns, m, names, many, k, most, rfl, _⟩ := h; rfl
  obtain ⟨p, q, t, rm, ns, m, names, many, kr, most, rfl, R0, hT, m0, m1, kk⟩ := h
  have hr2 : Room 2 _ := hr.mono (by omega)
  have hr3 : Room 3 _ := hr.mono hk
  refine ⟨_, pss_cons (ps_set (i := 5) scGRows.nd rfl (Or.inl rfl) (pe_lst pa_nil))
    (pss_cons (ps_for PassesOwn.never rfl (pi_range1 rfl B.range (pa_cons (pe_call D.g hr2 rfl D.m D.k D.b .nil pass0 (pa_cons (pv 0) (pa_cons (pv 4) pa_nil))) pa_nil)) (pg_name (i := 6) scGRows.nd rfl (Or.inl rfl))
      (pss_one (ps_if (PW.pt (pw_and (pt_cmpR op_gt (pe_ix ix_list (pv 2) pe_int (fun _ _ => rfl)) pe_int (nomark _)) (pw_and (pt_cmpR op_lt (pv 3) pe_int (nomark _)) (pw_and1 (pt_cmpR op_eq (pe_call D.g hr2 rfl D.m D.k D.b .nil pass0 (pa_cons (pv 0) (pa_cons pe_int pa_nil))) pe_int (nomark _))))))
        (pss_cons (ps_asg (pe_op op_sub (pe_ix ix_list (pv 2) pe_int (fun _ _ => rfl)) pe_int) (pg_sub (pv 2) pe_int set_list)) (pss_one (ps_set (i := 5) scGRows.nd rfl (Or.inl rfl) (pe_op op_cat (pv 5) (pe_call GB hr rfl mB kB bB .nil pass0 (pa_cons (pv 0) (pa_cons (pv 1) (pa_cons (pv 2) (pa_cons (pv 3) pa_nil)))))))))
        (pss_one (ps_if (pt_cmpR op_gt (pe_ix ix_list (pv 2) pe_int (fun _ _ => rfl)) pe_int (nomark _))
          (pss_cons (ps_asg (pe_op op_sub (pe_ix ix_list (pv 2) pe_int (fun _ _ => rfl)) pe_int) (pg_sub (pv 2) pe_int set_list)) (pss_one (ps_expr (pe_bm PySem.F.plainAttrs_list PySem.F.slot_list_append PySem.F.type_list_append mt_append (pv 5) (pa_cons (pe_call GL hr3 rfl mL kL bL .nil pass0 (pa_cons (pv 0) (pa_cons (pv 1) pa_nil))) pa_nil))))) pss_nil)))))
    (pss_one (ps_ret (pe_callTy call_tuple_of rfl B.tuple bt_tuple (pa_cons (pv 5) pa_nil))))), ?_⟩
  refine ⟨(by show 0 ≤ sizeLine; decide), fun l0 hl0 => ?_⟩
  have s1 := same_upd hl0 (.lst [])
  refine ⟨_, rfl, _, rfl, p, q, ns, most, rfl, R0.pot.keep s1, m0, by omega, fun r ms H1 r0 rb P1 b1 => ⟨r, rfl, by omega, by omega, ?_⟩⟩
  have R1 := (R0.keep s1).drawn P1 b1
  obtain ⟨n1, n2, n3⟩ := R0.new hl0
  have hl1 := b1 _ _ upd_same n1 n2
  have b01 : But3 p q rm H H1 := (But3.of s1).trans (But3.of2 b1)
  refine for_range (lo := 0) (n := r.toNat) (fun i σ H' => ∃ (l : Addr) (ys : List V) (rws : List Row) (ms : List Int) (k' : Int) (c6 : Option V), σ = [some (.ref p), some (.ref t), some (.ref rm), some (.int (4 - (n : Int))), some (.int most), some (.ref l), c6] ∧ H' l = some (.lst ys) ∧ Paired (RowAt H' (n + 1)) ys rws ∧ (∀ r ∈ rws, rOk m names many (n + 1) r) ∧ ys.length ≤ 3 * i ∧ RmAt H' p q rm ms k' ∧ But3 p q rm H H' ∧ l ≠ p ∧ l ≠ q ∧ l ≠ rm ∧ H l = none)
    ⟨l0, [], [], ms, kr, none, rfl, hl1, .nil, (fun r hr => by cases hr), Nat.le_refl _, R1, b01, n1, n2, n3, hl0⟩ ?_ ?_
  · rintro i σ H2 hi ⟨l, ys, rws, ms2, k2, c6, rfl, hl, hys, hok, hlen, R2, b2, nl1, nl2, nl3, hln⟩
    have t2 := R0.tups b2
    have hT2 := hT.keep t2
    refine gset (σ' := [some (.ref p), some (.ref t), some (.ref rm), some (.int (4 - (n : Int))), some (.int most), some (.ref l), some (.int (0 + (i : Int)))]) rfl ?_
    dsimp only
    refine rd_if2 (fun bb H' => (bb = true → 4 < k2 ∧ 0 < n) ∧ ∃ ms, RmAt H' p q rm ms k2 ∧ But2 p q H2 H') _ ?_ ?_ ?_ (fun _ _ h => h)
    · intro Q2 qq
      have stay : ∃ ms, RmAt H2 p q rm ms k2 ∧ But2 p q H2 H2 := ⟨ms2, R2, But2.refl⟩
      refine ⟨_, rfl, rm, _, 0, _, rfl, rfl, SqL.of R2.room, rfl, _, _, rfl, rfl, _, rfl, ?_⟩
      by_cases h4 : (4 : Int) < k2
      · refine ifY h4 ⟨_, rfl, _, _, rfl, rfl, _, rfl, ?_⟩
        by_cases hd : 4 - (n : Int) < 4
        · refine ifY hd ⟨_, rfl, p, q, ms2, 4, rfl, R2.pot, by decide, by decide, fun r3 ms3 H3 _ _ P3 b3 => ⟨rfl, _, rfl, ?_⟩⟩
          exact qq _ _ ⟨fun _ => ⟨h4, by omega⟩, ms3, R2.drawn P3 b3, b3⟩
        · exact ifN hd (qq _ _ ⟨fun z => Bool.noConfusion z, stay⟩)
      · exact ifN h4 (qq _ _ ⟨fun z => Bool.noConfusion z, stay⟩)
    · rintro H3 D' ⟨hc, ms3, R3, b3⟩ kN
      obtain ⟨h4, hn⟩ := hc rfl
      obtain ⟨n', rfl⟩ : ∃ n', n = n' + 1 := ⟨n - 1, by omega⟩
      refine ⟨_, rfl, rm, _, 0, _, rfl, rfl, SqL.of R3.room, rfl, _, _, rfl, rfl, _, rfl, rm, _, _, 0, rfl, rfl, R3.room, rfl, ?_⟩
      have R4 := R3.less (j := k2 - 4) (by omega) (by omega)
      have b34 : But3 p q rm H2 (upd H3 rm (.lst [.int (k2 - 4)])) := (But3.of2 b3).trans but3_upd
      have t4 := R2.tups b34
      refine ⟨_, rfl, _, rfl, _, rfl, _, rfl, _, rfl, p, q, t, rm, ms3, m, names, many, k2 - 4, rfl, R4, hT2.keep t4, fun a xs rows ms5 k5 H5 ha hxs hokx hlx R5 b5 na1 na2 na3 => ?_⟩
      have hl5 : H5 l = some (.lst ys) := b5 _ _ (b34 _ _ hl nl1 nl2 nl3) nl1 nl2 nl3
      have t25 := t4.trans (R4.tups b5)
      refine ⟨l, a, ys, xs, rfl, rfl, hl5, ha, (by have : sizeLine = 16777216 := rfl; omega), fun l6 hl6 => ?_⟩
      have s6 := same_upd hl6 (.lst (ys ++ xs))
      obtain ⟨z1, z2, z3⟩ := R5.new hl6
      refine kN _ _ ⟨l6, ys ++ xs, rws ++ rows, ms5, k5, _, rfl, upd_same, ?_, fun r hr => ?_, by rw [List.length_append]; omega, R5.keep s6, b2.trans (b34.trans (b5.trans (But3.of s6))), z1, z2, z3, But3.free (b2.trans (b34.trans b5)) hl6 z1 z2 z3⟩
      · exact pairedG_app (Paired.mapP hys fun _ _ z => RowAt.mono (t25.trans (Tups.of s6)) z) (Paired.mapP hxs fun _ _ z => RowAt.mono (Tups.of s6) z)
      · rcases List.mem_append.mp hr with z | z
        · exact hok r z
        · exact hokx r z
    · rintro H3 D' ⟨_, ms3, R3, b3⟩ kN
      refine ⟨_, rfl, rm, _, 0, _, rfl, rfl, SqL.of R3.room, rfl, _, _, rfl, rfl, _, rfl, ?_⟩
      have hl3 := b3 _ _ hl nl1 nl2
      by_cases h0 : (0 : Int) < k2
      · refine ifY h0 ⟨_, rfl, rm, _, 0, _, rfl, rfl, SqL.of R3.room, rfl, _, _, rfl, rfl, _, rfl, rm, _, _, 0, rfl, rfl, R3.room, rfl, ?_⟩
        have R4 := R3.less (j := k2 - 1) (by omega) (by omega)
        have b34 : But3 p q rm H2 (upd H3 rm (.lst [.int (k2 - 1)])) := (But3.of2 b3).trans but3_upd
        have t4 := R2.tups b34
        have hl4 := b34 _ _ hl nl1 nl2 nl3
        refine ⟨_, rfl, .inl ⟨rfl, _, SqL.of hl4⟩, _, rfl, _, rfl, p, q, t, ms3, m, names, many, rfl, R4.pot, hT2.keep t4, fun a row ms5 H5 hrow hokr P5 b5 => ?_⟩
        have R5 := R4.drawn P5 b5
        have hl5 := b5 _ _ hl4 nl1 nl2
        have t45 := R4.tups (But3.of2 b5)
        have tl : Tups H5 (upd H5 l (.lst (ys ++ [.ref a]))) := tups_lst hl5
        refine ⟨l, ys, _, rfl, rfl, hl5, (by have : sizeLine = 16777216 := rfl; omega), kN _ _ ⟨l, ys ++ [.ref a], rws ++ [row], ms5, k2 - 1, _, rfl, upd_same, ?_, fun r hr => ?_, by rw [List.length_append, List.length_singleton]; omega, ⟨R5.pot.put nl1 nl2, by rw [upd_ne nl3.symm]; exact R5.room, R5.k0, R5.k1, R5.n1, R5.n2⟩, ?_, nl1, nl2, nl3, hln⟩⟩
        · exact Paired.snoc' (Paired.mapP hys fun _ _ z => RowAt.mono ((t4.trans t45).trans tl) z) (RowAt.mono tl (row_upG hrow hokr))
        · rcases List.mem_append.mp hr with z | z
          · exact hok r z
          · rw [List.mem_singleton.mp z]; exact rOk_base hokr
        · intro b o hb h1 h2 h3
          have := (b2.trans (b34.trans (But3.of2 b5))) b o hb h1 h2 h3
          by_cases hbl : b = l
          · subst hbl
            rw [hln] at hb
            cases hb
          · rw [upd_ne hbl]; exact this
      · exact ifN h0 (kN _ _ ⟨l, ys, rws, ms3, k2, _, rfl, hl3, Paired.mapP hys fun _ _ z => RowAt.mono (R2.tups (But3.of2 b3)) z, hok, by omega, R3, b2.trans (But3.of2 b3), nl1, nl2, nl3, hln⟩)
  · rintro σ H2 ⟨l, ys, rws, ms2, k2, c6, rfl, hl, hys, hok, hlen, R2, b2, nl1, nl2, nl3, hln⟩
    refine ⟨_, rfl, l, _, rfl, .inl ⟨SqL.of hl, fun a ha => ?_⟩⟩
    have s2 := same_upd ha (.tup ys)
    exact kk a ys rws ms2 k2 _ upd_same (Paired.mapP hys fun _ _ z => RowAt.mono (Tups.of s2) z) hok (by omega) (R2.keep s2) (b2.trans (But3.of s2))
end
end Tw

namespace Tw
open PySem L2
section
variable {P : Program} {w : World} {K : PySem.W.Frag} {mg : Str → Option Value} {base : Heap}
theorem scBlock : FnScope ["pot", "told", "room", "deep", "m", "names", "many", "x", "first", "way", "y"] ["pot", "told", "room", "deep"] (defScope sBlock) := ⟨rfl, rfl, rfl, by decide +kernel, rfl, by decide +kernel, by decide +kernel⟩
theorem block0 {f : Addr} {fd : FuncData} {k : Nat} : FnOk P w K mg base CX0 k f fd ["pot", "told", "room", "deep"] (spGBlock 0) := by
  have no : ∀ vs H Q E, ¬ spGBlock 0 vs H Q E := fun vs H Q E h => h
  exact ⟨fun vs H Q E h => absurd h (no vs H Q E), fun A outer s H args us vs Q E _ _ _ _ h => absurd h (no vs H Q E)⟩
theorem ok_gblock {f fD fR : Addr} {fd dD dR : FuncData} {n k : Nat} (hk : 2 ≤ k) (hn : n ≤ 3) (F : Fun K "_law_block" "_law_block" sBlock f fd) (B : Bt mg) (mn : mg "min" = none) (D : Dr P w K mg base fD dD)
    (GR : FnOk P w K mg base CX0 k fR dR ["pot", "told", "room", "deep", "most"] (spGRows n)) (bR : Binds K dR ["pot", "told", "room", "deep", "most"] []) (kR : PySem.W.keepIn K (.ref fR) = true) (mR : mg "_law_rows" = some (.ref fR)) :
    FnOk P w K mg base CX0 (k + 1) f fd ["pot", "told", "room", "deep"] (spGBlock (n + 1)) := by
  refine F.ok (k := k) scBlock (fun vs H Q E h => ?_) (fun cdv A outer s H vs Q E hr h => ?_)
  · obtain ⟨p, q, t, rm, ns, m, names, many, k, rfl, _⟩ := h; rfl
  obtain ⟨p, q, t, rm, ns, m, names, many, kr, rfl, R0, hT, kk⟩ := h
  have hr2 : Room 2 _ := hr.mono hk
  refine ⟨_, pss_cons (ps_asg (pv 1) (pg_tup rfl (pgs_cons (pg_name (i := 4) scBlock.nd rfl (Or.inl rfl)) (pgs_cons (pg_name (i := 5) scBlock.nd rfl (Or.inl rfl)) (pgs_cons (pg_name (i := 6) scBlock.nd rfl (Or.inl rfl)) pgs_nil)))))
    (pss_cons (ps_set (i := 7) scBlock.nd rfl (Or.inl rfl) (pe_ix ix_tup (pv 5) (pe_call D.g hr2 rfl D.m D.k D.b .nil pass0 (pa_cons (pv 0) (pa_cons (pe_callB call_len_seq rfl B.len PySem.boot_len (pa_cons (pv 5) pa_nil)) pa_nil))) (fun _ _ => rfl)))
    (pss_cons (ps_set (i := 8) scBlock.nd rfl (Or.inl rfl) (pe_call GR hr rfl mR kR bR .nil pass0 (pa_cons (pv 0) (pa_cons (pv 1) (pa_cons (pv 2) (pa_cons (pe_op op_add (pv 3) pe_int) (pa_cons pe_int pa_nil)))))))
    (pss_cons (ps_set (i := 9) scBlock.nd rfl (Or.inl rfl) (pe_call D.g hr2 rfl D.m D.k D.b .nil pass0 (pa_cons (pv 0) (pa_cons pe_int pa_nil))))
    (pss_cons (ps_if (pt_cmpR op_lt (pv 9) pe_int (nomark _)) (pss_one (ps_ret (pe_lst (pa_cons (pe_tup (pa_cons pe_str (pa_cons (pv 7) (pa_cons (pv 8) (pa_cons (pe_call GR hr rfl mR kR bR .nil pass0 (pa_cons (pv 0) (pa_cons (pv 1) (pa_cons (pv 2) (pa_cons (pe_op op_add (pv 3) pe_int) (pa_cons pe_int pa_nil)))))) pa_nil))))) pa_nil)))) pss_nil)
    (pss_cons (ps_if (pt_cmpR op_eq (pv 9) pe_int (nomark _)) (pss_one (ps_ret (pe_lst (pa_cons (pe_tup (pa_cons pe_str (pa_cons (pv 7) (pa_cons (pv 8) pa_nil)))) pa_nil)))) pss_nil)
    (pss_cons (ps_set (i := 10) scBlock.nd rfl (Or.inl rfl) (pe_ix ix_tup (pv 5) (pe_call D.g hr2 rfl D.m D.k D.b .nil pass0 (pa_cons (pv 0) (pa_cons (pe_callB call_len_seq rfl B.len PySem.boot_len (pa_cons (pv 5) pa_nil)) pa_nil))) (fun _ _ => rfl)))
    (pss_one (ps_ret (pe_lst (pa_cons (pe_tup (pa_cons pe_str (pa_cons (pv 7) (pa_cons (pe_call D.g hr2 rfl D.m D.k D.b .nil pass0 (pa_cons (pv 0) (pa_cons (pe_callB (call_min2 rfl) rfl mn bt_min (pa_cons (pv 4) (pa_cons pe_int pa_nil))) pa_nil))) pa_nil))))
      (pa_cons (pe_tup (pa_cons pe_str (pa_cons (pv 10) (pa_cons (pe_op op_sub (pv 4) pe_int) pa_nil))))
      (pa_cons (pe_tup (pa_cons pe_str (pa_cons (pv 7) (pa_cons (pe_op op_catA (pv 8) (pe_tup (pa_cons (pe_tup (pa_cons pe_str (pa_cons (pv 7) (pa_cons (pv 7) (pa_cons (pv 10) pa_nil))))) pa_nil))) pa_nil)))) pa_nil)))))))))))), ?_⟩
  obtain ⟨na, ht, hna⟩ := hT.at_
  obtain ⟨m0, m1⟩ := hT.mm
  obtain ⟨l0, l1⟩ := hT.ln
  have hmy := hT.mny
  have hlz : ((names.map V.str).length : Int) = (names.length : Int) := by rw [List.length_map]
  refine ⟨_, rfl, t, _, rfl, SqT.of ht, rfl, _, _, rfl, _, _, rfl, _, _, rfl, rfl, ?_⟩
  refine ⟨_, rfl, _, rfl, _, rfl, na, _, rfl, .inr (SqT.of hna), p, q, ns, _, rfl, R0.pot, by rw [hlz]; omega, by rw [hlz]; omega, fun r1 ms1 H1 r10 r1b P1 b1 => ?_⟩
  rw [hlz] at r1b
  obtain ⟨x, hx, hxa⟩ := pick_at (f := V.str) r10 r1b
  have R1 := R0.drawn P1 b1
  have t1 := R0.tups (But3.of2 b1)
  refine ⟨na, _, r1, _, rfl, rfl, SqT.of (t1 _ _ hna), hxa, ?_⟩
  have dp : (4 - ((n + 1 : Nat) : Int)) + 1 = 4 - (n : Int) := by omega
  refine gset (σ' := [some (.ref p), some (.ref t), some (.ref rm), some (.int (4 - ((n + 1 : Nat) : Int))), some (.int m), some (.ref na), some (.int (many : Int)), some (.str x), none, none, none]) rfl ?_
  refine ⟨_, rfl, _, rfl, _, rfl, _, rfl, _, _, rfl, rfl, p, q, t, rm, ms1, m, names, many, kr, 5, (by show [V.ref p, V.ref t, V.ref rm, V.int ((4 - ((n + 1 : Nat) : Int)) + 1), V.int 5] = _; rw [dp]), R1, hT.keep t1, by decide, by decide, fun fa fxs frows ms2 k2 H2 hfa hfxs hfok hfl R2 b2 => ?_⟩
  have t2 := t1.trans (R1.tups b2)
  refine gset (σ' := [some (.ref p), some (.ref t), some (.ref rm), some (.int (4 - ((n + 1 : Nat) : Int))), some (.int m), some (.ref na), some (.int (many : Int)), some (.str x), some (.ref fa), none, none]) rfl ?_
  refine ⟨_, rfl, p, q, ms2, 5, rfl, R2.pot, by decide, by decide, fun r3 ms3 H3 r30 r3b P3 b3 => ?_⟩
  have R3 := R2.drawn P3 b3
  have t23 := R2.tups (But3.of2 b3)
  have t3 := t2.trans t23
  have b03 : But3 p q rm H H3 := (But3.of2 b1).trans (b2.trans (But3.of2 b3))
  refine gset (σ' := [some (.ref p), some (.ref t), some (.ref rm), some (.int (4 - ((n + 1 : Nat) : Int))), some (.int m), some (.ref na), some (.int (many : Int)), some (.str x), some (.ref fa), some (.int r3), none]) rfl ?_
  refine ⟨_, rfl, _, _, rfl, rfl, _, rfl, ?_⟩
  by_cases h2 : r3 < 2
  · refine ifY h2 ⟨_, rfl, _, rfl, _, rfl, _, rfl, _, rfl, _, rfl, _, _, rfl, rfl, p, q, t, rm, ms3, m, names, many, k2, 5, (by show [V.ref p, V.ref t, V.ref rm, V.int ((4 - ((n + 1 : Nat) : Int)) + 1), V.int 5] = _; rw [dp]), R3, hT.keep t3, by decide, by decide, fun sa sxs srows ms4 k4 H4 hsa hsxs hsok hsl R4 b4 => ?_⟩
    refine ⟨(by show 4 ≤ sizeLine; decide), fun ta hta => ⟨(by show 1 ≤ sizeLine; decide), fun la hla => ?_⟩⟩
    have s5 := same_upd hta (.tup [.str "if", .str x, .ref fa, .ref sa])
    have s6 := same_upd hla (.lst [.ref ta])
    have s56 := s5.trans s6
    obtain ⟨z1, z2, z3⟩ := (R4.keep s5).new hla
    have t34 := R3.tups b4
    refine kk la [.ref ta] [.ifr x frows srows] ms4 k4 _ upd_same (.cons ⟨ta, fa, sa, fxs, sxs, rfl, s6 _ _ upd_same, s56 _ _ ((t23.trans t34) _ _ hfa), s56 _ _ hsa, Paired.mapP hfxs fun _ _ z => RowAt.mono ((t23.trans t34).trans (Tups.of s56)) z, Paired.mapP hsxs fun _ _ z => RowAt.mono (Tups.of s56) z⟩ .nil) (fun r hr => ?_) (by show 1 ≤ 3; decide) (R4.keep s56) (b03.trans (b4.trans (But3.of s56))) z1 z2 z3
    rw [List.mem_singleton.mp hr]
    exact ⟨hx, hfok, hsok⟩
  refine ifN h2 ⟨_, rfl, rfl, _, rfl, ?_⟩
  by_cases he : r3 = 2
  · subst he
    refine ifY rfl ⟨_, rfl, _, rfl, (by show 3 ≤ sizeLine; decide), fun ta hta => ⟨(by show 1 ≤ sizeLine; decide), fun la hla => ?_⟩⟩
    have s5 := same_upd hta (.tup [.str "again", .str x, .ref fa])
    have s6 := same_upd hla (.lst [.ref ta])
    have s56 := s5.trans s6
    obtain ⟨z1, z2, z3⟩ := (R3.keep s5).new hla
    refine kk la [.ref ta] [.again x frows] ms3 k2 _ upd_same (.cons ⟨ta, fa, fxs, rfl, s6 _ _ upd_same, s56 _ _ (t23 _ _ hfa), Paired.mapP hfxs fun _ _ z => RowAt.mono (t23.trans (Tups.of s56)) z⟩ .nil) (fun r hr => ?_) (by show 1 ≤ 3; decide) (R3.keep s56) (b03.trans (But3.of s56)) z1 z2 z3
    rw [List.mem_singleton.mp hr]
    exact ⟨hx, hfok⟩
  refine ifN (fun z => he (by injection z)) ?_
  have hna3 := t3 _ _ hna
  refine ⟨_, rfl, _, rfl, _, rfl, na, _, rfl, .inr (SqT.of hna3), p, q, ms3, _, rfl, R3.pot, by rw [hlz]; omega, by rw [hlz]; omega, fun r4 ms4 H4 r40 r4b P4 b4 => ?_⟩
  rw [hlz] at r4b
  obtain ⟨y, hy, hya⟩ := pick_at (f := V.str) r40 r4b
  have R4 := R3.drawn P4 b4
  have t34 := R3.tups (But3.of2 b4)
  refine ⟨na, _, r4, _, rfl, rfl, SqT.of (t34 _ _ hna3), hya, ?_⟩
  refine gset (σ' := [some (.ref p), some (.ref t), some (.ref rm), some (.int (4 - ((n + 1 : Nat) : Int))), some (.int m), some (.ref na), some (.int (many : Int)), some (.str x), some (.ref fa), some (.int r3), some (.str y)]) rfl ?_
  have hmin : 0 < (if (9 : Int) < m then (9 : Int) else m) ∧ (if (9 : Int) < m then (9 : Int) else m) ≤ 9 ∧ (if (9 : Int) < m then (9 : Int) else m) ≤ m := by split <;> omega
  refine ⟨_, rfl, _, rfl, _, rfl, _, _, rfl, p, q, ms4, _, rfl, R4.pot, hmin.1, by omega, fun r5 ms5 H5 r50 r5b P5 b5 => ?_⟩
  have R5 := R4.drawn P5 b5
  have t45 := R4.tups (But3.of2 b5)
  refine ⟨(by show 3 ≤ sizeLine; decide), fun a1 h1 => ⟨_, rfl, _, rfl, _, _, rfl, rfl, (by show 3 ≤ sizeLine; decide), fun a2 h2' => ?_⟩⟩
  have s1 := same_upd h1 (.tup [.str "put", .str x, .int r5])
  have s2 := same_upd h2' (.tup [.str "put", .str y, .int (m - 1)])
  refine ⟨_, rfl, _, rfl, _, rfl, _, rfl, _, rfl, (by show 4 ≤ sizeLine; decide), fun a3 h3 => ⟨(by show 1 ≤ sizeLine; decide), fun a4 h4 => ?_⟩⟩
  have s3 := same_upd h3 (.tup [.str "sum", .str x, .str x, .str y])
  have s4 := same_upd h4 (.tup [.ref a3])
  have s14 := s1.trans (s2.trans (s3.trans s4))
  have t25 := t23.trans (t34.trans t45)
  refine ⟨fa, a4, fxs, [.ref a3], rfl, rfl, s14 _ _ (t25 _ _ hfa), upd_same, (by have : sizeLine = 16777216 := rfl; simp only [List.length_singleton]; omega), fun a5 H6 h5 s5 => ⟨(by show 3 ≤ sizeLine; decide), fun a6 h6 => ⟨(by show 3 ≤ sizeLine; decide), fun la hla => ?_⟩⟩⟩
  have s6 := same_upd h6 (.tup [.str "again", .str x, .ref a5])
  have s7 := same_upd hla (.lst [.ref a1, .ref a2, .ref a6])
  have s67 := s6.trans s7
  have s17 := s14.trans (s5.trans s67)
  obtain ⟨z1, z2, z3⟩ := (R5.keep (s14.trans (s5.trans s6))).new hla
  refine kk la [.ref a1, .ref a2, .ref a6] [.put x r5, .put y (m - 1), .again x (frows ++ [.two "sum" x x y])] ms5 k2 _ upd_same (.cons ⟨a1, rfl, (s2.trans (s3.trans (s4.trans (s5.trans s67)))) _ _ upd_same⟩ (.cons ⟨a2, rfl, (s3.trans (s4.trans (s5.trans s67))) _ _ upd_same⟩ (.cons ⟨a6, a5, fxs ++ [.ref a3], rfl, s7 _ _ upd_same, s67 _ _ h5, ?_⟩ .nil))) (fun r hr => ?_) (by show 3 ≤ 3; decide) (R5.keep s17) (b03.trans ((But3.of2 b4).trans ((But3.of2 b5).trans (But3.of s17)))) z1 z2 z3
  · exact Paired.snoc' (Paired.mapP hfxs fun _ _ z => RowAt.mono (t25.trans (Tups.of s17)) z) ⟨.inl rfl, a3, rfl, (s4.trans (s5.trans s67)) _ _ upd_same⟩
  · rcases List.mem_cons.mp hr with rfl | hr
    · exact ⟨hx, r50, by omega⟩
    rcases List.mem_cons.mp hr with rfl | hr
    · exact ⟨hy, by omega, by omega⟩
    rw [List.mem_singleton.mp hr]
    refine ⟨hx, fun q hq => ?_⟩
    rcases List.mem_append.mp hq with z | z
    · exact hfok q z
    · rw [List.mem_singleton.mp z]
      exact rOk_base (r := .two "sum" x x y) ⟨.inl rfl, hx, hx, hy⟩
theorem all_gen {fD fB fL fR : Addr} {dD dB dL dR : FuncData} (B : Bt mg) (mn : mg "min" = none) (D : Dr P w K mg base fD dD) (FR : Fun K "_law_rows" "_law_rows" sLRows fR dR) (bR : Binds K dR ["pot", "told", "room", "deep", "most"] []) (mR : mg "_law_rows" = some (.ref fR))
    (FB : Fun K "_law_block" "_law_block" sBlock fB dB) (bB : Binds K dB ["pot", "told", "room", "deep"] []) (mB : mg "_law_block" = some (.ref fB)) (GL : FnOk P w K mg base CX0 3 fL dL ["pot", "told"] spLRow) (bL : Binds K dL ["pot", "told"] []) (kL : PySem.W.keepIn K (.ref fL) = true) (mL : mg "_law_row" = some (.ref fL)) :
    ∀ n : Nat, n ≤ 4 → FnOk P w K mg base CX0 (2 * n + 4) fR dR ["pot", "told", "room", "deep", "most"] (spGRows n) := by
  intro n
  induction n with
  | zero => intro _; exact ok_grows (k := 3) (by decide) FR B D block0 bB FB.kp mB GL bL kL mL
  | succ n ih =>
    intro hn
    have GB := ok_gblock (k := 2 * n + 4) (by omega) (by omega) FB B mn D (ih (by omega)) bR FR.kp mR
    exact ok_grows (k := 2 * n + 4 + 1) (by omega) FR B D GB bB FB.kp mB GL bL kL mL
end
end Tw

namespace Tw
open PySem L2
/-- a plan of any rows -/
structure PlanG (H : Hp) (a : Addr) (m : Int) (names : List Str) (many : Nat) (rows : List Row) : Prop where
  at_ : ∃ (na ra : Addr) (mk : Str) (xs : List V), H a = some (.tup [.int m, .ref na, .int (many : Int), .ref ra, .str mk]) ∧ H na = some (.tup (names.map V.str)) ∧ H ra = some (.tup xs) ∧ Paired (RowAt H 5) xs rows ∧ mk ∈ names ∧ xs.length ≤ 90
  rok : ∀ r ∈ rows, rOk m names many 5 r
  mm : 2 ≤ m ∧ m ≤ 997
  ln : 0 < names.length ∧ names.length ≤ 12
  mny : many ≤ 40
  nd : names.Nodup
theorem PlanG.keep {H H' : Hp} {t : Addr} {m : Int} {names : List Str} {many : Nat} {rows : List Row} (h : PlanG H t m names many rows) (s : Tups H H') : PlanG H' t m names many rows :=
  ⟨let ⟨na, ra, mv, xs, h1, h2, h3, h4, h5, h6⟩ := h.at_; ⟨na, ra, mv, xs, s _ _ h1, s _ _ h2, s _ _ h3, Paired.mapP h4 fun _ _ z => RowAt.mono s z, h5, h6⟩, h.rok, h.mm, h.ln, h.mny, h.nd⟩
theorem PlanG.planT {H : Hp} {t : Addr} {m : Int} {names : List Str} {many : Nat} {rows : List Row} (h : PlanG H t m names many rows) : PlanT H t m names many :=
  ⟨let ⟨na, ra, mv, xs, h1, h2, _⟩ := h.at_; ⟨na, ra, mv, h1, h2⟩, h.mm, h.ln, h.mny, h.nd⟩
section
variable {P : Program} {w : World} {K : PySem.W.Frag} {mg : Str → Option Value} {base : Heap}
def spPlanG : Sp := fun vs H Q _ => ∃ (p q : Addr) (ns : List Int) (kr : Int), vs = [.ref p, .int kr] ∧ PotAt H p q ns ∧ 0 ≤ kr ∧ kr ≤ 1000 ∧
  ∀ (a : Addr) (m : Int) (names : List Str) (many : Nat) (rows : List Row) (ms : List Int) (H' : Hp), PlanG H' a m names many rows → PotAt H' p q ms → But2 p q H H' → Q (.ref a) H'
theorem scPlanG : FnScope ["pot", "most", "m", "names", "many", "rows"] ["pot", "most"] (defScope sPlan) := ⟨rfl, rfl, rfl, by decide +kernel, rfl, by decide +kernel, by decide +kernel⟩
theorem ok_planG {f fD fN fR : Addr} {fd dD dN dR : FuncData} (F : Fun K "_law_plan" "_law_plan" sPlan f fd) (B : Bt mg) (D : Dr P w K mg base fD dD)
    (GN : FnOk P w K mg base CX0 3 fN dN ["pot", "many"] spNames) (bN : Binds K dN ["pot", "many"] []) (kN : PySem.W.keepIn K (.ref fN) = true) (mN : mg "_law_names" = some (.ref fN))
    (GR : FnOk P w K mg base CX0 12 fR dR ["pot", "told", "room", "deep", "most"] (spGRows 4)) (bR : Binds K dR ["pot", "told", "room", "deep", "most"] []) (kR : PySem.W.keepIn K (.ref fR) = true) (mR : mg "_law_rows" = some (.ref fR)) :
    FnOk P w K mg base CX0 13 f fd ["pot", "most"] spPlanG := by
  refine F.ok (k := 12) scPlanG (fun vs H Q E h => ?_) (fun cdv A outer s H vs Q E hr h => ?_)
  · obtain ⟨p, q, ns, kr, rfl, _⟩ := h; rfl
  obtain ⟨p, q, ns, kr, rfl, P0, kr0, kr1, kk⟩ := h
  have hr3 : Room 3 _ := hr.mono (by decide)
  have hr2 : Room 2 _ := hr.mono (by decide)
  refine ⟨_, pss_cons (ps_set (i := 2) scPlanG.nd rfl (Or.inl rfl) (pe_ix ix_list (pe_lst (pa_cons pe_int (pa_cons pe_int (pa_cons (pe_op op_add pe_int (pe_call D.g hr2 rfl D.m D.k D.b .nil pass0 (pa_cons (pv 0) (pa_cons pe_int pa_nil)))) (pa_cons (pe_op op_add pe_int (pe_call D.g hr2 rfl D.m D.k D.b .nil pass0 (pa_cons (pv 0) (pa_cons pe_int pa_nil)))) pa_nil)))))
        (pe_call D.g hr2 rfl D.m D.k D.b .nil pass0 (pa_cons (pv 0) (pa_cons pe_int pa_nil))) (fun _ _ => rfl)))
    (pss_cons (ps_set (i := 3) scPlanG.nd rfl (Or.inl rfl) (pe_call GN hr3 rfl mN kN bN .nil pass0 (pa_cons (pv 0) (pa_cons (pe_op op_add pe_int (pe_call D.g hr2 rfl D.m D.k D.b .nil pass0 (pa_cons (pv 0) (pa_cons (pe_ix ix_list (pe_lst (pa_cons pe_int (pa_cons pe_int (pa_cons pe_int pa_nil)))) (pe_call D.g hr2 rfl D.m D.k D.b .nil pass0 (pa_cons (pv 0) (pa_cons pe_int pa_nil))) (fun _ _ => rfl)) pa_nil)))) pa_nil))))
    (pss_cons (ps_set (i := 4) scPlanG.nd rfl (Or.inl rfl) (pe_ix ix_list (pe_lst (pa_cons pe_int (pa_cons (pe_op op_add pe_int (pe_call D.g hr2 rfl D.m D.k D.b .nil pass0 (pa_cons (pv 0) (pa_cons pe_int pa_nil)))) (pa_cons (pe_call D.g hr2 rfl D.m D.k D.b .nil pass0 (pa_cons (pv 0) (pa_cons pe_int pa_nil))) pa_nil))))
        (pe_call D.g hr2 rfl D.m D.k D.b .nil pass0 (pa_cons (pv 0) (pa_cons pe_int pa_nil))) (fun _ _ => rfl)))
    (pss_cons (ps_set (i := 5) scPlanG.nd rfl (Or.inl rfl) (pe_call GR hr rfl mR kR bR .nil pass0 (pa_cons (pv 0) (pa_cons (pe_tup (pa_cons (pv 2) (pa_cons (pv 3) (pa_cons (pv 4) pa_nil)))) (pa_cons (pe_lst (pa_cons (pv 1) pa_nil)) (pa_cons pe_int (pa_cons (pe_ix ix_list (pe_lst (pa_cons pe_int (pa_cons pe_int (pa_cons pe_int pa_nil)))) (pe_call D.g hr2 rfl D.m D.k D.b .nil pass0 (pa_cons (pv 0) (pa_cons pe_int pa_nil))) (fun _ _ => rfl)) pa_nil)))))))
    (pss_one (ps_ret (pe_tup (pa_cons (pv 2) (pa_cons (pv 3) (pa_cons (pv 4) (pa_cons (pv 5) (pa_cons (pe_ix ix_tup (pv 3) (pe_call D.g hr2 rfl D.m D.k D.b .nil pass0 (pa_cons (pv 0) (pa_cons (pe_callB call_len_seq rfl B.len PySem.boot_len (pa_cons (pv 3) pa_nil)) pa_nil))) (fun _ _ => rfl)) pa_nil))))))))))), ?_⟩
  -- the wheel
  refine ⟨_, rfl, p, q, ns, 9, rfl, P0, by decide, by decide, fun r1 ms1 H1 r10 r1b P1 b1 => ⟨_, _, rfl, rfl, _, rfl, p, q, ms1, 996, rfl, P1, by decide, by decide, fun r2 ms2 H2 r20 r2b P2 b2 => ⟨_, _, rfl, rfl, (by show 4 ≤ sizeLine; decide), fun l hl => ?_⟩⟩⟩
  obtain ⟨n1, n2⟩ := P2.new hl
  have s2 := same_upd hl (.lst [.int 2, .int 3, .int (2 + r1), .int (2 + r2)])
  refine ⟨_, rfl, p, q, ms2, 4, rfl, P2.keep s2, by decide, by decide, fun r3 ms3 H3 r30 r3b P3 b3 => ?_⟩
  obtain ⟨m, hm, hma⟩ := pick_at (f := V.int) (names := [2, 3, 2 + r1, 2 + r2]) r30 (by show r3 < ((4 : Nat) : Int); omega)
  have hm2 : 2 ≤ m ∧ m ≤ 997 := by
    simp only [List.mem_cons, List.not_mem_nil, or_false] at hm
    rcases hm with rfl | rfl | rfl | rfl <;> omega
  refine ⟨l, _, r3, _, rfl, rfl, SqL.of (b3 _ _ upd_same n1 n2), hma, ?_⟩
  have b03 : But2 p q H H3 := b1.trans (b2.trans ((But2.of s2).trans b3))
  refine gset (σ' := [some (.ref p), some (.int kr), some (.int m), none, none, none]) rfl ?_
  -- the names
  refine ⟨_, rfl, _, rfl, (by show 3 ≤ sizeLine; decide), fun l4 hl4 => ?_⟩
  obtain ⟨n41, n42⟩ := P3.new hl4
  have s3 := same_upd hl4 (.lst [.int 3, .int 5, .int 12])
  refine ⟨_, rfl, p, q, ms3, 3, rfl, P3.keep s3, by decide, by decide, fun r4 ms4 H4 r40 r4b P4 b4 => ?_⟩
  obtain ⟨u, hu, hua⟩ := pick_at (f := V.int) (names := [3, 5, 12]) r40 (by show r4 < ((3 : Nat) : Int); omega)
  have hu2 : 0 < u ∧ u ≤ 12 := by
    simp only [List.mem_cons, List.not_mem_nil, or_false] at hu
    rcases hu with rfl | rfl | rfl <;> omega
  refine ⟨l4, _, r4, _, rfl, rfl, SqL.of (b4 _ _ upd_same n41 n42), hua, p, q, ms4, u, rfl, P4, hu2.1, by omega, fun r5 ms5 H5 r50 r5b P5 b5 => ⟨_, _, rfl, rfl, ?_⟩⟩
  obtain ⟨r5n, rfl⟩ : ∃ n : Nat, r5 = n := ⟨r5.toNat, by omega⟩
  refine ⟨p, q, ms5, 1 + r5n, (by show [V.ref p, V.int (1 + (r5n : Int))] = [V.ref p, V.int ((1 + r5n : Nat) : Int)]; rw [show (1 + (r5n : Int)) = ((1 + r5n : Nat) : Int) by omega]), P5, by omega, fun na names ms6 H6 hlen hnd hna P6 b6 => ?_⟩
  have b06 : But2 p q H H6 := b03.trans ((But2.of s3).trans (b4.trans (b5.trans b6)))
  refine gset (σ' := [some (.ref p), some (.int kr), some (.int m), some (.ref na), none, none]) rfl ?_
  -- how many pieces
  refine ⟨_, rfl, p, q, ms6, 4, rfl, P6, by decide, by decide, fun r7 ms7 H7 r70 r7b P7 b7 => ⟨_, _, rfl, rfl, _, rfl, p, q, ms7, 41, rfl, P7, by decide, by decide, fun r8 ms8 H8 r80 r8b P8 b8 => ⟨(by show 3 ≤ sizeLine; decide), fun l8 hl8 => ?_⟩⟩⟩
  obtain ⟨n81, n82⟩ := P8.new hl8
  have s8 := same_upd hl8 (.lst [.int 0, .int (1 + r7), .int r8])
  refine ⟨_, rfl, p, q, ms8, 3, rfl, P8.keep s8, by decide, by decide, fun r9 ms9 H9 r90 r9b P9 b9 => ?_⟩
  obtain ⟨mv, hmv, hmva⟩ := pick_at (f := V.int) (names := [0, 1 + r7, r8]) r90 (by show r9 < ((3 : Nat) : Int); omega)
  obtain ⟨many, rfl, hmany⟩ : ∃ n : Nat, mv = n ∧ n ≤ 40 := by
    simp only [List.mem_cons, List.not_mem_nil, or_false] at hmv
    refine ⟨mv.toNat, ?_, ?_⟩ <;> rcases hmv with rfl | rfl | rfl <;> omega
  refine ⟨l8, _, r9, _, rfl, rfl, SqL.of (b9 _ _ upd_same n81 n82), hmva, ?_⟩
  have b69 : But2 p q H6 H9 := b7.trans (b8.trans ((But2.of s8).trans b9))
  have hna9 : H9 na = some (.tup (names.map V.str)) := P6.tups b69 _ _ hna
  refine gset (σ' := [some (.ref p), some (.int kr), some (.int m), some (.ref na), some (.int (many : Int)), none]) rfl ?_
  -- no rows
  refine ⟨_, rfl, _, rfl, _, rfl, _, rfl, (by show 3 ≤ sizeLine; decide), fun tt htt => ⟨_, rfl, (by show 1 ≤ sizeLine; decide), fun rm hrm => ⟨(by show 3 ≤ sizeLine; decide), fun l9 hl9 => ?_⟩⟩⟩
  have z1 := same_upd htt (.tup [.int m, .ref na, .int (many : Int)])
  have z2 := same_upd hrm (.lst [.int kr])
  have z3 := same_upd hl9 (.lst [.int 6, .int 12, .int 30])
  obtain ⟨n91, n92⟩ := (P9.keep (z1.trans z2)).new hl9
  obtain ⟨nr1, nr2⟩ := (P9.keep z1).new hrm
  refine ⟨_, rfl, p, q, ms9, 3, rfl, P9.keep (z1.trans (z2.trans z3)), by decide, by decide, fun r10 ms10 H10 r100 r10b P10 b10 => ?_⟩
  obtain ⟨mo, hmo, hmoa⟩ := pick_at (f := V.int) (names := [6, 12, 30]) r100 (by show r10 < ((3 : Nat) : Int); omega)
  have hmo2 : 0 < mo ∧ mo ≤ 30 := by
    simp only [List.mem_cons, List.not_mem_nil, or_false] at hmo
    rcases hmo with rfl | rfl | rfl <;> omega
  have hrm10 : H10 rm = some (.lst [.int kr]) := b10 _ _ (z3 _ _ upd_same) nr1 nr2
  have P9t := (P9.keep (z1.trans (z2.trans z3))).tups b10
  have z2t := Tups.of (z2.trans z3)
  refine ⟨l9, _, r10, _, rfl, rfl, SqL.of (b10 _ _ upd_same n91 n92), hmoa, p, q, tt, rm, ms10, m, names, many, kr, mo, rfl, ⟨P10, hrm10, kr0, kr1, nr1, nr2⟩, ⟨⟨na, P9t _ _ (z2t _ _ upd_same), P9t _ _ ((z1.trans (z2.trans z3)) _ _ hna9)⟩, hm2, by omega, hmany⟩, hmo2.1, by omega, fun ra rxs rows ms11 k11 H11 hra hrxs hrok hrl R11 b11 => ?_⟩
  have P11 := R11.pot
  have b911 : But2 p q H9 H11 := fun b o hb h1 h2 => by
    have hbr : b ≠ rm := ne_of_none (z1 _ _ hb) hrm
    exact b11 b o (b10 b o ((z1.trans (z2.trans z3)) b o hb) h1 h2) h1 h2 hbr
  have hna11 : H11 na = some (.tup (names.map V.str)) := P9.tups b911 _ _ hna9
  refine gset (σ' := [some (.ref p), some (.int kr), some (.int m), some (.ref na), some (.int (many : Int)), some (.ref ra)]) rfl ?_
  have hlz : ((names.map V.str).length : Int) = (names.length : Int) := by rw [List.length_map]
  refine ⟨_, rfl, _, rfl, _, rfl, _, rfl, _, rfl, _, rfl, _, rfl, na, _, rfl, .inr (SqT.of hna11), p, q, ms11, _, rfl, P11, by rw [hlz]; omega, by rw [hlz]; omega, fun r12 ms12 H12 r120 r12b P12 b12 => ?_⟩
  rw [hlz] at r12b
  obtain ⟨mk, hmkn, hmk⟩ := pick_at (f := V.str) r120 r12b
  have hna12 : H12 na = some (.tup (names.map V.str)) := P11.tups b12 _ _ hna11
  refine ⟨na, _, r12, _, rfl, rfl, SqT.of hna12, hmk, (by show 5 ≤ sizeLine; decide), fun a ha => ?_⟩
  have z4 := same_upd ha (.tup [.int m, .ref na, .int (many : Int), .ref ra, .str mk])
  have t1112 := P11.tups b12
  exact kk a m names many rows ms12 _ ⟨⟨na, ra, mk, rxs, upd_same, z4 _ _ hna12, z4 _ _ (t1112 _ _ hra), Paired.mapP hrxs fun _ _ z => RowAt.mono (t1112.trans (Tups.of z4)) z, hmkn, hrl⟩, hrok, hm2, by omega, hmany, hnd⟩ (P12.keep z4) (b06.trans (b69.trans (b911.trans (b12.trans (But2.of z4)))))
end
end Tw

namespace Tw
open PySem L2
theorem idx_pair {F : Str → Int → Prop} {x : Str} : ∀ {names : List Str} {es : List Int}, Paired F names es → x ∈ names → ∃ (j : Nat) (e : Int), names[j]? = some x ∧ (∀ m, m < j → names[m]? ≠ some x) ∧ es[j]? = some e ∧ F x e
  | _, _, .nil, h => by cases h
  | n :: ns, u :: us, .cons r t, h => by
    by_cases e : n = x
    · subst e
      exact ⟨0, u, rfl, fun m hm => absurd hm (Nat.not_lt_zero _), rfl, r⟩
    · have h' : x ∈ ns := by
        rcases List.mem_cons.mp h with z | z
        · exact absurd z.symm e
        · exact z
      obtain ⟨j, v, h1, h2, h3, h4⟩ := idx_pair t h'
      refine ⟨j + 1, v, by simpa using h1, fun m hm => ?_, by simpa using h3, h4⟩
      cases m with
      | zero => simpa using e
      | succ m => have := h2 m (by omega); simpa using this
theorem atI_at {α : Type} {f : α → V} {xs : List α} {j : Nat} {v : α} (h : xs[j]? = some v) : atI (xs.map f) (j : Int) = some (f v) := atI_nat (by rw [List.getElem?_map, h]; rfl)
section
variable {P : Program} {w : World} {K : PySem.W.Frag} {mg : Str → Option Value} {base : Heap}
def spMarkD (n : Nat) : Sp := fun vs H Q _ => ∃ (pl st : Addr) (m : Int) (names : List Str) (many : Int) (rw : Addr) (mk : Str) (nums : List Int) (pc : Addr) (pieces : List Int) (most : Nat) (xs : List V) (rs : List Row) (s' : St8) (es : List Int) (ok : Bool), vs = [.ref pl, .ref st, .int (most : Int)] ∧ PlanAt H pl st m names many rw (.str mk) nums pc pieces ∧ most ≤ 100000 ∧ mk ∈ names ∧
  H rw = some (.tup xs) ∧ Paired (RowAt H n) xs rs ∧ RRows (RRow ⟨m, pieces, most⟩ n) rs [] 0 ⟨names.zip nums, []⟩ ok s' ∧ (ok = true → Paired (fun nm e => getN s'.nums nm = some e) names es) ∧
  (ok = true → ∀ (e : Int) (H' : Hp), getN s'.nums mk = some e → Same H H' → Q (.int e) H') ∧ (ok = false → ∀ (H' : Hp), Same H H' → Q .non H')
theorem scMark : FnScope ["plan", "stand", "most", "end"] ["plan", "stand", "most"] (defScope sMark) := ⟨rfl, rfl, rfl, by decide +kernel, rfl, by decide +kernel, by decide +kernel⟩
theorem ok_mark {f fR : Addr} {fd dR : FuncData} {n k : Nat} (F : Fun K "mark" "mark" sMark f fd) (GR : FnOk P w K mg base CX0 k fR dR ["plan", "stand", "most"] (spRunD n)) (bR : Binds K dR ["plan", "stand", "most"] []) (kR : PySem.W.keepIn K (.ref fR) = true) (mR : mg "run" = some (.ref fR)) :
    FnOk P w K mg base CX0 (k + 1) f fd ["plan", "stand", "most"] (spMarkD n) := by
  refine F.ok scMark (fun vs H Q E h => ?_) (fun cdv A outer s0 H vs Q E hr h => ?_)
  · obtain ⟨pl, st, m, names, many, rw, mk, nums, pc, pieces, most, xs, rs, s', es, ok, rfl, _⟩ := h; rfl
  obtain ⟨pl, st, m, names, many, rw, mk, nums, pc, pieces, most, xs, rs, s', es, ok, rfl, hP, hmo, hmk, hrw, hrs, hD, hes, k1, k2⟩ := h
  refine ⟨_, pss_cons (ps_set (i := 3) scMark.nd rfl (Or.inl rfl) (pe_ix ix_tup (pe_call GR hr rfl mR kR bR .nil pass0 (pa_cons (pv 0) (pa_cons (pv 1) (pa_cons (pv 2) pa_nil)))) pe_int (fun _ _ => rfl)))
    (pss_cons (ps_if (pt_cmpR op_isN (pv 3) pe_non (nomark _)) (pss_one (ps_ret pe_non)) pss_nil)
    (pss_one (ps_ret (pe_ix ix_tup (pv 3) (pe_tm PySem.F.slot_tuple_index PySem.F.type_tuple_index mt_tindex (pe_ix ix_tup (pv 0) pe_int (fun _ _ => rfl)) (pa_cons (pe_ix ix_tup (pv 0) pe_int (fun _ _ => rfl)) pa_nil)) (fun _ _ => rfl))))), ?_⟩
  obtain ⟨nm, hpl, hnm⟩ := hP.plan
  refine ⟨_, rfl, _, rfl, _, rfl, pl, st, m, names, many, rw, .str mk, nums, pc, pieces, most, xs, rs, s', es, ok, rfl, hP, hmo, hrw, hrs, hD, hes, fun hok fr L e2 ys H1 hfr hL hys he2 s1 _ => ?_, fun hok fr L ys H1 hfr hL hys s1 _ => ?_⟩
  · obtain ⟨j, e, hj, hjn, hje, hge⟩ := idx_pair (hes hok) hmk
    refine ⟨fr, _, 1, _, rfl, rfl, SqT.of hfr, rfl, ?_⟩
    refine ⟨_, rfl, rfl, _, rfl, ifN (by intro z; cases z) ?_⟩
    refine ⟨_, rfl, _, rfl, pl, _, 1, _, rfl, rfl, SqT.of (s1 _ _ hpl), rfl, ⟨nm, _, rfl, s1 _ _ hnm⟩, _, rfl, pl, _, 4, _, rfl, rfl, SqT.of (s1 _ _ hpl), rfl, nm, names, mk, j, rfl, rfl, s1 _ _ hnm, (by have := hP.some_.2; omega), hj, hjn, e2, _, (j : Int), _, rfl, rfl, SqT.of he2, atI_at hje, ?_⟩
    exact k1 hok e H1 hge s1
  · refine ⟨fr, _, 1, _, rfl, rfl, SqT.of hfr, rfl, ?_⟩
    exact ⟨_, rfl, rfl, _, rfl, ifY rfl (k2 hok H1 s1)⟩
end
end Tw

namespace Tw
open PySem L2
theorem vals_zip : ∀ {names : List Str} {nums : List Int}, names.length = nums.length → vals (names.zip nums) = nums
  | [], [], _ => rfl
  | [], _ :: _, h => by simp at h
  | _ :: _, [], h => by simp at h
  | n :: ns, u :: us, h => by
    show u :: vals (ns.zip us) = _
    rw [vals_zip (by simpa using h)]
structure Fs (P : Program) (w : World) (K : PySem.W.Frag) (mg : Str → Option Value) (base : Heap) (x : Str) (ps : List Str) (k : Nat) (sp : Sp) (f : Addr) (fd : FuncData) : Prop where
  g : FnOk P w K mg base CX0 k f fd ps sp
  b : Binds K fd ps []
  k : PySem.W.keepIn K (.ref f) = true
  m : mg x = some (.ref f)
/-- what the law keeps of a run's end -/
def EndC (ok : Bool) (s' : St8) (ev : V) (H : Hp) : Prop := (ok = true ∧ ∃ e2, ev = .ref e2 ∧ H e2 = some (.tup ((vals s'.nums).map V.int))) ∨ (ok = false ∧ ev = .non)
theorem EndC.keep {ok : Bool} {s' : St8} {ev : V} {H H' : Hp} (h : EndC ok s' ev H) (s : Same H H') : EndC ok s' ev H' := by
  rcases h with ⟨h1, e2, h2, h3⟩ | h
  · exact .inl ⟨h1, e2, h2, s _ _ h3⟩
  · exact .inr h
section
variable {P : Program} {w : World} {K : PySem.W.Frag} {mg : Str → Option Value} {base : Heap}
def spLaw (K : PySem.W.Frag) : Sp := fun vs H Q _ => ∃ (a : Addr) (ns : List Int), vs = [.ref a] ∧ SqL K H a (ns.map V.int) ∧ ns.length ≤ 63 ∧ ∀ H', Q (.bl true) H'
theorem scLaw : FnScope ["script", "pot", "plan", "stand", "most", "end", "k", "name", "named"] ["script"] (defScope sLaw) := ⟨rfl, rfl, rfl, by decide +kernel, rfl, by decide +kernel, by decide +kernel⟩
theorem ok_law {f fP fD fPl fSt fM fA fR : Addr} {fd dP dD dPl dSt dM dA dR : FuncData} (F : Fun K "law" "law" sLaw f fd) (B : Bt mg) (me : mg "enumerate" = none)
    (GP : Fs P w K mg base "_law_pot" ["script"] 1 (spPot K) fP dP) (D : Dr P w K mg base fD dD) (GPl : Fs P w K mg base "_law_plan" ["pot", "most"] 13 spPlanG fPl dPl) (GSt : Fs P w K mg base "_law_stand" ["pot", "plan"] 3 spStand fSt dSt)
    (GM : Fs P w K mg base "mark" ["plan", "stand", "most"] 20 (spMarkD 5) fM dM) (GA : Fs P w K mg base "_law_alike" ["found", "due"] 5 (spAlike 4) fA dA) (GR : Fs P w K mg base "run" ["plan", "stand", "most"] 19 (spRunD 5) fR dR) : FnOk P w K mg base CX0 21 f fd ["script"] (spLaw K) := by
  refine F.ok (k := 20) scLaw (fun vs H Q E h => ?_) (fun cdv A outer s0 H vs Q E hr h => ?_)
  · obtain ⟨a, ns, rfl, _⟩ := h; rfl
  obtain ⟨a0, ns, rfl, hS, hlen, kk⟩ := h
  have hr1 : Room 1 _ := hr.mono (by decide)
  have hr2 : Room 2 _ := hr.mono (by decide)
  have hr3 : Room 3 _ := hr.mono (by decide)
  have hr5 : Room 5 _ := hr.mono (by decide)
  have hr13 : Room 13 _ := hr.mono (by decide)
  have hr19 : Room 19 _ := hr.mono (by decide)
  refine ⟨_, pss_cons (ps_set (i := 1) scLaw.nd rfl (Or.inl rfl) (pe_call GP.g hr1 rfl GP.m GP.k GP.b .nil pass0 (pa_cons (pv 0) pa_nil)))
    (pss_cons (ps_set (i := 2) scLaw.nd rfl (Or.inl rfl) (pe_call GPl.g hr13 rfl GPl.m GPl.k GPl.b .nil pass0 (pa_cons (pv 1) (pa_cons pe_int pa_nil))))
    (pss_cons (ps_set (i := 3) scLaw.nd rfl (Or.inl rfl) (pe_call GSt.g hr3 rfl GSt.m GSt.k GSt.b .nil pass0 (pa_cons (pv 1) (pa_cons (pv 2) pa_nil))))
    (pss_cons (ps_set (i := 4) scLaw.nd rfl (Or.inl rfl) (pe_call D.g hr2 rfl D.m D.k D.b .nil pass0 (pa_cons (pv 1) (pa_cons (pe_ix ix_list (pe_lst (pa_cons pe_int (pa_cons pe_int pa_nil))) (pe_call D.g hr2 rfl D.m D.k D.b .nil pass0 (pa_cons (pv 1) (pa_cons pe_int pa_nil))) (fun _ _ => rfl)) pa_nil))))
    (pss_cons (ps_set (i := 5) scLaw.nd rfl (Or.inl rfl) (pe_ix ix_tup (pe_call GR.g hr19 rfl GR.m GR.k GR.b .nil pass0 (pa_cons (pv 2) (pa_cons (pv 3) (pa_cons (pv 4) pa_nil)))) pe_int (fun _ _ => rfl)))
    (pss_cons (ps_for PassesOwn.never rfl (pi_enum false rfl me (pa_cons (pe_ix ix_tup (pv 2) pe_int (fun _ _ => rfl)) pa_nil)) (pg_tup (n := 2) rfl (pgs_cons (pg_name (i := 6) scLaw.nd rfl (Or.inl rfl)) (pgs_cons (pg_name (i := 7) scLaw.nd rfl (Or.inl rfl)) pgs_nil)))
      (pss_cons (ps_set (i := 8) scLaw.nd rfl (Or.inl rfl) (pe_op op_catA (pe_slice sl_tup (pv 2) po_none (po_some pe_int)) (pe_tup (pa_cons (pv 7) pa_nil))))
      (pss_cons (ps_if (pt_not (pt_val (pe_call GA.g hr5 rfl GA.m GA.k GA.b .nil pass0 (pa_cons (pe_call GM.g hr rfl GM.m GM.k GM.b .nil pass0 (pa_cons (pv 8) (pa_cons (pv 3) (pa_cons (pv 4) pa_nil)))) (pa_cons (pe_ifExp (pt_cmpR op_isN (pv 5) pe_non (nomark _)) pe_non (pe_ix ix_tup (pv 5) (pv 6) (fun _ _ => rfl))) pa_nil))))) pss_never pss_nil)
      (pss_one (ps_if (pt_not (pt_val (pe_call GA.g hr5 rfl GA.m GA.k GA.b .nil pass0 (pa_cons (pe_call GM.g hr rfl GM.m GM.k GM.b .nil pass0 (pa_cons (pe_op op_catA (pe_slice sl_tup (pv 2) po_none (po_some pe_int)) (pe_tup (pa_cons (pe_tup pa_nil) (pa_cons (pv 7) pa_nil)))) (pa_cons (pv 3) (pa_cons pe_int pa_nil)))) (pa_cons (pe_ix ix_tup (pe_ix ix_tup (pv 3) pe_int (fun _ _ => rfl)) (pv 6) (fun _ _ => rfl)) pa_nil))))) pss_never pss_nil)))))
    (pss_one (ps_ret pe_bl))))))), ?_⟩
  -- the plan, its stand, the most
  refine ⟨_, rfl, a0, ns, rfl, hS, hlen, fun p q ms0 H1 _ _ P1 _ => ?_⟩
  refine ⟨_, rfl, p, q, ms0, 60, rfl, P1, by decide, by decide, fun pl m names many rows ms1 H2 hG P2 _ => ?_⟩
  refine ⟨_, rfl, _, rfl, p, q, pl, ms1, m, names, many, rfl, P2, hG.planT, fun st nums pieces ms3 H3 hSt P3 b3 => ?_⟩
  have hG3 := hG.keep (P2.tups b3)
  refine gset (σ' := [some (.ref a0), some (.ref p), some (.ref pl), some (.ref st), none, none, none, none, none]) rfl ?_
  refine ⟨_, rfl, (by show 2 ≤ sizeLine; decide), fun l4 hl4 => ?_⟩
  have z4 := same_upd hl4 (.lst [.int 41, .int 301])
  obtain ⟨n41, n42⟩ := P3.new hl4
  refine ⟨_, rfl, p, q, ms3, 2, rfl, P3.keep z4, by decide, by decide, fun r4 ms4 H4 r40 r4b P4 b4 => ?_⟩
  obtain ⟨u, hu, hua⟩ := pick_at (f := V.int) (names := [41, 301]) r40 (by show r4 < ((2 : Nat) : Int); omega)
  have hu2 : 0 < u ∧ u ≤ 301 := by
    simp only [List.mem_cons, List.not_mem_nil, or_false] at hu
    rcases hu with rfl | rfl <;> omega
  refine ⟨l4, _, r4, _, rfl, rfl, SqL.of (b4 _ _ upd_same n41 n42), hua, p, q, ms4, u, rfl, P4, hu2.1, by omega, fun mo ms5 H5 mo0 mob P5 b5 => ?_⟩
  obtain ⟨most, rfl⟩ : ∃ n : Nat, mo = n := ⟨mo.toNat, by omega⟩
  have t35 : Tups H3 H5 := (Tups.of z4).trans (((P3.keep z4).tups b4).trans (P4.tups b5))
  have hG5 := hG3.keep t35
  have hSt5 := hSt.keep t35
  obtain ⟨na, ra, mk, xs, hpl, hna, hra, hxs, hmk, hxl⟩ := hG5.at_
  obtain ⟨nu, pc, hst, hnu, hpc⟩ := hSt5.at_
  obtain ⟨m0, m1⟩ := hG.mm
  obtain ⟨l0, l1⟩ := hG.ln
  have hlp := hSt.lp
  have hs := numsOk_zip (m := m) (names := names) hSt.ln.symm hSt.rn
  obtain ⟨ok, s', hRR, hOk', _⟩ := rows_tot (c := ⟨m, pieces, most⟩) (names := names) (F := RRow ⟨m, pieces, most⟩ 5) (rs := rows) (fun r hr => row_tot (c := ⟨m, pieces, most⟩) hSt.rp m0 (by show m ≤ 1000; omega) 5 (by rw [hlp]; exact hG.rok r hr)) [] 0 ⟨names.zip nums, []⟩ ⟨hs, Nat.zero_le _⟩
  have hvp := vals_pair hOk'.nums hG.nd
  have hPl : ∀ {H' : Hp} {ad rad : Addr} {mk : Str} {xs : List V}, Same H5 H' → H' ad = some (.tup [.int m, .ref na, .int (many : Int), .ref rad, .str mk]) → PlanAt H' ad st m names (many : Int) rad (.str mk) nums pc pieces := fun {H' ad rad mk xs} s had =>
    ⟨⟨na, had, s _ _ hna⟩, ⟨nu, s _ _ hst, s _ _ hnu⟩, s _ _ hpc, hSt.ln.symm, ⟨l0, by omega⟩, hG.nd, by rw [hlp], fun v hv => by have := hSt.rn v hv; omega, by omega⟩
  refine gset (σ' := [some (.ref a0), some (.ref p), some (.ref pl), some (.ref st), some (.int (most : Int)), none, none, none, none]) rfl ?_
  refine ⟨_, rfl, _, rfl, _, rfl, pl, st, m, names, (many : Int), ra, .str mk, nums, pc, pieces, most, xs, rows, s', vals s'.nums, ok, rfl, hPl (xs := xs) (Same.refl _) hpl, by omega, hra, hxs, hRR, fun _ => hvp, fun hok fr L e2 ys H6 hfr hL hys he2 s6 _ => ?_, fun hok fr L ys H6 hfr hL hys s6 _ => ?_⟩
  · refine ⟨fr, _, 1, _, rfl, rfl, SqT.of hfr, rfl, ?_⟩
    have hE : EndC ok s' (.ref e2) H6 := .inl ⟨hok, e2, rfl, he2⟩
    revert hE
    generalize V.ref e2 = ev
    intro hE
    clear he2 hys hL hfr
    refine gset (σ' := [some (.ref a0), some (.ref p), some (.ref pl), some (.ref st), some (.int (most : Int)), some ev, none, none, none]) rfl ?_
    have hpl6 := s6 _ _ hpl
    have hna6 := s6 _ _ hna
    refine ⟨_, rfl, pl, _, 1, _, rfl, rfl, SqT.of hpl6, rfl, na, names.map V.str, rfl, (show SqT K H6 na _ from SqT.of hna6), ?_⟩
    refine ⟨fun i mm σ H' => mm = names.length - i ∧ i ≤ names.length ∧ (∃ c6 c7 c8, σ = [some (.ref a0), some (.ref p), some (.ref pl), some (.ref st), some (.int (most : Int)), some ev, c6, c7, c8]) ∧ Same H6 H', ⟨names.length, by simp, Nat.zero_le _, ⟨none, none, none, rfl⟩, Same.refl _⟩, ?_⟩
    rintro i mm σ H7 ⟨rfl, hi, ⟨c6, c7, c8, rfl⟩, s7⟩
    by_cases hlt : i < names.length
    · have s57 := s6.trans s7
      refine .inr ⟨⟨names.map V.str, .str names[i], (show SqT K H7 na _ from SqT.of (s7 _ _ hna6)), by simp [hlt]⟩, fun σ2 H2 => (∃ c6 c7 c8, σ2 = [some (.ref a0), some (.ref p), some (.ref pl), some (.ref st), some (.int (most : Int)), some ev, c6, c7, c8]) ∧ Same H6 H2, fun σ2 H2 ⟨h1, h2⟩ => ⟨names.length - (i + 1), by omega, rfl, hlt, h1, h2⟩, ?_⟩
      rintro y H8 ⟨T, x1, hT, rfl, rfl, hx1⟩
      have ex : x1 = V.str names[i] := by
        have := hx1 (names.map V.str) (show SqT K H7 na _ from SqT.of (s7 _ _ hna6))
        rw [List.getElem?_map, List.getElem?_eq_getElem hlt] at this
        exact (Option.some.inj this).symm
      subst ex
      refine ⟨T, _, rfl, SqT.of upd_same, rfl, _, _, rfl, _, _, rfl, rfl, ?_⟩
      have sT := same_upd hT (.tup [V.int i, V.str names[i]])
      have w8 := s57.trans sT
      have hE8 := hE.keep (s7.trans sT)
      have s68 := s7.trans sT
      revert w8 hE8 s68
      generalize upd H7 T (.tup [V.int i, V.str names[i]]) = H8
      intro w8 hE8 s68
      have hnmem : names[i] ∈ names := List.getElem_mem hlt
      have hvl : (vals s'.nums).length = names.length := vals_len hOk'.nums
      have hgi : getN s'.nums names[i] = some ((vals s'.nums)[i]'(by omega)) := paired_get hvp i hlt (by omega)
      refine gset (σ' := [some (.ref a0), some (.ref p), some (.ref pl), some (.ref st), some (.int (most : Int)), some ev, some (.int (i : Int)), some (.str names[i]), c8]) rfl ?_
      -- named
      refine ⟨_, rfl, _, rfl, pl, _, rfl, SqT.of (w8 _ _ hpl), (by show ¬ (HT.sIx 5 0 none = 0 ∧ HT.sIx 5 5 (some 4) = 5); decide), fun a1 h1 => ?_⟩
      have v1 := same_upd h1 (.tup (cutV [.int m, .ref na, .int (many : Int), .ref ra, .str mk] none (some 4)))
      refine ⟨_, rfl, (by show 1 ≤ sizeLine; decide), fun a2 h2 => ?_⟩
      have v2 := same_upd h2 (.tup [.str names[i]])
      refine ⟨a1, a2, [.int m, .ref na, .int (many : Int), .ref ra], [.str names[i]], rfl, rfl, v2 _ _ upd_same, upd_same, (by show 5 ≤ sizeLine; decide), fun a3 H9 h3 v3 => ?_⟩
      have w9 := w8.trans (v1.trans (v2.trans v3))
      have hE9 := hE8.keep (v1.trans (v2.trans v3))
      have s69 := s68.trans (v1.trans (v2.trans v3))
      refine gset (σ' := [some (.ref a0), some (.ref p), some (.ref pl), some (.ref st), some (.int (most : Int)), some ev, some (.int (i : Int)), some (.str names[i]), some (.ref a3)]) rfl ?_
      try dsimp only
      refine rd_ifS (fun bb H' => bb = false ∧ Same H9 H') (fun σ' H' => σ' = [some (.ref a0), some (.ref p), some (.ref pl), some (.ref st), some (.int (most : Int)), some ev, some (.int (i : Int)), some (.str names[i]), some (.ref a3)] ∧ Same H9 H') ?_ (fun H' D' hb' => Bool.noConfusion hb'.1) (fun H' D' hb' k' => k' _ _ ⟨rfl, hb'.2⟩) ?_
      · intro Q2 qq
        refine ⟨_, rfl, _, rfl, _, rfl, a3, st, m, names, (many : Int), ra, names[i], nums, pc, pieces, most, xs, rows, s', vals s'.nums, ok, rfl, hPl (xs := xs) w9 h3, by omega, hnmem, w9 _ _ hra, Paired.mapP hxs fun _ _ z => RowAt.mono (Tups.of w9) z, hRR, fun _ => hvp, fun hok' e H10 he s10 => ?_, fun hok' H10 s10 => ?_⟩
        · have ee : e = (vals s'.nums)[i]'(by omega) := by rw [hgi] at he; exact (Option.some.inj he).symm
          rcases hE9.keep s10 with ⟨_, e2', rfl, he2'⟩ | ⟨hf, _⟩
          · refine ⟨_, rfl, rfl, _, rfl, ifN (by intro z; cases z) ⟨_, rfl, _, rfl, e2', _, (i : Int), _, rfl, rfl, SqT.of he2', atI_at (List.getElem?_eq_getElem (by omega)), ?_⟩⟩
            exact ⟨_, _, rfl, .inl ⟨by rw [ee], rfl⟩, fun H11 s11 => ⟨true, rfl, qq _ _ ⟨rfl, s10.trans s11⟩⟩⟩
          · rw [hok'] at hf; cases hf
        · rcases hE9.keep s10 with ⟨hf, _⟩ | ⟨_, rfl⟩
          · rw [hok'] at hf; cases hf
          · exact ⟨_, rfl, rfl, _, rfl, ifY rfl ⟨_, _, rfl, .inl ⟨rfl, rfl⟩, fun H11 s11 => ⟨true, rfl, qq _ _ ⟨rfl, s10.trans s11⟩⟩⟩⟩
      rintro σ3 H12 ⟨rfl, s12⟩
      have w12 := w9.trans s12
      try dsimp only
      refine rd_if2 (fun bb H' => bb = false ∧ Same H12 H') (fun σ' H' => (∃ c6 c7 c8, σ' = [some (.ref a0), some (.ref p), some (.ref pl), some (.ref st), some (.int (most : Int)), some ev, c6, c7, c8]) ∧ Same H6 H') ?_ (fun H' D' hb' => Bool.noConfusion hb'.1) (fun H' D' hb' k' => k' _ _ ⟨⟨_, _, _, rfl⟩, s69.trans (s12.trans hb'.2)⟩) (fun _ _ h => h)
      intro Q2 qq
      refine ⟨_, rfl, _, rfl, pl, _, rfl, SqT.of (w12 _ _ hpl), (by show ¬ (HT.sIx 5 0 none = 0 ∧ HT.sIx 5 5 (some 3) = 5); decide), fun b1 g1 => ?_⟩
      have u1 := same_upd g1 (.tup (cutV [.int m, .ref na, .int (many : Int), .ref ra, .str mk] none (some 3)))
      refine ⟨(by show 0 ≤ sizeLine; decide), fun b2 g2 => ⟨_, rfl, (by show 2 ≤ sizeLine; decide), fun b3 g3 => ?_⟩⟩
      have u2 := same_upd g2 (.tup [])
      have u3 := same_upd g3 (.tup [.ref b2, .str names[i]])
      refine ⟨b1, b3, [.int m, .ref na, .int (many : Int)], [.ref b2, .str names[i]], rfl, rfl, (u2.trans u3) _ _ upd_same, upd_same, (by show 5 ≤ sizeLine; decide), fun b4 H13 g4 u4 => ?_⟩
      have u14 := u1.trans (u2.trans (u3.trans u4))
      have w13 := w12.trans u14
      have hnp := vals_pair hs hG.nd
      have hgn : getN (names.zip nums) names[i] = some ((vals (names.zip nums))[i]'(by rw [vals_len hs]; exact hlt)) := paired_get hnp i hlt (by rw [vals_len hs]; exact hlt)
      refine ⟨_, rfl, b4, st, m, names, (many : Int), b2, names[i], nums, pc, pieces, 0, [], [], ⟨names.zip nums, []⟩, vals (names.zip nums), true, rfl, hPl (xs := xs) w13 g4, by decide, hnmem, (u3.trans u4) _ _ upd_same, .nil, .nil, fun _ => hnp, fun _ e H14 he s14 => ?_, fun z => Bool.noConfusion z⟩
      have hvz := vals_zip (names := names) (nums := nums) hSt.ln.symm
      have ee : e = nums[i]'(by rw [hSt.ln]; exact hlt) := by
        rw [hgn] at he
        have := (Option.some.inj he).symm
        rw [this]
        simp only [hvz]
      refine ⟨_, rfl, st, _, 0, _, rfl, rfl, SqT.of ((w13.trans s14) _ _ hst), rfl, _, rfl, nu, _, (i : Int), _, rfl, rfl, SqT.of ((w13.trans s14) _ _ hnu), atI_at (List.getElem?_eq_getElem (by rw [hSt.ln]; exact hlt)), ?_⟩
      exact ⟨_, _, rfl, .inl ⟨by rw [ee], rfl⟩, fun H15 s15 => ⟨true, rfl, qq _ _ ⟨rfl, u14.trans (s14.trans s15)⟩⟩⟩
    · have e : i = names.length := by omega
      subst e
      exact .inl ⟨⟨_, (show SqT K H7 na _ from SqT.of (s7 _ _ hna6)), by rw [List.length_map]; exact Nat.le_refl _⟩, kk H7⟩
  · refine ⟨fr, _, 1, _, rfl, rfl, SqT.of hfr, rfl, ?_⟩
    obtain ⟨ev, hev⟩ : ∃ ev : V, ev = V.non := ⟨_, rfl⟩
    have hE : EndC ok s' ev H6 := .inr ⟨hok, hev⟩
    clear hys hL hfr
    refine gset (σ' := [some (.ref a0), some (.ref p), some (.ref pl), some (.ref st), some (.int (most : Int)), some ev, none, none, none]) (by rw [hev]; rfl) ?_
    clear hev
    have hpl6 := s6 _ _ hpl
    have hna6 := s6 _ _ hna
    refine ⟨_, rfl, pl, _, 1, _, rfl, rfl, SqT.of hpl6, rfl, na, names.map V.str, rfl, (show SqT K H6 na _ from SqT.of hna6), ?_⟩
    refine ⟨fun i mm σ H' => mm = names.length - i ∧ i ≤ names.length ∧ (∃ c6 c7 c8, σ = [some (.ref a0), some (.ref p), some (.ref pl), some (.ref st), some (.int (most : Int)), some ev, c6, c7, c8]) ∧ Same H6 H', ⟨names.length, by simp, Nat.zero_le _, ⟨none, none, none, rfl⟩, Same.refl _⟩, ?_⟩
    rintro i mm σ H7 ⟨rfl, hi, ⟨c6, c7, c8, rfl⟩, s7⟩
    by_cases hlt : i < names.length
    · have s57 := s6.trans s7
      refine .inr ⟨⟨names.map V.str, .str names[i], (show SqT K H7 na _ from SqT.of (s7 _ _ hna6)), by simp [hlt]⟩, fun σ2 H2 => (∃ c6 c7 c8, σ2 = [some (.ref a0), some (.ref p), some (.ref pl), some (.ref st), some (.int (most : Int)), some ev, c6, c7, c8]) ∧ Same H6 H2, fun σ2 H2 ⟨h1, h2⟩ => ⟨names.length - (i + 1), by omega, rfl, hlt, h1, h2⟩, ?_⟩
      rintro y H8 ⟨T, x1, hT, rfl, rfl, hx1⟩
      have ex : x1 = V.str names[i] := by
        have := hx1 (names.map V.str) (show SqT K H7 na _ from SqT.of (s7 _ _ hna6))
        rw [List.getElem?_map, List.getElem?_eq_getElem hlt] at this
        exact (Option.some.inj this).symm
      subst ex
      refine ⟨T, _, rfl, SqT.of upd_same, rfl, _, _, rfl, _, _, rfl, rfl, ?_⟩
      have sT := same_upd hT (.tup [V.int i, V.str names[i]])
      have w8 := s57.trans sT
      have hE8 := hE.keep (s7.trans sT)
      have s68 := s7.trans sT
      revert w8 hE8 s68
      generalize upd H7 T (.tup [V.int i, V.str names[i]]) = H8
      intro w8 hE8 s68
      have hnmem : names[i] ∈ names := List.getElem_mem hlt
      have hvl : (vals s'.nums).length = names.length := vals_len hOk'.nums
      have hgi : getN s'.nums names[i] = some ((vals s'.nums)[i]'(by omega)) := paired_get hvp i hlt (by omega)
      refine gset (σ' := [some (.ref a0), some (.ref p), some (.ref pl), some (.ref st), some (.int (most : Int)), some ev, some (.int (i : Int)), some (.str names[i]), c8]) rfl ?_
      -- named
      refine ⟨_, rfl, _, rfl, pl, _, rfl, SqT.of (w8 _ _ hpl), (by show ¬ (HT.sIx 5 0 none = 0 ∧ HT.sIx 5 5 (some 4) = 5); decide), fun a1 h1 => ?_⟩
      have v1 := same_upd h1 (.tup (cutV [.int m, .ref na, .int (many : Int), .ref ra, .str mk] none (some 4)))
      refine ⟨_, rfl, (by show 1 ≤ sizeLine; decide), fun a2 h2 => ?_⟩
      have v2 := same_upd h2 (.tup [.str names[i]])
      refine ⟨a1, a2, [.int m, .ref na, .int (many : Int), .ref ra], [.str names[i]], rfl, rfl, v2 _ _ upd_same, upd_same, (by show 5 ≤ sizeLine; decide), fun a3 H9 h3 v3 => ?_⟩
      have w9 := w8.trans (v1.trans (v2.trans v3))
      have hE9 := hE8.keep (v1.trans (v2.trans v3))
      have s69 := s68.trans (v1.trans (v2.trans v3))
      refine gset (σ' := [some (.ref a0), some (.ref p), some (.ref pl), some (.ref st), some (.int (most : Int)), some ev, some (.int (i : Int)), some (.str names[i]), some (.ref a3)]) rfl ?_
      try dsimp only
      refine rd_ifS (fun bb H' => bb = false ∧ Same H9 H') (fun σ' H' => σ' = [some (.ref a0), some (.ref p), some (.ref pl), some (.ref st), some (.int (most : Int)), some ev, some (.int (i : Int)), some (.str names[i]), some (.ref a3)] ∧ Same H9 H') ?_ (fun H' D' hb' => Bool.noConfusion hb'.1) (fun H' D' hb' k' => k' _ _ ⟨rfl, hb'.2⟩) ?_
      · intro Q2 qq
        refine ⟨_, rfl, _, rfl, _, rfl, a3, st, m, names, (many : Int), ra, names[i], nums, pc, pieces, most, xs, rows, s', vals s'.nums, ok, rfl, hPl (xs := xs) w9 h3, by omega, hnmem, w9 _ _ hra, Paired.mapP hxs fun _ _ z => RowAt.mono (Tups.of w9) z, hRR, fun _ => hvp, fun hok' e H10 he s10 => ?_, fun hok' H10 s10 => ?_⟩
        · have ee : e = (vals s'.nums)[i]'(by omega) := by rw [hgi] at he; exact (Option.some.inj he).symm
          rcases hE9.keep s10 with ⟨_, e2', rfl, he2'⟩ | ⟨hf, _⟩
          · refine ⟨_, rfl, rfl, _, rfl, ifN (by intro z; cases z) ⟨_, rfl, _, rfl, e2', _, (i : Int), _, rfl, rfl, SqT.of he2', atI_at (List.getElem?_eq_getElem (by omega)), ?_⟩⟩
            exact ⟨_, _, rfl, .inl ⟨by rw [ee], rfl⟩, fun H11 s11 => ⟨true, rfl, qq _ _ ⟨rfl, s10.trans s11⟩⟩⟩
          · rw [hok'] at hf; cases hf
        · rcases hE9.keep s10 with ⟨hf, _⟩ | ⟨_, rfl⟩
          · rw [hok'] at hf; cases hf
          · exact ⟨_, rfl, rfl, _, rfl, ifY rfl ⟨_, _, rfl, .inl ⟨rfl, rfl⟩, fun H11 s11 => ⟨true, rfl, qq _ _ ⟨rfl, s10.trans s11⟩⟩⟩⟩
      rintro σ3 H12 ⟨rfl, s12⟩
      have w12 := w9.trans s12
      try dsimp only
      refine rd_if2 (fun bb H' => bb = false ∧ Same H12 H') (fun σ' H' => (∃ c6 c7 c8, σ' = [some (.ref a0), some (.ref p), some (.ref pl), some (.ref st), some (.int (most : Int)), some ev, c6, c7, c8]) ∧ Same H6 H') ?_ (fun H' D' hb' => Bool.noConfusion hb'.1) (fun H' D' hb' k' => k' _ _ ⟨⟨_, _, _, rfl⟩, s69.trans (s12.trans hb'.2)⟩) (fun _ _ h => h)
      intro Q2 qq
      refine ⟨_, rfl, _, rfl, pl, _, rfl, SqT.of (w12 _ _ hpl), (by show ¬ (HT.sIx 5 0 none = 0 ∧ HT.sIx 5 5 (some 3) = 5); decide), fun b1 g1 => ?_⟩
      have u1 := same_upd g1 (.tup (cutV [.int m, .ref na, .int (many : Int), .ref ra, .str mk] none (some 3)))
      refine ⟨(by show 0 ≤ sizeLine; decide), fun b2 g2 => ⟨_, rfl, (by show 2 ≤ sizeLine; decide), fun b3 g3 => ?_⟩⟩
      have u2 := same_upd g2 (.tup [])
      have u3 := same_upd g3 (.tup [.ref b2, .str names[i]])
      refine ⟨b1, b3, [.int m, .ref na, .int (many : Int)], [.ref b2, .str names[i]], rfl, rfl, (u2.trans u3) _ _ upd_same, upd_same, (by show 5 ≤ sizeLine; decide), fun b4 H13 g4 u4 => ?_⟩
      have u14 := u1.trans (u2.trans (u3.trans u4))
      have w13 := w12.trans u14
      have hnp := vals_pair hs hG.nd
      have hgn : getN (names.zip nums) names[i] = some ((vals (names.zip nums))[i]'(by rw [vals_len hs]; exact hlt)) := paired_get hnp i hlt (by rw [vals_len hs]; exact hlt)
      refine ⟨_, rfl, b4, st, m, names, (many : Int), b2, names[i], nums, pc, pieces, 0, [], [], ⟨names.zip nums, []⟩, vals (names.zip nums), true, rfl, hPl (xs := xs) w13 g4, by decide, hnmem, (u3.trans u4) _ _ upd_same, .nil, .nil, fun _ => hnp, fun _ e H14 he s14 => ?_, fun z => Bool.noConfusion z⟩
      have hvz := vals_zip (names := names) (nums := nums) hSt.ln.symm
      have ee : e = nums[i]'(by rw [hSt.ln]; exact hlt) := by
        rw [hgn] at he
        have := (Option.some.inj he).symm
        rw [this]
        simp only [hvz]
      refine ⟨_, rfl, st, _, 0, _, rfl, rfl, SqT.of ((w13.trans s14) _ _ hst), rfl, _, rfl, nu, _, (i : Int), _, rfl, rfl, SqT.of ((w13.trans s14) _ _ hnu), atI_at (List.getElem?_eq_getElem (by rw [hSt.ln]; exact hlt)), ?_⟩
      exact ⟨_, _, rfl, .inl ⟨by rw [ee], rfl⟩, fun H15 s15 => ⟨true, rfl, qq _ _ ⟨rfl, u14.trans (s14.trans s15)⟩⟩⟩
    · have e : i = names.length := by omega
      subst e
      exact .inl ⟨⟨_, (show SqT K H7 na _ from SqT.of (s7 _ _ hna6)), by rw [List.length_map]; exact Nat.le_refl _⟩, kk H7⟩
end
end Tw

namespace Tw
open PySem L2
theorem all_mk {l : PySem.W.OpenLaw} {w : World} {K : PySem.W.Frag} {h : Heap} {mg : Str → Option Value} {fa C CD f1 f2 f3 f4 f5 f6 f7 f8 f9 f10 f11 f12 f13 f14 f15 f16 f17 f18 f19 f20 f21 f22 f23 : Addr} (X : K.In h) (G : h.Ns mainGlobals mg) (hfa : mg "law" = some (.ref fa))
    {od1 an1 od2 an2 od3 an3 od4 an4 od5 an5 od6 an6 od7 an7 od8 an8 od9 an9 od10 an10 od11 an11 od12 an12 od13 an13 od14 an14 od15 an15 od16 an16 od17 an17 od18 an18 od19 an19 od20 an20 od21 an21 od22 an22 od23 an23 : Option Addr} {sl1 sl2 sl3 sl4 sl5 sl6 sl7 sl8 sl9 sl10 sl11 sl12 sl13 sl14 sl15 sl16 sl17 sl18 sl19 sl20 sl21 sl22 sl23 : Array (Option Value)} {oc1 kV1 dc1 pm1 cd1 ct1 oc2 kV2 dc2 pm2 cd2 ct2 oc3 kV3 dc3 pm3 cd3 ct3 oc4 kV4 dc4 pm4 cd4 ct4 oc5 kV5 dc5 pm5 cd5 ct5 oc6 kV6 dc6 pm6 cd6 ct6 oc7 kV7 dc7 pm7 cd7 ct7 oc8 kV8 dc8 pm8 cd8 ct8 oc9 kV9 dc9 pm9 cd9 ct9 oc10 kV10 dc10 pm10 cd10 ct10 oc11 kV11 dc11 pm11 cd11 ct11 oc12 kV12 dc12 pm12 cd12 ct12 oc13 kV13 dc13 pm13 cd13 ct13 oc14 kV14 dc14 pm14 cd14 ct14 oc15 kV15 dc15 pm15 cd15 ct15 oc16 kV16 dc16 pm16 cd16 ct16 oc17 kV17 dc17 pm17 cd17 ct17 oc18 kV18 dc18 pm18 cd18 ct18 oc19 kV19 dc19 pm19 cd19 ct19 oc20 kV20 dc20 pm20 cd20 ct20 oc21 kV21 dc21 pm21 cd21 ct21 oc22 kV22 dc22 pm22 cd22 ct22 oc23 kV23 dc23 pm23 cd23 ct23 : Value}
    (aC : PySem.W.nsIn K mainGlobals "Walk" = some (some (.ref C)))
    (a1 : PySem.W.findIn K (.ref C) "__init__" = some (some (.ref f1))) (i1 : PySem.W.isFn K (.ref f1) = true) (l1 : K.lookup f1 = some ⟨oc1, od1, .func (PySem.W.fnOf "__init__" "Walk.__init__" (defArgs sInit) (defBody sInit) (defScope sInit) .none kV1 dc1 pm1 an1 cd1 ct1), sl1⟩) (c1 : PySem.W.codeIn K cd1 "Walk.__init__" = true) (k1 : PySem.W.keepIn K (.ref f1) = true)
    (a2 : PySem.W.findIn K (.ref C) "note_step" = some (some (.ref f2))) (i2 : PySem.W.isFn K (.ref f2) = true) (l2 : K.lookup f2 = some ⟨oc2, od2, .func (PySem.W.fnOf "note_step" "Walk.note_step" (defArgs sNote) (defBody sNote) (defScope sNote) .none kV2 dc2 pm2 an2 cd2 ct2), sl2⟩) (c2 : PySem.W.codeIn K cd2 "Walk.note_step" = true) (k2 : PySem.W.keepIn K (.ref f2) = true)
    (a3 : PySem.W.findIn K (.ref C) "look" = some (some (.ref f3))) (i3 : PySem.W.isFn K (.ref f3) = true) (l3 : K.lookup f3 = some ⟨oc3, od3, .func (PySem.W.fnOf "look" "Walk.look" (defArgs sLook) (defBody sLook) (defScope sLook) .none kV3 dc3 pm3 an3 cd3 ct3), sl3⟩) (c3 : PySem.W.codeIn K cd3 "Walk.look" = true) (k3 : PySem.W.keepIn K (.ref f3) = true)
    (a4 : PySem.W.nsIn K mainGlobals "run" = some (some (.ref f4))) (l4 : K.lookup f4 = some ⟨oc4, od4, .func (PySem.W.fnOf "run" "run" (defArgs sRun) (defBody sRun) (defScope sRun) .none kV4 dc4 pm4 an4 cd4 ct4), sl4⟩) (c4 : PySem.W.codeIn K cd4 "run" = true) (k4 : PySem.W.keepIn K (.ref f4) = true)
    (a5 : PySem.W.nsIn K mainGlobals "mark" = some (some (.ref f5))) (l5 : K.lookup f5 = some ⟨oc5, od5, .func (PySem.W.fnOf "mark" "mark" (defArgs sMark) (defBody sMark) (defScope sMark) .none kV5 dc5 pm5 an5 cd5 ct5), sl5⟩) (c5 : PySem.W.codeIn K cd5 "mark" = true) (k5 : PySem.W.keepIn K (.ref f5) = true)
    (a6 : PySem.W.nsIn K mainGlobals "do_rows" = some (some (.ref f6))) (l6 : K.lookup f6 = some ⟨oc6, od6, .func (PySem.W.fnOf "do_rows" "do_rows" (defArgs sRows) (defBody sRows) (defScope sRows) .none kV6 dc6 pm6 an6 cd6 ct6), sl6⟩) (c6 : PySem.W.codeIn K cd6 "do_rows" = true) (k6 : PySem.W.keepIn K (.ref f6) = true)
    (a7 : PySem.W.nsIn K mainGlobals "do_row" = some (some (.ref f7))) (l7 : K.lookup f7 = some ⟨oc7, od7, .func (PySem.W.fnOf "do_row" "do_row" (defArgs sRow) (defBody sRow) (defScope sRow) .none kV7 dc7 pm7 an7 cd7 ct7), sl7⟩) (c7 : PySem.W.codeIn K cd7 "do_row" = true) (k7 : PySem.W.keepIn K (.ref f7) = true)
    (a8 : PySem.W.nsIn K mainGlobals "do_if" = some (some (.ref f8))) (l8 : K.lookup f8 = some ⟨oc8, od8, .func (PySem.W.fnOf "do_if" "do_if" (defArgs sIf) (defBody sIf) (defScope sIf) .none kV8 dc8 pm8 an8 cd8 ct8), sl8⟩) (c8 : PySem.W.codeIn K cd8 "do_if" = true) (k8 : PySem.W.keepIn K (.ref f8) = true)
    (a9 : PySem.W.nsIn K mainGlobals "do_again" = some (some (.ref f9))) (l9 : K.lookup f9 = some ⟨oc9, od9, .func (PySem.W.fnOf "do_again" "do_again" (defArgs sAgain) (defBody sAgain) (defScope sAgain) .none kV9 dc9 pm9 an9 cd9 ct9), sl9⟩) (c9 : PySem.W.codeIn K cd9 "do_again" = true) (k9 : PySem.W.keepIn K (.ref f9) = true)
    (a10 : PySem.W.nsIn K mainGlobals "number_of" = some (some (.ref f10))) (l10 : K.lookup f10 = some ⟨oc10, od10, .func (PySem.W.fnOf "number_of" "number_of" (defArgs sNum) (defBody sNum) (defScope sNum) .none kV10 dc10 pm10 an10 cd10 ct10), sl10⟩) (c10 : PySem.W.codeIn K cd10 "number_of" = true) (k10 : PySem.W.keepIn K (.ref f10) = true)
    (a11 : PySem.W.nsIn K mainGlobals "piece_read" = some (some (.ref f11))) (l11 : K.lookup f11 = some ⟨oc11, od11, .func (PySem.W.fnOf "piece_read" "piece_read" (defArgs sPiece) (defBody sPiece) (defScope sPiece) .none kV11 dc11 pm11 an11 cd11 ct11), sl11⟩) (c11 : PySem.W.codeIn K cd11 "piece_read" = true) (k11 : PySem.W.keepIn K (.ref f11) = true)
    (a12 : PySem.W.nsIn K mainGlobals "joined" = some (some (.ref f12))) (l12 : K.lookup f12 = some ⟨oc12, od12, .func (PySem.W.fnOf "joined" "joined" (defArgs sJoin) (defBody sJoin) (defScope sJoin) .none kV12 dc12 pm12 an12 cd12 ct12), sl12⟩) (c12 : PySem.W.codeIn K cd12 "joined" = true) (k12 : PySem.W.keepIn K (.ref f12) = true)
    (a13 : PySem.W.nsIn K mainGlobals "_law_stirred" = some (some (.ref f13))) (l13 : K.lookup f13 = some ⟨oc13, od13, .func (PySem.W.fnOf "_law_stirred" "_law_stirred" (defArgs sStir) (defBody sStir) (defScope sStir) .none kV13 dc13 pm13 an13 cd13 ct13), sl13⟩) (c13 : PySem.W.codeIn K cd13 "_law_stirred" = true) (k13 : PySem.W.keepIn K (.ref f13) = true)
    (a14 : PySem.W.nsIn K mainGlobals "_law_pot" = some (some (.ref f14))) (l14 : K.lookup f14 = some ⟨oc14, od14, .func (PySem.W.fnOf "_law_pot" "_law_pot" (defArgs sPot) (defBody sPot) (defScope sPot) .none kV14 dc14 pm14 an14 cd14 ct14), sl14⟩) (c14 : PySem.W.codeIn K cd14 "_law_pot" = true) (k14 : PySem.W.keepIn K (.ref f14) = true)
    (a15 : PySem.W.nsIn K mainGlobals "_law_draw" = some (some (.ref f15))) (l15 : K.lookup f15 = some ⟨oc15, od15, .func (PySem.W.fnOf "_law_draw" "_law_draw" (defArgs sDraw) (defBody sDraw) (defScope sDraw) .none kV15 dc15 pm15 an15 cd15 ct15), sl15⟩) (c15 : PySem.W.codeIn K cd15 "_law_draw" = true) (k15 : PySem.W.keepIn K (.ref f15) = true)
    (a16 : PySem.W.nsIn K mainGlobals "_law_names" = some (some (.ref f16))) (l16 : K.lookup f16 = some ⟨oc16, od16, .func (PySem.W.fnOf "_law_names" "_law_names" (defArgs sNames) (defBody sNames) (defScope sNames) .none kV16 dc16 pm16 an16 cd16 ct16), sl16⟩) (c16 : PySem.W.codeIn K cd16 "_law_names" = true) (k16 : PySem.W.keepIn K (.ref f16) = true)
    (a17 : PySem.W.nsIn K mainGlobals "_law_row" = some (some (.ref f17))) (l17 : K.lookup f17 = some ⟨oc17, od17, .func (PySem.W.fnOf "_law_row" "_law_row" (defArgs sLRow) (defBody sLRow) (defScope sLRow) .none kV17 dc17 pm17 an17 cd17 ct17), sl17⟩) (c17 : PySem.W.codeIn K cd17 "_law_row" = true) (k17 : PySem.W.keepIn K (.ref f17) = true)
    (a18 : PySem.W.nsIn K mainGlobals "_law_block" = some (some (.ref f18))) (l18 : K.lookup f18 = some ⟨oc18, od18, .func (PySem.W.fnOf "_law_block" "_law_block" (defArgs sBlock) (defBody sBlock) (defScope sBlock) .none kV18 dc18 pm18 an18 cd18 ct18), sl18⟩) (c18 : PySem.W.codeIn K cd18 "_law_block" = true) (k18 : PySem.W.keepIn K (.ref f18) = true)
    (a19 : PySem.W.nsIn K mainGlobals "_law_rows" = some (some (.ref f19))) (l19 : K.lookup f19 = some ⟨oc19, od19, .func (PySem.W.fnOf "_law_rows" "_law_rows" (defArgs sLRows) (defBody sLRows) (defScope sLRows) .none kV19 dc19 pm19 an19 cd19 ct19), sl19⟩) (c19 : PySem.W.codeIn K cd19 "_law_rows" = true) (k19 : PySem.W.keepIn K (.ref f19) = true)
    (a20 : PySem.W.nsIn K mainGlobals "_law_plan" = some (some (.ref f20))) (l20 : K.lookup f20 = some ⟨oc20, od20, .func (PySem.W.fnOf "_law_plan" "_law_plan" (defArgs sPlan) (defBody sPlan) (defScope sPlan) .none kV20 dc20 pm20 an20 cd20 ct20), sl20⟩) (c20 : PySem.W.codeIn K cd20 "_law_plan" = true) (k20 : PySem.W.keepIn K (.ref f20) = true)
    (a21 : PySem.W.nsIn K mainGlobals "_law_stand" = some (some (.ref f21))) (l21 : K.lookup f21 = some ⟨oc21, od21, .func (PySem.W.fnOf "_law_stand" "_law_stand" (defArgs sStand) (defBody sStand) (defScope sStand) .none kV21 dc21 pm21 an21 cd21 ct21), sl21⟩) (c21 : PySem.W.codeIn K cd21 "_law_stand" = true) (k21 : PySem.W.keepIn K (.ref f21) = true)
    (a22 : PySem.W.nsIn K mainGlobals "_law_alike" = some (some (.ref f22))) (l22 : K.lookup f22 = some ⟨oc22, od22, .func (PySem.W.fnOf "_law_alike" "_law_alike" (defArgs sAlike) (defBody sAlike) (defScope sAlike) .none kV22 dc22 pm22 an22 cd22 ct22), sl22⟩) (c22 : PySem.W.codeIn K cd22 "_law_alike" = true) (k22 : PySem.W.keepIn K (.ref f22) = true)
    (a23 : PySem.W.nsIn K mainGlobals "law" = some (some (.ref f23))) (l23 : K.lookup f23 = some ⟨oc23, od23, .func (PySem.W.fnOf "law" "law" (defArgs sLaw) (defBody sLaw) (defScope sLaw) .none kV23 dc23 pm23 an23 cd23 ct23), sl23⟩) (c23 : PySem.W.codeIn K cd23 "law" = true) (k23 : PySem.W.keepIn K (.ref f23) = true)
    (aD : PySem.W.nsIn K mainGlobals "Dry" = some (some (.ref CD))) (xD : PySem.W.excIn K CD [.type "ValueError", .type "Exception", .type "BaseException", .type "object"] "ValueError.__new__" = true)
    (pg : PySem.W.plainGet K C Str.empty = true) (hd : PySem.W.hasDictIn K C = true) (po : PySem.W.plainOver K C = true) (sa : PySem.W.findIn K (.ref C) "__setattr__" = some (some (.builtin "object.__setattr__"))) (mk : PySem.W.makesIn K C = true) (kc : PySem.W.keepIn K (.ref C) = true)
    (n_plan : PySem.W.findIn K (.ref C) "plan" = some none) (n_numbers : PySem.W.findIn K (.ref C) "numbers" = some none) (n_pieces : PySem.W.findIn K (.ref C) "pieces" = some none) (n_most : PySem.W.findIn K (.ref C) "most" = some none) (n_steps : PySem.W.findIn K (.ref C) "steps" = some none)
    (z_isinstance : PySem.W.nsIn K mainGlobals "isinstance" = some none) (z_bool : PySem.W.nsIn K mainGlobals "bool" = some none) (z_int : PySem.W.nsIn K mainGlobals "int" = some none) (z_str : PySem.W.nsIn K mainGlobals "str" = some none) (z_tuple : PySem.W.nsIn K mainGlobals "tuple" = some none) (z_list : PySem.W.nsIn K mainGlobals "list" = some none) (z_len : PySem.W.nsIn K mainGlobals "len" = some none) (z_all : PySem.W.nsIn K mainGlobals "all" = some none) (z_zip : PySem.W.nsIn K mainGlobals "zip" = some none) (z_range : PySem.W.nsIn K mainGlobals "range" = some none) (z_enumerate : PySem.W.nsIn K mainGlobals "enumerate" = some none) (z_dict : PySem.W.nsIn K mainGlobals "dict" = some none) (z_min : PySem.W.nsIn K mainGlobals "min" = some none) :
    ∃ fd : FuncData, (∀ (s : Shared) (v : Value), BindsTo s fd ⟨[v], []⟩ [("script", v)]) ∧ ∀ base : Heap, K.In base → base.Ns mainGlobals mg → FnOk l.prog w K mg base CX0 21 fa fd ["script"] (spLaw K) := by
  have e := hfa.symm.trans (PySem.W.mg_of X G a23)
  cases e
  have T : Txt K mg C := ⟨⟨pg, hd, po, sa⟩, n_plan, n_numbers, n_pieces, n_most, n_steps⟩
  have B : Bt mg := ⟨PySem.W.mg_none_of X G z_isinstance, PySem.W.mg_none_of X G z_bool, PySem.W.mg_none_of X G z_int, PySem.W.mg_none_of X G z_str, PySem.W.mg_none_of X G z_tuple, PySem.W.mg_none_of X G z_list, PySem.W.mg_none_of X G z_len, PySem.W.mg_none_of X G z_all, PySem.W.mg_none_of X G z_zip, PySem.W.mg_none_of X G z_range⟩
  have DX : Dx K mg CD := ⟨exc_of_in X xD, PySem.W.mg_of X G aD⟩
  have F1 := fun_mk (st := sInit) l1 c1 k1
  have b1 := F1.binds (ps := ["self", "plan", "stand", "most"]) fun _ _ _ _ _ _ us hl => match us, hl with | [_, _, _, _], _ => rfl
  have F2 := fun_mk (st := sNote) l2 c2 k2
  have b2 := F2.binds (ps := ["self", "place", "number"]) fun _ _ _ _ _ _ us hl => match us, hl with | [_, _, _], _ => rfl
  have F3 := fun_mk (st := sLook) l3 c3 k3
  have b3 := F3.binds (ps := ["self", "place", "name"]) fun _ _ _ _ _ _ us hl => match us, hl with | [_, _, _], _ => rfl
  have F4 := fun_mk (st := sRun) l4 c4 k4
  have b4 := F4.binds (ps := ["plan", "stand", "most"]) fun _ _ _ _ _ _ us hl => match us, hl with | [_, _, _], _ => rfl
  have m4 := PySem.W.mg_of X G a4
  have F5 := fun_mk (st := sMark) l5 c5 k5
  have b5 := F5.binds (ps := ["plan", "stand", "most"]) fun _ _ _ _ _ _ us hl => match us, hl with | [_, _, _], _ => rfl
  have m5 := PySem.W.mg_of X G a5
  have F6 := fun_mk (st := sRows) l6 c6 k6
  have b6 := F6.binds (ps := ["walk", "rows", "place"]) fun _ _ _ _ _ _ us hl => match us, hl with | [_, _, _], _ => rfl
  have m6 := PySem.W.mg_of X G a6
  have F7 := fun_mk (st := sRow) l7 c7 k7
  have b7 := F7.binds (ps := ["walk", "row", "place"]) fun _ _ _ _ _ _ us hl => match us, hl with | [_, _, _], _ => rfl
  have m7 := PySem.W.mg_of X G a7
  have F8 := fun_mk (st := sIf) l8 c8 k8
  have b8 := F8.binds (ps := ["walk", "row", "place"]) fun _ _ _ _ _ _ us hl => match us, hl with | [_, _, _], _ => rfl
  have m8 := PySem.W.mg_of X G a8
  have F9 := fun_mk (st := sAgain) l9 c9 k9
  have b9 := F9.binds (ps := ["walk", "row", "place"]) fun _ _ _ _ _ _ us hl => match us, hl with | [_, _, _], _ => rfl
  have m9 := PySem.W.mg_of X G a9
  have F10 := fun_mk (st := sNum) l10 c10 k10
  have b10 := F10.binds (ps := ["plan", "numbers", "pieces", "row"]) fun _ _ _ _ _ _ us hl => match us, hl with | [_, _, _, _], _ => rfl
  have m10 := PySem.W.mg_of X G a10
  have F11 := fun_mk (st := sPiece) l11 c11 k11
  have b11 := F11.binds (ps := ["plan", "numbers", "row"]) fun _ _ _ _ _ _ us hl => match us, hl with | [_, _, _], _ => rfl
  have m11 := PySem.W.mg_of X G a11
  have F12 := fun_mk (st := sJoin) l12 c12 k12
  have b12 := F12.binds (ps := ["word", "y", "z", "wheel"]) fun _ _ _ _ _ _ us hl => match us, hl with | [_, _, _, _], _ => rfl
  have m12 := PySem.W.mg_of X G a12
  have F13 := fun_mk (st := sStir) l13 c13 k13
  have b13 := F13.binds (ps := ["cell", "turn"]) fun _ _ _ _ _ _ us hl => match us, hl with | [_, _], _ => rfl
  have m13 := PySem.W.mg_of X G a13
  have F14 := fun_mk (st := sPot) l14 c14 k14
  have b14 := F14.binds (ps := ["script"]) fun _ _ _ _ _ _ us hl => match us, hl with | [_], _ => rfl
  have m14 := PySem.W.mg_of X G a14
  have F15 := fun_mk (st := sDraw) l15 c15 k15
  have b15 := F15.binds (ps := ["pot", "many"]) fun _ _ _ _ _ _ us hl => match us, hl with | [_, _], _ => rfl
  have m15 := PySem.W.mg_of X G a15
  have F16 := fun_mk (st := sNames) l16 c16 k16
  have b16 := F16.binds (ps := ["pot", "many"]) fun _ _ _ _ _ _ us hl => match us, hl with | [_, _], _ => rfl
  have m16 := PySem.W.mg_of X G a16
  have F17 := fun_mk (st := sLRow) l17 c17 k17
  have b17 := F17.binds (ps := ["pot", "told"]) fun _ _ _ _ _ _ us hl => match us, hl with | [_, _], _ => rfl
  have m17 := PySem.W.mg_of X G a17
  have F18 := fun_mk (st := sBlock) l18 c18 k18
  have b18 := F18.binds (ps := ["pot", "told", "room", "deep"]) fun _ _ _ _ _ _ us hl => match us, hl with | [_, _, _, _], _ => rfl
  have m18 := PySem.W.mg_of X G a18
  have F19 := fun_mk (st := sLRows) l19 c19 k19
  have b19 := F19.binds (ps := ["pot", "told", "room", "deep", "most"]) fun _ _ _ _ _ _ us hl => match us, hl with | [_, _, _, _, _], _ => rfl
  have m19 := PySem.W.mg_of X G a19
  have F20 := fun_mk (st := sPlan) l20 c20 k20
  have b20 := F20.binds (ps := ["pot", "most"]) fun _ _ _ _ _ _ us hl => match us, hl with | [_, _], _ => rfl
  have m20 := PySem.W.mg_of X G a20
  have F21 := fun_mk (st := sStand) l21 c21 k21
  have b21 := F21.binds (ps := ["pot", "plan"]) fun _ _ _ _ _ _ us hl => match us, hl with | [_, _], _ => rfl
  have m21 := PySem.W.mg_of X G a21
  have F22 := fun_mk (st := sAlike) l22 c22 k22
  have b22 := F22.binds (ps := ["found", "due"]) fun _ _ _ _ _ _ us hl => match us, hl with | [_, _], _ => rfl
  have m22 := PySem.W.mg_of X G a22
  have F23 := fun_mk (st := sLaw) l23 c23 k23
  have b23 := F23.binds (ps := ["script"]) fun _ _ _ _ _ _ us hl => match us, hl with | [_], _ => rfl
  have m23 := PySem.W.mg_of X G a23
  refine ⟨PySem.W.fnOf "law" "law" (defArgs sLaw) (defBody sLaw) (defScope sLaw) .none kV23 dc23 pm23 an23 cd23 ct23, fun s v => .of_eq rfl, fun base _ _ => ?_⟩
  have GN := ok_noteD (P := l.prog) (w := w) (base := base) F2 T B DX
  have GL := ok_lookD (P := l.prog) (w := w) (base := base) F3 T GN b2 ⟨a2, i2, k2⟩
  have GJ := ok_join (P := l.prog) (w := w) (mg := mg) (base := base) F12
  have GQ := ok_piece (P := l.prog) (w := w) (mg := mg) (base := base) F11
  have GM := ok_num (P := l.prog) (w := w) (base := base) F10 GJ b12 k12 m12 GQ b11 k11 m11
  have EF : FnsD l.prog w K mg base C CD f8 f9 f10 f2 _ _ _ _ := ⟨b8, k8, m8, b9, k9, m9, GM, b10, k10, m10, GN, b2, ⟨a2, i2, k2⟩⟩
  have GRs := all_rowsD T (PySem.W.mg_none_of X G z_enumerate) EF F6 b6 m6 F7 b7 m7 F8 F9 GL b3 ⟨a3, i3, k3⟩ 5
  have GI := ok_init (P := l.prog) (w := w) (base := base) F1 T B (PySem.W.mg_none_of X G z_dict)
  have GR := ok_runD (n := 5) (by decide) F4 T B (PySem.W.mg_of X G aC) ⟨mk, a1, i1, kc⟩ GI b1 DX GRs b6 k6 m6
  have GMk := ok_mark F5 GR b4 k4 m4
  have GSt := ok_stir (P := l.prog) (w := w) (mg := mg) (base := base) F13
  have GP := ok_pot (P := l.prog) (w := w) (base := base) F14 B.list
  have GD := ok_draw (P := l.prog) (w := w) (base := base) F15 GSt b13 k13 m13
  have GA := ok_alike (P := l.prog) (w := w) (base := base) B F22 b22 m22 4
  have DD : Dr l.prog w K mg base f15 _ := ⟨GD, b15, k15, m15⟩
  have GNa := ok_names F16 B DD
  have GLR := ok_lrow F17 B DD
  have GGr := all_gen B (PySem.W.mg_none_of X G z_min) DD F19 b19 m19 F18 b18 m18 GLR b17 k17 m17 4 (Nat.le_refl _)
  have GPl := ok_planG F20 B DD GNa b16 k16 m16 GGr b19 k19 m19
  have GSd := ok_stand F21 B DD
  exact ok_law F23 B (PySem.W.mg_none_of X G z_enumerate) ⟨GP, b14, k14, m14⟩ DD ⟨GPl, b20, k20, m20⟩ ⟨GSd, b21, k21, m21⟩ ⟨GMk, b5, k5, m5⟩ ⟨GA, b22, k22, m22⟩ ⟨GR, b4, k4, m4⟩
theorem walk {l : PySem.W.OpenLaw} {q : Program} {loose : List Str} {XP : (Str → Option Value) → Heap → Prop} {YP : World → Heap → Prop} {d : DefRec} {K : Params → PySem.W.Frag} (hn : l.most = some 63) (hdf : d.params.defaults = [])
    (hY : ∀ (w : World) (h : Heap), YP w h → (K w.params).In h)
    (F : ∀ (w : World) (mg : Str → Option Value) (fa : Addr) (h : Heap), (K w.params).In h → h.Ns mainGlobals mg → mg d.name = some (.ref fa) →
      ∃ fd : FuncData, (∀ (s : Shared) (u : Value), BindsTo s fd ⟨[u], []⟩ [("script", u)]) ∧ ∀ base : Heap, (K w.params).In base → base.Ns mainGlobals mg → FnOk l.prog w (K w.params) mg base CX0 21 fa fd ["script"] (spLaw (K w.params))) :
    PySem.W.WalkO q loose XP YP l.row.toRowW d [] (fun f vs => PySem.call f vs) :=
  L2.walk_of (n := 63) (k := 21) (x := "script") (CX := fun _ => CX0) (sp := fun w => spLaw (K w.params)) hn (by decide) hdf ⟨rfl, by decide, by decide⟩ hY F (fun _ _ a ns hl _ hS => ⟨a, ns, rfl, hS, hl, fun _ => rfl⟩) fun _ _ _ _ _ z => z
end Tw

open PySem PySem.W PyProof.Rows
set_option maxRecDepth 100000 in
set_option maxHeartbeats 0 in
theorem PySem.Challenge.cw_twinstride_k11_marks_holds : PySem.Challenge.rw_twinstride_k11_marks.Holds := by
  w_on; o_law; k_head; (case hw => w_witness2)
  k_fill
  refine Tw.walk (l := PySem.Challenge.rw_twinstride_k11_marks) rfl rfl (fun w h Y => PySem.W.kIn_of Y) ?F
  case F =>
    intro w mg fa h KX G hmg
    refine' Tw.all_mk KX G hmg ?aC ?a1 ?i1 ?l1 ?c1 ?k1 ?a2 ?i2 ?l2 ?c2 ?k2 ?a3 ?i3 ?l3 ?c3 ?k3 ?a4 ?l4 ?c4 ?k4 ?a5 ?l5 ?c5 ?k5 ?a6 ?l6 ?c6 ?k6 ?a7 ?l7 ?c7 ?k7 ?a8 ?l8 ?c8 ?k8 ?a9 ?l9 ?c9 ?k9 ?a10 ?l10 ?c10 ?k10 ?a11 ?l11 ?c11 ?k11 ?a12 ?l12 ?c12 ?k12 ?a13 ?l13 ?c13 ?k13 ?a14 ?l14 ?c14 ?k14 ?a15 ?l15 ?c15 ?k15 ?a16 ?l16 ?c16 ?k16 ?a17 ?l17 ?c17 ?k17 ?a18 ?l18 ?c18 ?k18 ?a19 ?l19 ?c19 ?k19 ?a20 ?l20 ?c20 ?k20 ?a21 ?l21 ?c21 ?k21 ?a22 ?l22 ?c22 ?k22 ?a23 ?l23 ?c23 ?k23 ?aD ?xD ?pg ?hd ?po ?sa ?mk ?kc ?n_plan ?n_numbers ?n_pieces ?n_most ?n_steps ?z_isinstance ?z_bool ?z_int ?z_str ?z_tuple ?z_list ?z_len ?z_all ?z_zip ?z_range ?z_enumerate ?z_dict ?z_min
    (case aC => k_is)
    (case a1 => k_is)
    (case i1 => k_is)
    (case l1 => k_is)
    (case c1 => k_is)
    (case k1 => k_is)
    (case a2 => k_is)
    (case i2 => k_is)
    (case l2 => k_is)
    (case c2 => k_is)
    (case k2 => k_is)
    (case a3 => k_is)
    (case i3 => k_is)
    (case l3 => k_is)
    (case c3 => k_is)
    (case k3 => k_is)
    (case a4 => k_is)
    (case l4 => k_is)
    (case c4 => k_is)
    (case k4 => k_is)
    (case a5 => k_is)
    (case l5 => k_is)
    (case c5 => k_is)
    (case k5 => k_is)
    (case a6 => k_is)
    (case l6 => k_is)
    (case c6 => k_is)
    (case k6 => k_is)
    (case a7 => k_is)
    (case l7 => k_is)
    (case c7 => k_is)
    (case k7 => k_is)
    (case a8 => k_is)
    (case l8 => k_is)
    (case c8 => k_is)
    (case k8 => k_is)
    (case a9 => k_is)
    (case l9 => k_is)
    (case c9 => k_is)
    (case k9 => k_is)
    (case a10 => k_is)
    (case l10 => k_is)
    (case c10 => k_is)
    (case k10 => k_is)
    (case a11 => k_is)
    (case l11 => k_is)
    (case c11 => k_is)
    (case k11 => k_is)
    (case a12 => k_is)
    (case l12 => k_is)
    (case c12 => k_is)
    (case k12 => k_is)
    (case a13 => k_is)
    (case l13 => k_is)
    (case c13 => k_is)
    (case k13 => k_is)
    (case a14 => k_is)
    (case l14 => k_is)
    (case c14 => k_is)
    (case k14 => k_is)
    (case a15 => k_is)
    (case l15 => k_is)
    (case c15 => k_is)
    (case k15 => k_is)
    (case a16 => k_is)
    (case l16 => k_is)
    (case c16 => k_is)
    (case k16 => k_is)
    (case a17 => k_is)
    (case l17 => k_is)
    (case c17 => k_is)
    (case k17 => k_is)
    (case a18 => k_is)
    (case l18 => k_is)
    (case c18 => k_is)
    (case k18 => k_is)
    (case a19 => k_is)
    (case l19 => k_is)
    (case c19 => k_is)
    (case k19 => k_is)
    (case a20 => k_is)
    (case l20 => k_is)
    (case c20 => k_is)
    (case k20 => k_is)
    (case a21 => k_is)
    (case l21 => k_is)
    (case c21 => k_is)
    (case k21 => k_is)
    (case a22 => k_is)
    (case l22 => k_is)
    (case c22 => k_is)
    (case k22 => k_is)
    (case a23 => k_is)
    (case l23 => k_is)
    (case c23 => k_is)
    (case k23 => k_is)
    (case aD => k_is)
    (case xD => k_exc)
    (case pg => k_is)
    (case hd => k_is)
    (case po => k_is)
    (case sa => k_is)
    (case mk => k_is)
    (case kc => k_is)
    (case n_plan => k_is)
    (case n_numbers => k_is)
    (case n_pieces => k_is)
    (case n_most => k_is)
    (case n_steps => k_is)
    (case z_isinstance => k_is)
    (case z_bool => k_is)
    (case z_int => k_is)
    (case z_str => k_is)
    (case z_tuple => k_is)
    (case z_list => k_is)
    (case z_len => k_is)
    (case z_all => k_is)
    (case z_zip => k_is)
    (case z_range => k_is)
    (case z_enumerate => k_is)
    (case z_dict => k_is)
    (case z_min => k_is)
