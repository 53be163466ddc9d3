/- Tables of locks: the plain data, and rows of records in memory. -/
import Derived.WalkKit
import Derived.Deep.MidRow
import Derived.Deep.Upon
import Derived.Lib.EndianMore
import Derived.Lib.SliceRun
import Derived.Laws.IdiomCopy
namespace Lk
open Go

/-- A lock that is held, or waited for. -/
structure C where
  tx : Int
  key : Int
  wr : Bool
  deriving DecidableEq, Inhabited

def cl (c : C) : List Value := [.int .i64 c.tx, .int .i64 c.key, .bool c.wr]
abbrev clV (c : C) : Value := .agg #[.int .i64 c.tx, .int .i64 c.key, .bool c.wr]
/-- A grant, or a pair of those who wait: two numbers. -/
structure G where
  a : Int
  b : Int
  deriving DecidableEq, Inhabited
def gl (g : G) : List Value := [.int .i64 g.a, .int .i64 g.b]
def il (x : Int) : List Value := [.int .i64 x]
theorem cl_len (c : C) : (cl c).length = 3 := rfl
theorem gl_len (c : G) : (gl c).length = 2 := rfl
theorem il_len (c : Int) : (il c).length = 1 := rfl

section
variable {α : Type}

/-- The cells of a list of records. -/
def fl (enc : α → List Value) (xs : List α) : List Value := xs.flatMap enc
theorem fl_nil (enc : α → List Value) : fl enc [] = [] := rfl
theorem fl_append (enc : α → List Value) (xs ys : List α) : fl enc (xs ++ ys) = fl enc xs ++ fl enc ys := by simp [fl]
theorem fl_one (enc : α → List Value) (x : α) : fl enc [x] = enc x := by simp [fl]
theorem fl_length {enc : α → List Value} {k : Nat} (hk : ∀ x, (enc x).length = k) : ∀ xs : List α, (fl enc xs).length = xs.length * k
  | [] => by simp [fl]
  | x :: r => by
    have := fl_length hk r
    show (enc x ++ fl enc r).length = _
    rw [List.length_append, hk, this, List.length_cons, Nat.succ_mul]; omega
theorem fl_at {enc : α → List Value} {k : Nat} (hk : ∀ x, (enc x).length = k) : ∀ (xs : List α) (i : Nat) (h : i < xs.length) (r : Nat), r < k → (fl enc xs)[i * k + r]? = (enc xs[i])[r]?
  | x :: l, 0, _, r, hr => by
    show (enc x ++ fl enc l)[0 * k + r]? = _
    rw [Nat.zero_mul, Nat.zero_add, List.getElem?_append_left (by rw [hk]; exact hr)]; rfl
  | x :: l, i + 1, h, r, hr => by
    show (enc x ++ fl enc l)[(i + 1) * k + r]? = _
    rw [List.getElem?_append_right (by rw [hk, Nat.succ_mul]; omega), hk, show (i + 1) * k + r - k = i * k + r by rw [Nat.succ_mul]; omega]
    exact fl_at hk l i (by simpa using h) r hr
theorem fl_ones {enc : α → List Value} (h1 : ∀ x, ∀ v ∈ enc x, v.oneCell' = true) (xs : List α) : ∀ v ∈ fl enc xs, v.oneCell' = true := by
  intro v hv
  obtain ⟨x, _, hx⟩ := List.mem_flatMap.1 hv
  exact h1 x v hx

/-- Records that lie in a block, from a cell on. -/
def Ra (enc : α → List Value) (k : Nat) (w : World) (b off : Nat) (xs : List α) : Prop :=
  ∀ (i : Nat) (h : i < xs.length) (r : Nat) (u : Value), (enc xs[i])[r]? = some u → w.cell? ⟨b, off + i * k + r, none⟩ = some u

theorem Ra.fl {enc : α → List Value} {k : Nat} (hk : ∀ x, (enc x).length = k) (hk0 : 0 < k) {w : World} {b off : Nat} {xs : List α} (h : Ra enc k w b off xs) : ∀ j u, (fl enc xs)[j]? = some u → w.cell? ⟨b, off + j, none⟩ = some u := by
  intro j u hj
  have hl := (List.getElem?_eq_some_iff.1 hj).1
  rw [fl_length hk] at hl
  have hi : j / k < xs.length := Nat.div_lt_of_lt_mul (by rwa [Nat.mul_comm])
  have hr := Nat.mod_lt j hk0
  have e : j / k * k + j % k = j := by rw [Nat.mul_comm]; exact Nat.div_add_mod j k
  have := fl_at hk xs (j / k) hi (j % k) hr
  rw [e] at this
  rw [this] at hj
  have := h (j / k) hi (j % k) u hj
  rw [Nat.add_assoc, e] at this
  exact this
theorem Ra.of_fl {enc : α → List Value} {k : Nat} (hk : ∀ x, (enc x).length = k) {w : World} {b off : Nat} {xs : List α} (h : ∀ j u, (Lk.fl enc xs)[j]? = some u → w.cell? ⟨b, off + j, none⟩ = some u) : Ra enc k w b off xs := by
  intro i hi r u hu
  have hr : r < k := by have := (List.getElem?_eq_some_iff.1 hu).1; rw [hk] at this; exact this
  rw [Nat.add_assoc]
  exact h _ u (by rw [fl_at hk xs i hi r hr]; exact hu)
theorem Ra.nil {enc : α → List Value} {k : Nat} {w : World} {b off : Nat} : Ra enc k w b off [] := fun _ h => absurd h (Nat.not_lt_zero _)
theorem Ra.block {enc : α → List Value} {k : Nat} {w w' : World} {b off : Nat} {xs : List α} (h : Ra enc k w b off xs) (hb : w'.heap[b]? = w.heap[b]?) : Ra enc k w' b off xs :=
  fun i hi r u hu => (World.cell?_of_block (a := ⟨b, off + i * k + r, none⟩) hb).trans (h i hi r u hu)
theorem Ra.take {enc : α → List Value} {k : Nat} {w : World} {b off : Nat} {xs : List α} (h : Ra enc k w b off xs) (n : Nat) : Ra enc k w b off (xs.take n) := by
  intro i hi r u hu
  have hi' : i < xs.length := by simp at hi; omega
  rw [List.getElem_take] at hu
  exact h i hi' r u hu

/-- Records behind a slice's address: none, or they lie there. -/
def Rd (enc : α → List Value) (k : Nat) (w : World) (ao : Option Addr) (xs : List α) : Prop := xs = [] ∨ ∃ b off, ao = some ⟨b, off, none⟩ ∧ b < w.heap.size ∧ Ra enc k w b off xs
theorem Rd.below {enc : α → List Value} {k : Nat} {w w' : World} {ao : Option Addr} {xs : List α} (h : Rd enc k w ao xs) (hb : RowKit.Below w.heap.size w w') : Rd enc k w' ao xs := by
  rcases h with h | ⟨b, off, h1, h2, h3⟩
  · exact .inl h
  · exact .inr ⟨b, off, h1, Nat.lt_of_lt_of_le h2 hb.size, h3.block (hb.block b h2)⟩
theorem Rd.take {enc : α → List Value} {k : Nat} {w : World} {ao : Option Addr} {xs : List α} (h : Rd enc k w ao xs) (n : Nat) : Rd enc k w ao (xs.take n) := by
  rcases h with h | ⟨b, off, h1, h2, h3⟩
  · exact .inl (by rw [h]; simp)
  · exact .inr ⟨b, off, h1, h2, h3.take n⟩

/-- A row of one's own: nil, or a block's head. -/
def Own (enc : α → List Value) (k : Nat) (T : TypeId) (w : World) (v : Value) (xs : List α) : Prop := w.ownsRow 0 T k v xs.length (Lk.fl enc xs)

/-- A block of cells of a type, so many. -/
def Sh (w : World) (g : Nat) (T : TypeId) (n : Nat) : Prop := ∃ cur, w.heap[g]? = some (.cells cur T (0, 0)) ∧ cur.size = n

theorem cell_lt {w : World} {b o : Nat} {v : Value} (h : w.cell? ⟨b, o, none⟩ = some v) : b < w.heap.size := by
  by_cases hlt : b < w.heap.size
  · exact hlt
  · simp [World.cell?, Array.getElem?_eq_none (Nat.le_of_not_lt hlt)] at h
theorem cell_of_heap {w : World} {k : Nat} {cur : Array Value} {T : TypeId} {fr : Nat × Nat} (h : w.heap[k]? = some (.cells cur T fr)) (j : Nat) : w.cell? ⟨k, j, none⟩ = cur[j]? := by
  unfold World.cell?
  rw [h]
  simp
theorem heap_new (w : World) (o : Obj) : (w.alloc o).heap[w.heap.size]? = some o := by
  show (w.heap.push o)[w.heap.size]? = _
  simp
theorem Sh.lt {w : World} {g : Nat} {T : TypeId} {n : Nat} (h : Sh w g T n) : g < w.heap.size := by
  obtain ⟨cur, h, _⟩ := h
  exact (Array.getElem?_eq_some_iff.1 h).1
theorem Sh.some {w : World} {g : Nat} {T : TypeId} {n : Nat} (h : Sh w g T n) (j : Nat) (hj : j < n) : (w.cell? ⟨g, j, none⟩).isSome = true := by
  obtain ⟨cur, h, rfl⟩ := h
  rw [cell_of_heap h]; simp [hj]
theorem Sh.free {w : World} {g : Nat} {T : TypeId} {n : Nat} (h : Sh w g T n) (j : Nat) : w.frozen? ⟨g, j, none⟩ = false := by
  obtain ⟨cur, h, rfl⟩ := h
  unfold World.frozen?
  rw [h]
  simp
theorem Sh.block {w w' : World} {g : Nat} {T : TypeId} {n : Nat} (h : Sh w g T n) (hb : w'.heap[g]? = w.heap[g]?) : Sh w' g T n := by
  obtain ⟨cur, h, e⟩ := h
  exact ⟨cur, by rw [hb, h], e⟩
theorem Sh.setCell {w : World} {g : Nat} {T : TypeId} {n : Nat} (h : Sh w g T n) (p : Addr) (x : Value) : Sh (w.setCell p x) g T n := by
  obtain ⟨cur, h, e⟩ := h
  have hlt := (Array.getElem?_eq_some_iff.1 h).1
  by_cases hp : g = p.block
  · subst hp
    refine ⟨if p.spot.isSome then cur else cur.setIfInBounds p.off x, ?_, ?_⟩
    · simp [World.setCell, Array.getElem?_modify, h]
    · split <;> simp [e]
  · exact ⟨cur, by rw [RowKit.Below.heap_setCell _ _ _ _ hp]; exact h, e⟩
theorem Sh.setCells {g b : Nat} {T : TypeId} {n : Nat} : ∀ (vs : List Value) (o : Nat) (w : World), Sh w g T n → Sh (w.setCells b o vs) g T n
  | [], _, _, h => h
  | v :: r, o, _, h => Sh.setCells r (o + 1) _ (h.setCell ⟨b, o, none⟩ v)
theorem Sh.alloc {w : World} {g : Nat} {T : TypeId} {n : Nat} (h : Sh w g T n) (o : Obj) : Sh (w.alloc o) g T n := h.block (RowKit.Below.heap_alloc _ _ _ h.lt)

/-- A row with a block of its own. -/
structure Rw (enc : α → List Value) (k : Nat) (T : TypeId) (w : World) (g cap : Nat) (xs : List α) : Prop where
  sh : Sh w g T (cap * k)
  len : xs.length ≤ cap
  max : cap ≤ maxLen
  at' : Ra enc k w g 0 xs

theorem Rw.own {enc : α → List Value} {k : Nat} {T : TypeId} {w : World} {g cap : Nat} {xs : List α} (hk : ∀ x, (enc x).length = k) (hk0 : 0 < k) (h : Rw enc k T w g cap xs) : Own enc k T w (.slice (some ⟨g, 0, none⟩) xs.length cap) xs := by
  obtain ⟨cur, hh, hs⟩ := h.sh
  refine ⟨fl_length hk xs, .inr ⟨g, cap, cur, rfl, Nat.zero_le _, hh, h.len, h.max, hs, ?_⟩⟩
  apply List.ext_getElem?
  intro j
  rw [List.getElem?_take]
  have hl := fl_length hk xs
  split
  · rename_i hj
    have hj' : j < (Lk.fl enc xs).length := by omega
    have := h.at'.fl hk hk0 j _ (List.getElem?_eq_getElem hj')
    rw [Nat.zero_add, cell_of_heap hh] at this
    rw [List.getElem?_eq_getElem hj', ← this]; simp
  · rename_i hj
    rw [List.getElem?_eq_none (by omega)]

theorem Own.cases {enc : α → List Value} {k : Nat} {T : TypeId} {w : World} {v : Value} {xs : List α} (hk : ∀ x, (enc x).length = k) (h : Own enc k T w v xs) :
    (v = .slice none 0 0 ∧ xs = []) ∨ ∃ g cap, v = .slice (some ⟨g, 0, none⟩) xs.length cap ∧ Rw enc k T w g cap xs := by
  rcases h.2 with ⟨h1, h2⟩ | ⟨g, cap, cur, hv, _, hh, hn, hm, hs, ht⟩
  · exact .inl ⟨h1, List.length_eq_zero_iff.1 h2⟩
  · refine .inr ⟨g, cap, hv, ⟨cur, hh, hs⟩, hn, hm, Ra.of_fl hk fun j u hj => ?_⟩
    rw [Nat.zero_add, cell_of_heap hh]
    rw [← ht, List.getElem?_take] at hj
    split at hj
    · simpa using hj
    · cases hj
theorem Own.rd {enc : α → List Value} {k : Nat} {T : TypeId} {w : World} {v : Value} {xs : List α} (hk : ∀ x, (enc x).length = k) (h : Own enc k T w v xs) : ∃ ao cap, v = .slice ao xs.length cap ∧ Rd enc k w ao xs ∧ xs.length ≤ cap ∧ cap ≤ maxLen := by
  rcases h.cases hk with ⟨h1, h2⟩ | ⟨g, cap, hv, r⟩
  · exact ⟨none, 0, by rw [h1, h2]; rfl, .inl h2, by rw [h2]; exact Nat.le_refl _, Nat.zero_le _⟩
  · exact ⟨_, cap, hv, .inr ⟨g, 0, rfl, r.sh.lt, r.at'⟩, r.len, r.max⟩
theorem Own.nil (enc : α → List Value) (k : Nat) (T : TypeId) (w : World) : Own enc k T w (.slice none 0 0) [] := World.ownsRow_nil w 0 T k
theorem Own.lt {enc : α → List Value} {k : Nat} {T : TypeId} {w : World} {v : Value} {xs : List α} (h : Own enc k T w v xs) {g : Nat} (hg : v.ownBlock = some g) : g < w.heap.size := (World.ownsRow.lt h g hg).2
theorem Own.block {enc : α → List Value} {k : Nat} {T : TypeId} {w w' : World} {v : Value} {xs : List α} (h : Own enc k T w v xs) (hb : ∀ g, v.ownBlock = some g → w'.heap[g]? = w.heap[g]?) : Own enc k T w' v xs := by
  refine ⟨h.1, ?_⟩
  rcases h.2 with hn | ⟨g, cap, cur, rfl, hb0, hgg, rest⟩
  · exact .inl hn
  · exact .inr ⟨g, cap, cur, rfl, hb0, by rw [hb g rfl]; exact hgg, rest⟩

/-- What stands below, but for the blocks of D, stays. -/
structure Fr (D : Nat → Prop) (w w' : World) : Prop where
  os : w'.os = w.os
  tape : w'.tape = w.tape
  output : w'.output = w.output
  size : w.heap.size ≤ w'.heap.size
  block : ∀ k, k < w.heap.size → ¬ D k → w'.heap[k]? = w.heap[k]?
theorem Fr.refl (D : Nat → Prop) (w : World) : Fr D w w := ⟨rfl, rfl, rfl, Nat.le_refl _, fun _ _ _ => rfl⟩
theorem Fr.trans {D E : Nat → Prop} {u v w : World} (h : Fr D u v) (k : Fr E v w) (hE : ∀ x, x < u.heap.size → E x → D x) : Fr D u w :=
  ⟨k.os.trans h.os, k.tape.trans h.tape, k.output.trans h.output, Nat.le_trans h.size k.size, fun i hi hD => (k.block i (Nat.lt_of_lt_of_le hi h.size) (fun e => hD (hE i hi e))).trans (h.block i hi hD)⟩
theorem Fr.mono {D E : Nat → Prop} {u v : World} (h : Fr D u v) (hE : ∀ x, x < u.heap.size → D x → E x) : Fr E u v := ⟨h.os, h.tape, h.output, h.size, fun i hi hD => h.block i hi fun e => hD (hE i hi e)⟩
theorem Fr.of_below {D : Nat → Prop} {u v : World} (h : RowKit.Below u.heap.size u v) : Fr D u v := ⟨h.os, h.tape, h.output, h.size, fun i hi _ => h.block i hi⟩
theorem Fr.below {D : Nat → Prop} {u v w : World} (h : Fr D u v) (k : RowKit.Below v.heap.size v w) : Fr D u w := h.trans (Fr.of_below (D := fun _ => False) k) fun _ _ e => e.elim
theorem Fr.of_grown {u v : World} {row : Option Nat} (h : u.grownBy v row) : Fr (fun g => row = some g) u v := ⟨h.os, h.tape, h.output, h.size, fun i hi hD => h.block i hi fun e => hD e.symm⟩
theorem Fr.drew {D : Nat → Prop} {u w : World} (h : Fr D u w) : Fr D u w.drew := ⟨h.os, h.tape, h.output, h.size, h.block⟩
theorem Fr.alloc {D : Nat → Prop} {u w : World} (h : Fr D u w) (o : Obj) : Fr D u (w.alloc o) :=
  h.trans (E := fun _ => False) ⟨rfl, rfl, rfl, by simp, fun k hk _ => RowKit.Below.heap_alloc _ _ _ hk⟩ fun _ _ e => e.elim
theorem Fr.setCell {D : Nat → Prop} {u w : World} (h : Fr D u w) {p : Addr} (hp : D p.block ∨ u.heap.size ≤ p.block) (x : Value) : Fr D u (w.setCell p x) :=
  h.trans (E := fun g => g = p.block) ⟨rfl, rfl, rfl, by simp [World.setCell], fun k _ hD => RowKit.Below.heap_setCell _ _ _ _ hD⟩ fun k hk e => by
    subst e
    rcases hp with hp | hp
    · exact hp
    · omega
theorem Fr.setCells {D : Nat → Prop} {u : World} {b : Nat} (hp : D b ∨ u.heap.size ≤ b) : ∀ (vs : List Value) (o : Nat) (w : World), Fr D u w → Fr D u (w.setCells b o vs)
  | [], _, _, h => h
  | v :: r, o, _, h => Fr.setCells hp r (o + 1) _ (h.setCell (p := ⟨b, o, none⟩) hp v)
theorem Fr.lt {D : Nat → Prop} {u v : World} (h : Fr D u v) {k : Nat} (hk : k < u.heap.size) : k < v.heap.size := Nat.lt_of_lt_of_le hk h.size
theorem Own.fr {enc : α → List Value} {k : Nat} {T : TypeId} {w w' : World} {v : Value} {xs : List α} {D : Nat → Prop} (h : Own enc k T w v xs) (hf : Fr D w w') (hb : ∀ g, v.ownBlock = some g → ¬ D g) : Own enc k T w' v xs :=
  h.block fun g hg => hf.block g (h.lt hg) (hb g hg)
theorem Ra.fr {enc : α → List Value} {k : Nat} {w w' : World} {b off : Nat} {xs : List α} {D : Nat → Prop} (h : Ra enc k w b off xs) (hf : Fr D w w') (hb : b < w.heap.size) (hD : ¬ D b) : Ra enc k w' b off xs := h.block (hf.block b hb hD)
theorem Fr.cell {D : Nat → Prop} {u v : World} (h : Fr D u v) {b o : Nat} {x : Value} (hc : u.cell? ⟨b, o, none⟩ = some x) (hD : ¬ D b) : v.cell? ⟨b, o, none⟩ = some x :=
  (World.cell?_of_block (a := ⟨b, o, none⟩) (h.block b (cell_lt hc) hD)).trans hc

/-- A record written over another in its row. -/
theorem Ra.set {enc : α → List Value} {k : Nat} (hk : ∀ x, (enc x).length = k) {w : World} {b off : Nat} {xs : List α} (h : Ra enc k w b off xs) (i : Nat) (x : α) (hs : ∀ j, j < k → (w.cell? ⟨b, off + i * k + j, none⟩).isSome = true) :
    Ra enc k (w.setCells b (off + i * k) (enc x)) b off (xs.set i x) := by
  intro j hj r u hu
  have hr : r < k := by have := (List.getElem?_eq_some_iff.1 hu).1; rw [hk] at this; exact this
  have hj' : j < xs.length := by simpa using hj
  by_cases hji : i = j
  · subst hji
    rw [List.getElem_set_self] at hu
    have hlt := (List.getElem?_eq_some_iff.1 hu).1
    rw [World.cell?_setCells_in b (enc x) (off + i * k) w (fun t ht => hs t (by rwa [hk] at ht)) r hlt]
    rw [List.getElem?_eq_getElem hlt] at hu
    exact hu
  · rw [List.getElem_set_ne hji] at hu
    rw [World.cell?_setCells_out b _ _ _ _ (fun _ _ => by
      show off + j * k + r < off + i * k ∨ off + i * k + (enc x).length ≤ off + j * k + r
      rw [hk]
      rcases Nat.lt_or_gt_of_ne hji with h | h
      · right
        have : (i + 1) * k ≤ j * k := Nat.mul_le_mul_right k h
        rw [Nat.succ_mul] at this; omega
      · left
        have : (j + 1) * k ≤ i * k := Nat.mul_le_mul_right k h
        rw [Nat.succ_mul] at this; omega)]
    exact h j hj' r u hu
/-- What lies ahead of what is written stays. -/
theorem Ra.ahead {enc : α → List Value} {k : Nat} (hk : ∀ x, (enc x).length = k) {w : World} {b off : Nat} {xs : List α} (h : Ra enc k w b off xs) (o : Nat) (vs : List Value) (ho : off + xs.length * k ≤ o) : Ra enc k (w.setCells b o vs) b off xs := by
  intro j hj r u hu
  have hr : r < k := by have := (List.getElem?_eq_some_iff.1 hu).1; rw [hk] at this; exact this
  rw [World.cell?_setCells_out b _ _ _ _ (fun _ _ => by
    left
    show off + j * k + r < o
    have : (j + 1) * k ≤ xs.length * k := Nat.mul_le_mul_right k hj
    rw [Nat.succ_mul] at this; omega)]
  exact h j hj r u hu
end
end Lk
