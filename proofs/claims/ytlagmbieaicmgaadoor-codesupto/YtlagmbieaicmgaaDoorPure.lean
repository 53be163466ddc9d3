/- The plain data of the messages, and small facts on them. -/
import Derived.WalkKit
namespace Pact
open Go

/-- An entry of a list. -/
structure Ent where
  slot : Int
  ballot : Int
  value : ByteArray

/-- Does an entry stand within its limits, behind the slot 'last'? -/
def entOk (last : Int) (e : Ent) : Bool := !(decide (e.slot ≤ last) || decide (240 < e.slot) || !(decide (0 ≤ e.ballot) && decide (e.ballot ≤ 16777215)) || decide (40 < (e.value.size : Int)))

/-- The entries within their limits, the slots rising from behind 'last'. -/
def entsOk : Int → List Ent → Bool
  | _, [] => true
  | last, e :: r => entOk last e && entsOk e.slot r

theorem entsOk_drop (c : Int) (es : List Ent) (k : Nat) (h : k < es.length) : entsOk c (es.drop k) = (entOk c es[k] && entsOk es[k].slot (es.drop (k + 1))) := by
  rw [List.drop_eq_getElem_cons h, entsOk]

theorem entOk_yes {c : Int} {e : Ent} (h1 : ¬ e.slot ≤ c) (h2 : ¬ 240 < e.slot) (h3 : 0 ≤ e.ballot) (h4 : e.ballot ≤ 16777215) (h5 : ¬ 40 < (e.value.size : Int)) : entOk c e = true := by
  simp [entOk]; omega

theorem entOk_no {c : Int} {e : Ent} (h : e.slot ≤ c ∨ 240 < e.slot ∨ ¬ 0 ≤ e.ballot ∨ ¬ e.ballot ≤ 16777215 ∨ 40 < (e.value.size : Int)) : entOk c e = false := by
  simp [entOk]; omega

/-- The cells of a list of entries, as they lie in memory. -/
def EntCells (w : World) (b off : Nat) (es : List Ent) : Prop :=
  ∀ (i : Nat) (h : i < es.length), w.cell? ⟨b, off + i * 3, none⟩ = some (.int .i64 es[i].slot) ∧ w.cell? ⟨b, off + i * 3 + 1, none⟩ = some (.int .i64 es[i].ballot) ∧
    w.cell? ⟨b, off + i * 3 + 2, none⟩ = some (.string es[i].value)

theorem cell_lt {w : World} {b o : Nat} {v : Value} (h : w.cell? ⟨b, o, none⟩ = some v) : b < w.heap.size := by
  by_cases hlt : b < w.heap.size
  · exact hlt
  · simp [World.cell?, Array.getElem?_eq_none (Nat.le_of_not_lt hlt)] at h

theorem EntCells.below {w w' : World} {B b off : Nat} {es : List Ent} (h : EntCells w b off es) (hb : RowKit.Below B w w') (hB : b < B) : EntCells w' b off es :=
  fun i hi => ⟨(hb.cell (p := ⟨b, _, none⟩) hB).trans (h i hi).1, (hb.cell (p := ⟨b, _, none⟩) hB).trans (h i hi).2.1, (hb.cell (p := ⟨b, _, none⟩) hB).trans (h i hi).2.2⟩

/-- A list of entries behind a slice's address: nothing, or its cells. -/
def EntsIn (w : World) (ao : Option Addr) (es : List Ent) : Prop := es = [] ∨ ∃ b off, ao = some ⟨b, off, none⟩ ∧ EntCells w b off es

theorem EntsIn.below {w w' : World} {ao : Option Addr} {es : List Ent} (h : EntsIn w ao es) (hb : RowKit.Below w.heap.size w w') : EntsIn w' ao es := by
  rcases h with h | ⟨b, off, h1, h2⟩
  · exact .inl h
  · by_cases he : es = []
    · exact .inl he
    · have hp : 0 < es.length := List.length_pos_iff.2 he
      exact .inr ⟨b, off, h1, h2.below hb (cell_lt (h2 0 hp).1)⟩

/-- A message. -/
structure Msg where
  kind : Int
  fr : Int
  to : Int
  group : ByteArray
  ballot : Int
  slot : Int
  value : ByteArray
  ents : List Ent

/-- A message as a value, its list behind an address. -/
abbrev msgV (m : Msg) (ao : Option Addr) (cap : Nat) : Value :=
  .agg #[.int .i64 m.kind, .int .i64 m.fr, .int .i64 m.to, .string m.group, .int .i64 m.ballot, .int .i64 m.slot, .string m.value, .slice ao m.ents.length cap]

/-- The limits of a kind: Group, Ballot, Slot, Value, List; and whether there is such a kind. -/
structure Lim where
  g : Int
  b : Int
  s : Int
  v : Int
  l : Int
  known : Bool
def lim (k : Int) : Lim :=
  if k = 1 ∨ k = 5 then ⟨12, 16777215, 0, 0, 0, true⟩ else if k = 2 then ⟨12, 16777215, 0, 0, 241, true⟩ else if k = 3 ∨ k = 4 then ⟨12, 16777215, 240, 40, 0, true⟩ else
  if k = 6 then ⟨12, 0, 240, 40, 0, true⟩ else if k = 7 then ⟨12, 16777215, 240, 0, 0, true⟩ else if k = 8 ∨ k = 9 then ⟨0, 0, 65535, 40, 0, true⟩ else ⟨0, 0, 0, 0, 0, false⟩

def upToB (n most : Int) : Bool := decide (0 ≤ n) && decide (n ≤ most)
def groupB (size : Nat) (most : Int) : Bool := decide (min 1 most ≤ (size : Int)) && decide ((size : Int) ≤ most)
def leB (n : Nat) (most : Int) : Bool := decide ((n : Int) ≤ most)

/-- Can the message be sent? -/
def sendB (m : Msg) : Bool :=
  (lim m.kind).known && upToB m.fr 63 && upToB m.to 63 && groupB m.group.size (lim m.kind).g && upToB m.ballot (lim m.kind).b && upToB m.slot (lim m.kind).s &&
    leB m.value.size (lim m.kind).v && leB m.ents.length (lim m.kind).l && entsOk (-1) m.ents

theorem sendB_iff (m : Msg) : sendB m = true ↔ (lim m.kind).known = true ∧ upToB m.fr 63 = true ∧ upToB m.to 63 = true ∧ groupB m.group.size (lim m.kind).g = true ∧ upToB m.ballot (lim m.kind).b = true ∧ upToB m.slot (lim m.kind).s = true ∧
    (m.value.size : Int) ≤ (lim m.kind).v ∧ (m.ents.length : Int) ≤ (lim m.kind).l ∧ entsOk (-1) m.ents = true := by
  simp only [sendB, leB, Bool.and_eq_true, decide_eq_true_eq, and_assoc]

/-- Bytes as cells. -/
def bc (l : List UInt8) : List Value := l.map fun b => Value.int .u8 (b.toNat : Int)
theorem bc_length (l : List UInt8) : (bc l).length = l.length := by simp [bc]
theorem bc_append (l k : List UInt8) : bc (l ++ k) = bc l ++ bc k := by simp [bc]

theorem owns_snoc {w : World} {base : Nat} {T : TypeId} {v : Value} {l : List UInt8} {n : Int} {x : Nat} (h : w.ownsRow base T 1 v (l.length + 1) (bc l ++ [.int .u8 n])) (hn : n = (x % 256 : Nat)) :
    w.ownsRow base T 1 v (l ++ [UInt8.ofNat x]).length (bc (l ++ [UInt8.ofNat x])) := by
  have e : bc (l ++ [UInt8.ofNat x]) = bc l ++ [.int .u8 n] := by simp [bc, hn]
  rw [e, List.length_append]
  exact h

theorem owns_text {w : World} {base : Nat} {T : TypeId} {v : Value} {l : List UInt8} {s : ByteArray} (h : w.ownsRow base T 1 v (l.length + s.size) (bc l ++ s.data.toList.map fun b => Value.int .u8 b.toNat)) :
    w.ownsRow base T 1 v (l ++ s.data.toList).length (bc (l ++ s.data.toList)) := by
  rw [bc_append, List.length_append, Array.length_toList]
  exact h

/-- A text: how many bytes it has, and these. -/
def textB (s : ByteArray) : List UInt8 := UInt8.ofNat s.size :: s.data.toList

/-- A number in so many bytes, the high byte first. -/
def numB (x width : Nat) : List UInt8 := (List.range width).map fun i => UInt8.ofNat (x / 2 ^ (8 * (width - 1 - i)))
theorem numB_length (x width : Nat) : (numB x width).length = width := by simp [numB]
theorem numB_take (x width k : Nat) (h1 : 1 ≤ k) (h2 : k ≤ width) : (numB x width).take (width - (k - 1)) = (numB x width).take (width - k) ++ [UInt8.ofNat (x / 2 ^ (8 * (k - 1)))] := by
  rw [show width - (k - 1) = (width - k) + 1 from by omega, List.take_succ_eq_append_getElem (by rw [numB_length]; omega)]
  congr 2
  simp only [numB, List.getElem_map, List.getElem_range]
  rw [show width - 1 - (width - k) = k - 1 from by omega]

/-- What was there stays, but for rows of the element type T from block 'base' on. -/
structure Keep (T : TypeId) (base : Nat) (w w' : World) : Prop where
  os : w'.os = w.os
  tape : w'.tape = w.tape
  output : w'.output = w.output
  size : w.heap.size ≤ w'.heap.size
  block : ∀ k, k < w.heap.size → (k < base ∨ ∀ cur, w.heap[k]? ≠ some (.cells cur T (0, 0))) → w'.heap[k]? = w.heap[k]?

theorem Keep.refl (T : TypeId) (base : Nat) (w : World) : Keep T base w w := ⟨rfl, rfl, rfl, Nat.le_refl _, fun _ _ _ => rfl⟩
theorem Keep.trans {T : TypeId} {base : Nat} {a b c : World} (h : Keep T base a b) (k : Keep T base b c) : Keep T base a c := by
  refine ⟨k.os.trans h.os, k.tape.trans h.tape, k.output.trans h.output, Nat.le_trans h.size k.size, fun i hi hk => ?_⟩
  have h1 := h.block i hi hk
  rw [k.block i (Nat.lt_of_lt_of_le hi h.size) (by rw [h1]; exact hk), h1]
theorem Keep.alloc {T : TypeId} {base : Nat} {a w : World} (h : Keep T base a w) (o : Obj) : Keep T base a (w.alloc o) :=
  h.trans ⟨rfl, rfl, rfl, by simp, fun k hk _ => RowKit.Below.heap_alloc _ _ _ hk⟩
theorem Keep.drew {T : TypeId} {base : Nat} {a w : World} (h : Keep T base a w) : Keep T base a w.drew := ⟨h.os, h.tape, h.output, h.size, h.block⟩
theorem Keep.below {T : TypeId} {base : Nat} {a w : World} (h : Keep T base a w) (hb : base ≤ a.heap.size) : RowKit.Below base a w :=
  ⟨h.os, h.tape, h.output, h.size, fun k hk => h.block k (by omega) (.inl hk)⟩
/-- Behind an append onto a row of one's own. -/
theorem Keep.grown {T : TypeId} {base size n : Nat} {a w w' : World} {v : Value} {xs : List Value} (h : Keep T base a w) (hg : w.grownBy w' v.ownBlock) (hown : w.ownsRow base T size v n xs) : Keep T base a w' := by
  refine h.trans ⟨hg.os, hg.tape, hg.output, hg.size, fun k hk ho => hg.block k hk fun e => ?_⟩
  rcases hown.2 with ⟨hv, _⟩ | ⟨g, cap, cur, hv, hbg, hh, _⟩
  · subst hv; simp [Value.ownBlock] at e
  · subst hv
    simp [Value.ownBlock] at e
    subst e
    rcases ho with ho | ho
    · omega
    · exact ho _ hh

theorem Keep.other {T T' : TypeId} {base k : Nat} {a w : World} {cur : Array Value} {fr : Nat × Nat} (h : Keep T base a w) (hk : a.heap[k]? = some (.cells cur T' fr)) (hne : T' ≠ T) : w.heap[k]? = some (.cells cur T' fr) := by
  have hlt : k < a.heap.size := (Array.getElem?_eq_some_iff.1 hk).1
  rw [h.block k hlt (.inr fun cur' e => by rw [hk] at e; simp at e; exact hne e.2.1), hk]

theorem heap_new (w : World) (o : Obj) : (w.alloc o).heap[w.heap.size]? = some o := by
  show (w.heap.push o)[w.heap.size]? = _
  simp

theorem cell_of_heap {w : World} {k : Nat} {cur : Array Value} {T : TypeId} {fr : Nat × Nat} (h : w.heap[k]? = some (.cells cur T fr)) (j : Nat) : w.cell? ⟨k, j, none⟩ = cur[j]? := by
  unfold World.cell?
  rw [h]
  simp

theorem cells_new (w : World) (C : Array Value) (T : TypeId) (l : List Value) (hl : C.toList = l) : ∀ (j : Nat) (u : Value), l[j]? = some u → (w.alloc (.cells C T)).cell? ((⟨w.heap.size, 0, none⟩ : Addr).add j) = some u := by
  intro j u h
  have e : (⟨w.heap.size, 0, none⟩ : Addr).add j = ⟨w.heap.size, j, none⟩ := by simp [Addr.add]; omega
  rw [e, cell_of_heap (heap_new w _)]
  subst hl
  simpa using h

theorem free_of_heap {w : World} {k : Nat} {cur : Array Value} {T : TypeId} (h : w.heap[k]? = some (.cells cur T (0, 0))) (j : Nat) : w.frozen? ⟨k, j, none⟩ = false := by
  unfold World.frozen?
  rw [h]
  simp

theorem owns_mono {w : World} {base base' n size : Nat} {T : TypeId} {v : Value} {xs : List Value} (h : w.ownsRow base T size v n xs) (hb : base' ≤ base) : w.ownsRow base' T size v n xs := by
  refine ⟨h.1, ?_⟩
  rcases h.2 with h | ⟨g, cap, cur, hv, hg, r⟩
  · exact .inl h
  · exact .inr ⟨g, cap, cur, hv, by omega, r⟩

theorem owns_shape {w : World} {base n size : Nat} {T : TypeId} {v : Value} {xs : List Value} (h : w.ownsRow base T size v n xs) : ∃ ao cap, v = .slice ao n cap := by
  rcases h.2 with ⟨h1, h2⟩ | ⟨g, cap, cur, hv, _⟩
  · exact ⟨none, 0, by rw [h1, h2]⟩
  · exact ⟨_, _, hv⟩

/-- A message in a box of its own. -/
def boxO (T : TypeId) (m : Msg) (ao : Option Addr) (cap : Nat) : Obj :=
  .cells #[.int .i64 m.kind, .int .i64 m.fr, .int .i64 m.to, .string m.group, .int .i64 m.ballot, .int .i64 m.slot, .string m.value, .slice ao m.ents.length cap] T

theorem box_cells {w : World} {k : Nat} {T : TypeId} {m : Msg} {ao : Option Addr} {cap : Nat} (h : w.heap[k]? = some (boxO T m ao cap)) :
    w.cell? ⟨k, 0, none⟩ = some (.int .i64 m.kind) ∧ w.cell? ⟨k, 1, none⟩ = some (.int .i64 m.fr) ∧ w.cell? ⟨k, 2, none⟩ = some (.int .i64 m.to) ∧ w.cell? ⟨k, 3, none⟩ = some (.string m.group) ∧
    w.cell? ⟨k, 4, none⟩ = some (.int .i64 m.ballot) ∧ w.cell? ⟨k, 5, none⟩ = some (.int .i64 m.slot) ∧ w.cell? ⟨k, 6, none⟩ = some (.string m.value) ∧ w.cell? ⟨k, 7, none⟩ = some (.slice ao m.ents.length cap) := by
  refine ⟨?_, ?_, ?_, ?_, ?_, ?_, ?_, ?_⟩ <;> rw [cell_of_heap h] <;> rfl

/-- The bytes of an entry. -/
def entB (e : Ent) : List UInt8 := UInt8.ofNat e.slot.toNat :: (numB e.ballot.toNat 3 ++ textB e.value)
def entsB (es : List Ent) : List UInt8 := es.flatMap entB
/-- The bytes of a message's head, and of all ahead of the check sum. -/
def headB (m : Msg) : List UInt8 := [77, UInt8.ofNat m.kind.toNat, UInt8.ofNat m.fr.toNat, UInt8.ofNat m.to.toNat]
def bodyB (m : Msg) : List UInt8 := headB m ++ textB m.group ++ numB m.ballot.toNat 3 ++ numB m.slot.toNat 2 ++ textB m.value ++ [UInt8.ofNat m.ents.length] ++ entsB m.ents

/-- Does an entry fit its bytes? -/
def EntFit (e : Ent) : Prop := 0 ≤ e.slot ∧ e.slot < 256 ∧ 0 ≤ e.ballot ∧ e.ballot < 16777216 ∧ e.value.size < 256
/-- Does a message fit its bytes? -/
structure Fit (m : Msg) : Prop where
  kind : 0 ≤ m.kind ∧ m.kind < 256
  fr : 0 ≤ m.fr ∧ m.fr < 256
  to : 0 ≤ m.to ∧ m.to < 256
  group : m.group.size < 256
  ballot : 0 ≤ m.ballot ∧ m.ballot < 16777216
  slot : 0 ≤ m.slot ∧ m.slot < 65536
  value : m.value.size < 256
  len : m.ents.length < 256
  ents : ∀ e ∈ m.ents, EntFit e

theorem entB_length (e : Ent) : (entB e).length = 5 + e.value.size := by simp [entB, numB_length, textB]; omega
theorem entsB_le (es : List Ent) (h : ∀ e ∈ es, EntFit e) : (entsB es).length ≤ 260 * es.length := by
  induction es with
  | nil => simp [entsB]
  | cons e es ih =>
    have h1 := ih fun x hx => h x (List.mem_cons_of_mem _ hx)
    have h2 := (h e (List.mem_cons_self ..)).2.2.2.2
    have h3 := entB_length e
    simp only [entsB, List.flatMap_cons, List.length_append, List.length_cons] at h1 ⊢
    omega

theorem entsOk_fit : ∀ (es : List Ent) (last : Int), -1 ≤ last → entsOk last es = true → ∀ e ∈ es, EntFit e
  | [], _, _, _ => by intro e he; cases he
  | e :: es, last, hl, h => by
    simp only [entsOk, Bool.and_eq_true] at h
    have h1 : ¬ e.slot ≤ last ∧ ¬ 240 < e.slot ∧ 0 ≤ e.ballot ∧ e.ballot ≤ 16777215 ∧ ¬ 40 < (e.value.size : Int) := by
      have := h.1
      simp [entOk] at this
      omega
    intro x hx
    rcases List.mem_cons.1 hx with rfl | hx
    · exact ⟨by omega, by omega, by omega, by omega, by omega⟩
    · exact entsOk_fit es e.slot (by omega) h.2 x hx

theorem lim_le (k : Int) : (lim k).g ≤ 12 ∧ (lim k).b ≤ 16777215 ∧ (lim k).s ≤ 65535 ∧ (lim k).v ≤ 40 ∧ (lim k).l ≤ 241 := by
  have all : ∀ L : Lim, lim k = L → (L.g ≤ 12 ∧ L.b ≤ 16777215 ∧ L.s ≤ 65535 ∧ L.v ≤ 40 ∧ L.l ≤ 241) → (lim k).g ≤ 12 ∧ (lim k).b ≤ 16777215 ∧ (lim k).s ≤ 65535 ∧ (lim k).v ≤ 40 ∧ (lim k).l ≤ 241 := fun L e h => by rw [e]; exact h
  by_cases h1 : k = 1 ∨ k = 5
  · exact all _ (by unfold lim; rw [if_pos h1]) (by decide)
  by_cases h2 : k = 2
  · exact all _ (by unfold lim; rw [if_neg h1, if_pos h2]) (by decide)
  by_cases h3 : k = 3 ∨ k = 4
  · exact all _ (by unfold lim; rw [if_neg h1, if_neg h2, if_pos h3]) (by decide)
  by_cases h4 : k = 6
  · exact all _ (by unfold lim; rw [if_neg h1, if_neg h2, if_neg h3, if_pos h4]) (by decide)
  by_cases h5 : k = 7
  · exact all _ (by unfold lim; rw [if_neg h1, if_neg h2, if_neg h3, if_neg h4, if_pos h5]) (by decide)
  by_cases h6 : k = 8 ∨ k = 9
  · exact all _ (by unfold lim; rw [if_neg h1, if_neg h2, if_neg h3, if_neg h4, if_neg h5, if_pos h6]) (by decide)
  · exact all _ (by unfold lim; rw [if_neg h1, if_neg h2, if_neg h3, if_neg h4, if_neg h5, if_neg h6]) (by decide)

theorem lim_known {k : Int} (h : (lim k).known = true) : 1 ≤ k ∧ k ≤ 9 := by
  unfold lim at h
  by_cases hk : 1 ≤ k ∧ k ≤ 9
  · exact hk
  · rw [if_neg (by omega), if_neg (by omega), if_neg (by omega), if_neg (by omega), if_neg (by omega), if_neg (by omega)] at h
    cases h

theorem sendB_fit {m : Msg} (h : sendB m = true) : Fit m := by
  obtain ⟨h1, h2, h3, h4, h5, h6, h7, h8, h9⟩ := (sendB_iff m).1 h
  have hk := lim_known h1
  obtain ⟨g1, g2, g3, g4, g5⟩ := lim_le m.kind
  simp only [upToB, groupB, Bool.and_eq_true, decide_eq_true_eq] at h2 h3 h4 h5 h6
  exact ⟨by omega, by omega, by omega, by omega, by omega, by omega, by omega, by omega, entsOk_fit m.ents (-1) (by omega) h9⟩

theorem heap2 (w : World) (o1 o2 : Obj) : ((w.alloc o1).alloc o2).heap[w.heap.size]? = some o1 := by
  rw [RowKit.Below.heap_alloc _ _ _ (by simp)]; exact heap_new w o1

theorem heap2b (w : World) (o1 o2 : Obj) : ((w.alloc o1).alloc o2).heap[w.heap.size + 1]? = some o2 := by
  have := heap_new (w.alloc o1) o2
  simpa using this

theorem below2 (w : World) (o1 o2 : Obj) : RowKit.Below w.heap.size w ((w.alloc o1).alloc o2) :=
  ((RowKit.Below.refl _ _).alloc (Nat.le_refl _) _).alloc (by simp) _

theorem entsB_take (es : List Ent) (k : Nat) (h : k < es.length) : entsB (es.take (k + 1)) = entsB (es.take k) ++ (UInt8.ofNat es[k].slot.toNat :: (numB es[k].ballot.toNat 3 ++ textB es[k].value)) := by
  unfold entsB
  rw [List.take_succ_eq_append_getElem h, List.flatMap_append, List.flatMap_cons, List.flatMap_nil, List.append_nil]
  rfl

theorem mk_append (l k : List UInt8) : (⟨l.toArray⟩ : ByteArray) ++ ⟨k.toArray⟩ = ⟨(l ++ k).toArray⟩ := by
  apply ByteArray.ext
  simp [ByteArray.data_append]

/-- What was there stays, but for block b. -/
structure Step (b : Nat) (w w' : World) : Prop where
  os : w'.os = w.os
  tape : w'.tape = w.tape
  output : w'.output = w.output
  size : w.heap.size ≤ w'.heap.size
  block : ∀ k, k < w.heap.size → k ≠ b → w'.heap[k]? = w.heap[k]?

theorem Step.refl (b : Nat) (w : World) : Step b w w := ⟨rfl, rfl, rfl, Nat.le_refl _, fun _ _ _ => rfl⟩
theorem Step.trans {b : Nat} {u v w : World} (h : Step b u v) (k : Step b v w) : Step b u w :=
  ⟨k.os.trans h.os, k.tape.trans h.tape, k.output.trans h.output, Nat.le_trans h.size k.size, fun i hi hb => (k.block i (Nat.lt_of_lt_of_le hi h.size) hb).trans (h.block i hi hb)⟩
theorem Step.drew {b : Nat} {u w : World} (h : Step b u w) : Step b u w.drew := ⟨h.os, h.tape, h.output, h.size, h.block⟩
theorem Step.alloc {b : Nat} {u w : World} (h : Step b u w) (o : Obj) : Step b u (w.alloc o) :=
  h.trans ⟨rfl, rfl, rfl, by simp, fun k hk _ => RowKit.Below.heap_alloc _ _ _ hk⟩
theorem Step.setCell {b : Nat} {u w : World} (h : Step b u w) (o : Nat) (x : Value) : Step b u (w.setCell ⟨b, o, none⟩ x) :=
  h.trans ⟨rfl, rfl, rfl, by simp [World.setCell], fun _ _ hb => RowKit.Below.heap_setCell _ _ _ _ hb⟩
theorem Step.setNew {b : Nat} {u w : World} (h : Step b u w) {p : Addr} (hp : u.heap.size ≤ p.block) (x : Value) : Step b u (w.setCell p x) := by
  refine ⟨h.os, h.tape, h.output, by simpa [World.setCell] using h.size, fun k hk hb => ?_⟩
  rw [RowKit.Below.heap_setCell _ _ _ _ (by omega), h.block k hk hb]
theorem Step.below {b : Nat} {u w : World} (h : Step b u w) (hb : b ≤ u.heap.size) : RowKit.Below b u w :=
  ⟨h.os, h.tape, h.output, h.size, fun k hk => h.block k (by omega) (by omega)⟩
theorem Step.of_below {b : Nat} {u w : World} (h : RowKit.Below u.heap.size u w) : Step b u w :=
  ⟨h.os, h.tape, h.output, h.size, fun k hk _ => h.block k hk⟩

theorem below3 (w : World) (o1 o2 o3 : Obj) : RowKit.Below w.heap.size w (((w.alloc o1).alloc o2).alloc o3) :=
  (((RowKit.Below.refl _ _).alloc (Nat.le_refl _) _).alloc (by simp) _).alloc (by simp; omega) _

end Pact
