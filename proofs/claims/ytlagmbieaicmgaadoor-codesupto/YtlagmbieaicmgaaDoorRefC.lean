/- The document's own answer: Can: just the messages that the program lets be sent. -/
import Derived.Test.YtlagmbieaicmgaaDoorRefB
namespace Go.Proofs.YtlagmbieaicmgaaDoor
open Go.RowKit Pact

theorem needs_size (k : Int) : (needs k).size ≤ 1000 := by
  unfold needs
  repeat (first | split | decide)

theorem kinds (k : Int) : k = 1 ∨ k = 5 ∨ k = 2 ∨ k = 3 ∨ k = 4 ∨ k = 6 ∨ k = 7 ∨ k = 8 ∨ k = 9 ∨ (¬ (1 ≤ k ∧ k ≤ 9)) := by omega

theorem size_nil (s : ByteArray) : s.toList = [] ↔ s.size = 0 := by
  rw [ByteArray.toList_eq]
  have hl : s.data.toList.length = s.size := by simp
  constructor
  · intro h; rw [h] at hl; simpa using hl.symm
  · intro h; exact List.eq_nil_of_length_eq_zero (by omega)

theorem size_nil_b (s : ByteArray) : s.toList.isEmpty = decide (s.size = 0) := by
  rw [Bool.eq_iff_iff, List.isEmpty_iff, size_nil]; simp

theorem not_eq_decide (G : Bool) (n : Nat) : (¬ G = decide (n = 0)) ↔ ((G = true ∧ 0 < n) ∨ (G = false ∧ n = 0)) := by
  cases G
  · simp
  · simp; omega

/-- The two ways of asking, for a kind that uses what the five Bools say. -/
theorem can_core (m : Msg) (most : Int) (G B S V L : Bool) (hmost : 0 ≤ most) (hk : (lim m.kind).known = true) (hg : (lim m.kind).g = if G then 12 else 0) (hb : (lim m.kind).b = if B then 16777215 else 0)
    (hs : (lim m.kind).s = if S then most else 0) (hv : (lim m.kind).v = if V then 40 else 0) (hl : (lim m.kind).l = if L then 241 else 0) (hne : ¬ (needs m.kind).size = 0)
    (eG : hasB (needs m.kind) 103 = G) (eB : hasB (needs m.kind) 98 = B) (eS : hasB (needs m.kind) 115 = S) (eV : hasB (needs m.kind) 118 = V) (eL : hasB (needs m.kind) 108 = L) :
    sendB m = true ↔ ¬ (needs m.kind).toList = [] ∧ upToB m.fr 63 = true ∧ upToB m.to 63 = true ∧ upToB m.ballot 16777215 = true ∧ upToB m.slot most = true ∧ listB m.ents = true ∧
      (m.group.size : Int) ≤ 12 ∧ (m.value.size : Int) ≤ 40 ∧ ¬ hasB (needs m.kind) 103 = m.group.toList.isEmpty ∧ (hasB (needs m.kind) 98 = true ∨ m.ballot = 0) ∧ (hasB (needs m.kind) 115 = true ∨ m.slot = 0) ∧
      (hasB (needs m.kind) 118 = true ∨ m.value.toList = []) ∧ (hasB (needs m.kind) 108 = true ∨ ¬ 0 < m.ents.length) := by
  rw [sendB_iff, size_nil_b, size_nil, size_nil, eG, eB, eS, eV, eL, not_eq_decide, hk, hg, hb, hs, hv, hl]
  simp only [upToB, groupB, listB, Bool.and_eq_true, decide_eq_true_eq]
  by_cases hP : entsOk (-1) m.ents = true
  · simp only [hP, and_true, true_and]
    cases G <;> cases B <;> cases S <;> cases V <;> cases L <;> simp only [if_true, if_false, Bool.false_eq_true, reduceCtorEq, true_and, false_and, or_false, false_or, true_or, and_true] <;> omega
  · simp only [hP, Bool.false_eq_true, and_false, false_and]

/-- What the document asks of a message, in the document's own order, is what the program asks. -/
theorem can_iff (m : Msg) (most : Int) (hm : (7 < m.kind ∧ most = 65535) ∨ (¬ 7 < m.kind ∧ most = 240)) :
    sendB m = true ↔ ¬ (needs m.kind).toList = [] ∧ upToB m.fr 63 = true ∧ upToB m.to 63 = true ∧ upToB m.ballot 16777215 = true ∧ upToB m.slot most = true ∧ listB m.ents = true ∧
      (m.group.size : Int) ≤ 12 ∧ (m.value.size : Int) ≤ 40 ∧ ¬ hasB (needs m.kind) 103 = m.group.toList.isEmpty ∧ (hasB (needs m.kind) 98 = true ∨ m.ballot = 0) ∧ (hasB (needs m.kind) 115 = true ∨ m.slot = 0) ∧
      (hasB (needs m.kind) 118 = true ∨ m.value.toList = []) ∧ (hasB (needs m.kind) 108 = true ∨ ¬ 0 < m.ents.length) := by
  have h0 : 0 ≤ most := by omega
  rcases kinds m.kind with h | h | h | h | h | h | h | h | h | h
  · obtain rfl : most = 240 := by omega
    exact can_core m 240 true true false false false h0 (by rw [h]; decide) (by rw [h]; decide) (by rw [h]; decide) (by rw [h]; decide) (by rw [h]; decide) (by rw [h]; decide) (by rw [h]; decide) (by rw [h]; decide) (by rw [h]; decide) (by rw [h]; decide) (by rw [h]; decide) (by rw [h]; decide)
  · obtain rfl : most = 240 := by omega
    exact can_core m 240 true true false false false h0 (by rw [h]; decide) (by rw [h]; decide) (by rw [h]; decide) (by rw [h]; decide) (by rw [h]; decide) (by rw [h]; decide) (by rw [h]; decide) (by rw [h]; decide) (by rw [h]; decide) (by rw [h]; decide) (by rw [h]; decide) (by rw [h]; decide)
  · obtain rfl : most = 240 := by omega
    exact can_core m 240 true true false false true h0 (by rw [h]; decide) (by rw [h]; decide) (by rw [h]; decide) (by rw [h]; decide) (by rw [h]; decide) (by rw [h]; decide) (by rw [h]; decide) (by rw [h]; decide) (by rw [h]; decide) (by rw [h]; decide) (by rw [h]; decide) (by rw [h]; decide)
  · obtain rfl : most = 240 := by omega
    exact can_core m 240 true true true true false h0 (by rw [h]; decide) (by rw [h]; decide) (by rw [h]; decide) (by rw [h]; decide) (by rw [h]; decide) (by rw [h]; decide) (by rw [h]; decide) (by rw [h]; decide) (by rw [h]; decide) (by rw [h]; decide) (by rw [h]; decide) (by rw [h]; decide)
  · obtain rfl : most = 240 := by omega
    exact can_core m 240 true true true true false h0 (by rw [h]; decide) (by rw [h]; decide) (by rw [h]; decide) (by rw [h]; decide) (by rw [h]; decide) (by rw [h]; decide) (by rw [h]; decide) (by rw [h]; decide) (by rw [h]; decide) (by rw [h]; decide) (by rw [h]; decide) (by rw [h]; decide)
  · obtain rfl : most = 240 := by omega
    exact can_core m 240 true false true true false h0 (by rw [h]; decide) (by rw [h]; decide) (by rw [h]; decide) (by rw [h]; decide) (by rw [h]; decide) (by rw [h]; decide) (by rw [h]; decide) (by rw [h]; decide) (by rw [h]; decide) (by rw [h]; decide) (by rw [h]; decide) (by rw [h]; decide)
  · obtain rfl : most = 240 := by omega
    exact can_core m 240 true true true false false h0 (by rw [h]; decide) (by rw [h]; decide) (by rw [h]; decide) (by rw [h]; decide) (by rw [h]; decide) (by rw [h]; decide) (by rw [h]; decide) (by rw [h]; decide) (by rw [h]; decide) (by rw [h]; decide) (by rw [h]; decide) (by rw [h]; decide)
  · obtain rfl : most = 65535 := by omega
    exact can_core m 65535 false false true true false h0 (by rw [h]; decide) (by rw [h]; decide) (by rw [h]; decide) (by rw [h]; decide) (by rw [h]; decide) (by rw [h]; decide) (by rw [h]; decide) (by rw [h]; decide) (by rw [h]; decide) (by rw [h]; decide) (by rw [h]; decide) (by rw [h]; decide)
  · obtain rfl : most = 65535 := by omega
    exact can_core m 65535 false false true true false h0 (by rw [h]; decide) (by rw [h]; decide) (by rw [h]; decide) (by rw [h]; decide) (by rw [h]; decide) (by rw [h]; decide) (by rw [h]; decide) (by rw [h]; decide) (by rw [h]; decide) (by rw [h]; decide) (by rw [h]; decide) (by rw [h]; decide)
  · have e1 : lim m.kind = ⟨0, 0, 0, 0, 0, false⟩ := by unfold lim; rw [if_neg (by omega), if_neg (by omega), if_neg (by omega), if_neg (by omega), if_neg (by omega), if_neg (by omega)]
    have e2 : needs m.kind = ⟨#[]⟩ := by unfold needs; rw [if_neg (by omega), if_neg (by omega), if_neg (by omega), if_neg (by omega), if_neg (by omega), if_neg (by omega)]
    constructor
    · intro hh
      have := ((sendB_iff m).1 hh).1
      rw [e1] at this
      cases this
    · intro hh
      exact absurd ((size_nil _).2 (by rw [e2]; rfl)) hh.1
end Go.Proofs.YtlagmbieaicmgaaDoor
