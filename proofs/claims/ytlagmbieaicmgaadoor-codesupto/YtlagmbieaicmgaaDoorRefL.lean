/- A list that its owner has written his mark into: appends to it keep all that bears the mark. -/
import Derived.Test.YtlagmbieaicmgaaDoorRefK
import Derived.ArgAppend
import Derived.Deep.MidRow
import Derived.Lib.EndianMore
import Derived.Deep.Upon
namespace Go.Proofs.YtlagmbieaicmgaaDoor
open Go.RowKit Pact

def xc (mark : Int) (j : Nat) : Value := if j % 3 = 0 then .int .i64 mark else if j % 3 = 1 then .int .i64 0 else .string ⟨#[]⟩
def pat (mark : Int) : Nat → List Value
  | 0 => []
  | m + 1 => .int .i64 mark :: .int .i64 0 :: .string ⟨#[]⟩ :: pat mark m

theorem pat_length (mark : Int) : ∀ m, (pat mark m).length = m * 3
  | 0 => rfl
  | m + 1 => by simp only [pat, List.length_cons, pat_length mark m]; omega

theorem xc_add3 (mark : Int) (j : Nat) : xc mark (j + 3) = xc mark j := by unfold xc; rw [Nat.add_mod_right]

theorem pat_at (mark : Int) : ∀ (m j : Nat), j < m * 3 → (pat mark m)[j]? = some (xc mark j)
  | m + 1, 0, _ => rfl
  | m + 1, 1, _ => rfl
  | m + 1, 2, _ => rfl
  | m + 1, j + 3, h => by
    rw [xc_add3]
    exact pat_at mark m j (by omega)

theorem xc_shift (mark : Int) (n j : Nat) : xc mark (n * 3 + j) = xc mark j := by unfold xc; rw [Nat.mul_add_mod_self_right]

theorem pat_append (mark : Int) : ∀ n m, pat mark n ++ pat mark m = pat mark (n + m)
  | 0, m => by simp [pat]
  | n + 1, m => by rw [show n + 1 + m = (n + m) + 1 by omega]; simp only [pat, List.cons_append, pat_append mark n m]

def At3 (w : World) (g k : Nat) (mark : Int) : Prop := ∀ j, j < k * 3 → w.cell? ⟨g, j, none⟩ = some (xc mark j)
def Sp (w : World) (g cap : Nat) : Prop := ∀ j, j < cap * 3 → (w.cell? ⟨g, j, none⟩).isSome = true ∧ w.frozen? ⟨g, j, none⟩ = false

/-- A slice that bears the mark. -/
def Mx (w : World) (v : Value) (mark : Int) : Prop := ∃ ao k cap, v = .slice ao k cap ∧ k ≤ 1000 ∧ (k = 0 ∨ ∃ g, ao = some ⟨g, 0, none⟩ ∧ At3 w g k mark)

theorem Mx.mk {w : World} {v : Value} {mark : Int} (h : Mx w v mark) : Mk w v mark := by
  obtain ⟨ao, k, cap, rfl, hk, h⟩ := h
  refine ⟨ao, k, cap, rfl, hk, ?_⟩
  rcases h with h | ⟨g, rfl, hA⟩
  · exact .inl h
  · refine .inr ⟨g, 0, rfl, fun i hi => ?_⟩
    rw [hA (0 + i * 3) (by omega)]
    unfold xc
    rw [if_pos (by omega)]

/-- All that bears the mark still does. -/
def Keeps (w w' : World) (mark : Int) : Prop := ∀ g k, At3 w g k mark → At3 w' g k mark
theorem Keeps.trans {u v w : World} {mark : Int} (h : Keeps u v mark) (k : Keeps v w mark) : Keeps u w mark := fun g n hA => k g n (h g n hA)
theorem Keeps.of_below {w w' : World} {mark : Int} (h : Below w.heap.size w w') : Keeps w w' mark := fun _ _ hA j hj => (h.cell (p := ⟨_, j, none⟩) (cell_lt (hA j hj))).trans (hA j hj)
theorem Mx.keeps {w w' : World} {v : Value} {mark : Int} (h : Mx w v mark) (hk : Keeps w w' mark) : Mx w' v mark := by
  obtain ⟨ao, k, cap, rfl, hn, h⟩ := h
  refine ⟨ao, k, cap, rfl, hn, ?_⟩
  rcases h with h | ⟨g, rfl, hA⟩
  · exact .inl h
  · exact .inr ⟨g, rfl, hk g k hA⟩

/-- The owner's list: nil, or a row of its own, marked so far. -/
def LS (w : World) (B : Nat) (ao : Option Addr) (k n cap : Nat) (mark : Int) : Prop :=
  (ao = none ∧ n = 0 ∧ cap = 0) ∨ (∃ g, ao = some ⟨g, 0, none⟩ ∧ B ≤ g ∧ n ≤ cap ∧ At3 w g k mark ∧ Sp w g cap)

theorem Sp.of_below {w w' : World} {g cap : Nat} (h : Sp w g cap) (hb : Below w.heap.size w w') : Sp w' g cap := fun j hj => by
  obtain ⟨h1, h2⟩ := h j hj
  obtain ⟨u, hu⟩ := Option.isSome_iff_exists.1 h1
  have hg := cell_lt hu
  exact ⟨by rw [hb.cell (p := ⟨g, j, none⟩) hg]; exact h1, by rw [hb.frozen (p := ⟨g, j, none⟩) hg]; exact h2⟩

theorem LS.of_below {w w' : World} {B : Nat} {ao : Option Addr} {k n cap : Nat} {mark : Int} (h : LS w B ao k n cap mark) (hb : Below w.heap.size w w') : LS w' B ao k n cap mark := by
  rcases h with h | ⟨g, h1, h2, h3, h4, h5⟩
  · exact .inl h
  · exact .inr ⟨g, h1, h2, h3, Keeps.of_below hb g k h4, h5.of_below hb⟩

theorem below_of_grown {w w' : World} (hg : w.grownBy w' none) : Below w.heap.size w w' := ⟨hg.os, hg.tape, hg.output, hg.size, fun k hk => hg.block k hk (by simp)⟩

theorem mx_of_owns {w : World} {base : Nat} {v : Value} {n : Nat} {mark : Int} (h : w.ownsRow base 53 3 v n (pat mark n)) (hn : n ≤ 1000) : Mx w v mark := by
  rcases h.2 with ⟨h1, h2⟩ | ⟨g, cap, cur, hv, _, hh, _, _, _, htake⟩
  · exact ⟨none, 0, 0, h1, by omega, .inl rfl⟩
  · refine ⟨_, n, cap, hv, hn, .inr ⟨g, rfl, fun j hj => ?_⟩⟩
    rw [cell_of_heap hh]
    have := pat_at mark n j hj
    rw [← htake, List.getElem?_take_of_lt hj] at this
    simpa using this

theorem append_x (w : World) {ops : Array Oper} {rest : List Oper} {o : Oper} {a : Act} {Q : Exit → Act → World → Prop}
    (hgd : o.guard = none) (s x : Operand) (hop : o.op = Op.call { callee := Callee.builtin Builtin.append, args := #[s, x], argTypes := #[22, 22] })
    (B : Nat) (ao : Option Addr) (n cap : Nat) (mark : Int) (hs : a.eval s = .slice ao n cap) (hL : LS w B ao n n cap mark)
    (ad : Addr) (m c : Nat) (hx : a.eval x = .slice (some ad) m c) (hc : ∀ j u, (pat mark m)[j]? = some u → w.cell? (ad.add j) = some u) (hn : n ≤ 255) (hm : 0 < m) (hm3 : m ≤ 3) (hB : B ≤ w.heap.size)
    (h : ∀ v' w', Mx w' v' mark → Keeps w w' mark → LS w' B ao n n cap mark → Below B w w' → (∀ b, b < w.heap.size → (∀ g, ao = some ⟨g, 0, none⟩ → b ≠ g) → w'.heap[b]? = w.heap[b]?) → w.heap.size ≤ w'.heap.size → wpList Tryd.prog ops Q rest (a.put o.dst v') w') : wpList Tryd.prog ops Q (o :: rest) a w := by
  obtain ⟨i0, hinf, hz0, hz1, hz2⟩ := info_parts Tryd.info_ent
  have h1c : ∀ u ∈ pat mark m, u.oneCell' = true := by
    intro u hu
    obtain ⟨j, hj⟩ := List.getElem?_of_mem hu
    have hl := (List.getElem?_eq_some_iff.1 hj).1
    rw [pat_length] at hl
    rw [pat_at mark m j hl] at hj
    injection hj with hj
    rw [← hj]
    unfold xc
    split
    · rfl
    · split <;> rfl
  have grow : ∀ v' w', w'.ownsRow w.heap.size 53 3 v' (n + m) (pat mark n ++ pat mark m) → w.grownBy w' none → wpList Tryd.prog ops Q rest (a.put o.dst v') w' := by
    intro v' w' ho hg
    have hb := below_of_grown hg
    rw [pat_append] at ho
    exact h v' w' (mx_of_owns ho (by omega)) (Keeps.of_below hb) (hL.of_below hb) (hb.mono hB) (fun b hb' _ => hb.block b hb') hb.size
  rcases hL with ⟨rfl, rfl, rfl⟩ | ⟨g, rfl, hBg, hnc, hA, hSp⟩
  · refine wpList_append_grows w hgd s x 22 hop 53 i0 (.agg #[.int .i64 0, .int .i64 0, .string ⟨#[]⟩]) 3 32 Tryd.underlying22 hinf hz0 hz1 hz2 rfl (by decide) none 0 0 (pat mark 0) hs (fun _ => ⟨rfl, rfl⟩) rfl (fun b hb => by cases hb) ad m c (pat mark m) hx (pat_length mark m) hc h1c (by omega) (by unfold maxLen; omega) (by omega) grow
  · refine wpList_append_arg w hgd s x 22 hop 53 i0 (.agg #[.int .i64 0, .int .i64 0, .string ⟨#[]⟩]) 3 32 Tryd.underlying22 hinf hz0 hz1 hz2 rfl (by decide) g 0 n cap (pat mark n) hs (pat_length mark n) ?_ ad m c (pat mark m) hx (pat_length mark m) hc h1c ?_ (by unfold maxLen; omega) (by omega) ?_ (fun _ => grow)
    · intro j u hj
      have hl := (List.getElem?_eq_some_iff.1 hj).1
      rw [pat_length] at hl
      rw [pat_at mark n j hl] at hj
      rw [Nat.zero_add, hA j hl]; exact hj
    · intro hr j hj
      rw [pat_length] at hj
      rw [Nat.zero_add]
      exact hSp (n * 3 + j) (by omega)
    · intro hr
      have hsome : ∀ j, j < (pat mark m).length → (w.cell? ⟨g, 0 + n * 3 + j, none⟩).isSome = true := by
        intro j hj
        rw [pat_length] at hj
        rw [Nat.zero_add]
        exact (hSp (n * 3 + j) (by omega)).1
      have hin : ∀ j, j < m * 3 → (w.setCells g (0 + n * 3) (pat mark m)).cell? ⟨g, n * 3 + j, none⟩ = some (xc mark (n * 3 + j)) := by
        intro j hj
        have h1 := World.cell?_setCells_in g (pat mark m) (0 + n * 3) w hsome j (by rw [pat_length]; exact hj)
        rw [Nat.zero_add] at h1 ⊢
        rw [h1, xc_shift]
        have h2 := pat_at mark m j hj
        rw [List.getElem?_eq_getElem (by rw [pat_length]; exact hj)] at h2
        exact h2
      have hK : Keeps w (w.setCells g (0 + n * 3) (pat mark m)) mark := by
        intro g' k hA' j hj
        by_cases hcase : g' = g ∧ n * 3 ≤ j ∧ j < n * 3 + m * 3
        · obtain ⟨rfl, h1, h2⟩ := hcase
          have := hin (j - n * 3) (by omega)
          rw [show n * 3 + (j - n * 3) = j by omega] at this
          exact this
        · rw [World.cell?_setCells_out g (pat mark m) (0 + n * 3) w ⟨g', j, none⟩ (fun h1 _ => by
            have h1' : g' = g := h1
            rw [pat_length]
            show j < 0 + n * 3 ∨ 0 + n * 3 + m * 3 ≤ j
            omega)]
          exact hA' j hj
      have hA2 : At3 (w.setCells g (0 + n * 3) (pat mark m)) g (n + m) mark := by
        intro j hj
        by_cases hjn : j < n * 3
        · exact hK g n hA j hjn
        · have := hin (j - n * 3) (by omega)
          rw [show n * 3 + (j - n * 3) = j by omega] at this
          exact this
      refine h _ _ ⟨_, n + m, cap, rfl, by omega, .inr ⟨g, rfl, hA2⟩⟩ hK (.inr ⟨g, rfl, hBg, hnc, hK g n hA, fun j hj => ?_⟩) (Lib.below_setCells_w hBg _ _ _) (fun b hb' hne => World.heap_setCells_other w g _ _ hb' (hne g rfl)) (Lib.below_setCells_w hBg _ _ w).size
      exact ⟨World.isSome_setCells g _ _ w _ (hSp j hj).1, by rw [World.frozen?_setCells]; exact (hSp j hj).2⟩
end Go.Proofs.YtlagmbieaicmgaaDoor
