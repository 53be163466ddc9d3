/- The document's own table: way, ok, next. -/
import Derived.Test.YtlagmbieaicmgaaQB
namespace Go.Proofs.Ytlagmbieaicmgaa
open Go.RowKit Lk Go.Shelf

def wayB (a b : L4) : Bool := !decide (a.tx = b.tx) && (decide (a.key = b.key) && (a.wr || b.wr))
abbrev l4V (a : L4) : Value := .agg #[.int .i64 a.tx, .int .i64 a.key, .bool a.wr, .bool a.wt]

set_option maxHeartbeats 400000 in
theorem way_any (c d : L4) (w : World) :
    Calls Try.prog 60 #[l4V c, l4V d] w fun e w' => e = .returned (.bool (wayB c d)) ∧ Below w.heap.size w w' := by
  obtain ⟨x, k, a, s⟩ := c
  obtain ⟨y, l, b, t⟩ := d
  have hB : ∀ o1 o2 : Obj, Below w.heap.size w ((w.alloc o1).alloc o2) := fun o1 o2 => ((Below.refl _ _).alloc (Nat.le_refl _) _).alloc (by simp) _
  go_enter Try.func60, Try.ntmps60
  by_cases h1 : x = y
  · go_wp2
    go_ret
    exact ⟨by simp [wayB, h1], hB _ _⟩
  · by_cases h2 : k = l
    · cases a
      · go_wp2
        go_ret
        exact ⟨by simp [wayB, h1, h2], hB _ _⟩
      · go_wp2
        go_ret
        exact ⟨by simp [wayB, h1, h2], hB _ _⟩
    · go_wp2
      go_ret
      exact ⟨by simp [wayB, h1, h2], hB _ _⟩

theorem ok_any (x : Int) (w : World) : Calls Try.prog 41 #[.int .i64 x] w fun e w' => e = .returned (.bool (decide (1 ≤ x) && decide (x ≤ 1000))) ∧ w' = w := by
  by_cases h1 : 1 ≤ x
  · go_enter Try.func41, Try.ntmps41
    go_wp2
    go_ret
    exact ⟨by simp [h1], rfl⟩
  · go_enter Try.func41, Try.ntmps41
    go_wp2
    go_ret
    exact ⟨by simp; omega, rfl⟩

set_option maxHeartbeats 1000000 in
theorem rnew_any (m : Int) (w : World) (h1 : 1 ≤ m) (h2 : m ≤ 24) : Calls Try.prog 6 #[.int .i64 m] w fun e w' => e = .returned (.pointer (some ⟨w.heap.size, 0, none⟩)) ∧ RLd w' w.heap.size m [] [] (.slice none 0 0) (.slice none 0 0) ∧ Below w.heap.size w w' := by
  have hm1 : ¬ (m < 1) := by omega
  have hm2 : ¬ (24 < m) := by omega
  have nb : ∀ g, (Value.slice none 0 0).ownBlock = some g → False := fun g e => by simp [Value.ownBlock] at e
  go_enter Try.func6, Try.ntmps6
  go_wp2
  go_ret
  exact ⟨rfl, ⟨heap_new _ _, Own.nil _ _ _ _, Own.nil _ _ _ _, fun e => nb _ e, fun e => nb _ e, fun g e => (nb g e).elim⟩, (Below.refl _ _).alloc (Nat.le_refl _) _⟩

set_option maxHeartbeats 1000000 in
theorem rnew_none (m : Int) (w : World) (h : m < 1 ∨ 24 < m) : Calls Try.prog 6 #[.int .i64 m] w fun e w' => e = .returned (.pointer none) ∧ w' = w := by
  by_cases h1 : m < 1
  · clear h
    go_enter Try.func6, Try.ntmps6
    go_wp2
    go_ret
    exact ⟨rfl, rfl⟩
  · have h2 : 24 < m := h.resolve_left h1
    clear h
    go_enter Try.func6, Try.ntmps6
    go_wp2
    go_ret
    exact ⟨rfl, rfl⟩
end Go.Proofs.Ytlagmbieaicmgaa
