/- Package pact's tables: no table; arguments that are no owner or no key. -/
import Derived.Test.YtlagmbieaicmgaaLW
namespace Go.Proofs.Ytlagmbieaicmgaa
open Go.RowKit Lk Go.Shelf

set_option maxHeartbeats 1000000 in
theorem newLocks_none (m : Int) (w : World) (h : m < 1 ∨ 24 < m) : Calls Try.prog 5 #[.int .i64 m] w fun e w' => e = .returned (.pointer none) ∧ w' = w := by
  by_cases h1 : m < 1
  · clear h
    go_enter Try.func5, Try.ntmps5
    go_wp2
    go_ret
    exact ⟨rfl, rfl⟩
  · have h2 : 24 < m := h.resolve_left h1
    clear h
    go_enter Try.func5, Try.ntmps5
    go_wp2
    go_ret
    exact ⟨rfl, rfl⟩

set_option maxHeartbeats 1000000 in
theorem pTake_nil (x y : Int) (z : Bool) (w : World) : Calls Try.prog 10 #[.pointer none, .int .i64 x, .int .i64 y, .bool z] w fun e w' => e = .returned (.tuple #[.int .i64 0, .slice none 0 0, .slice none 0 0]) ∧ w' = w := by
  go_enter Try.func10, Try.ntmps10
  go_wp2
  refine bodyPost_ret (v := .tuple #[.int .i64 0, .slice none 0 0, .slice none 0 0]) (by simp [results, Try.results10, go_sem]) rfl ?_
  exact ⟨rfl, rfl⟩

set_option maxHeartbeats 1000000 in
theorem pTake_bad (a : Nat) (x y : Int) (z : Bool) (w : World) (h : ¬ (1 ≤ x ∧ x ≤ 1000) ∨ y < 0 ∨ 5 < y) : Calls Try.prog 10 #[.pointer (some ⟨a, 0, none⟩), .int .i64 x, .int .i64 y, .bool z] w fun e w' => e = .returned (.tuple #[.int .i64 0, .slice none 0 0, .slice none 0 0]) ∧ w' = w := by
  have ho := owner_any x w
  by_cases hx : 1 ≤ x ∧ x ≤ 1000
  · rw [show (decide (1 ≤ x) && decide (x ≤ 1000)) = true by simp [hx.1, hx.2]] at ho
    by_cases hy : y < 0
    · clear h hx
      go_enter Try.func10, Try.ntmps10
      go_wp2_with (go_at_call 33; refine ho.mono ?_; rintro e w' ⟨rfl, hw'⟩; subst w')
      refine bodyPost_ret (v := .tuple #[.int .i64 0, .slice none 0 0, .slice none 0 0]) (by simp [results, Try.results10, go_sem]) rfl ?_
      exact ⟨rfl, rfl⟩
    · have hy6 : 6 ≤ y := by omega
      clear h hx
      go_enter Try.func10, Try.ntmps10
      go_wp2_with (go_at_call 33; refine ho.mono ?_; rintro e w' ⟨rfl, hw'⟩; subst w')
      refine bodyPost_ret (v := .tuple #[.int .i64 0, .slice none 0 0, .slice none 0 0]) (by simp [results, Try.results10, go_sem]) rfl ?_
      exact ⟨rfl, rfl⟩
  · rw [show (decide (1 ≤ x) && decide (x ≤ 1000)) = false by rw [Bool.eq_false_iff]; intro e; exact hx (by simpa using e)] at ho
    clear h hx
    go_enter Try.func10, Try.ntmps10
    go_wp2_with (go_at_call 33; refine ho.mono ?_; rintro e w' ⟨rfl, hw'⟩; subst w')
    refine bodyPost_ret (v := .tuple #[.int .i64 0, .slice none 0 0, .slice none 0 0]) (by simp [results, Try.results10, go_sem]) rfl ?_
    exact ⟨rfl, rfl⟩

set_option maxHeartbeats 1000000 in
theorem pHold_nil (x : Int) (w : World) : Calls Try.prog 13 #[.pointer none, .int .i64 x] w fun e w' => e = .returned (.tuple #[]) ∧ w' = w := by
  go_enter Try.func13, Try.ntmps13
  go_wp2
  go_end0
  exact ⟨rfl, rfl⟩

theorem no_owner {x : Int} (hx : ¬ (1 ≤ x ∧ x ≤ 1000)) : (decide (1 ≤ x) && decide (x ≤ 1000)) = false := by
  rw [Bool.eq_false_iff]; intro e; exact hx (by simpa using e)

set_option maxHeartbeats 1000000 in
theorem pHold_bad (a : Nat) (x : Int) (w : World) (hx : ¬ (1 ≤ x ∧ x ≤ 1000)) : Calls Try.prog 13 #[.pointer (some ⟨a, 0, none⟩), .int .i64 x] w fun e w' => e = .returned (.tuple #[]) ∧ w' = w := by
  have ho := owner_any x w
  rw [no_owner hx] at ho
  clear hx
  go_enter Try.func13, Try.ntmps13
  go_wp2_with (go_at_call 33; refine ho.mono ?_; rintro e w' ⟨rfl, hw'⟩; subst w')
  go_end0
  exact ⟨rfl, rfl⟩

set_option maxHeartbeats 1000000 in
theorem pFree_nil (x : Int) (w : World) : Calls Try.prog 16 #[.pointer none, .int .i64 x] w fun e w' => e = .returned (.slice none 0 0) ∧ w' = w := by
  go_enter Try.func16, Try.ntmps16
  go_wp2
  go_ret
  exact ⟨rfl, rfl⟩

set_option maxHeartbeats 1000000 in
theorem pFree_bad (a : Nat) (x : Int) (w : World) (hx : ¬ (1 ≤ x ∧ x ≤ 1000)) : Calls Try.prog 16 #[.pointer (some ⟨a, 0, none⟩), .int .i64 x] w fun e w' => e = .returned (.slice none 0 0) ∧ w' = w := by
  have ho := owner_any x w
  rw [no_owner hx] at ho
  clear hx
  go_enter Try.func16, Try.ntmps16
  go_wp2_with (go_at_call 33; refine ho.mono ?_; rintro e w' ⟨rfl, hw'⟩; subst w')
  go_ret
  exact ⟨rfl, rfl⟩

set_option maxHeartbeats 1000000 in
theorem pWaits_nil (w : World) : Calls Try.prog 18 #[.pointer none] w fun e w' => e = .returned (.slice none 0 0) ∧ w' = w := by
  go_enter Try.func18, Try.ntmps18
  go_wp2
  go_ret
  exact ⟨rfl, rfl⟩
end Go.Proofs.Ytlagmbieaicmgaa
