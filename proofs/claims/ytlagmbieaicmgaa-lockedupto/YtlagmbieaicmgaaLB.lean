/- Tables of locks: who is in whose way; searches by a predicate. -/
import Derived.Test.YtlagmbieaicmgaaLA
import Derived.Test.YtlagmbieaicmgaaProg
import Derived.Lib.SliceRun
namespace Go.Proofs.Ytlagmbieaicmgaa
open Go.RowKit Lk

/-- Are two in each other's way? -/
def ag (c d : C) : Bool := !decide (c.tx = d.tx) && (decide (c.key = d.key) && (c.wr || d.wr))

set_option maxHeartbeats 400000 in
theorem against_any (c d : C) (w : World) :
    Calls Try.prog 67 #[clV c, clV d] w fun e w' => e = .returned (.bool (ag c d)) ∧ Below w.heap.size w w' := by
  obtain ⟨x, k, a⟩ := c
  obtain ⟨y, l, b⟩ := d
  have hB : ∀ o1 o2 : Obj, Below w.heap.size w ((w.alloc o1).alloc o2) := fun o1 o2 => ((Below.refl _ _).alloc (Nat.le_refl _) _).alloc (by simp) _
  go_enter Try.func67, Try.ntmps67
  by_cases h1 : x = y
  · go_wp2
    go_ret
    exact ⟨by simp [ag, h1], hB _ _⟩
  · by_cases h2 : k = l
    · cases a
      · go_wp2
        go_ret
        exact ⟨by simp [ag, h1, h2], hB _ _⟩
      · go_wp2
        go_ret
        exact ⟨by simp [ag, h1, h2], hB _ _⟩
    · go_wp2
      go_ret
      exact ⟨by simp [ag, h1, h2], hB _ _⟩

set_option maxHeartbeats 400000 in
theorem waiting1_any (c : C) (t : Nat) (tx : Int) (w : World) (h : w.cell? ⟨t, 0, none⟩ = some (.int .i64 tx)) :
    Calls Try.prog 65 #[clV c, .pointer (some ⟨t, 0, none⟩)] w fun e w' => e = .returned (.bool (decide (c.tx = tx))) ∧ Below w.heap.size w w' := by
  have h' : ∀ o : Obj, (w.alloc o).cell? ⟨t, 0, none⟩ = some (.int .i64 tx) := fun o => Lib.cell?_alloc_some o h
  go_enter Try.func65, Try.ntmps65
  go_wp2
  go_ret
  exact ⟨rfl, (Below.refl _ _).alloc (Nat.le_refl _) _⟩

set_option maxHeartbeats 400000 in
theorem strip1_any (c : C) (t : Nat) (tx : Int) (w : World) (h : w.cell? ⟨t, 0, none⟩ = some (.int .i64 tx)) :
    Calls Try.prog 79 #[clV c, .pointer (some ⟨t, 0, none⟩)] w fun e w' => e = .returned (.bool (decide (c.tx = tx))) ∧ Below w.heap.size w w' := by
  have h' : ∀ o : Obj, (w.alloc o).cell? ⟨t, 0, none⟩ = some (.int .i64 tx) := fun o => Lib.cell?_alloc_some o h
  go_enter Try.func79, Try.ntmps79
  go_wp2
  go_ret
  exact ⟨rfl, (Below.refl _ _).alloc (Nat.le_refl _) _⟩

set_option maxHeartbeats 400000 in
theorem take1_any (g : G) (t : Nat) (tx : Int) (w : World) (h : w.cell? ⟨t, 0, none⟩ = some (.int .i64 tx)) :
    Calls Try.prog 53 #[.agg #[.int .i64 g.a, .int .i64 g.b], .pointer (some ⟨t, 0, none⟩)] w fun e w' => e = .returned (.bool (decide (g.a = tx))) ∧ Below w.heap.size w w' := by
  have h' : ∀ o : Obj, (w.alloc o).cell? ⟨t, 0, none⟩ = some (.int .i64 tx) := fun o => Lib.cell?_alloc_some o h
  go_enter Try.func53, Try.ntmps53
  go_wp2
  go_ret
  exact ⟨rfl, (Below.refl _ _).alloc (Nat.le_refl _) _⟩

set_option maxHeartbeats 400000 in
theorem holding1_any (c : C) (t s : Nat) (tx key : Int) (w : World) (h : w.cell? ⟨t, 0, none⟩ = some (.int .i64 tx)) (k : w.cell? ⟨s, 0, none⟩ = some (.int .i64 key)) :
    Calls Try.prog 84 #[clV c, .pointer (some ⟨t, 0, none⟩), .pointer (some ⟨s, 0, none⟩)] w fun e w' => e = .returned (.bool (decide (c.tx = tx) && decide (c.key = key))) ∧ Below w.heap.size w w' := by
  have h' : ∀ o : Obj, (w.alloc o).cell? ⟨t, 0, none⟩ = some (.int .i64 tx) := fun o => Lib.cell?_alloc_some o h
  have k' : ∀ o : Obj, (w.alloc o).cell? ⟨s, 0, none⟩ = some (.int .i64 key) := fun o => Lib.cell?_alloc_some o k
  obtain ⟨x, y, a⟩ := c
  go_enter Try.func84, Try.ntmps84
  by_cases h1 : x = tx
  · go_wp2
    go_ret
    exact ⟨by simp [h1]; rfl, (Below.refl _ _).alloc (Nat.le_refl _) _⟩
  · go_wp2
    go_ret
    exact ⟨by simp [h1], (Below.refl _ _).alloc (Nat.le_refl _) _⟩

set_option maxHeartbeats 400000 in
theorem await1_any (c : C) (tx : Int) (w : World) (h0 : 0 ≤ c.tx) (h1 : c.tx ≤ 1000) (h2 : 0 ≤ tx) (h3 : tx ≤ 1000) :
    Calls Try.prog 69 #[clV c, .int .i64 tx] w fun e w' => e = .returned (.int .i64 (c.tx - tx)) ∧ Below w.heap.size w w' := by
  have hw : IntKind.i64.wrap (c.tx - tx) = c.tx - tx := by rw [IntKind.wrap_i64]; omega
  go_enter Try.func69, Try.ntmps69
  go_wp2
  go_ret
  exact ⟨by first | rfl | rw [hw], (Below.refl _ _).alloc (Nat.le_refl _) _⟩
end Go.Proofs.Ytlagmbieaicmgaa
