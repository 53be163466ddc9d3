/- The statement's own helpers: marked, stays. -/
import Derived.Test.YtlagmbieaicmgaaDoorRefJ
namespace Go.Proofs.YtlagmbieaicmgaaDoor
open Go.RowKit Pact

/-- A slice of entries whose slots all read as the mark. -/
def Mk (w : World) (v : Value) (mark : Int) : Prop :=
  ∃ (ao : Option Addr) (n cap : Nat), v = .slice ao n cap ∧ n ≤ 1000 ∧ (n = 0 ∨ ∃ b off, ao = some ⟨b, off, none⟩ ∧ ∀ k, k < n → w.cell? ⟨b, off + k * 3, none⟩ = some (.int .i64 mark))

theorem Mk.below {w w' : World} {v : Value} {mark : Int} (h : Mk w v mark) (hb : Below w.heap.size w w') : Mk w' v mark := by
  obtain ⟨ao, n, cap, rfl, hn, h⟩ := h
  refine ⟨ao, n, cap, rfl, hn, ?_⟩
  rcases h with h | ⟨b, off, hao, hc⟩
  · exact .inl h
  · exact .inr ⟨b, off, hao, fun k hk => (hb.cell (p := ⟨b, off + k * 3, none⟩) (cell_lt (hc k hk))).trans (hc k hk)⟩

set_option maxHeartbeats 400000 in
theorem marked_none (ao : Option Addr) (cap : Nat) (mark : Int) (w : World) :
    Calls Tryd.prog 20 #[.slice ao 0 cap, .int .i64 mark] w fun e w' => e = .returned (.bool true) ∧ Below w.heap.size w w' := by
  go_enter Tryd.func20, Tryd.ntmps20
  go_wp2
  refine wp_loop_rounds 1 ?_
  rw [rounds_succ]
  go_wp2
  go_ret
  exact ⟨rfl, Below.refl _ _⟩

set_option maxHeartbeats 400000 in
theorem marked_some (b off n cap : Nat) (mark : Int) (w : World) (hn : n ≤ 1000) (hc : ∀ k, k < n → w.cell? ⟨b, off + k * 3, none⟩ = some (.int .i64 mark)) :
    Calls Tryd.prog 20 #[.slice (some ⟨b, off, none⟩) n cap, .int .i64 mark] w fun e w' => e = .returned (.bool true) ∧ Below w.heap.size w w' := by
  go_enter Tryd.func20, Tryd.ntmps20
  go_wp2
  go_loopw [5] (fun i wr => ∃ k : Nat, k ≤ n ∧ i = .int .i64 k ∧ ∃ q, wr = w.drewN q) (fun i _ => n - (intOf i).toNat)
  case atStart => exact ⟨0, Nat.zero_le _, rfl, 0, rfl⟩
  case round =>
    obtain ⟨k, hk, rfl, q, rfl⟩ := hrel
    by_cases hlt : k < n
    · have q0 := hc k hlt
      go_wp2
      go_roundw
      case rel => exact ⟨k + 1, by omega, by go_num, q, rfl⟩
      case measure => simp [intOf]; omega
    · go_wp2
      go_ret
      exact ⟨rfl, below_drewN (Below.refl _ _) _⟩

theorem marked_any (v : Value) (mark : Int) (w : World) (h : Mk w v mark) :
    Calls Tryd.prog 20 #[v, .int .i64 mark] w fun e w' => e = .returned (.bool true) ∧ Below w.heap.size w w' := by
  obtain ⟨ao, n, cap, rfl, hn, h⟩ := h
  by_cases h0 : n = 0
  · subst h0; exact marked_none ao cap mark w
  · obtain ⟨b, off, rfl, hc⟩ := h.resolve_left h0
    exact marked_some b off n cap mark w hn hc

def keptV (l g h i : Value) (mark : Int) : Value := .agg #[l, g, h, i, .int .i64 mark]

def keptO (l g h i : Value) (mark : Int) : Obj := .cells #[l, g, h, i, .int .i64 mark] 29 (0, 0)
theorem kept_cells {w : World} {k : Nat} {l g h i : Value} {mark : Int} (hx : w.heap[k]? = some (keptO l g h i mark)) :
    w.cell? ⟨k, 0, none⟩ = some l ∧ w.cell? ⟨k, 1, none⟩ = some g ∧ w.cell? ⟨k, 2, none⟩ = some h ∧ w.cell? ⟨k, 3, none⟩ = some i ∧ w.cell? ⟨k, 4, none⟩ = some (.int .i64 mark) := by
  refine ⟨?_, ?_, ?_, ?_, ?_⟩ <;> rw [cell_of_heap hx] <;> rfl

set_option maxHeartbeats 1000000 in
theorem stays_any (l g h i : Value) (mark : Int) (w : World) (hl : Mk w l mark) (hg : Mk w g mark) (hh : Mk w h mark) (hi : Mk w i mark) :
    Calls Tryd.prog 7 #[keptV l g h i mark] w fun e w' => e = .returned (.bool true) ∧ Below w.heap.size w w' := by
  unfold keptV
  go_enter Tryd.func7, Tryd.ntmps7
  have b0 : Below w.heap.size w (w.alloc (keptO l g h i mark)) := (Below.refl _ _).alloc (Nat.le_refl _) _
  have x0 : (w.alloc (keptO l g h i mark)).heap[w.heap.size]? = some (keptO l g h i mark) := heap_new _ _
  obtain ⟨c0, c1, c2, c3, c4⟩ := kept_cells x0
  go_wp2_with fail
  refine (marked_any l mark _ (hl.below b0)).mono ?_
  rintro e w1 ⟨rfl, hb⟩
  have b1 := b0.trans (hb.mono b0.size)
  have x1 := (hb.block _ (Array.getElem?_eq_some_iff.1 x0).1).trans x0
  clear hb b0 x0 c0 c1 c2 c3 c4
  obtain ⟨c0, c1, c2, c3, c4⟩ := kept_cells x1
  go_wp2_with fail
  refine (marked_any g mark _ (hg.below b1)).mono ?_
  rintro e w2 ⟨rfl, hb⟩
  have b2 := b1.trans (hb.mono b1.size)
  have x2 := (hb.block _ (Array.getElem?_eq_some_iff.1 x1).1).trans x1
  clear hb b1 x1 c0 c1 c2 c3 c4
  obtain ⟨c0, c1, c2, c3, c4⟩ := kept_cells x2
  go_wp2_with fail
  refine (marked_any h mark _ (hh.below b2)).mono ?_
  rintro e w3 ⟨rfl, hb⟩
  have b3 := b2.trans (hb.mono b2.size)
  have x3 := (hb.block _ (Array.getElem?_eq_some_iff.1 x2).1).trans x2
  clear hb b2 x2 c0 c1 c2 c3 c4
  obtain ⟨c0, c1, c2, c3, c4⟩ := kept_cells x3
  go_wp2_with fail
  refine (marked_any i mark _ (hi.below b3)).mono ?_
  rintro e w4 ⟨rfl, hb⟩
  have b4 := b3.trans (hb.mono b3.size)
  have x4 := (hb.block _ (Array.getElem?_eq_some_iff.1 x3).1).trans x3
  clear hb b3 x3 c0 c1 c2 c3 c4
  obtain ⟨c0, c1, c2, c3, c4⟩ := kept_cells x4
  go_wp2
  go_ret
  exact ⟨rfl, b4⟩
end Go.Proofs.YtlagmbieaicmgaaDoor
