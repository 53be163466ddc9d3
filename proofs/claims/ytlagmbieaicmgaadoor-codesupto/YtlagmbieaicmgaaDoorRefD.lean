/- The document's own answer: Can, of the kinds up to 7. -/
import Derived.Test.YtlagmbieaicmgaaDoorRefC
namespace Go.Proofs.YtlagmbieaicmgaaDoor
open Go.RowKit Pact

set_option maxHeartbeats 8000000 in
theorem can_low (m : Msg) (ao : Option Addr) (cap : Nat) (w : World) (h : EntsIn w ao m.ents) (hk : ¬ 7 < m.kind) :
    Calls Tryd.prog 27 #[msgV m ao cap] w fun e w' => e = .returned (.bool (sendB m)) ∧ Below w.heap.size w w' := by
  have hz := needs_size m.kind
  have HI : Hid (sendB m = true ↔ _) := can_iff m 240 (by omega)
  go_enter Tryd.func27, Tryd.ntmps27
  go_wp2_with (first | (go_at_call 44; refine (needs_any _ _).mono ?_; rintro e w' ⟨rfl, rfl⟩) | (go_at_call 45; refine (has_any _ _ _ hz).mono ?_; rintro e w' ⟨rfl, rfl⟩) | (go_at_call 46; refine (word_any _ _ _).mono ?_; rintro e w' ⟨rfl, rfl⟩))
  refine (rentries_any m.ents ao cap _ (h.below ((Below.refl _ _).alloc (Nat.le_refl _) _))).mono ?_
  rintro e w1 ⟨rfl, hb1⟩
  have x1 : w1.heap[w.heap.size]? = some (boxO 24 m ao cap) := (hb1.block _ (by simp)).trans (heap_new _ _)
  have hb2 : Below w.heap.size w w1 := ((Below.refl _ _).alloc (Nat.le_refl _) _).trans (hb1.mono (by simp))
  obtain ⟨c0, c1, c2, c3, c4, c5, c6, c7⟩ := box_cells x1
  clear hb1 x1 h hz
  go_wp2
  all_goals
    clear c0 c1 c2 c3 c4 c5 c6 c7
    go_ret
    refine ⟨ret_b ?_, hb2⟩
    clear hb2
    symm
    first
      | (refine HI.out.2 ⟨by assumption, by assumption, by assumption, by assumption, by assumption, by assumption, by omega, by omega, by assumption, ?_, ?_, ?_, ?_⟩; (first | exact .inl (by assumption) | exact .inr (by assumption)); (first | exact .inl (by assumption) | exact .inr (by assumption)); (first | exact .inl (by assumption) | exact .inr (by assumption)); (first | exact .inl (by assumption) | exact .inr (by omega)))
      | (rw [← Bool.not_eq_true]
         intro hs
         obtain ⟨g1, g2, g3, g4, g5, g6, g7, g8, g9, g10, g11, g12, g13⟩ := HI.out.1 hs
         clear HI hs
         first
           | contradiction
           | omega
           | (rcases g10 with g10 | g10 <;> first
                | contradiction
                | (rcases g11 with g11 | g11 <;> first
                    | contradiction
                    | (rcases g12 with g12 | g12 <;> first
                        | contradiction
                        | (rcases g13 with g13 | g13 <;> first
                            | contradiction
                            | omega
                            | (simp_all; done)
                            | (simp_all; omega))))))
end Go.Proofs.YtlagmbieaicmgaaDoor
