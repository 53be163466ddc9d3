/- The statement's own helpers: whole, encoded. -/
import Derived.Test.YtlagmbieaicmgaaDoorRefO
namespace Go.Proofs.YtlagmbieaicmgaaDoor
open Go.RowKit Pact

theorem Roomy.ents {w : World} {g : Nat} {es : List Ent} (h : Roomy w g es) : EntsIn w (some ⟨g, 0, none⟩) es := .inr ⟨g, 0, rfl, h.1⟩
theorem Roomy.lt {w : World} {g : Nat} {es : List Ent} (h : Roomy w g es) : g < w.heap.size := cell_lt (h.2 0 (by omega))
theorem Roomy.below {w w' : World} {g : Nat} {es : List Ent} (h : Roomy w g es) (hb : Below w.heap.size w w') : Roomy w' g es := h.block (hb.block g h.lt)

set_option maxHeartbeats 1000000 in
theorem whole_any (m : Msg) (g : Nat) (ao : Option Addr) (cap : Nat) (w : World) (hn : m.ents.length ≤ 1048576) (hr : Roomy w g m.ents) (he : EntsIn w ao m.ents) :
    Calls Tryd.prog 16 #[msgV m (some ⟨g, 0, none⟩) (m.ents.length + 8), msgV m ao cap] w fun e w' => e = .returned (.bool true) ∧ Below w.heap.size w w' := by
  have hml : m.ents.length ≤ maxLen := by unfold maxLen; omega
  go_enter Tryd.func16, Tryd.ntmps16
  go_wp2_with fail
  refine (rsame_any m (some ⟨g, 0, none⟩) ao (m.ents.length + 8) cap _ hml (hr.ents.below (below2 _ _ _)) (he.below (below2 _ _ _))).mono ?_
  rintro e w1 ⟨rfl, hb⟩
  have x1 : w1.heap[w.heap.size]? = some (boxO 24 m (some ⟨g, 0, none⟩) (m.ents.length + 8)) := (hb.block _ (by simp; omega)).trans (heap2 _ _ _)
  have B1 : Below w.heap.size w w1 := (below2 _ _ _).trans (hb.mono (by simp; omega))
  have r1 := hr.below B1
  have HB : Hid (Below w.heap.size w w1) := B1
  clear hb B1
  obtain ⟨c0, c1, c2, c3, c4, c5, c6, c7⟩ := box_cells x1
  have hk := r1.2
  clear x1 r1 hr he
  go_wp2_with fail
  go_loopw [5, 8] (fun b i wr => ∃ k : Nat, k ≤ 8 ∧ b = .bool true ∧ i = .int .i64 ((m.ents.length + k : Nat) : Int) ∧ wr = w1) (fun _ i _ => m.ents.length + 8 - (intOf i).toNat)
  case atStart => exact ⟨0, Nat.zero_le _, rfl, rfl, rfl⟩
  case round =>
    obtain ⟨k, hk8, rfl, rfl, rfl⟩ := hrel
    by_cases hlt : k < 8
    · have q0 := hk k hlt
      go_wp2_with fail
      refine ⟨⟨k + 1, by omega, rfl, val_int (by omega), trivial⟩, ?_⟩
      simp [intOf]; omega
    · have hke : k = 8 := by omega
      subst hke
      go_wp2
      go_ret
      exact ⟨rfl, HB.out⟩

def encS (m : Msg) : ByteArray × Int := if sendB m = true then (encB m, 0) else (⟨#[]⟩, 1)

theorem encode_u (m : Msg) (ao : Option Addr) (cap : Nat) (w : World) (hn : m.ents.length ≤ maxLen) (he : EntsIn w ao m.ents) (hT : TabAt w) :
    Calls Tryd.prog 9 #[msgV m ao cap] w fun e w' => e = .returned (.tuple #[.string (encS m).1, .int .i64 (encS m).2]) ∧ Below w.heap.size w w' := by
  unfold encS
  cases h : sendB m with
  | true => exact encode_yes m ao cap w h hn he hT
  | false => exact encode_no m ao cap w h hn he

theorem rencode_u (m : Msg) (ao : Option Addr) (cap : Nat) (w : World) (he : EntsIn w ao m.ents) :
    Calls Tryd.prog 15 #[msgV m ao cap] w fun e w' => e = .returned (.tuple #[.string (encS m).1, .int .i64 (encS m).2]) ∧ Below w.heap.size w w' := by
  unfold encS
  cases h : sendB m with
  | true => exact rencode_yes m ao cap w h he
  | false => exact rencode_no m ao cap w h he

set_option maxHeartbeats 1000000 in
theorem encoded_any (m : Msg) (ao : Option Addr) (cap : Nat) (w : World) (hn : m.ents.length ≤ 1048576) (he : EntsIn w ao m.ents) (hT : TabAt w) :
    Calls Tryd.prog 5 #[msgV m ao cap] w fun e w' => e = .returned (.bool true) ∧ Below w.heap.size w w' := by
  have hml : m.ents.length ≤ maxLen := by unfold maxLen; omega
  have hb0 : 0 < w.heap.size := cell_lt (hT 0 (by omega))
  have E1 := fun ao cap w => encode_u m ao cap w hml
  have E2 := fun ao cap w => rencode_u m ao cap w
  generalize (encS m).1 = S at *
  generalize (encS m).2 = E at *
  go_enter Tryd.func5, Tryd.ntmps5
  go_wp2_with fail
  refine (roomy_any m ao cap _ hn (he.below (bel_alloc _ _))).mono ?_
  rintro e w1 ⟨g, rfl, r1, hb⟩
  have x1 : w1.heap[w.heap.size]? = some (boxO 24 m ao cap) := (hb.block _ (by simp)).trans (heap_new _ _)
  have B1 : Below w.heap.size w w1 := (bel_alloc _ _).trans (hb.mono (by simp))
  clear hb
  have hx1 := (Array.getElem?_eq_some_iff.1 x1).1
  obtain ⟨c0, c1, c2, c3, c4, c5, c6, c7⟩ := box_cells x1
  unfold msgV
  go_wp2_with fail
  clear c0 c1 c2 c3 c4 c5 c6 c7
  refine (E1 (some ⟨g, 0, none⟩) (m.ents.length + 8) _ (r1.ents.below (bel_alloc _ _)) (hT.below (B1.trans ((bel_alloc _ _).mono B1.size)) hb0)).mono ?_
  rintro e w2 ⟨rfl, hb⟩
  have y2 : w2.heap[w1.heap.size]? = some (boxO 24 m (some ⟨g, 0, none⟩) (m.ents.length + 8)) := (hb.block _ (by simp)).trans (heap_new _ _)
  have x2 : w2.heap[w.heap.size]? = some (boxO 24 m ao cap) := (hb.block _ (by simp; omega)).trans (keep_alloc x1 _)
  have hb2 : Below w1.heap.size w1 w2 := (bel_alloc _ _).trans (hb.mono (by simp))
  have B2 : Below w.heap.size w w2 := B1.trans (hb2.mono B1.size)
  have r2 := r1.below hb2
  clear hb hb2 x1 B1 r1 hx1 E1
  obtain ⟨c0, c1, c2, c3, c4, c5, c6, c7⟩ := box_cells x2
  go_wp2_with fail
  clear c0 c1 c2 c3 c4 c5 c6 c7
  refine (E2 ao cap _ (he.below B2)).mono ?_
  rintro e w3 ⟨rfl, hb⟩
  have y3 := (hb.block _ (Array.getElem?_eq_some_iff.1 y2).1).trans y2
  have x3 := (hb.block _ (Array.getElem?_eq_some_iff.1 x2).1).trans x2
  have B3 : Below w.heap.size w w3 := B2.trans (hb.mono B2.size)
  have r3 := r2.below hb
  clear hb x2 y2 B2 r2 E2
  obtain ⟨c0, c1, c2, c3, c4, c5, c6, c7⟩ := box_cells x3
  obtain ⟨d0, d1, d2, d3, d4, d5, d6, d7⟩ := box_cells y3
  go_wp2_with fail
  refine (whole_any m g ao cap _ hn r3 (he.below B3)).mono ?_
  rintro e w4 ⟨rfl, hb⟩
  have B4 : Below w.heap.size w w4 := B3.trans (hb.mono B3.size)
  clear hb x3 y3 B3 r3 c0 c1 c2 c3 c4 c5 c6 c7 d0 d1 d2 d3 d4 d5 d6 d7
  go_wp2
  go_ret
  exact ⟨rfl, B4⟩
end Go.Proofs.YtlagmbieaicmgaaDoor
