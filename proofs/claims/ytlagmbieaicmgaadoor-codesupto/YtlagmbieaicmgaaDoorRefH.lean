/- The document's own answer: Encode, and Same of what is the same. -/
import Derived.Test.YtlagmbieaicmgaaDoorRefD
import Derived.Test.YtlagmbieaicmgaaDoorRefE
import Derived.Test.YtlagmbieaicmgaaDoorRefF
import Derived.Test.YtlagmbieaicmgaaDoorWalkD
import Derived.Test.YtlagmbieaicmgaaDoorWalkI
import Derived.Laws.StructEq
namespace Go.Proofs.YtlagmbieaicmgaaDoor
open Go.RowKit Pact

theorem can_any (m : Msg) (ao : Option Addr) (cap : Nat) (w : World) (h : EntsIn w ao m.ents) :
    Calls Tryd.prog 27 #[msgV m ao cap] w fun e w' => e = .returned (.bool (sendB m)) ∧ Below w.heap.size w w' := by
  by_cases hk : 7 < m.kind
  · exact can_high m ao cap w h hk
  · exact can_low m ao cap w h hk

theorem body_le (m : Msg) (hf : Fit m) : (bodyB m).length ≤ 100000 := by
  have d1 := hf.group
  have d2 := hf.value
  have d3 := hf.len
  have := entsB_le m.ents fun e he => hf.ents e he
  simp [bodyB, headB, textB, numB_length]
  omega

set_option maxHeartbeats 400000 in
theorem rencode_yes (m : Msg) (ao : Option Addr) (cap : Nat) (w : World) (hs : sendB m = true) (hents : EntsIn w ao m.ents) :
    Calls Tryd.prog 15 #[msgV m ao cap] w fun e w' => e = .returned (.tuple #[.string (encB m), .int .i64 0]) ∧ Below w.heap.size w w' := by
  unfold encB
  have hf := sendB_fit hs
  have hl := body_le m hf
  go_enter Tryd.func15, Tryd.ntmps15
  go_wp2_with fail
  refine (can_any m ao cap _ (hents.below ((Below.refl _ _).alloc (Nat.le_refl _) _))).mono ?_
  rintro e w1 ⟨rfl, hb1⟩
  have hx1 : w1.heap[w.heap.size]? = some (boxO 24 m ao cap) := (hb1.block _ (by simp)).trans (heap_new _ _)
  have hb2 : Below w.heap.size w w1 := ((Below.refl _ _).alloc (Nat.le_refl _) _).trans (hb1.mono (by simp))
  obtain ⟨c0, c1, c2, c3, c4, c5, c6, c7⟩ := box_cells hx1
  clear hb1 hx1
  go_wp2_with fail
  refine (fields_any m ao cap _ hf (hents.below hb2)).mono ?_
  rintro e w2 ⟨rfl, hb3⟩
  have hb4 := hb2.trans (hb3.mono (hb2.size))
  clear hb3 hb2 c0 c1 c2 c3 c4 c5 c6 c7
  generalize hbm : bodyB m = l at *
  have HB : Hid (bodyB m = l) := hbm
  clear hbm
  go_wp2_with fail
  refine (sum_any ⟨l.toArray⟩ _ (by unfold maxLen; show l.toArray.size ≤ _; simp; omega)).mono ?_
  rintro e w3 ⟨rfl, rfl⟩
  have hs4 : 4294967295 - crc 4294967295 l < 4294967296 := by omega
  have HS : Hid (low4 (4294967295 - crc 4294967295 l) = sumOf l) := rfl
  have hq : (⟨l.toArray⟩ : ByteArray).data.toList = l := rfl
  rw [hq]
  clear hq
  generalize 4294967295 - crc 4294967295 l = q at *
  go_wp2_with fail
  refine (low_any q _ hs4).mono ?_
  rintro e w4 ⟨rfl, hb5⟩
  have hb6 := hb4.trans (hb5.mono hb4.size)
  clear hb5 hb4
  have ha := str_add l (low4 q) w4 (by simp [low4]; omega)
  go_wp2
  go_ret2
  exact ⟨ret_two (val_str (by rw [HS.out, HB.out])) rfl, hb6⟩

set_option maxHeartbeats 400000 in
theorem rencode_no (m : Msg) (ao : Option Addr) (cap : Nat) (w : World) (hs : sendB m = false) (hents : EntsIn w ao m.ents) :
    Calls Tryd.prog 15 #[msgV m ao cap] w fun e w' => e = .returned (.tuple #[.string ⟨#[]⟩, .int .i64 1]) ∧ Below w.heap.size w w' := by
  go_enter Tryd.func15, Tryd.ntmps15
  go_wp2_with fail
  refine (can_any m ao cap _ (hents.below ((Below.refl _ _).alloc (Nat.le_refl _) _))).mono ?_
  rintro e w1 ⟨rfl, hb1⟩
  have hb2 : Below w.heap.size w w1 := ((Below.refl _ _).alloc (Nat.le_refl _) _).trans (hb1.mono (by simp))
  clear hb1
  go_wp2
  go_ret2
  exact ⟨rfl, hb2⟩

set_option maxHeartbeats 1000000 in
theorem rsame_some (m : Msg) (b off cap b' off' cap' : Nat) (w : World) (hn : m.ents.length ≤ maxLen) (hc : EntCells w b off m.ents) (hc' : EntCells w b' off' m.ents) (hb : b < w.heap.size) (hb' : b' < w.heap.size) :
    Calls Tryd.prog 18 #[msgV m (some ⟨b, off, none⟩) cap, msgV m (some ⟨b', off', none⟩) cap'] w fun e w' => e = .returned (.bool true) ∧ Below w.heap.size w w' := by
  unfold maxLen at hn
  go_enter Tryd.func18, Tryd.ntmps18
  have hw2 := below2 w (boxO 24 m (some ⟨b, off, none⟩) cap) (boxO 24 m (some ⟨b', off', none⟩) cap')
  have k1 := hc.below hw2 hb
  have k2 := hc'.below hw2 hb'
  have x1 := heap2 w (boxO 24 m (some ⟨b, off, none⟩) cap) (boxO 24 m (some ⟨b', off', none⟩) cap')
  have x2 := heap2b w (boxO 24 m (some ⟨b, off, none⟩) cap) (boxO 24 m (some ⟨b', off', none⟩) cap')
  obtain ⟨c0, c1, c2, c3, c4, c5, c6, c7⟩ := box_cells x1
  obtain ⟨d0, d1, d2, d3, d4, d5, d6, d7⟩ := box_cells x2
  clear x1 x2
  have H2 : Hid (Below w.heap.size w _) := hw2
  clear hw2 hc hc'
  go_wp2
  go_loopw [5] (fun i wr => ∃ k : Nat, k ≤ m.ents.length ∧ i = .int .i64 k ∧ ∃ q, wr = ((w.alloc (boxO 24 m (some ⟨b, off, none⟩) cap)).alloc (boxO 24 m (some ⟨b', off', none⟩) cap')).drewN q) (fun i _ => m.ents.length - (intOf i).toNat)
  case atStart => exact ⟨0, Nat.zero_le _, rfl, 0, rfl⟩
  case round =>
    obtain ⟨k, hk, rfl, q, rfl⟩ := hrel
    by_cases hlt : k < m.ents.length
    · obtain ⟨q0, q1, q2⟩ := k1 k hlt
      obtain ⟨r0, r1, r2⟩ := k2 k hlt
      generalize m.ents[k] = e at *
      go_wp2
      go_quiet (fail)
      go_wp2
      go_roundw
      case rel => exact ⟨k + 1, by omega, by go_num, q + _, rfl⟩
      case measure => simp [intOf]; omega
    · go_wp2
      go_ret
      exact ⟨rfl, below_drewN H2.out _⟩

set_option maxHeartbeats 1000000 in
theorem rsame_none (m : Msg) (ao ao' : Option Addr) (cap cap' : Nat) (w : World) (he : m.ents.length = 0) :
    Calls Tryd.prog 18 #[msgV m ao cap, msgV m ao' cap'] w fun e w' => e = .returned (.bool true) ∧ Below w.heap.size w w' := by
  go_enter Tryd.func18, Tryd.ntmps18
  obtain ⟨c0, c1, c2, c3, c4, c5, c6, c7⟩ := box_cells (heap2 w (boxO 24 m ao cap) (boxO 24 m ao' cap'))
  obtain ⟨d0, d1, d2, d3, d4, d5, d6, d7⟩ := box_cells (heap2b w (boxO 24 m ao cap) (boxO 24 m ao' cap'))
  rw [he] at c7 d7
  go_wp2
  refine wp_loop_rounds 1 ?_
  rw [rounds_succ]
  go_wp2
  go_ret
  exact ⟨rfl, below2 _ _ _⟩

theorem rsame_any (m : Msg) (ao ao' : Option Addr) (cap cap' : Nat) (w : World) (hn : m.ents.length ≤ maxLen) (h : EntsIn w ao m.ents) (h' : EntsIn w ao' m.ents) :
    Calls Tryd.prog 18 #[msgV m ao cap, msgV m ao' cap'] w fun e w' => e = .returned (.bool true) ∧ Below w.heap.size w w' := by
  by_cases he : m.ents = []
  · exact rsame_none m ao ao' cap cap' w (by rw [he]; rfl)
  · have hp : 0 < m.ents.length := List.length_pos_iff.2 he
    obtain ⟨b, off, rfl, hc⟩ := h.resolve_left he
    obtain ⟨b', off', rfl, hc'⟩ := h'.resolve_left he
    exact rsame_some m b off cap b' off' cap' w hn hc hc' (cell_lt (hc 0 hp).1) (cell_lt (hc' 0 hp).1)
end Go.Proofs.YtlagmbieaicmgaaDoor
