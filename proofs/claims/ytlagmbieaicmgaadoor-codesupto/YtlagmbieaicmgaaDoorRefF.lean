/- The document's own answer: fields: a message's bytes, but for the check sum. -/
import Derived.Test.YtlagmbieaicmgaaDoorRefC
import Derived.Deep.RegionHeld3
namespace Go.Proofs.YtlagmbieaicmgaaDoor
open Go.RowKit Pact

/-- A message's box, as cells. -/
abbrev BoxS (N : Nat) (m : Msg) (ao : Option Addr) (cap : Nat) (w0 w : World) : Prop :=
  (w.cell? ⟨N, 0, none⟩ = some (.int .i64 m.kind) ∧ w.cell? ⟨N, 1, none⟩ = some (.int .i64 m.fr) ∧ w.cell? ⟨N, 2, none⟩ = some (.int .i64 m.to) ∧ w.cell? ⟨N, 3, none⟩ = some (.string m.group) ∧
    w.cell? ⟨N, 4, none⟩ = some (.int .i64 m.ballot) ∧ w.cell? ⟨N, 5, none⟩ = some (.int .i64 m.slot) ∧ w.cell? ⟨N, 6, none⟩ = some (.string m.value) ∧ w.cell? ⟨N, 7, none⟩ = some (.slice ao m.ents.length cap)) ∧
  Below w0.heap.size w0 w

theorem BoxS.start {N : Nat} {m : Msg} {ao : Option Addr} {cap : Nat} {w : World} (h : w.heap[N]? = some (boxO 24 m ao cap)) : BoxS N m ao cap w w := ⟨box_cells h, Below.refl _ _⟩
theorem BoxS.below {N : Nat} {m : Msg} {ao : Option Addr} {cap : Nat} {w0 w w' : World} (h : BoxS N m ao cap w0 w) (hb : Below w.heap.size w w') : BoxS N m ao cap w0 w' := by
  obtain ⟨⟨h0, h1, h2, h3, h4, h5, h6, h7⟩, hw⟩ := h
  have hN := cell_lt h0
  refine ⟨⟨?_, ?_, ?_, ?_, ?_, ?_, ?_, ?_⟩, hw.trans (hb.mono hw.size)⟩
  · exact (hb.cell (p := ⟨N, 0, none⟩) hN).trans h0
  · exact (hb.cell (p := ⟨N, 1, none⟩) hN).trans h1
  · exact (hb.cell (p := ⟨N, 2, none⟩) hN).trans h2
  · exact (hb.cell (p := ⟨N, 3, none⟩) hN).trans h3
  · exact (hb.cell (p := ⟨N, 4, none⟩) hN).trans h4
  · exact (hb.cell (p := ⟨N, 5, none⟩) hN).trans h5
  · exact (hb.cell (p := ⟨N, 6, none⟩) hN).trans h6
  · exact (hb.cell (p := ⟨N, 7, none⟩) hN).trans h7
theorem BoxS.drew {N : Nat} {m : Msg} {ao : Option Addr} {cap : Nat} {w0 w : World} (h : BoxS N m ao cap w0 w) : BoxS N m ao cap w0 w.drew := ⟨h.1, h.2.drew⟩

abbrev EntS (N : Nat) (e : Ent) (w0 w : World) : Prop :=
  (w.cell? ⟨N, 0, none⟩ = some (.int .i64 e.slot) ∧ w.cell? ⟨N, 1, none⟩ = some (.int .i64 e.ballot) ∧ w.cell? ⟨N, 2, none⟩ = some (.string e.value)) ∧ Below w0.heap.size w0 w
theorem EntS.start {N : Nat} {e : Ent} {w : World} (h : w.heap[N]? = some (.cells #[.int .i64 e.slot, .int .i64 e.ballot, .string e.value] 53 (0, 0))) : EntS N e w w :=
  ⟨⟨by rw [cell_of_heap h]; rfl, by rw [cell_of_heap h]; rfl, by rw [cell_of_heap h]; rfl⟩, Below.refl _ _⟩
theorem EntS.below {N : Nat} {e : Ent} {w0 w w' : World} (h : EntS N e w0 w) (hb : Below w.heap.size w w') : EntS N e w0 w' := by
  obtain ⟨⟨h0, h1, h2⟩, hw⟩ := h
  have hN := cell_lt h0
  exact ⟨⟨(hb.cell (p := ⟨N, 0, none⟩) hN).trans h0, (hb.cell (p := ⟨N, 1, none⟩) hN).trans h1, (hb.cell (p := ⟨N, 2, none⟩) hN).trans h2⟩, hw.trans (hb.mono hw.size)⟩
theorem EntS.drew {N : Nat} {e : Ent} {w0 w : World} (h : EntS N e w0 w) : EntS N e w0 w.drew := ⟨h.1, h.2.drew⟩

theorem high_int (x : Int) (k : Nat) (w : World) (hk : k ≤ 3) (h0 : 0 ≤ x) (hx : x < 16777216) :
    Calls Tryd.prog 48 #[.int .i64 x, .int .i64 k] w fun e w' => e = .returned (.string ⟨(numB x.toNat k).toArray⟩) ∧ Below w.heap.size w w' := by
  obtain ⟨n, rfl⟩ := Int.eq_ofNat_of_zero_le h0
  exact high_any n k w hk (by omega)

theorem str_add' {a b c : List UInt8} (hc : c = a ++ b) (h : a.length + b.length ≤ 1000000000) (W : World) : (Op.stringOp .add ⟨a.toArray⟩ ⟨b.toArray⟩).run Tryd.prog W = .ok (.string ⟨c.toArray⟩) W := by
  rw [hc]; exact str_add a b W h

theorem numB_one (x : Nat) : numB x 1 = [UInt8.ofNat x] := by simp [numB, List.range_succ]

theorem str_addB {a c : List UInt8} {b : ByteArray} (hc : c = a ++ b.data.toList) (h : a.length + b.size ≤ 1000000000) (W : World) : (Op.stringOp .add ⟨a.toArray⟩ b).run Tryd.prog W = .ok (.string ⟨c.toArray⟩) W := by
  have hb : b = ⟨b.data.toList.toArray⟩ := by simp
  have hl : b.data.toList.length = b.size := by simp
  rw [hb]
  exact str_add' hc (by omega) W

set_option maxHeartbeats 2000000 in
theorem fields_any (m : Msg) (ao : Option Addr) (cap : Nat) (w : World) (hf : Fit m) (hents : EntsIn w ao m.ents) :
    Calls Tryd.prog 28 #[msgV m ao cap] w fun e w' => e = .returned (.string ⟨(bodyB m).toArray⟩) ∧ Below w.heap.size w w' := by
  have b1 := hf.kind.1
  have b1' := hf.kind.2
  have b2 := hf.fr.1
  have b2' := hf.fr.2
  have b3 := hf.to.1
  have b3' := hf.to.2
  obtain ⟨L1, hL1⟩ : ∃ L, L = [77] ++ numB m.kind.toNat 1 := ⟨_, rfl⟩
  obtain ⟨L2, hL2⟩ : ∃ L, L = L1 ++ numB m.fr.toNat 1 := ⟨_, rfl⟩
  obtain ⟨L3, hL3⟩ : ∃ L, L = L2 ++ numB m.to.toNat 1 := ⟨_, rfl⟩
  have a1 := str_add' hL1 (by simp [numB_length])
  have a2 := str_add' hL2 (by simp [hL1, numB_length])
  have a3 := str_add' hL3 (by simp [hL2, hL1, numB_length])
  have H1 : Hid (L1 = _) := hL1
  have H2 : Hid (L2 = _) := hL2
  have H3 : Hid (L3 = _) := hL3
  clear hL1 hL2 hL3
  go_enter Tryd.func28, Tryd.ntmps28
  go_wp2
  have s0 : BoxS w.heap.size m ao cap (w.alloc (boxO 24 m ao cap)) (w.alloc (boxO 24 m ao cap)) := BoxS.start (heap_new _ _)
  go_region_held3 (fun w' => BoxS w.heap.size m ao cap (w.alloc (boxO 24 m ao cap)) w') (first | exact s0.drew | (refine BoxS.below ?_ (by assumption); assumption)) (first | (go_at_call 48; refine (high_int _ 1 _ (by omega) (by assumption) (by omega)).mono ?_; rintro e w' ⟨rfl, hb⟩))
  have s1 := (by assumption : BoxS w.heap.size m ao cap (w.alloc (boxO 24 m ao cap)) _)
  clear a1 a2 a3
  have d1 := hf.group
  have d2 := hf.value
  have d3 := hf.len
  have d4 := hf.ballot.1
  have d4' := hf.ballot.2
  have d5 := hf.slot.1
  have d5' := hf.slot.2
  have l3 : L3.length = 4 := by rw [H3.out, H2.out, H1.out]; simp [numB_length]
  obtain ⟨L4, hL4⟩ : ∃ L, L = L3 ++ numB m.group.size 1 := ⟨_, rfl⟩
  obtain ⟨L5, hL5⟩ : ∃ L, L = L4 ++ m.group.data.toList := ⟨_, rfl⟩
  obtain ⟨L6, hL6⟩ : ∃ L, L = L5 ++ numB m.ballot.toNat 3 := ⟨_, rfl⟩
  obtain ⟨L7, hL7⟩ : ∃ L, L = L6 ++ numB m.slot.toNat 2 := ⟨_, rfl⟩
  obtain ⟨L8, hL8⟩ : ∃ L, L = L7 ++ numB m.value.size 1 := ⟨_, rfl⟩
  obtain ⟨L9, hL9⟩ : ∃ L, L = L8 ++ m.value.data.toList := ⟨_, rfl⟩
  obtain ⟨L10, hL10⟩ : ∃ L, L = L9 ++ numB m.ents.length 1 := ⟨_, rfl⟩
  have l4 : L4.length = 5 := by rw [hL4, List.length_append, numB_length]; omega
  have l5 : L5.length = 5 + m.group.size := by rw [hL5, List.length_append, l4]; simp
  have l6 : L6.length = 8 + m.group.size := by rw [hL6, List.length_append, numB_length, l5]; omega
  have l7 : L7.length = 10 + m.group.size := by rw [hL7, List.length_append, numB_length, l6]; omega
  have l8 : L8.length = 11 + m.group.size := by rw [hL8, List.length_append, numB_length, l7]; omega
  have l9 : L9.length = 11 + m.group.size + m.value.size := by rw [hL9, List.length_append, l8]; simp
  have l10 : L10.length ≤ 1000 := by rw [hL10, List.length_append, numB_length, l9]; omega
  have a4 := str_add' hL4 (by rw [numB_length]; omega)
  have a5 := str_addB hL5 (by omega)
  have a6 := str_add' hL6 (by rw [numB_length]; omega)
  have a7 := str_add' hL7 (by rw [numB_length]; omega)
  have a8 := str_add' hL8 (by rw [numB_length]; omega)
  have a9 := str_addB hL9 (by omega)
  have a10 := str_add' hL10 (by rw [numB_length]; omega)
  have HB : Hid (bodyB m = L10 ++ entsB m.ents) := by
    show _ = _
    rw [hL10, hL9, hL8, hL7, hL6, hL5, hL4, H3.out, H2.out, H1.out]
    simp [bodyB, headB, textB, numB_one]
  clear l3 l4 l5 l6 l7 l8 l9 hL4 hL5 hL6 hL7 hL8 hL9 hL10 H1 H2 H3
  go_wp2
  go_region_held3 (fun w' => BoxS w.heap.size m ao cap (w.alloc (boxO 24 m ao cap)) w') (first | exact s1.drew | (refine BoxS.below ?_ (by assumption); assumption)) (first | (go_at_call_of 48 (Value.int .i64 3); refine (high_int _ 3 _ (by omega) (by assumption) (by omega)).mono ?_; rintro e w' ⟨rfl, hb⟩) | (go_at_call_of 48 (Value.int .i64 2); refine (high_int _ 2 _ (by omega) (by assumption) (by omega)).mono ?_; rintro e w' ⟨rfl, hb⟩) | (go_at_call 48; refine (high_int _ 1 _ (by omega) (by omega) (by omega)).mono ?_; rintro e w' ⟨rfl, hb⟩))
  have s2 := (by assumption : BoxS w.heap.size m ao cap (w.alloc (boxO 24 m ao cap)) _)
  clear s0 s1 a4 a5 a6 a7 a8 a9 a10 b1 b1' b2 b2' b3 b3' d1 d2 d4 d4' d5 d5'
  go_wp2
  go_loopw [3, 4, 5] (fun t i _ wr => ∃ k : Nat, k ≤ m.ents.length ∧ i = .int .i64 k ∧ t = .string ⟨(L10 ++ entsB (m.ents.take k)).toArray⟩ ∧ BoxS w.heap.size m ao cap (w.alloc (boxO 24 m ao cap)) wr) (fun _ i _ _ => m.ents.length - (intOf i).toNat)
  case atStart => exact ⟨0, Nat.zero_le _, rfl, by simp [entsB], s2⟩
  case round =>
    obtain ⟨k, hk, rfl, rfl, s3⟩ := hrel
    clear s2
    have hb3 : Below w.heap.size w wr := ((Below.refl _ _).alloc (Nat.le_refl _) _).trans (s3.2.mono (by simp))
    have S3 : Hid (BoxS w.heap.size m ao cap (w.alloc (boxO 24 m ao cap)) wr) := s3
    obtain ⟨⟨c0, c1, c2, c3, c4, c5, c6, c7⟩, _⟩ := s3
    have hN := cell_lt c0
    by_cases hlt : k < m.ents.length
    · obtain ⟨b, off, hao, hc⟩ := hents.resolve_left (fun e => by rw [e] at hlt; simp at hlt)
      subst hao
      obtain ⟨q0, q1, q2⟩ := hc.below hb3 (cell_lt (hc k hlt).1) k hlt
      obtain ⟨f1, f2, f3, f4, f5⟩ := hf.ents m.ents[k] (List.getElem_mem hlt)
      have hlr : (L10 ++ entsB (m.ents.take k)).length ≤ 100000 := by
        have := entsB_le (m.ents.take k) fun e he => hf.ents e (List.mem_of_mem_take he)
        simp only [List.length_append]
        have h2 : (m.ents.take k).length ≤ 255 := by simp; omega
        omega
      have HT : Hid (entsB (m.ents.take (k + 1)) = entsB (m.ents.take k) ++ (UInt8.ofNat m.ents[k].slot.toNat :: (numB m.ents[k].ballot.toNat 3 ++ textB m.ents[k].value))) := entsB_take m.ents k hlt
      generalize m.ents[k] = e at *
      generalize hq : L10 ++ entsB (m.ents.take k) = q at *
      have HQ : Hid (L10 ++ entsB (m.ents.take k) = q) := hq
      clear hq hc
      obtain ⟨M1, hM1⟩ : ∃ L, L = q ++ numB e.slot.toNat 1 := ⟨_, rfl⟩
      obtain ⟨M2, hM2⟩ : ∃ L, L = M1 ++ numB e.ballot.toNat 3 := ⟨_, rfl⟩
      obtain ⟨M3, hM3⟩ : ∃ L, L = M2 ++ numB e.value.size 1 := ⟨_, rfl⟩
      obtain ⟨M4, hM4⟩ : ∃ L, L = M3 ++ e.value.data.toList := ⟨_, rfl⟩
      have n1 : M1.length ≤ 100001 := by rw [hM1, List.length_append, numB_length]; omega
      have n2 : M2.length ≤ 100004 := by rw [hM2, List.length_append, numB_length]; omega
      have n3 : M3.length ≤ 100005 := by rw [hM3, List.length_append, numB_length]; omega
      have a1 := str_add' hM1 (by rw [numB_length]; omega)
      have a2 := str_add' hM2 (by rw [numB_length]; omega)
      have a3 := str_add' hM3 (by rw [numB_length]; omega)
      have a4 := str_addB hM4 (by omega)
      have HM : Hid (L10 ++ entsB (m.ents.take (k + 1)) = M4) := by
        show _ = _
        rw [HT.out, hM4, hM3, hM2, hM1, ← HQ.out]
        simp [textB, numB_one]
      clear HT HQ hM1 hM2 hM3 hM4 n1 n2 n3
      go_wp2
      have t0 : EntS wr.heap.size e (wr.alloc (.cells #[.int .i64 e.slot, .int .i64 e.ballot, .string e.value] 53)) (wr.alloc (.cells #[.int .i64 e.slot, .int .i64 e.ballot, .string e.value] 53)) := EntS.start (heap_new _ _)
      go_region_held3 (fun w' => EntS wr.heap.size e (wr.alloc (.cells #[.int .i64 e.slot, .int .i64 e.ballot, .string e.value] 53)) w') (first | exact t0.drew | (refine EntS.below ?_ (by assumption); assumption)) (first | (go_at_call_of 48 (Value.int .i64 3); refine (high_int _ 3 _ (by omega) (by assumption) (by omega)).mono ?_; rintro e w' ⟨rfl, hb⟩) | (go_at_call 48; refine (high_int _ 1 _ (by omega) (by omega) (by omega)).mono ?_; rintro e w' ⟨rfl, hb⟩))
      have t1 := (by assumption : EntS wr.heap.size e (wr.alloc (.cells #[.int .i64 e.slot, .int .i64 e.ballot, .string e.value] 53)) _)
      go_wp2
      go_roundw
      case rel => exact ⟨k + 1, by omega, by go_num, val_str HM.out.symm, BoxS.below (BoxS.below S3.out ((Below.refl _ _).alloc (Nat.le_refl _) _)) t1.2⟩
      case measure => simp [intOf]; omega
    · have HE : Hid (L10 ++ entsB (m.ents.take k) = bodyB m) := by
        show _ = _
        rw [HB.out, List.take_of_length_le (by omega)]
      rw [HE.out]
      go_wp2
      go_ret
      exact ⟨rfl, hb3⟩
end Go.Proofs.YtlagmbieaicmgaaDoor
