/- The document's own table: Waits. -/
import Derived.Test.YtlagmbieaicmgaaQJ
namespace Go.Proofs.Ytlagmbieaicmgaa
open Go.RowKit Lk Go.Shelf

theorem rowR_succ (L : List L4) (x : Int) (n : Nat) : rowR L x (n + 1) = rowR L x n ++ if betB L x (1 + (n : Int)) then [⟨x, 1 + (n : Int)⟩] else [] := by
  unfold rowR
  rw [rangeI_succ, List.filter_append, List.map_append]
  congr 1
  rw [List.filter_cons, List.filter_nil]
  split <;> rfl
theorem rowR_len (L : List L4) (x : Int) (n : Nat) : (rowR L x n).length ≤ n := by
  unfold rowR
  rw [List.length_map]
  refine Nat.le_trans (List.length_filter_le _ _) ?_
  simp [rangeI]
theorem waitR_len (L : List L4) : ∀ n : Nat, (waitR L n).length ≤ n * 1000
  | 0 => by simp [waitR, rangeI]
  | n + 1 => by
    rw [waitR_succ, List.length_append]
    have h1 := waitR_len L n
    have h2 : (if busyB L (1 + (n : Int)) then rowR L (1 + (n : Int)) 1000 else []).length ≤ 1000 := by
      split
      · exact rowR_len _ _ _
      · exact Nat.zero_le _
    generalize (if busyB L (1 + (n : Int)) then rowR L (1 + (n : Int)) 1000 else []).length = q at *
    omega

set_option maxRecDepth 20000 in
set_option maxHeartbeats 8000000 in
theorem rWaits_any (w : World) (d : Nat) (m : Int) (L : List L4) (F : List Int) (D : Nat → Prop) (h : RT w d m L F D) (hn : L.length ≤ 1000) :
    Calls Try.prog 29 #[.pointer (some ⟨d, 0, none⟩)] w fun e w' => ∃ v, e = .returned v ∧ Own gl 2 81 w' v (waitR L 1000) ∧ Below w.heap.size w w' ∧ ∀ g, v.ownBlock = some g → w.heap.size ≤ g := by
  obtain ⟨vl, vf, h, -⟩ := h
  have H0 : Hid (RLd w d m L F vl vf) := h
  clear h
  go_enter Try.func29, Try.ntmps29
  go_wp2
  go_loopw [3, 4, 5, 6, 7] (fun s3 s4 _ _ _ wr => ∃ T : Int, 1 ≤ T ∧ T ≤ 1001 ∧ s4 = .int .i64 T ∧ Hid (Below w.heap.size w wr) ∧ Hid (Own gl 2 81 wr s3 (waitR L (T - 1).toNat) ∧ ∀ g, s3.ownBlock = some g → w.heap.size ≤ g)) (fun _ s4 _ _ _ _ => 1001 - (intOf s4).toNat)
  case atStart => exact ⟨1, by omega, by omega, rfl, Below.refl _ _, Own.nil _ _ _ _, fun g e => by simp [Value.ownBlock] at e⟩
  case round =>
    obtain ⟨T, hT1, hT2, rfl, BW, HO⟩ := hrel
    by_cases hT : T ≤ 1000
    · have hwa := rwaits_any wr d m L F vl vf T (H0.out.below BW.out) (by omega)
      generalize hbz : busyB L T = bb at hwa
      have HBB : Hid (busyB L T = bb) := hbz
      clear hbz
      go_wp2_with fail
      refine hwa.mono ?_
      rintro e wv ⟨rfl, hbv⟩
      have BV : Hid (Below w.heap.size w wv) := BW.out.trans (hbv.mono BW.out.size)
      have OV : Hid (Own gl 2 81 wv u3 (waitR L (T - 1).toNat) ∧ ∀ g, u3.ownBlock = some g → w.heap.size ≤ g) := ⟨own_below HO.out.1 hbv, HO.out.2⟩
      have WS : Hid (waitR L (T + 1 - 1).toNat = waitR L (T - 1).toNat ++ if bb then rowR L T 1000 else []) := by
        show _ = _
        rw [← HBB.out, show (T + 1 - 1).toNat = (T - 1).toNat + 1 by omega, waitR_succ, show 1 + (((T - 1).toNat : Nat) : Int) = T by omega]
      have WL : Hid ((waitR L (T - 1).toNat).length ≤ 1000000) := by
        show _ ≤ _
        have q1 : (T - 1).toNat ≤ 1000 := by omega
        have q2 := Nat.mul_le_mul_right 1000 q1
        have q3 := waitR_len L (T - 1).toNat
        omega
      clear hbv hwa BW HO
      clear wr
      generalize hv3 : u3 = v3 at *
      clear hv3
      go_wp2
      go_loopw [3, 6, 7] (fun s3 s6 _ wr => ∃ o : Int, 1 ≤ o ∧ o ≤ 1001 ∧ s6 = .int .i64 o ∧ Hid (bb = false → o = 1) ∧ Hid (Below w.heap.size w wr) ∧ Hid (Own gl 2 81 wr s3 (waitR L (T - 1).toNat ++ rowR L T (o - 1).toNat) ∧ ∀ g, s3.ownBlock = some g → w.heap.size ≤ g)) (fun _ s6 _ _ => 1001 - (intOf s6).toNat)
      case atStart => exact ⟨1, by omega, by omega, rfl, fun _ => rfl, BV, by simpa [rowR, rangeI] using OV.out.1, OV.out.2⟩
      case round =>
        obtain ⟨o, ho1, ho2, rfl, HB1, BW, HO⟩ := hrel
        have ENDS : Hid ((bb = true → o = 1001) → Own gl 2 81 wr u3 (waitR L (T + 1 - 1).toNat) ∧ ∀ g, u3.ownBlock = some g → w.heap.size ≤ g) := fun e => by
          refine ⟨?_, HO.out.2⟩
          have q := HO.out.1
          rw [WS.out]
          cases bb
          · rw [HB1.out rfl] at q
            simpa [rowR, rangeI] using q
          · rw [e rfl] at q
            exact q
        cases bb
        · have X2 : Hid (Own gl 2 81 wr u3 (waitR L (T + 1 - 1).toNat) ∧ ∀ g, u3.ownBlock = some g → w.heap.size ≤ g) := ENDS.out (fun e => by cases e)
          clear ENDS
          go_wp2
          go_roundw
          case rel => exact ⟨T + 1, by omega, by omega, rfl, BW, X2⟩
          case measure => simp [intOf]; omega
        · by_cases ho : o ≤ 1000
          · have hbe := rbetween_any wr d m L F vl vf T o (H0.out.below BW.out) (by omega)
            generalize hib : betB L T o = ib at hbe
            have RS : Hid (rowR L T (o + 1 - 1).toNat = rowR L T (o - 1).toNat ++ if ib then [⟨T, o⟩] else []) := by
              show _ = _
              rw [← hib, show (o + 1 - 1).toNat = (o - 1).toNat + 1 by omega, rowR_succ, show 1 + (((o - 1).toNat : Nat) : Int) = o by omega]
            have RL : Hid ((rowR L T (o - 1).toNat).length ≤ 1000) := Nat.le_trans (rowR_len _ _ _) (by omega)
            clear hib ENDS
            go_wp2_with fail
            refine hbe.mono ?_
            rintro e w2 ⟨rfl, hb2⟩
            have B2 : Hid (Below w.heap.size w w2) := BW.out.trans (hb2.mono BW.out.size)
            have O2 : Hid (Own gl 2 81 w2 u3 (waitR L (T - 1).toNat ++ rowR L T (o - 1).toNat) ∧ ∀ g, u3.ownBlock = some g → w.heap.size ≤ g) := ⟨own_below HO.out.1 hb2, HO.out.2⟩
            have h2w : Hid (wr.heap.size ≤ w2.heap.size) := hb2.size
            have hww : Hid (w.heap.size ≤ wr.heap.size) := BW.out.size
            clear hbe hb2
            cases ib
            · have X2 : Hid (Own gl 2 81 w2 u3 (waitR L (T - 1).toNat ++ rowR L T (o + 1 - 1).toNat) ∧ ∀ g, u3.ownBlock = some g → w.heap.size ≤ g) := by
                rw [RS.out]; exact ⟨by simpa using O2.out.1, O2.out.2⟩
              go_wp2
              go_roundw
              case rel => exact ⟨o + 1, by omega, by omega, rfl, (fun e => by cases e), B2, X2⟩
              case measure => simp [intOf]; omega
            · obtain ⟨pl, hpl⟩ : ∃ pl, pl = waitR L (T - 1).toNat ++ rowR L T (o - 1).toNat := ⟨_, rfl⟩
              have HPL : Hid (pl ++ [⟨T, o⟩] = waitR L (T - 1).toNat ++ rowR L T (o + 1 - 1).toNat) := by show _ = _; rw [hpl, RS.out, List.append_assoc]; rfl
              have HLN : Hid (pl.length ≤ 1001000) := by
                show _ ≤ _
                rw [hpl, List.length_append]
                have := WL.out; have := RL.out; omega
              rw [← hpl] at O2
              have O3 : Hid (Own gl 2 81 (w2.alloc (.cells #[.int .i64 T, .int .i64 o] 81)) u3 pl) := own_below O2.out.1 ((Below.refl _ _).alloc (Nat.le_refl _) _)
              clear hpl
              go_wp2_with (at_builtin; refine app_list el_wait _ rfl _ _ rfl u3 pl rfl O3.out (w2.heap.size) ⟨T, o⟩ #[.int .i64 T, .int .i64 o] 81 rfl (heap_new _ _) rfl (by have := HLN.out; omega) ?_)
              intro g cap' w4 ho' hf' hat hgl
              have ba := ((Below.refl w2.heap.size w2).alloc (Nat.le_refl _) (.cells #[.int .i64 T, .int .i64 o] 81))
              have X1 : Hid (Below w.heap.size w w4) := below_fr (B2.out.trans (ba.mono B2.out.size)) (Nat.le_refl _) hf' O2.out.2
              have X2 : Hid (Own gl 2 81 w4 (.slice (some ⟨g, 0, none⟩) (pl.length + 1) cap') (waitR L (T - 1).toNat ++ rowR L T (o + 1 - 1).toNat) ∧ ∀ g', (Value.slice (some ⟨g, 0, none⟩) (pl.length + 1) cap').ownBlock = some g' → w.heap.size ≤ g') := by
                refine ⟨by rw [← HPL.out]; exact ho', fun g' e => ?_⟩
                have e' : g = g' := by simpa [Value.ownBlock] using e
                subst e'
                rcases hat with q | q
                · exact O2.out.2 g q
                · have q' : w2.heap.size + 1 ≤ g := by simpa using q
                  have := h2w.out; have := hww.out
                  omega
              clear ho' hf' hat ba
              go_wp2
              go_roundw
              case rel => exact ⟨o + 1, by omega, by omega, rfl, (fun e => by cases e), X1, X2⟩
              case measure => simp [intOf]; omega
          · have X2 : Hid (Own gl 2 81 wr u3 (waitR L (T + 1 - 1).toNat) ∧ ∀ g, u3.ownBlock = some g → w.heap.size ≤ g) := ENDS.out (fun e => by omega)
            clear ENDS
            go_wp2
            go_roundw
            case rel => exact ⟨T + 1, by omega, by omega, rfl, BW, X2⟩
            case measure => simp [intOf]; omega
    · have eT : T = 1001 := by omega
      have X2 : Hid (Own gl 2 81 wr u3 (waitR L 1000) ∧ ∀ g, u3.ownBlock = some g → w.heap.size ≤ g) := by
        have := HO.out
        rw [eT] at this
        exact this
      clear eT
      go_wp2
      go_ret
      exact ⟨_, rfl, X2.out.1, BW.out, X2.out.2⟩
end Go.Proofs.Ytlagmbieaicmgaa
