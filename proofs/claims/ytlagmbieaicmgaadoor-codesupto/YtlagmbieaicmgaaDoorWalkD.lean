/- Write: the bytes of a message that fits them. -/
import Derived.Test.YtlagmbieaicmgaaDoorWalkB
import Derived.Test.YtlagmbieaicmgaaDoorWalkC
import Derived.Test.YtlagmbieaicmgaaDoorWalkA
namespace Go.Proofs.YtlagmbieaicmgaaDoor
open Go.RowKit Pact

theorem conv_owned {w : World} {base : Nat} {v : Value} {l : List UInt8} (h : w.ownsRow base 5 1 v l.length (bc l)) (hne : l ≠ []) :
    (convert 51 9 v).run Tryd.prog w = .ok (.string ⟨l.toArray⟩) w := by
  have hp : 0 < l.length := List.length_pos_iff.2 hne
  rcases h.2 with ⟨_, hn⟩ | ⟨g, cap, cur, hv, _, hh, _, _, hcs, htake⟩
  · omega
  · subst hv
    refine run_convert_bytes_back _ 51 9 5 ⟨g, 0, none⟩ cap l Tryd.underlying51 Tryd.underlying5 Tryd.underlying9 ?_
    intro j hj
    have e : (⟨g, 0, none⟩ : Addr).add j = ⟨g, j, none⟩ := by simp [Addr.add]; omega
    rw [e, cell_of_heap hh]
    have h1 : (bc l)[j]? = some (.int .u8 (l[j].toNat : Int)) := by simp [bc, hj]
    rw [← htake, List.getElem?_take_of_lt (by omega)] at h1
    simpa using h1

theorem cell_one_new2 (w : World) (o : Obj) (u : Value) (T : TypeId) : ∀ (j : Nat) (u' : Value), [u][j]? = some u' → ((w.alloc o).alloc (.cells #[u] T)).cell? ((⟨w.heap.size + 1, 0, none⟩ : Addr).add j) = some u' := by
  intro j u' h
  have hj : j = 0 := by
    have := (List.getElem?_eq_some_iff.1 h).1
    simpa using this
  subst hj
  have e : (⟨w.heap.size + 1, 0, none⟩ : Addr).add 0 = ⟨(w.alloc o).heap.size, 0, none⟩ := by simp [Addr.add]
  rw [e, World.cell?_alloc_mark]
  simpa using h

theorem owns_head (w : World) (m : Msg) (hf : Fit m) :
    (w.alloc (.cells #[.int .u8 77, .int .u8 m.kind, .int .u8 m.fr, .int .u8 m.to] 5)).ownsRow w.heap.size 5 1 (.slice (some ⟨w.heap.size, 0, none⟩) 4 4) (headB m).length (bc (headB m)) := by
  have := World.ownsRow_lit (base := w.heap.size) (size := 1) (e := 5) w #[.int .u8 77, .int .u8 m.kind, .int .u8 m.fr, .int .u8 m.to] 4 (Nat.le_refl _) (by decide) rfl
  have h1 := hf.kind
  have h2 := hf.fr
  have h3 := hf.to
  have e : bc (headB m) = [.int .u8 77, .int .u8 m.kind, .int .u8 m.fr, .int .u8 m.to] := by simp [bc, headB]; omega
  rw [e]
  exact this

set_option maxHeartbeats 1000000 in
theorem write_any (m : Msg) (ao : Option Addr) (cap : Nat) (w : World) (hf : Fit m) (hents : EntsIn w ao m.ents) (hT : TabAt w) :
    Calls Tryd.prog 25 #[msgV m ao cap] w fun e w' => e = .returned (.string ⟨(bodyB m ++ sumOf (bodyB m)).toArray⟩) ∧ Below w.heap.size w w' := by
  obtain ⟨i0, hi, hz0, hz1, hz2⟩ := info_parts Tryd.info_u8
  have b1 := hf.kind.1
  have b1' := hf.kind.2
  have b2 := hf.fr.1
  have b2' := hf.fr.2
  have b3 := hf.to.1
  have b3' := hf.to.2
  have b4 := hf.group
  have b5 := hf.value
  have b6 := hf.len
  go_enter Tryd.func25, Tryd.ntmps25
  go_wp2_with fail
  refine (appendText_any _ (headB m) m.group (w.heap.size + 1) _ (by simpa using owns_head (w.alloc _) m hf) b4 (by simp [headB]) (by simp)).mono ?_
  rintro e w1 ⟨v1, rfl, o1, k1⟩
  have hx1 : w1.heap[w.heap.size]? = some (boxO 24 m ao cap) := k1.other (heap2 _ _ _) (by decide)
  have hb1 : Below w.heap.size w w1 := (below2 _ _ _).trans ((k1.below (by simp)).mono (by omega))
  have hs1 : w.heap.size + 2 ≤ w1.heap.size := by have := k1.size; simp at this; omega
  clear k1
  obtain ⟨_, _, _, _, c4, c5, c6, c7⟩ := box_cells hx1
  go_wp2_with fail
  refine (appendNumber_int _ _ m.ballot 3 (w.heap.size + 1) _ o1 hf.ballot.1 (by omega) (by simp [headB, textB]; omega) (by omega)).mono ?_
  rintro e w2 ⟨v2, rfl, o2, k2⟩
  have hx2 := k2.other hx1 (by decide)
  have hb2 : Below w.heap.size w w2 := hb1.trans ((k2.below (by omega)).mono (by omega))
  have hs2 : w.heap.size + 2 ≤ w2.heap.size := by have := k2.size; omega
  clear k2 o1 hx1 hb1 hs1 c4 c5 c6 c7
  obtain ⟨_, _, _, _, c4, c5, c6, c7⟩ := box_cells hx2
  go_wp2_with fail
  refine (appendNumber_int _ _ m.slot 2 (w.heap.size + 1) _ o2 hf.slot.1 (by omega) (by simp [headB, textB, numB_length]; omega) (by omega)).mono ?_
  rintro e w3 ⟨v3, rfl, o3, k3⟩
  have hx3 := k3.other hx2 (by decide)
  have hb3 : Below w.heap.size w w3 := hb2.trans ((k3.below (by omega)).mono (by omega))
  have hs3 : w.heap.size + 2 ≤ w3.heap.size := by have := k3.size; omega
  clear k3 o2 hx2 hb2 hs2 c4 c5 c6 c7
  obtain ⟨_, _, _, _, c4, c5, c6, c7⟩ := box_cells hx3
  go_wp2_with fail
  refine (appendText_any _ _ m.value (w.heap.size + 1) _ o3 b5 (by simp [headB, textB, numB_length]; omega) (by omega)).mono ?_
  rintro e w4 ⟨v4, rfl, o4, k4⟩
  have hx4 := k4.other hx3 (by decide)
  have hb4 : Below w.heap.size w w4 := hb3.trans ((k4.below (by omega)).mono (by omega))
  have hs4 : w.heap.size + 2 ≤ w4.heap.size := by have := k4.size; omega
  clear k4 o3 hx3 hb3 hs3 c4 c5 c6 c7
  obtain ⟨_, _, _, _, c4, c5, c6, c7⟩ := box_cells hx4
  have hl4 : (headB m ++ textB m.group ++ numB m.ballot.toNat 3 ++ numB m.slot.toNat 2 ++ textB m.value).length ≤ 1000 := by simp [headB, textB, numB_length]; omega
  generalize hq4 : headB m ++ textB m.group ++ numB m.ballot.toNat 3 ++ numB m.slot.toNat 2 ++ textB m.value = q4 at *
  have H4 : Hid (bodyB m = q4 ++ [UInt8.ofNat m.ents.length] ++ entsB m.ents) := by show _ = _; rw [← hq4]; rfl
  clear hq4
  go_wp2_with (at_builtin; refine wpList_append_own _ rfl _ _ 51 rfl (w.heap.size + 1) 5 i0 (.int .u8 0) 1 1 Tryd.underlying51 hi hz0 hz1 hz2 rfl (by decide) v4 q4.length (bc q4) rfl (o4.alloc _) ⟨w4.heap.size, 0, none⟩ 1 1 [.int .u8 m.ents.length] rfl rfl (cell_one_new _ _ _) (by simp [Value.oneCell']) (by unfold maxLen; omega) (by omega) (by simp; omega) ?_)
  intro v5 w5 hown5 hg5 _
  have k5 : Keep 5 (w.heap.size + 1) w4 w5 := ((Keep.refl _ _ _).alloc _).grown hg5 (o4.alloc _)
  have o5 := owns_snoc (x := m.ents.length) hown5 (by omega)
  have hx5 := k5.other hx4 (by decide)
  have hb5 : Below w.heap.size w w5 := hb4.trans ((k5.below (by omega)).mono (by omega))
  have hs5 : w.heap.size + 2 ≤ w5.heap.size := by have := k5.size; omega
  clear hown5 hg5 k5 o4 hx4 hb4 hs4 c4 c5 c6 c7
  obtain ⟨_, _, _, _, c4, c5, c6, c7⟩ := box_cells hx5
  have hl5 : (q4 ++ [UInt8.ofNat m.ents.length]).length ≤ 1001 := by simp; omega
  generalize hq5 : q4 ++ [UInt8.ofNat m.ents.length] = q5 at *
  have H5 : Hid (bodyB m = q5 ++ entsB m.ents) := H4
  clear hq5 H4
  go_wp2
  go_loopw [3, 5, 43] (fun v _ i wr => ∃ k : Nat, k ≤ m.ents.length ∧ i = .int .i64 k ∧ wr.ownsRow (w.heap.size + 1) 5 1 v (q5 ++ entsB (m.ents.take k)).length (bc (q5 ++ entsB (m.ents.take k))) ∧ Keep 5 (w.heap.size + 1) w5 wr) (fun _ _ i _ => m.ents.length - (intOf i).toNat)
  case atStart => exact ⟨0, Nat.zero_le _, rfl, by simpa [entsB] using o5, Keep.refl _ _ _⟩
  case round =>
    obtain ⟨k, hk, rfl, ho, hkp⟩ := hrel
    have hsr := hkp.size
    have hbr : Below w.heap.size w wr := hb5.trans ((hkp.below (by omega)).mono (by omega))
    have hlr : (q5 ++ entsB (m.ents.take k)).length ≤ 100000 := by
      have := entsB_le (m.ents.take k) fun e he => hf.ents e (List.mem_of_mem_take he)
      simp only [List.length_append]
      have h2 : (m.ents.take k).length ≤ 255 := by simp; omega
      omega
    by_cases hlt : k < m.ents.length
    · obtain ⟨b, off, hao, hc⟩ := hents.resolve_left (fun e => by rw [e] at hlt; simp at hlt)
      subst hao
      obtain ⟨q0, q1, q2⟩ := hc.below hbr (cell_lt (hc k hlt).1) k hlt
      obtain ⟨f1, f2, f3, f4, f5⟩ := hf.ents m.ents[k] (List.getElem_mem hlt)
      have HT : Hid (entsB (m.ents.take (k + 1)) = entsB (m.ents.take k) ++ (UInt8.ofNat m.ents[k].slot.toNat :: (numB m.ents[k].ballot.toNat 3 ++ textB m.ents[k].value))) := entsB_take m.ents k hlt
      generalize m.ents[k] = e at *
      clear c4 c5 c6 c7 hc hents hx5 o5
      generalize hq : q5 ++ entsB (m.ents.take k) = q at *
      have HQ : Hid (q5 ++ entsB (m.ents.take k) = q) := hq
      clear hq
      go_wp2_with (at_builtin; refine wpList_append_own _ rfl _ _ 51 rfl (w.heap.size + 1) 5 i0 (.int .u8 0) 1 1 Tryd.underlying51 hi hz0 hz1 hz2 rfl (by decide) u3 q.length (bc q) rfl ((ho.alloc _).alloc _) ⟨wr.heap.size + 1, 0, none⟩ 1 1 [.int .u8 e.slot] rfl rfl ?ca (by simp [Value.oneCell']) (by unfold maxLen; omega) (by omega) (by simp; omega) ?_)
      case ca => exact cell_one_new2 _ _ _ _
      intro v6 w6 hown6 hg6 _
      have k6 : Keep 5 (w.heap.size + 1) (wr.alloc (.cells #[.int .i64 e.slot, .int .i64 e.ballot, .string e.value] 53)) w6 := ((Keep.refl _ _ _).alloc _).grown hg6 ((ho.alloc _).alloc _)
      have o6 := owns_snoc (x := e.slot.toNat) hown6 (by omega)
      have hx6 := k6.other (heap_new _ _) (by decide)
      have hk6 : Keep 5 (w.heap.size + 1) w5 w6 := (hkp.alloc _).trans k6
      have hs6 := hk6.size
      have hl6 : (q ++ [UInt8.ofNat e.slot.toNat]).length ≤ 100001 := by simp; omega
      clear hown6 hg6 k6 ho hkp hbr
      have d1 := cell_of_heap hx6 1
      have d2 := cell_of_heap hx6 2
      simp at d1 d2
      go_wp2_with fail
      refine (appendNumber_int _ _ e.ballot 3 (w.heap.size + 1) _ o6 f3 (by omega) (by omega) (by omega)).mono ?_
      rintro e7 w7 ⟨v7, rfl, o7, k7⟩
      have hx7 := k7.other hx6 (by decide)
      have hk7 := hk6.trans k7
      have hs7 := hk7.size
      clear o6 hx6 hk6 hs6 d1 d2
      have d2 := cell_of_heap hx7 2
      simp at d2
      go_wp2_with fail
      refine (appendText_any _ _ e.value (w.heap.size + 1) _ o7 f5 (by simp only [List.length_append, numB_length] at hl6 ⊢; omega) (by omega)).mono ?_
      rintro e8 w8 ⟨v8, rfl, o8, k8⟩
      have hk8 := hk7.trans k8
      have o8' : w8.ownsRow (w.heap.size + 1) 5 1 v8 (q5 ++ entsB (m.ents.take (k + 1))).length (bc (q5 ++ entsB (m.ents.take (k + 1)))) := by
        have e9 : q5 ++ entsB (m.ents.take (k + 1)) = q ++ [UInt8.ofNat e.slot.toNat] ++ numB e.ballot.toNat 3 ++ textB e.value := by
          rw [HT.out, ← HQ.out]; simp
        rw [e9]; exact o8
      clear o7 hx7 hk7 hs7 d2 o8 k8
      go_wp2
      go_roundw
      case rel => exact ⟨k + 1, by omega, by go_num, o8', hk8⟩
      case measure => simp [intOf]; omega
    · have HB : Hid (q5 ++ entsB (m.ents.take k) = bodyB m) := by
        show _ = _
        rw [H5.out, List.take_of_length_le (by omega)]
      have hne : bodyB m ≠ [] := by simp [bodyB, headB]
      have hlb : (bodyB m).length ≤ 100000 := by rw [← HB.out]; exact hlr
      rw [HB.out] at ho
      have hcv := conv_owned ho hne
      have hb0 : 0 < w.heap.size := cell_lt (hT 0 (by omega))
      have hTr := hT.below hbr hb0
      clear c4 c5 c6 c7 hents hx5 o5 hlr
      go_wp2_with fail
      refine (sumText_any ⟨(bodyB m).toArray⟩ _ (by show (bodyB m).toArray.size ≤ _; simp; unfold maxLen; omega) hTr).mono ?_
      rintro e w9 ⟨rfl, hb9⟩
      have hadd : ∀ W, (Op.stringOp .add ⟨(bodyB m).toArray⟩ ⟨(sumOf (bodyB m)).toArray⟩).run Tryd.prog W = .ok (.string ⟨(bodyB m ++ sumOf (bodyB m)).toArray⟩) W := by
        intro W
        rw [run_string_add_sum, mk_append]
        show (bodyB m).toArray.size + (sumOf (bodyB m)).toArray.size ≤ _
        simp [sumOf_length]; omega
      have hb10 : Below w.heap.size w w9 := hbr.trans (hb9.mono (by omega))
      clear hcv ho hkp hb9 hbr
      go_wp2
      go_ret
      exact ⟨rfl, hb10⟩

theorem ret_two {a b c d : Value} (h : a = b) (k : c = d) : Ending.returned (.tuple #[a, c]) = .returned (.tuple #[b, d]) := by rw [h, k]

/-- The bytes of a message that can be sent. -/
def encB (m : Msg) : ByteArray := ⟨(bodyB m ++ sumOf (bodyB m)).toArray⟩

set_option maxHeartbeats 400000 in
theorem encode_yes (m : Msg) (ao : Option Addr) (cap : Nat) (w : World) (hs : sendB m = true) (hn : m.ents.length ≤ maxLen) (hents : EntsIn w ao m.ents) (hT : TabAt w) :
    Calls Tryd.prog 9 #[msgV m ao cap] w fun e w' => e = .returned (.tuple #[.string (encB m), .int .i64 0]) ∧ Below w.heap.size w w' := by
  unfold encB
  have hf := sendB_fit hs
  have hb0 : 0 < w.heap.size := cell_lt (hT 0 (by omega))
  go_enter Tryd.func9, Tryd.ntmps9
  go_wp2_with fail
  refine (sendable_any m ao cap _ hn (hents.below ((Below.refl _ _).alloc (Nat.le_refl _) _))).mono ?_
  rintro e w1 ⟨rfl, hb1⟩
  have hx1 : w1.heap[w.heap.size]? = some (boxO 24 m ao cap) := (hb1.block _ (by simp)).trans (heap_new _ _)
  have hb2 : Below w.heap.size w w1 := ((Below.refl _ _).alloc (Nat.le_refl _) _).trans (hb1.mono (by simp))
  obtain ⟨c0, c1, c2, c3, c4, c5, c6, c7⟩ := box_cells hx1
  clear hb1 hx1
  go_wp2_with fail
  refine (write_any m ao cap _ hf (hents.below hb2) (hT.below hb2 hb0)).mono ?_
  rintro e w2 ⟨rfl, hb3⟩
  have hb4 := hb2.trans (hb3.mono (hb2.size))
  clear hb3
  go_wp2
  go_ret2
  exact ⟨rfl, hb4⟩

set_option maxHeartbeats 400000 in
theorem encode_no (m : Msg) (ao : Option Addr) (cap : Nat) (w : World) (hs : sendB m = false) (hn : m.ents.length ≤ maxLen) (hents : EntsIn w ao m.ents) :
    Calls Tryd.prog 9 #[msgV m ao cap] w fun e w' => e = .returned (.tuple #[.string ⟨#[]⟩, .int .i64 1]) ∧ Below w.heap.size w w' := by
  go_enter Tryd.func9, Tryd.ntmps9
  go_wp2_with fail
  refine (sendable_any m ao cap _ hn (hents.below ((Below.refl _ _).alloc (Nat.le_refl _) _))).mono ?_
  rintro e w1 ⟨rfl, hb1⟩
  have hb2 : Below w.heap.size w w1 := ((Below.refl _ _).alloc (Nat.le_refl _) _).trans (hb1.mono (by simp))
  clear hb1
  go_wp2
  go_ret2
  exact ⟨rfl, hb2⟩
end Go.Proofs.YtlagmbieaicmgaaDoor
