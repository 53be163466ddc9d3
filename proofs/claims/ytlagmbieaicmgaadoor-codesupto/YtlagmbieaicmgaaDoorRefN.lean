/- decoded: Decode of both, and the list that came out, written into. -/
import Derived.Test.YtlagmbieaicmgaaDoorRefM
namespace Go.Proofs.YtlagmbieaicmgaaDoor
open Go.RowKit Pact

theorem mx_setCells {w : World} {N : Nat} {u : Value} {mark : Int} (d0 : w.cell? ⟨N, 0, none⟩ = some (.slice none 0 0)) (hu : Mx w u mark) (vs : List Value) : Mx (w.setCells N 0 vs) u mark := by
  refine hu.keeps ?_
  intro g' k' hA j hj
  have hne : g' ≠ N := by
    intro h
    subst h
    have := hA 0 (by omega)
    rw [d0] at this
    simp [xc] at this
  rw [World.cell?_setCells_out N _ 0 w ⟨g', j, none⟩ (fun h _ => absurd h hne)]
  exact hA j hj

def decM (s : ByteArray) : Msg × Int := match decR s with
  | .inr m => (m, 0)
  | .inl n => (msg0, n)

theorem decM_len (s : ByteArray) : (decM s).1.ents.length ≤ 255 := by
  unfold decM
  cases h : decR s with
  | inl n => exact Nat.zero_le _
  | inr m =>
    unfold decR at h
    split at h
    · cases h
    · split at h
      · cases h
      · rename_i m' j hp
        split at h
        · cases h
        · split at h
          · cases h
          · split at h
            · injection h with h
              rw [← h]
              exact pMsg_len hp
            · cases h

theorem decode_u (s : ByteArray) (w : World) (hs : s.size ≤ maxLen) (hT : TabAt w) :
    Calls Tryd.prog 8 #[.string s] w fun e w' => ∃ ao cap, e = .returned (.tuple #[msgV (decM s).1 ao cap, .int .i64 (decM s).2]) ∧ Below w.heap.size w w' ∧ w'.ownsRow w.heap.size 53 3 (.slice ao (decM s).1.ents.length cap) (decM s).1.ents.length (ecs (decM s).1.ents) := by
  refine (decode_any s w hs hT).mono ?_
  rintro e w' (⟨m, ao, cap, hd, he, hb, ho⟩ | ⟨n, hd, he, hb⟩)
  · have hm : decM s = (m, 0) := by unfold decM; rw [hd]
    rw [hm]
    exact ⟨ao, cap, he, hb, ho⟩
  · have hm : decM s = (msg0, n) := by unfold decM; rw [hd]
    rw [hm]
    exact ⟨none, 0, he, hb, World.ownsRow_nil _ _ _ _⟩

theorem rdecode_u (s : ByteArray) (w : World) (hs : s.size ≤ 1048576) :
    Calls Tryd.prog 17 #[.string s] w fun e w' => ∃ ao cap, e = .returned (.tuple #[msgV (decM s).1 ao cap, .int .i64 (decM s).2]) ∧ Below w.heap.size w w' ∧ EntsIn w' ao (decM s).1.ents := by
  refine (rdecode_any s w hs).mono ?_
  rintro e w' (⟨m, ao, cap, hd, he, hb, ho⟩ | ⟨n, hd, he, hb⟩)
  · have hm : decM s = (m, 0) := by unfold decM; rw [hd]
    rw [hm]
    exact ⟨ao, cap, he, hb, ho⟩
  · have hm : decM s = (msg0, n) := by unfold decM; rw [hd]
    rw [hm]
    exact ⟨none, 0, he, hb, .inl rfl⟩

set_option maxHeartbeats 1000000 in
theorem decoded_any (s : ByteArray) (mark : Int) (w : World) (hs : s.size ≤ 1048576) (hT : TabAt w) :
    Calls Tryd.prog 6 #[.string s, .int .i64 mark] w fun e w' => (∃ l g h i, e = .returned (.tuple #[keptV l g h i mark, .bool true]) ∧ Mx w' l mark ∧ Mx w' g mark ∧ Mx w' h mark ∧ Mx w' i mark) ∧ Below w.heap.size w w' := by
  have hb0 : 0 < w.heap.size := cell_lt (hT 0 (by omega))
  have hml : s.size ≤ maxLen := by unfold maxLen; omega
  have hlen := decM_len s
  have D1 := fun w => decode_u s w hml
  have D2 := fun w => rdecode_u s w hs
  generalize (decM s).1 = M at *
  generalize (decM s).2 = E at *
  go_enter Tryd.func6, Tryd.ntmps6
  go_wp2_with fail
  refine (D1 _ (hT.below (bel_alloc _ _) hb0)).mono ?_
  rintro e w1 ⟨ao, cap, rfl, hb1, o1⟩
  have z1 : w1.heap[w.heap.size]? = some zeroKept := (hb1.block _ (by simp)).trans (heap_new _ _)
  have B1 : Below w.heap.size w w1 := (bel_alloc _ _).trans (hb1.mono (by simp))
  clear D1 hb1
  unfold msgV
  go_wp2_with fail
  refine (D2 _).mono ?_
  rintro e w2 ⟨bo, cap2, rfl, hb2, n2⟩
  clear D2
  have x2 : w2.heap[w1.heap.size]? = some (boxO 24 M ao cap) := (hb2.block _ (by simp)).trans (heap_new _ _)
  have z2 : w2.heap[w.heap.size]? = some zeroKept := (hb2.block _ (by have := (Array.getElem?_eq_some_iff.1 z1).1; simp; omega)).trans (keep_alloc z1 _)
  have hb3 : Below w1.heap.size w1 w2 := (bel_alloc _ _).trans (hb2.mono (by simp))
  have B2 : Below w.heap.size w w2 := B1.trans (hb3.mono B1.size)
  have o2 := owns_mono (owns_step o1 (Step.of_below (b := w.heap.size) hb3) (by simp)) (show w.heap.size + 1 ≤ _ by simp)
  clear hb2 hb3 z1 B1 o1
  have hz := (Array.getElem?_eq_some_iff.1 z2).1
  have hx := (Array.getElem?_eq_some_iff.1 x2).1
  obtain ⟨c0, c1, c2, c3, c4, c5, c6, c7⟩ := box_cells x2
  unfold msgV
  go_wp2_with fail
  have L : M.ents.length ≤ maxLen := by unfold maxLen; omega
  refine (rsame_any M ao bo cap cap2 _ L ((ents_of_owns o2).below (bel_alloc _ _)) (n2.below (bel_alloc _ _))).mono ?_
  rintro e w3 ⟨rfl, hb⟩
  have x3 : w3.heap[w1.heap.size]? = some (boxO 24 M ao cap) := (hb.block _ (by simp; omega)).trans (keep_alloc x2 _)
  have z3 : w3.heap[w.heap.size]? = some zeroKept := (hb.block _ (by simp; omega)).trans (keep_alloc z2 _)
  have hb3 : Below w2.heap.size w2 w3 := (bel_alloc _ _).trans (hb.mono (by simp))
  have B3 : Below w.heap.size w w3 := B2.trans (hb3.mono B2.size)
  have o3 := owns_step o2 (Step.of_below (b := w.heap.size) hb3) (by omega)
  clear hb hb3 x2 z2 B2 o2 hx hz c0 c1 c2 c3 c4 c5 c6 c7 n2 L
  obtain ⟨c0, c1, c2, c3, c4, c5, c6, c7⟩ := box_cells x3
  have hz := (Array.getElem?_eq_some_iff.1 z3).1
  go_wp2_with fail
  refine (kept_any ao M.ents.length cap mark (w.heap.size + 1) w3 (ls_of_owns mark o3) hlen (by omega) (fun g hg => by subst hg; exact (o3.lt g rfl).2)).mono ?_
  rintro e w4 ⟨⟨g, h, i, rfl, M0, M1, M2, M3⟩, hb⟩
  have z4 : w4.heap[w.heap.size]? = some zeroKept := (hb.block _ (by omega)).trans z3
  have B4 : Below w.heap.size w w4 := B3.trans (hb.mono (by omega))
  clear hb z3 B3 o3 x3 c0 c1 c2 c3 c4 c5 c6 c7 hz
  have d0 := cell_of_heap z4 0
  have d1 := cell_of_heap z4 1
  have d2 := cell_of_heap z4 2
  have d3 := cell_of_heap z4 3
  have d4 := cell_of_heap z4 4
  simp at d0 d1 d2 d3 d4
  have fz := free_of_heap z4
  obtain ⟨a1, k1, c1, hv1, _⟩ := id M1
  obtain ⟨a2, k2, c2, hv2, _⟩ := id M2
  obtain ⟨a3, k3, c3, hv3, _⟩ := id M3
  subst hv1 hv2 hv3
  have HM0 : Hid (Mx _ _ _) := M0
  have HM1 : Hid (Mx _ _ _) := M1
  have HM2 : Hid (Mx _ _ _) := M2
  have HM3 : Hid (Mx _ _ _) := M3
  clear M0 M1 M2 M3
  unfold keptV
  go_wp2
  have hq : ∀ u, Mx w4 u mark → Mx (((((w4.setCell ⟨w.heap.size, 0, none⟩ (.slice ao M.ents.length cap)).setCell ⟨w.heap.size, 1, none⟩ (.slice a1 k1 c1)).setCell ⟨w.heap.size, 2, none⟩ (.slice a2 k2 c2)).setCell ⟨w.heap.size, 3, none⟩ (.slice a3 k3 c3)).setCell ⟨w.heap.size, 4, none⟩ (.int .i64 mark)) u mark :=
    fun u hu => (mx_setCells d0 hu [.slice ao M.ents.length cap, .slice a1 k1 c1, .slice a2 k2 c2, .slice a3 k3 c3, .int .i64 mark])
  refine bodyPost_ret (v := .tuple #[keptV (.slice ao M.ents.length cap) (.slice a1 k1 c1) (.slice a2 k2 c2) (.slice a3 k3 c3) mark, .bool true]) (by simp [results, Tryd.results6, go_sem, keptV, d0, d1, d2, d3, d4]) rfl ⟨⟨_, _, _, _, rfl, hq _ HM0.out, hq _ HM1.out, hq _ HM2.out, hq _ HM3.out⟩, ?_⟩
  exact (((((B4.setCell (Nat.le_refl _) _).setCell (Nat.le_refl _) _).setCell (Nat.le_refl _) _).setCell (Nat.le_refl _) _).setCell (Nat.le_refl _) _)
end Go.Proofs.YtlagmbieaicmgaaDoor
