/- kept: the owner writes into a list and behind its end. -/
import Derived.Test.YtlagmbieaicmgaaDoorRefL
namespace Go.Proofs.YtlagmbieaicmgaaDoor
open Go.RowKit Pact

theorem ls_of_owns {w : World} {B : Nat} {ao : Option Addr} {n cap : Nat} {xs : List Value} (mark : Int) (h : w.ownsRow B 53 3 (.slice ao n cap) n xs) : LS w B ao 0 n cap mark := by
  rcases h.2 with ⟨h1, h2⟩ | ⟨g, cp, cur, hv, hB, hh, hn, _, hcs, _⟩
  · injection h1 with h1 h3 h4
    exact .inl ⟨h1, h2, h4⟩
  · injection hv with h1 h3 h4
    subst h4
    refine .inr ⟨g, h1, hB, hn, fun j hj => by omega, fun j hj => ⟨?_, free_of_heap hh j⟩⟩
    rw [cell_of_heap hh]
    simp
    omega

theorem At3.step {w : World} {g k : Nat} {mark : Int} (h : At3 w g k mark) (h1 : (w.cell? ⟨g, k * 3, none⟩).isSome = true) (h2 : (w.cell? ⟨g, k * 3 + 1, none⟩).isSome = true) (h3 : (w.cell? ⟨g, k * 3 + 2, none⟩).isSome = true) :
    At3 (((w.setCell ⟨g, k * 3, none⟩ (.int .i64 mark)).setCell ⟨g, k * 3 + 1, none⟩ (.int .i64 0)).setCell ⟨g, k * 3 + 2, none⟩ (.string ⟨#[]⟩)) g (k + 1) mark := by
  have e : (((w.setCell ⟨g, k * 3, none⟩ (.int .i64 mark)).setCell ⟨g, k * 3 + 1, none⟩ (.int .i64 0)).setCell ⟨g, k * 3 + 2, none⟩ (.string ⟨#[]⟩)) = w.setCells g (k * 3) (pat mark 1) := rfl
  rw [e]
  intro j hj
  by_cases hk : j < k * 3
  · rw [World.cell?_setCells_out g (pat mark 1) (k * 3) w ⟨g, j, none⟩ (fun _ _ => .inl hk)]
    exact h j hk
  · have hsome : ∀ j, j < (pat mark 1).length → (w.cell? ⟨g, k * 3 + j, none⟩).isSome = true := by
      intro j hj
      rw [pat_length] at hj
      rcases (show j = 0 ∨ j = 1 ∨ j = 2 by omega) with rfl | rfl | rfl
      · exact h1
      · exact h2
      · exact h3
    have h1 := World.cell?_setCells_in g (pat mark 1) (k * 3) w hsome (j - k * 3) (by rw [pat_length]; omega)
    rw [show k * 3 + (j - k * 3) = j by omega] at h1
    rw [h1]
    have h2 := pat_at mark 1 (j - k * 3) (by omega)
    rw [List.getElem?_eq_getElem (by rw [pat_length]; omega)] at h2
    rw [h2, ← xc_shift mark k (j - k * 3), show k * 3 + (j - k * 3) = j by omega]

theorem Sp.set {w : World} {g cap : Nat} (h : Sp w g cap) (b o : Nat) (x : Value) : Sp (w.setCell ⟨b, o, none⟩ x) g cap := by
  have e : w.setCell ⟨b, o, none⟩ x = w.setCells b o [x] := rfl
  rw [e]
  intro j hj
  exact ⟨World.isSome_setCells b _ _ w _ (h j hj).1, by rw [World.frozen?_setCells]; exact (h j hj).2⟩

theorem LS.mx {w : World} {B : Nat} {ao : Option Addr} {n cap : Nat} {mark : Int} (h : LS w B ao n n cap mark) (hn : n ≤ 1000) : Mx w (.slice ao n cap) mark := by
  rcases h with ⟨_, h2, _⟩ | ⟨g, h1, _, _, h4, _⟩
  · exact ⟨ao, n, cap, rfl, hn, .inl h2⟩
  · exact ⟨ao, n, cap, rfl, hn, .inr ⟨g, h1, h4⟩⟩

theorem bel_alloc (w : World) (o : Obj) : Below w.heap.size w (w.alloc o) := (Below.refl _ _).alloc (Nat.le_refl _) _

def zeroKept : Obj := keptO (.slice none 0 0) (.slice none 0 0) (.slice none 0 0) (.slice none 0 0) 0

set_option maxHeartbeats 1000000 in
theorem kept_any (ao : Option Addr) (n cap : Nat) (mark : Int) (B : Nat) (w : World) (hL : LS w B ao 0 n cap mark) (hn : n ≤ 255) (hB : B ≤ w.heap.size) (hg : ∀ g, ao = some ⟨g, 0, none⟩ → g < w.heap.size) :
    Calls Tryd.prog 19 #[.slice ao n cap, .int .i64 mark] w fun e w' => (∃ g h i, e = .returned (keptV (.slice ao n cap) g h i mark) ∧ Mx w' (.slice ao n cap) mark ∧ Mx w' g mark ∧ Mx w' h mark ∧ Mx w' i mark) ∧ Below B w w' := by
  go_enter Tryd.func19, Tryd.ntmps19
  have L0 := hL.of_below (below2 w zeroKept (eO mark 0 ⟨#[]⟩))
  have X0 := heap2b w zeroKept (eO mark 0 ⟨#[]⟩)
  have Z0 := heap2 w zeroKept (eO mark 0 ⟨#[]⟩)
  have B0 := (below2 w zeroKept (eO mark 0 ⟨#[]⟩)).mono hB
  clear hL
  go_wp2_with fail
  go_loopw [6] (fun i wr => ∃ k : Nat, k ≤ n ∧ i = .int .i64 k ∧ LS wr B ao k n cap mark ∧ wr.heap[w.heap.size]? = some zeroKept ∧ wr.heap[w.heap.size + 1]? = some (eO mark 0 ⟨#[]⟩) ∧ Below B w wr) (fun i _ => n - (intOf i).toNat)
  case atStart => exact ⟨0, Nat.zero_le _, rfl, L0, Z0, X0, B0⟩
  case round =>
    clear L0 X0 Z0 B0
    obtain ⟨k, hk, rfl, L, Z, X, Bl⟩ := hrel
    obtain ⟨e0, e1, e2⟩ := e_cells X
    by_cases hlt : k < n
    · obtain ⟨g, rfl, hBg, hnc, hA, hS⟩ := L.resolve_left (fun h => by omega)
      have hgw := hg g rfl
      obtain ⟨s0, f0⟩ := hS (k * 3) (by omega)
      obtain ⟨s1, f1⟩ := hS (k * 3 + 1) (by omega)
      obtain ⟨s2, f2⟩ := hS (k * 3 + 2) (by omega)
      obtain ⟨u0, v0⟩ := Option.isSome_iff_exists.1 s0
      obtain ⟨u1, v1⟩ := Option.isSome_iff_exists.1 s1
      obtain ⟨u2, v2⟩ := Option.isSome_iff_exists.1 s2
      have A2 := hA.step s0 s1 s2
      clear s0 s1 s2
      go_wp2_with fail
      refine ⟨⟨k + 1, by omega, by go_num, .inr ⟨g, rfl, hBg, hnc, A2, ((hS.set _ _ _).set _ _ _).set _ _ _⟩, set_keep (set_keep (set_keep Z (by omega)) (by omega)) (by omega), set_keep (set_keep (set_keep X (by omega)) (by omega)) (by omega), ((Bl.setCell hBg _).setCell hBg _).setCell hBg _⟩, ?_⟩
      simp [intOf]; omega
    · have hkn : k = n := by omega
      subst hkn
      go_wp2_with (at_builtin; refine append_x _ rfl _ _ rfl B ao k cap mark rfl (L.of_below ((Below.refl _ _).alloc (Nat.le_refl _) _)) ⟨wr.heap.size, 0, none⟩ 1 1 rfl ?ca hn (by omega) (by omega) (by have := Bl.size; simp; omega) ?_)
      case ca => exact cells_new _ _ _ _ rfl
      intro v1 w1 M1 K1 L1 Bx F sz
      have hz := (Array.getElem?_eq_some_iff.1 X).1
      have Z1 : w1.heap[w.heap.size]? = some zeroKept := (F _ (by omega) (fun g hg' => by have := hg g hg'; omega)).trans (keep_alloc Z _)
      have X1 : w1.heap[w.heap.size + 1]? = some (eO mark 0 ⟨#[]⟩) := (F _ (by omega) (fun g hg' => by have := hg g hg'; omega)).trans (keep_alloc X _)
      have Bl1 : Below B w w1 := (Bl.alloc (by have := Bl.size; omega) _).trans Bx
      clear Bx F sz hz K1 L Z X Bl e0 e1 e2
      obtain ⟨e0, e1, e2⟩ := e_cells X1
      go_wp2_with (at_builtin; refine append_x _ rfl _ _ rfl B ao k cap mark rfl (L1.of_below (bel_alloc _ _)) ⟨w1.heap.size, 0, none⟩ 2 2 rfl ?ca hn (by omega) (by omega) (by have := Bl1.size; simp; omega) ?_)
      case ca => exact cells_new _ _ _ _ rfl
      intro v2 w2 M2 K2 L2 Bx F sz
      have hz := (Array.getElem?_eq_some_iff.1 X1).1
      have Z2 : w2.heap[w.heap.size]? = some zeroKept := (F _ (by omega) (fun g hg' => by have := hg g hg'; omega)).trans (keep_alloc Z1 _)
      have X2 : w2.heap[w.heap.size + 1]? = some (eO mark 0 ⟨#[]⟩) := (F _ (by omega) (fun g hg' => by have := hg g hg'; omega)).trans (keep_alloc X1 _)
      have Bl2 : Below B w w2 := (Bl1.alloc (by have := Bl1.size; omega) _).trans Bx
      have M1 := M1.keeps ((Keeps.of_below (bel_alloc _ _)).trans K2)
      clear Bx F sz hz K2 L1 Z1 X1 Bl1 e0 e1 e2
      obtain ⟨e0, e1, e2⟩ := e_cells X2
      go_wp2_with (at_builtin; refine append_x _ rfl _ _ rfl B ao k cap mark rfl (L2.of_below (bel_alloc _ _)) ⟨w2.heap.size, 0, none⟩ 3 3 rfl ?ca hn (by omega) (by omega) (by have := Bl2.size; simp; omega) ?_)
      case ca => exact cells_new _ _ _ _ rfl
      intro v3 w3 M3 K3 L3 Bx F sz
      have hz := (Array.getElem?_eq_some_iff.1 X2).1
      have Z3 : w3.heap[w.heap.size]? = some zeroKept := (F _ (by omega) (fun g hg' => by have := hg g hg'; omega)).trans (keep_alloc Z2 _)
      have X3 : w3.heap[w.heap.size + 1]? = some (eO mark 0 ⟨#[]⟩) := (F _ (by omega) (fun g hg' => by have := hg g hg'; omega)).trans (keep_alloc X2 _)
      have Bl3 : Below B w w3 := (Bl2.alloc (by have := Bl2.size; omega) _).trans Bx
      have M1 := M1.keeps ((Keeps.of_below (bel_alloc _ _)).trans K3)
      have M2 := M2.keeps ((Keeps.of_below (bel_alloc _ _)).trans K3)
      clear Bx F sz hz K3 L2 Z2 X2 Bl2 e0 e1 e2
      obtain ⟨e0, e1, e2⟩ := e_cells X3
      have d0 := cell_of_heap Z3 0
      have d1 := cell_of_heap Z3 1
      have d2 := cell_of_heap Z3 2
      have d3 := cell_of_heap Z3 3
      have d4 := cell_of_heap Z3 4
      simp at d0 d1 d2 d3 d4
      have fz := free_of_heap Z3
      have ML := L3.mx (by omega)
      clear L3 Z3 X3
      obtain ⟨a1, k1, c1, hv1, _⟩ := id M1
      obtain ⟨a2, k2, c2, hv2, _⟩ := id M2
      obtain ⟨a3, k3, c3, hv3, _⟩ := id M3
      subst hv1 hv2 hv3
      have HM1 : Hid (Mx _ _ _) := M1
      have HM2 : Hid (Mx _ _ _) := M2
      have HM3 : Hid (Mx _ _ _) := M3
      have HML : Hid (Mx _ _ _) := ML
      clear M1 M2 M3 ML
      go_wp2
      have hq : ∀ u, Mx w3 u mark → Mx (((((w3.setCell ⟨w.heap.size, 0, none⟩ (.slice ao k cap)).setCell ⟨w.heap.size, 1, none⟩ (.slice a1 k1 c1)).setCell ⟨w.heap.size, 2, none⟩ (.slice a2 k2 c2)).setCell ⟨w.heap.size, 3, none⟩ (.slice a3 k3 c3)).setCell ⟨w.heap.size, 4, none⟩ (.int .i64 mark)) u mark := by
        intro u hu
        have e : (((((w3.setCell ⟨w.heap.size, 0, none⟩ (.slice ao k cap)).setCell ⟨w.heap.size, 1, none⟩ (.slice a1 k1 c1)).setCell ⟨w.heap.size, 2, none⟩ (.slice a2 k2 c2)).setCell ⟨w.heap.size, 3, none⟩ (.slice a3 k3 c3)).setCell ⟨w.heap.size, 4, none⟩ (.int .i64 mark)) = w3.setCells w.heap.size 0 [.slice ao k cap, .slice a1 k1 c1, .slice a2 k2 c2, .slice a3 k3 c3, .int .i64 mark] := rfl
        rw [e]
        refine hu.keeps ?_
        intro g' k' hA j hj
        have hne : g' ≠ w.heap.size := by
          intro h
          subst h
          have := hA 0 (by omega)
          rw [d0] at this
          simp [xc] at this
        rw [World.cell?_setCells_out w.heap.size _ 0 w3 ⟨g', j, none⟩ (fun h _ => absurd h hne)]
        exact hA j hj
      refine bodyPost_ret (v := keptV (.slice ao k cap) (.slice a1 k1 c1) (.slice a2 k2 c2) (.slice a3 k3 c3) mark) (by simp [results, Tryd.results19, go_sem, keptV, d0, d1, d2, d3, d4]) rfl ⟨⟨_, _, _, rfl, hq _ HML.out, hq _ HM1.out, hq _ HM2.out, hq _ HM3.out⟩, ?_⟩
      exact (((((Bl3.setCell hB _).setCell hB _).setCell hB _).setCell hB _).setCell hB _)
end Go.Proofs.YtlagmbieaicmgaaDoor
