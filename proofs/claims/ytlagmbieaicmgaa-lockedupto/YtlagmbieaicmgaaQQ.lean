/- The book of marks: lists of grants and of waits go into it. -/
import Derived.Test.YtlagmbieaicmgaaQP
namespace Go.Proofs.Ytlagmbieaicmgaa
open Go.RowKit Lk Go.Shelf

theorem box2 {w : World} {b : Nat} {p q : Value} {T : TypeId} (h : w.heap[b]? = some (.cells #[p, q] T (0, 0))) : w.cell? ⟨b, 0, none⟩ = some p ∧ w.cell? ⟨b, 1, none⟩ = some q := by
  refine ⟨?_, ?_⟩ <;> rw [cell_of_heap h] <;> rfl
theorem box_fr {D : Nat → Prop} {w w' : World} {b : Nat} {o : Obj} (h : w.heap[b]? = some o) (hf : Fr D w w') (hD : ¬ D b) : w'.heap[b]? = some o := by
  rw [hf.block b (Array.getElem?_eq_some_iff.1 h).1 hD]; exact h
theorem box_below {w w' : World} {b : Nat} {o : Obj} (h : w.heap[b]? = some o) (hb : Below w.heap.size w w') : w'.heap[b]? = some o := by
  rw [hb.block b (Array.getElem?_eq_some_iff.1 h).1]; exact h

set_option maxRecDepth 20000 in
set_option maxHeartbeats 8000000 in
theorem takeGrants_any (w : World) (d ni ng nw : Nat) (D K : Nat → Prop) (ao : Option Addr) (n cap : Nat) (ys : List G) (h : BK w d ni ng nw D K) (ho : Own gl 2 79 w (.slice ao n cap) ys) (hn : n ≤ 900000) (hN : ng ≤ 2000000) (hao : ∀ g, ao = some ⟨g, 0, none⟩ → ¬ D g ∧ ¬ K g) :
    Calls Try.prog 26 #[.pointer (some ⟨d, 0, none⟩), .slice ao n cap] w fun e w' => e = .returned (.tuple #[]) ∧ BG w d ni (ng + 1) nw D K ao w' := by
  obtain ⟨xi, xg, xw, vi, vg, vw, hb, hD, m1, m2, m3, hK, l1, l2, l3⟩ := h
  obtain ⟨-, hLS⟩ := LS.of_own gl_len (⟨-7 - ((4 * ng : Nat) : Int) / 4, 0⟩ : G) ho
  have hnl : ∀ g, ao = some ⟨g, 0, none⟩ → g < w.heap.size := fun g e => ho.lt (g := g) (by rw [e]; rfl)
  obtain ⟨ai, ci, hvg, -, -, -⟩ := hb.g.rd sl_len
  rw [l2] at hvg
  have c0 := hb.cells.2.1
  rw [hvg] at c0
  have HB : Hid (Bk w d xi xg xw vi vg vw ∧ (∀ g, Db d vi vg vw g ↔ D g) ∧ MI w K xi ∧ MG w K xg ∧ MG w K xw ∧ (∀ g, K g → ¬ D g ∧ g < w.heap.size) ∧ xi.length = 4 * ni ∧ xg.length = 4 * ng ∧ xw.length = 4 * nw) := ⟨hb, hD, m1, m2, m3, hK, l1, l2, l3⟩
  have HVG : Hid (vg = .slice ai (4 * ng) ci) := hvg
  have HAO : Hid (∀ g, ao = some ⟨g, 0, none⟩ → ¬ D g ∧ ¬ K g) := hao
  have HNL : Hid (∀ g, ao = some ⟨g, 0, none⟩ → g < w.heap.size) := hnl
  have HLS : Hid (LS gl 2 79 w ao 0 n cap (⟨-7 - ((4 * ng : Nat) : Int) / 4, 0⟩ : G)) := hLS
  have HMK : Hid (-7 - ((4 * ng : Nat) : Int) / 4 = markI (4 * ng)) := by show _ = _; unfold markI; omega
  generalize hn0 : 4 * ng = n0 at *
  have hn0' : n0 ≤ 8000000 := by omega
  have HN0 : Hid (4 * ng = n0) := hn0
  clear hb hD m1 m2 m3 hK l1 l2 l3 hvg hao hLS ho hn0 hN hnl
  obtain ⟨W0, hW0⟩ : ∃ W0, W0 = w.alloc (.cells #[.int .i64 (-7 - (n0 : Int) / 4), .int .i64 0] 79) := ⟨_, rfl⟩
  have B0 : Hid (Below w.heap.size w W0 ∧ W0.heap[w.heap.size]? = some (.cells #[.int .i64 (-7 - (n0 : Int) / 4), .int .i64 0] 79 (0, 0))) := by
    rw [hW0]
    exact ⟨(Below.refl _ _).alloc (Nat.le_refl _) _, heap_new _ _⟩
  go_enter Try.func26, Try.ntmps26
  go_wp2
  rw [← hW0]
  clear hW0
  generalize -7 - (n0 : Int) / 4 = mk at *
  go_loopw [5] (fun s5 wr => ∃ i : Nat, i ≤ n ∧ s5 = .int .i64 i ∧ Hid (LS gl 2 79 wr ao i n cap ⟨mk, 0⟩) ∧ Hid (Fr (fun g => ao = some ⟨g, 0, none⟩) W0 wr)) (fun s5 _ => n - (intOf s5).toNat)
  case atStart => exact ⟨0, Nat.zero_le _, rfl, HLS.out.below B0.out.1, Fr.refl _ _⟩
  case round =>
    obtain ⟨i, hi, rfl, HL, HF⟩ := hrel
    have nao : Hid (¬ ao = some ⟨w.heap.size, 0, none⟩) := fun e => absurd (HNL.out _ e) (Nat.lt_irrefl _)
    obtain ⟨b0, b1⟩ := box2 (box_fr B0.out.2 HF.out nao.out)
    by_cases hlt : i < n
    · obtain ⟨g, hg, hcell⟩ := HL.out.cell el_agrant hlt
      subst hg
      obtain ⟨⟨v0, q0⟩, f0⟩ := hcell 0 (by omega)
      obtain ⟨⟨v1, q1⟩, f1⟩ := hcell 1 (by omega)
      rw [Nat.add_zero] at q0 f0
      have hii : (i : Int) < (n : Int) := by omega
      have Y1 : Hid (LS gl 2 79 ((wr.setCell ⟨g, i * 2, none⟩ (.int .i64 mk)).setCell ⟨g, i * 2 + 1, none⟩ (.int .i64 0)) (some ⟨g, 0, none⟩) (i + 1) n cap ⟨mk, 0⟩) := HL.out.step el_agrant hlt
      have Y2 : Hid (Fr (fun b => some (⟨g, 0, none⟩ : Addr) = some ⟨b, 0, none⟩) W0 ((wr.setCell ⟨g, i * 2, none⟩ (.int .i64 mk)).setCell ⟨g, i * 2 + 1, none⟩ (.int .i64 0))) := (HF.out.setCell (p := ⟨g, i * 2, none⟩) (.inl rfl) _).setCell (p := ⟨g, i * 2 + 1, none⟩) (.inl rfl) _
      clear hcell
      go_wp2
      go_roundw
      case rel => exact ⟨i + 1, by omega, by go_num, Y1, Y2⟩
      case measure => simp [intOf]; omega
    · have hii : ¬ (i : Int) < (n : Int) := by omega
      have hin : i = n := by omega
      subst hin
      generalize wr = w1 at *
      have X1 : Hid (w1.heap[w.heap.size]? = some (.cells #[.int .i64 mk, .int .i64 0] 79 (0, 0))) := box_fr B0.out.2 HF.out nao.out
      have F1 : Hid (Fr (fun g => ao = some ⟨g, 0, none⟩) w w1) := (Fr.of_below (D := fun g => ao = some ⟨g, 0, none⟩) B0.out.1).trans HF.out fun g _ e => e
      have L1 : Hid (LS gl 2 79 (w1.alloc (.cells #[.int .i64 mk, .int .i64 0] 79)) ao i i cap ⟨mk, 0⟩) := HL.out.below ((Below.refl _ _).alloc (Nat.le_refl _) _)
      go_wp2_with (at_builtin; refine append_m el_agrant _ rfl _ _ rfl ao i cap ⟨mk, 0⟩ rfl L1.out w1.heap.size 1 1 #[.int .i64 mk, .int .i64 0] 79 rfl (heap_new _ _) rfl (by omega) (by omega) (by omega) ?_)
      intro s6 w2 m6 k6 l6 f6
      have L2 : Hid (LS gl 2 79 (w2.alloc (.cells #[.int .i64 mk, .int .i64 0, .int .i64 mk, .int .i64 0] 79)) ao i i cap ⟨mk, 0⟩) := l6.below ((Below.refl _ _).alloc (Nat.le_refl _) _)
      have M6 : Hid (Mk gl 2 w2 (fun g => ao = some ⟨g, 0, none⟩ ∨ w1.heap.size ≤ g) s6 ⟨mk, 0⟩ ∧ Fr (fun g => ao = some ⟨g, 0, none⟩) (w1.alloc (.cells #[.int .i64 mk, .int .i64 0] 79)) w2) := ⟨m6.imp fun g e => e.imp id fun q => by omega, f6⟩
      have X2 : Hid (w2.heap[w.heap.size]? = some (.cells #[.int .i64 mk, .int .i64 0] 79 (0, 0))) := box_fr (box_below X1.out ((Below.refl _ _).alloc (Nat.le_refl _) _)) f6 nao.out
      clear m6 k6 l6 f6 L1 b0 b1
      obtain ⟨b0, b1⟩ := box2 X2.out
      obtain ⟨a6, n6, c6⟩ := s6
      go_wp2_with (at_builtin; refine append_m el_agrant _ rfl _ _ rfl ao i cap ⟨mk, 0⟩ rfl L2.out w2.heap.size 2 2 #[.int .i64 mk, .int .i64 0, .int .i64 mk, .int .i64 0] 79 rfl (heap_new _ _) rfl (by omega) (by omega) (by omega) ?_)
      intro s7 w3 m7 k7 l7 f7
      have L3 : Hid (LS gl 2 79 (w3.alloc (.cells #[.int .i64 mk, .int .i64 0, .int .i64 mk, .int .i64 0, .int .i64 mk, .int .i64 0] 79)) ao i i cap ⟨mk, 0⟩) := l7.below ((Below.refl _ _).alloc (Nat.le_refl _) _)
      have M7 : Hid (Mk gl 2 w3 (fun g => ao = some ⟨g, 0, none⟩ ∨ w2.heap.size ≤ g) s7 ⟨mk, 0⟩ ∧ Keeps gl 2 (w2.alloc (.cells #[.int .i64 mk, .int .i64 0, .int .i64 mk, .int .i64 0] 79)) w3 ⟨mk, 0⟩ ∧ Fr (fun g => ao = some ⟨g, 0, none⟩) (w2.alloc (.cells #[.int .i64 mk, .int .i64 0, .int .i64 mk, .int .i64 0] 79)) w3) := ⟨m7.imp fun g e => e.imp id fun q => by omega, k7, f7⟩
      have X3 : Hid (w3.heap[w.heap.size]? = some (.cells #[.int .i64 mk, .int .i64 0] 79 (0, 0))) := box_fr (box_below X2.out ((Below.refl _ _).alloc (Nat.le_refl _) _)) f7 nao.out
      clear m7 k7 l7 f7 L2 b0 b1
      obtain ⟨b0, b1⟩ := box2 X3.out
      obtain ⟨a7, n7, c7⟩ := s7
      go_wp2_with (at_builtin; refine append_m el_agrant _ rfl _ _ rfl ao i cap ⟨mk, 0⟩ rfl L3.out w3.heap.size 3 3 #[.int .i64 mk, .int .i64 0, .int .i64 mk, .int .i64 0, .int .i64 mk, .int .i64 0] 79 rfl (heap_new _ _) rfl (by omega) (by omega) (by omega) ?_)
      intro s8 w4 m8 k8 l8 f8
      have F4 : Hid (Four gl 2 w w4 ao i cap ⟨mk, 0⟩ ⟨a6, n6, c6⟩ ⟨a7, n7, c7⟩ s8) := Four.mk' el_agrant (by omega) F1.out ((Below.refl _ _).alloc (Nat.le_refl _) _) M6.out.1 M6.out.2 ((Below.refl _ _).alloc (Nat.le_refl _) _) M7.out.1 M7.out.2.1 M7.out.2.2 ((Below.refl _ _).alloc (Nat.le_refl _) _) (m8.imp fun g e => e.imp id fun q => by omega) k8 f8 l8
      clear m8 k8 l8 f8 L3 M6 M7 b0 b1
      obtain ⟨a8, n8, c8⟩ := s8
      have hdo : ∀ g, ao = some ⟨g, 0, none⟩ → ¬ Db d vi vg vw g := fun g e q => (HAO.out g e).1 ((HB.out.2.1 g).1 q)
      have B4 : Hid (Bk w4 d xi xg xw vi vg vw) := HB.out.1.fr F4.out.fr fun g e q => hdo g q e
      have hbx := B4.out.box
      have c4 : w4.cell? ⟨d, 1, none⟩ = some (.slice ai n0 ci) := by rw [← HVG.out]; exact B4.out.cells.2.1
      have f4 := Sh.free (n := 6) ⟨_, hbx, rfl⟩ 1
      have HLX : Hid (xg.length = n0) := HB.out.2.2.2.2.2.2.2.1
      have O4 : Hid (Own sl 1 43 (w4.alloc (.cells #[.slice ao i cap, .slice a6 n6 c6, .slice a7 n7 c7, .slice a8 n8 c8] 43)) (.slice ai n0 ci) xg) := by
        rw [← HVG.out]
        exact own_below B4.out.g ((Below.refl _ _).alloc (Nat.le_refl _) _)
      clear hbx hdo c0
      go_wp2_with (at_builtin; refine app_many el_grants _ rfl _ _ rfl (.slice ai n0 ci) xg rfl O4.out w4.heap.size [⟨ao, i, cap⟩, ⟨a6, n6, c6⟩, ⟨a7, n7, c7⟩, ⟨a8, n8, c8⟩] 4 4 rfl #[.slice ao i cap, .slice a6 n6 c6, .slice a7 n7 c7, .slice a8 n8 c8] 43 rfl (heap_new _ _) rfl (by omega) (by omega) (by have := HLX.out; omega) ?_)
      intro g cap' w5 ho hf hat hgl
      have ba := (Below.refl w4.heap.size w4).alloc (Nat.le_refl _) (.cells #[.slice ao i cap, .slice a6 n6 c6, .slice a7 n7 c7, .slice a8 n8 c8] 43)
      have hv2 : vg.ownBlock = (Value.slice ai n0 ci).ownBlock := by rw [HVG.out]
      have hf2 : Fr (fun b => vg.ownBlock = some b) w4 w5 := (Fr.of_below (D := fun b => vg.ownBlock = some b) ba).trans hf fun b _ e => by rw [hv2]; exact e
      have hat2 : vg.ownBlock = some g ∨ w4.heap.size ≤ g := by
        rcases hat with q | q
        · exact .inl (by rw [hv2]; exact q)
        · have q' : w4.heap.size + 1 ≤ g := by simpa using q
          exact .inr (by omega)
      have hbx5 : w5.heap[d]? = some (.cells #[vi, vg, vw, .slice none 0 0, .slice none 0 0, .int .i64 0] 30 (0, 0)) := by rw [hf2.block d B4.out.lt B4.out.gd]; exact B4.out.box
      have c5 : w5.cell? ⟨d, 1, none⟩ = some vg := by rw [cell_of_heap hbx5]; rfl
      have g5 := Sh.free (n := 6) ⟨_, hbx5, rfl⟩ 1
      have HH : Hid (w5.heap[d]? = some (.cells #[vi, vg, vw, .slice none 0 0, .slice none 0 0, .int .i64 0] 30 (0, 0)) ∧ Fr (fun b => vg.ownBlock = some b) w4 w5 ∧ (vg.ownBlock = some g ∨ w4.heap.size ≤ g) ∧ Own sl 1 43 w5 (.slice (some ⟨g, 0, none⟩) (xg.length + 4) cap') (xg ++ [⟨ao, i, cap⟩, ⟨a6, n6, c6⟩, ⟨a7, n7, c7⟩, ⟨a8, n8, c8⟩])) := ⟨hbx5, hf2, hat2, ho⟩
      clear ho hf hat ba hv2 hf2 hat2 hbx5 c4 f4 O4
      generalize xg.length + 4 = nn at *
      go_wp2
      go_end0
      obtain ⟨hbx, hf2, hat2, ho⟩ := HH.out
      obtain ⟨h0, hD, m1, m2, m3, hK, l1, l2, l3⟩ := HB.out
      obtain ⟨nb, nf, ns⟩ := B4.out.put1 hf2 ho fun b e => by
        have e2 : g = b := by simpa [Value.ownBlock] using e
        rw [← e2]; exact hat2
      have F := F4.out
      have hDl : ∀ g, D g → g < w.heap.size := fun g e => h0.dlt ((hD g).2 e)
      have hD'' : ∀ b, Db d vi (.slice (some ⟨g, 0, none⟩) nn cap') vw b → D b ∨ w4.heap.size ≤ b := fun b e => (ns b e).imp (hD b).1 id
      have hKn := Knew.ok (D' := Db d vi (.slice (some ⟨g, 0, none⟩) nn cap') vw) hDl hK HAO.out F.fr.size nf.size hD''
      have hnX : ∀ b, Knew K ao w w4 b → ¬ Db d vi vg vw b := fun b e q => by
        rcases e with e | ⟨e | e, _⟩
        · exact (hK b e).1 ((hD b).1 q)
        · exact (HAO.out b e).1 ((hD b).1 q)
        · have := hDl b ((hD b).1 q); omega
      have HM4 : ∀ j, j < 4 → (⟨markI (xg.length + j), 0⟩ : G) = ⟨mk, 0⟩ := fun j hj => by
        rw [l2, ← HN0.out, markI_four hj, HN0.out]; congr 1; exact HMK.out.symm
      have hKa : ∀ b, K b → ¬ ao = some ⟨b, 0, none⟩ := fun b e q => (HAO.out b q).2 e
      refine ⟨rfl, Db d vi (.slice (some ⟨g, 0, none⟩) nn cap') vw, Knew K ao w w4, ⟨xi, _, xw, vi, _, vw, nb, fun _ => Iff.rfl, ((m1.fr F.fr hKa).imp fun b e => .inl e).fr nf hnX, ?_, ((m3.fr F.fr hKa).imp fun b e => .inl e).fr nf hnX, hKn, l1, by rw [List.length_append, l2, ← HN0.out]; show 4 * ng + 4 = _; omega, l3⟩, (F.fr.mono fun b _ e => .inr e).trans nf fun b _ e => .inl ((hD b).1 e), fun b e => (hD'' b e).imp id fun q => Nat.le_trans F.fr.size q, fun b e => ?_⟩
      · refine four_at (P := fun n s => Mk gl 2 _ (Knew K ao w w4) s (⟨markI n, 0⟩ : G)) (((m2.fr F.fr hKa).imp fun b e => .inl e).fr nf hnX) ?_ ?_ ?_ ?_
        · have := (F.a.imp (K' := Knew K ao w w4) fun b e => .inr e).fr gl_len (by omega) nf hnX
          rw [show (⟨markI xg.length, 0⟩ : G) = ⟨mk, 0⟩ from HM4 0 (by omega)]; exact this
        · have := (F.b.imp (K' := Knew K ao w w4) fun b e => .inr e).fr gl_len (by omega) nf hnX
          rw [HM4 1 (by omega)]; exact this
        · have := (F.c.imp (K' := Knew K ao w w4) fun b e => .inr e).fr gl_len (by omega) nf hnX
          rw [HM4 2 (by omega)]; exact this
        · have := (F.d.imp (K' := Knew K ao w w4) fun b e => .inr e).fr gl_len (by omega) nf hnX
          rw [HM4 3 (by omega)]; exact this
      · rcases e with e | ⟨e, _⟩
        · exact .inl e
        · exact .inr e

set_option maxRecDepth 20000 in
set_option maxHeartbeats 8000000 in
theorem takeWaits_any (w : World) (d ni ng nw : Nat) (D K : Nat → Prop) (ao : Option Addr) (n cap : Nat) (ys : List G) (h : BK w d ni ng nw D K) (ho : Own gl 2 81 w (.slice ao n cap) ys) (hn : n ≤ 900000) (hN : nw ≤ 2000000) (hao : ∀ g, ao = some ⟨g, 0, none⟩ → ¬ D g ∧ ¬ K g) :
    Calls Try.prog 31 #[.pointer (some ⟨d, 0, none⟩), .slice ao n cap] w fun e w' => e = .returned (.tuple #[]) ∧ BG w d ni ng (nw + 1) D K ao w' := by
  obtain ⟨xi, xg, xw, vi, vg, vw, hb, hD, m1, m2, m3, hK, l1, l2, l3⟩ := h
  obtain ⟨-, hLS⟩ := LS.of_own gl_len (⟨-7 - ((4 * nw : Nat) : Int) / 4, 0⟩ : G) ho
  have hnl : ∀ g, ao = some ⟨g, 0, none⟩ → g < w.heap.size := fun g e => ho.lt (g := g) (by rw [e]; rfl)
  obtain ⟨ai, ci, hvw, -, -, -⟩ := hb.h.rd sl_len
  rw [l3] at hvw
  have c0 := hb.cells.2.2
  rw [hvw] at c0
  have HB : Hid (Bk w d xi xg xw vi vg vw ∧ (∀ g, Db d vi vg vw g ↔ D g) ∧ MI w K xi ∧ MG w K xg ∧ MG w K xw ∧ (∀ g, K g → ¬ D g ∧ g < w.heap.size) ∧ xi.length = 4 * ni ∧ xg.length = 4 * ng ∧ xw.length = 4 * nw) := ⟨hb, hD, m1, m2, m3, hK, l1, l2, l3⟩
  have HVW : Hid (vw = .slice ai (4 * nw) ci) := hvw
  have HAO : Hid (∀ g, ao = some ⟨g, 0, none⟩ → ¬ D g ∧ ¬ K g) := hao
  have HNL : Hid (∀ g, ao = some ⟨g, 0, none⟩ → g < w.heap.size) := hnl
  have HLS : Hid (LS gl 2 81 w ao 0 n cap (⟨-7 - ((4 * nw : Nat) : Int) / 4, 0⟩ : G)) := hLS
  have HMK : Hid (-7 - ((4 * nw : Nat) : Int) / 4 = markI (4 * nw)) := by show _ = _; unfold markI; omega
  generalize hn0 : 4 * nw = n0 at *
  have hn0' : n0 ≤ 8000000 := by omega
  have HN0 : Hid (4 * nw = n0) := hn0
  clear hb hD m1 m2 m3 hK l1 l2 l3 hvw hao hLS ho hn0 hN hnl
  obtain ⟨W0, hW0⟩ : ∃ W0, W0 = w.alloc (.cells #[.int .i64 (-7 - (n0 : Int) / 4), .int .i64 0] 81) := ⟨_, rfl⟩
  have B0 : Hid (Below w.heap.size w W0 ∧ W0.heap[w.heap.size]? = some (.cells #[.int .i64 (-7 - (n0 : Int) / 4), .int .i64 0] 81 (0, 0))) := by
    rw [hW0]
    exact ⟨(Below.refl _ _).alloc (Nat.le_refl _) _, heap_new _ _⟩
  go_enter Try.func31, Try.ntmps31
  go_wp2
  rw [← hW0]
  clear hW0
  generalize -7 - (n0 : Int) / 4 = mk at *
  go_loopw [5] (fun s5 wr => ∃ i : Nat, i ≤ n ∧ s5 = .int .i64 i ∧ Hid (LS gl 2 81 wr ao i n cap ⟨mk, 0⟩) ∧ Hid (Fr (fun g => ao = some ⟨g, 0, none⟩) W0 wr)) (fun s5 _ => n - (intOf s5).toNat)
  case atStart => exact ⟨0, Nat.zero_le _, rfl, HLS.out.below B0.out.1, Fr.refl _ _⟩
  case round =>
    obtain ⟨i, hi, rfl, HL, HF⟩ := hrel
    have nao : Hid (¬ ao = some ⟨w.heap.size, 0, none⟩) := fun e => absurd (HNL.out _ e) (Nat.lt_irrefl _)
    obtain ⟨b0, b1⟩ := box2 (box_fr B0.out.2 HF.out nao.out)
    by_cases hlt : i < n
    · obtain ⟨g, hg, hcell⟩ := HL.out.cell el_wait hlt
      subst hg
      obtain ⟨⟨v0, q0⟩, f0⟩ := hcell 0 (by omega)
      obtain ⟨⟨v1, q1⟩, f1⟩ := hcell 1 (by omega)
      rw [Nat.add_zero] at q0 f0
      have hii : (i : Int) < (n : Int) := by omega
      have Y1 : Hid (LS gl 2 81 ((wr.setCell ⟨g, i * 2, none⟩ (.int .i64 mk)).setCell ⟨g, i * 2 + 1, none⟩ (.int .i64 0)) (some ⟨g, 0, none⟩) (i + 1) n cap ⟨mk, 0⟩) := HL.out.step el_wait hlt
      have Y2 : Hid (Fr (fun b => some (⟨g, 0, none⟩ : Addr) = some ⟨b, 0, none⟩) W0 ((wr.setCell ⟨g, i * 2, none⟩ (.int .i64 mk)).setCell ⟨g, i * 2 + 1, none⟩ (.int .i64 0))) := (HF.out.setCell (p := ⟨g, i * 2, none⟩) (.inl rfl) _).setCell (p := ⟨g, i * 2 + 1, none⟩) (.inl rfl) _
      clear hcell
      go_wp2
      go_roundw
      case rel => exact ⟨i + 1, by omega, by go_num, Y1, Y2⟩
      case measure => simp [intOf]; omega
    · have hii : ¬ (i : Int) < (n : Int) := by omega
      have hin : i = n := by omega
      subst hin
      generalize wr = w1 at *
      have X1 : Hid (w1.heap[w.heap.size]? = some (.cells #[.int .i64 mk, .int .i64 0] 81 (0, 0))) := box_fr B0.out.2 HF.out nao.out
      have F1 : Hid (Fr (fun g => ao = some ⟨g, 0, none⟩) w w1) := (Fr.of_below (D := fun g => ao = some ⟨g, 0, none⟩) B0.out.1).trans HF.out fun g _ e => e
      have L1 : Hid (LS gl 2 81 (w1.alloc (.cells #[.int .i64 mk, .int .i64 0] 81)) ao i i cap ⟨mk, 0⟩) := HL.out.below ((Below.refl _ _).alloc (Nat.le_refl _) _)
      go_wp2_with (at_builtin; refine append_m el_wait _ rfl _ _ rfl ao i cap ⟨mk, 0⟩ rfl L1.out w1.heap.size 1 1 #[.int .i64 mk, .int .i64 0] 81 rfl (heap_new _ _) rfl (by omega) (by omega) (by omega) ?_)
      intro s6 w2 m6 k6 l6 f6
      have L2 : Hid (LS gl 2 81 (w2.alloc (.cells #[.int .i64 mk, .int .i64 0, .int .i64 mk, .int .i64 0] 81)) ao i i cap ⟨mk, 0⟩) := l6.below ((Below.refl _ _).alloc (Nat.le_refl _) _)
      have M6 : Hid (Mk gl 2 w2 (fun g => ao = some ⟨g, 0, none⟩ ∨ w1.heap.size ≤ g) s6 ⟨mk, 0⟩ ∧ Fr (fun g => ao = some ⟨g, 0, none⟩) (w1.alloc (.cells #[.int .i64 mk, .int .i64 0] 81)) w2) := ⟨m6.imp fun g e => e.imp id fun q => by omega, f6⟩
      have X2 : Hid (w2.heap[w.heap.size]? = some (.cells #[.int .i64 mk, .int .i64 0] 81 (0, 0))) := box_fr (box_below X1.out ((Below.refl _ _).alloc (Nat.le_refl _) _)) f6 nao.out
      clear m6 k6 l6 f6 L1 b0 b1
      obtain ⟨b0, b1⟩ := box2 X2.out
      obtain ⟨a6, n6, c6⟩ := s6
      go_wp2_with (at_builtin; refine append_m el_wait _ rfl _ _ rfl ao i cap ⟨mk, 0⟩ rfl L2.out w2.heap.size 2 2 #[.int .i64 mk, .int .i64 0, .int .i64 mk, .int .i64 0] 81 rfl (heap_new _ _) rfl (by omega) (by omega) (by omega) ?_)
      intro s7 w3 m7 k7 l7 f7
      have L3 : Hid (LS gl 2 81 (w3.alloc (.cells #[.int .i64 mk, .int .i64 0, .int .i64 mk, .int .i64 0, .int .i64 mk, .int .i64 0] 81)) ao i i cap ⟨mk, 0⟩) := l7.below ((Below.refl _ _).alloc (Nat.le_refl _) _)
      have M7 : Hid (Mk gl 2 w3 (fun g => ao = some ⟨g, 0, none⟩ ∨ w2.heap.size ≤ g) s7 ⟨mk, 0⟩ ∧ Keeps gl 2 (w2.alloc (.cells #[.int .i64 mk, .int .i64 0, .int .i64 mk, .int .i64 0] 81)) w3 ⟨mk, 0⟩ ∧ Fr (fun g => ao = some ⟨g, 0, none⟩) (w2.alloc (.cells #[.int .i64 mk, .int .i64 0, .int .i64 mk, .int .i64 0] 81)) w3) := ⟨m7.imp fun g e => e.imp id fun q => by omega, k7, f7⟩
      have X3 : Hid (w3.heap[w.heap.size]? = some (.cells #[.int .i64 mk, .int .i64 0] 81 (0, 0))) := box_fr (box_below X2.out ((Below.refl _ _).alloc (Nat.le_refl _) _)) f7 nao.out
      clear m7 k7 l7 f7 L2 b0 b1
      obtain ⟨b0, b1⟩ := box2 X3.out
      obtain ⟨a7, n7, c7⟩ := s7
      go_wp2_with (at_builtin; refine append_m el_wait _ rfl _ _ rfl ao i cap ⟨mk, 0⟩ rfl L3.out w3.heap.size 3 3 #[.int .i64 mk, .int .i64 0, .int .i64 mk, .int .i64 0, .int .i64 mk, .int .i64 0] 81 rfl (heap_new _ _) rfl (by omega) (by omega) (by omega) ?_)
      intro s8 w4 m8 k8 l8 f8
      have F4 : Hid (Four gl 2 w w4 ao i cap ⟨mk, 0⟩ ⟨a6, n6, c6⟩ ⟨a7, n7, c7⟩ s8) := Four.mk' el_wait (by omega) F1.out ((Below.refl _ _).alloc (Nat.le_refl _) _) M6.out.1 M6.out.2 ((Below.refl _ _).alloc (Nat.le_refl _) _) M7.out.1 M7.out.2.1 M7.out.2.2 ((Below.refl _ _).alloc (Nat.le_refl _) _) (m8.imp fun g e => e.imp id fun q => by omega) k8 f8 l8
      clear m8 k8 l8 f8 L3 M6 M7 b0 b1
      obtain ⟨a8, n8, c8⟩ := s8
      have hdo : ∀ g, ao = some ⟨g, 0, none⟩ → ¬ Db d vi vg vw g := fun g e q => (HAO.out g e).1 ((HB.out.2.1 g).1 q)
      have B4 : Hid (Bk w4 d xi xg xw vi vg vw) := HB.out.1.fr F4.out.fr fun g e q => hdo g q e
      have hbx := B4.out.box
      have c4 : w4.cell? ⟨d, 2, none⟩ = some (.slice ai n0 ci) := by rw [← HVW.out]; exact B4.out.cells.2.2
      have f4 := Sh.free (n := 6) ⟨_, hbx, rfl⟩ 2
      have HLX : Hid (xw.length = n0) := HB.out.2.2.2.2.2.2.2.2
      have O4 : Hid (Own sl 1 59 (w4.alloc (.cells #[.slice ao i cap, .slice a6 n6 c6, .slice a7 n7 c7, .slice a8 n8 c8] 59)) (.slice ai n0 ci) xw) := by
        rw [← HVW.out]
        exact own_below B4.out.h ((Below.refl _ _).alloc (Nat.le_refl _) _)
      clear hbx hdo c0
      go_wp2_with (at_builtin; refine app_many el_waits _ rfl _ _ rfl (.slice ai n0 ci) xw rfl O4.out w4.heap.size [⟨ao, i, cap⟩, ⟨a6, n6, c6⟩, ⟨a7, n7, c7⟩, ⟨a8, n8, c8⟩] 4 4 rfl #[.slice ao i cap, .slice a6 n6 c6, .slice a7 n7 c7, .slice a8 n8 c8] 59 rfl (heap_new _ _) rfl (by omega) (by omega) (by have := HLX.out; omega) ?_)
      intro g cap' w5 ho hf hat hgl
      have ba := (Below.refl w4.heap.size w4).alloc (Nat.le_refl _) (.cells #[.slice ao i cap, .slice a6 n6 c6, .slice a7 n7 c7, .slice a8 n8 c8] 59)
      have hv2 : vw.ownBlock = (Value.slice ai n0 ci).ownBlock := by rw [HVW.out]
      have hf2 : Fr (fun b => vw.ownBlock = some b) w4 w5 := (Fr.of_below (D := fun b => vw.ownBlock = some b) ba).trans hf fun b _ e => by rw [hv2]; exact e
      have hat2 : vw.ownBlock = some g ∨ w4.heap.size ≤ g := by
        rcases hat with q | q
        · exact .inl (by rw [hv2]; exact q)
        · have q' : w4.heap.size + 1 ≤ g := by simpa using q
          exact .inr (by omega)
      have hbx5 : w5.heap[d]? = some (.cells #[vi, vg, vw, .slice none 0 0, .slice none 0 0, .int .i64 0] 30 (0, 0)) := by rw [hf2.block d B4.out.lt B4.out.hd]; exact B4.out.box
      have c5 : w5.cell? ⟨d, 2, none⟩ = some vw := by rw [cell_of_heap hbx5]; rfl
      have g5 := Sh.free (n := 6) ⟨_, hbx5, rfl⟩ 2
      have HH : Hid (w5.heap[d]? = some (.cells #[vi, vg, vw, .slice none 0 0, .slice none 0 0, .int .i64 0] 30 (0, 0)) ∧ Fr (fun b => vw.ownBlock = some b) w4 w5 ∧ (vw.ownBlock = some g ∨ w4.heap.size ≤ g) ∧ Own sl 1 59 w5 (.slice (some ⟨g, 0, none⟩) (xw.length + 4) cap') (xw ++ [⟨ao, i, cap⟩, ⟨a6, n6, c6⟩, ⟨a7, n7, c7⟩, ⟨a8, n8, c8⟩])) := ⟨hbx5, hf2, hat2, ho⟩
      clear ho hf hat ba hv2 hf2 hat2 hbx5 c4 f4 O4
      generalize xw.length + 4 = nn at *
      go_wp2
      go_end0
      obtain ⟨hbx, hf2, hat2, ho⟩ := HH.out
      obtain ⟨h0, hD, m1, m2, m3, hK, l1, l2, l3⟩ := HB.out
      obtain ⟨nb, nf, ns⟩ := B4.out.put2 hf2 ho fun b e => by
        have e2 : g = b := by simpa [Value.ownBlock] using e
        rw [← e2]; exact hat2
      have F := F4.out
      have hDl : ∀ g, D g → g < w.heap.size := fun g e => h0.dlt ((hD g).2 e)
      have hD'' : ∀ b, Db d vi vg (.slice (some ⟨g, 0, none⟩) nn cap') b → D b ∨ w4.heap.size ≤ b := fun b e => (ns b e).imp (hD b).1 id
      have hKn := Knew.ok (D' := Db d vi vg (.slice (some ⟨g, 0, none⟩) nn cap')) hDl hK HAO.out F.fr.size nf.size hD''
      have hnX : ∀ b, Knew K ao w w4 b → ¬ Db d vi vg vw b := fun b e q => by
        rcases e with e | ⟨e | e, _⟩
        · exact (hK b e).1 ((hD b).1 q)
        · exact (HAO.out b e).1 ((hD b).1 q)
        · have := hDl b ((hD b).1 q); omega
      have HM4 : ∀ j, j < 4 → (⟨markI (xw.length + j), 0⟩ : G) = ⟨mk, 0⟩ := fun j hj => by
        rw [l3, ← HN0.out, markI_four hj, HN0.out]; congr 1; exact HMK.out.symm
      have hKa : ∀ b, K b → ¬ ao = some ⟨b, 0, none⟩ := fun b e q => (HAO.out b q).2 e
      refine ⟨rfl, Db d vi vg (.slice (some ⟨g, 0, none⟩) nn cap'), Knew K ao w w4, ⟨xi, xg, _, vi, vg, _, nb, fun _ => Iff.rfl, ((m1.fr F.fr hKa).imp fun b e => .inl e).fr nf hnX, ((m2.fr F.fr hKa).imp fun b e => .inl e).fr nf hnX, ?_, hKn, l1, l2, by rw [List.length_append, l3, ← HN0.out]; show 4 * nw + 4 = _; omega⟩, (F.fr.mono fun b _ e => .inr e).trans nf fun b _ e => .inl ((hD b).1 e), fun b e => (hD'' b e).imp id fun q => Nat.le_trans F.fr.size q, fun b e => ?_⟩
      · refine four_at (P := fun n s => Mk gl 2 _ (Knew K ao w w4) s (⟨markI n, 0⟩ : G)) (((m3.fr F.fr hKa).imp fun b e => .inl e).fr nf hnX) ?_ ?_ ?_ ?_
        · have := (F.a.imp (K' := Knew K ao w w4) fun b e => .inr e).fr gl_len (by omega) nf hnX
          rw [show (⟨markI xw.length, 0⟩ : G) = ⟨mk, 0⟩ from HM4 0 (by omega)]; exact this
        · have := (F.b.imp (K' := Knew K ao w w4) fun b e => .inr e).fr gl_len (by omega) nf hnX
          rw [HM4 1 (by omega)]; exact this
        · have := (F.c.imp (K' := Knew K ao w w4) fun b e => .inr e).fr gl_len (by omega) nf hnX
          rw [HM4 2 (by omega)]; exact this
        · have := (F.d.imp (K' := Knew K ao w w4) fun b e => .inr e).fr gl_len (by omega) nf hnX
          rw [HM4 3 (by omega)]; exact this
      · rcases e with e | ⟨e, _⟩
        · exact .inl e
        · exact .inr e
end Go.Proofs.Ytlagmbieaicmgaa
