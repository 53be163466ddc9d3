/- Codes, over messages and texts that lie there. -/
import Derived.Test.YtlagmbieaicmgaaDoorRefP
namespace Go.Proofs.YtlagmbieaicmgaaDoor
open Go.RowKit Pact

/-- A list's entries as its owner keeps them: four slices and the mark. -/
structure Kp where
  l : Value
  g : Value
  h : Value
  i : Value
  mark : Int

def Kp.V (x : Kp) : Value := keptV x.l x.g x.h x.i x.mark
def Kp.cs (x : Kp) : List Value := [x.l, x.g, x.h, x.i, .int .i64 x.mark]
def kcs (xs : List Kp) : List Value := xs.flatMap Kp.cs
def Kp.Good (w : World) (x : Kp) : Prop := Mx w x.l x.mark ∧ Mx w x.g x.mark ∧ Mx w x.h x.mark ∧ Mx w x.i x.mark
theorem Kp.Good.below {w w' : World} {x : Kp} (h : x.Good w) (hb : Below w.heap.size w w') : x.Good w' :=
  ⟨h.1.keeps (Keeps.of_below hb), h.2.1.keeps (Keeps.of_below hb), h.2.2.1.keeps (Keeps.of_below hb), h.2.2.2.keeps (Keeps.of_below hb)⟩

theorem Tryd.info_kept : (Tryd.prog.info? 29).map (fun i => (i.zero, i.size, i.bytes)) = some (some (.agg #[.slice none 0 0, .slice none 0 0, .slice none 0 0, .slice none 0 0, .int .i64 0]), 5, 104) := by kernel_rfl

theorem kcs_at : ∀ (xs : List Kp) (i : Nat) (h : i < xs.length), (kcs xs)[i * 5]? = some xs[i].l ∧ (kcs xs)[i * 5 + 1]? = some xs[i].g ∧ (kcs xs)[i * 5 + 2]? = some xs[i].h ∧ (kcs xs)[i * 5 + 3]? = some xs[i].i ∧ (kcs xs)[i * 5 + 4]? = some (.int .i64 xs[i].mark)
  | x :: xs, 0, _ => ⟨rfl, rfl, rfl, rfl, rfl⟩
  | x :: xs, i + 1, h => by
    have ih := kcs_at xs i (by simpa using h)
    have e1 : kcs (x :: xs) = x.l :: x.g :: x.h :: x.i :: .int .i64 x.mark :: kcs xs := rfl
    rw [e1, show (i + 1) * 5 = i * 5 + 5 from by omega]
    exact ih
theorem kcs_snoc (xs : List Kp) (x : Kp) : kcs (xs ++ [x]) = kcs xs ++ x.cs := by simp [kcs]

theorem Mx.slice {w : World} {v : Value} {mark : Int} (h : Mx w v mark) : ∃ ao k cap, v = .slice ao k cap := by
  obtain ⟨ao, k, cap, hv, _⟩ := h
  exact ⟨ao, k, cap, hv⟩

theorem keeps_grown {w w' : World} {base : Nat} {v : Value} {xs : List Kp} {mark : Int} (ho : w.ownsRow base 29 5 v xs.length (kcs xs)) (hnil : xs = [] → v = .slice none 0 0) (hG : ∀ x ∈ xs, x.Good w) (hg : w.grownBy w' v.ownBlock) : Keeps w w' mark := by
  intro g' n hA j hj
  have h0 := hA 0 (by omega)
  have hne : some g' ≠ v.ownBlock := by
    intro he
    by_cases hx : xs = []
    · rw [hnil hx] at he; cases he
    · rcases ho.2 with ⟨hv, _⟩ | ⟨g, cap, cur, hv, _, hh, _, _, _, htake⟩
      · rw [hv] at he; cases he
      · rw [hv] at he
        injection he with he
        subst he
        have hp : 0 < xs.length := List.length_pos_iff.2 hx
        have h1 := (kcs_at xs 0 hp).1
        rw [← htake, List.getElem?_take_of_lt (by omega)] at h1
        obtain ⟨a, k, c, hs⟩ := (hG xs[0] (List.getElem_mem hp)).1.slice
        rw [cell_of_heap hh] at h0
        have h2 : cur[0]? = some xs[0].l := by simpa using h1
        rw [h2, hs] at h0
        simp [xc] at h0
  exact (World.cell?_of_block (a := ⟨g', j, none⟩) (hg.block g' (cell_lt h0) hne)).trans (hA j hj)

theorem cells_new2 (w : World) (o : Obj) (C : Array Value) (T : TypeId) (l : List Value) (hl : C.toList = l) : ∀ (j : Nat) (u : Value), l[j]? = some u → ((w.alloc o).alloc (.cells C T)).cell? ((⟨w.heap.size + 1, 0, none⟩ : Addr).add j) = some u := by
  have := cells_new (w.alloc o) C T l hl
  simpa using this

theorem kept_row {w : World} {base : Nat} {v : Value} {ys : List Kp} (h : w.ownsRow base 29 5 v ys.length (kcs ys)) (hne : ys ≠ []) : ∃ g cap, v = .slice (some ⟨g, 0, none⟩) ys.length cap ∧ g < w.heap.size ∧
    ∀ (i : Nat) (hi : i < ys.length), w.cell? ⟨g, i * 5, none⟩ = some ys[i].l ∧ w.cell? ⟨g, i * 5 + 1, none⟩ = some ys[i].g ∧ w.cell? ⟨g, i * 5 + 2, none⟩ = some ys[i].h ∧ w.cell? ⟨g, i * 5 + 3, none⟩ = some ys[i].i ∧ w.cell? ⟨g, i * 5 + 4, none⟩ = some (.int .i64 ys[i].mark) := by
  have hp : 0 < ys.length := List.length_pos_iff.2 hne
  rcases h.2 with ⟨_, h2⟩ | ⟨g, cap, cur, hv, _, hh, _, _, _, htake⟩
  · omega
  · refine ⟨g, cap, hv, (Array.getElem?_eq_some_iff.1 hh).1, fun i hi => ?_⟩
    obtain ⟨p0, p1, p2, p3, p4⟩ := kcs_at ys i hi
    rw [← htake] at p0 p1 p2 p3 p4
    rw [List.getElem?_take_of_lt (by omega)] at p0 p1 p2 p3 p4
    rw [cell_of_heap hh, cell_of_heap hh, cell_of_heap hh, cell_of_heap hh, cell_of_heap hh]
    exact ⟨by simpa using p0, by simpa using p1, by simpa using p2, by simpa using p3, by simpa using p4⟩

theorem below_own {w0 w w' : World} {base : Nat} {T : TypeId} {size n : Nat} {v : Value} {xs : List Value} (hg : w.grownBy w' v.ownBlock) (ho : w.ownsRow base T size v n xs) (h : Below base w0 w) (hb : base ≤ w0.heap.size) : Below base w0 w' :=
  ⟨hg.os.trans h.os, hg.tape.trans h.tape, hg.output.trans h.output, Nat.le_trans h.size hg.size, fun q hq => (grown_at hg ho hq (by have := h.size; omega)).trans (h.block q hq)⟩

def StrCells (w : World) (b off : Nat) (ss : List ByteArray) : Prop := ∀ (i : Nat) (h : i < ss.length), w.cell? ⟨b, off + i, none⟩ = some (.string ss[i])
def StrsIn (w : World) (ao : Option Addr) (ss : List ByteArray) : Prop := ss = [] ∨ ∃ b off, ao = some ⟨b, off, none⟩ ∧ StrCells w b off ss

set_option maxHeartbeats 2000000 in
theorem codes_some (m : Msg) (ao : Option Addr) (cap : Nat) (ss : List ByteArray) (b off cap2 : Nat) (w : World) (hn : m.ents.length ≤ 1048576) (he : EntsIn w ao m.ents) (hT : TabAt w) (hl : ss.length ≤ 1048576) (hs : ∀ s ∈ ss, s.size ≤ 1048576) (hc : StrCells w b off ss) :
    Calls Tryd.prog 3 #[msgV m ao cap, .slice (some ⟨b, off, none⟩) ss.length cap2] w fun e w' => e = .returned (.bool true) ∧ Below w.heap.size w w' := by
  obtain ⟨i0, hinf, hz0, hz1, hz2⟩ := info_parts Tryd.info_kept
  have hb0 : 0 < w.heap.size := cell_lt (hT 0 (by omega))
  go_enter Tryd.func3, Tryd.ntmps3
  go_wp2_with fail
  refine (encoded_any m ao cap _ hn (he.below (bel_alloc _ _)) (hT.below (bel_alloc _ _) hb0)).mono ?_
  rintro e w1 ⟨rfl, hb⟩
  have B1 : Below w.heap.size w w1 := (bel_alloc _ _).trans (hb.mono (by simp))
  clear hb
  go_wp2_with fail
  go_loopw [5, 6, 7, 8, 9, 10, 11] (fun ok all i _ _ _ _ wr => ∃ (k : Nat) (xs : List Kp), k ≤ ss.length ∧ xs.length = k ∧ ok = .bool true ∧ i = .int .i64 k ∧ wr.ownsRow w.heap.size 29 5 all xs.length (kcs xs) ∧ (xs = [] → all = .slice none 0 0) ∧ (∀ x ∈ xs, x.Good wr) ∧ Below w.heap.size w wr) (fun _ _ i _ _ _ _ _ => ss.length - (intOf i).toNat)
  case atStart => exact ⟨0, [], Nat.zero_le _, rfl, rfl, rfl, World.ownsRow_nil _ _ _ _, fun _ => rfl, fun x hx => by simp at hx, B1⟩
  case round =>
    clear B1
    obtain ⟨k, xs, hk, hxs, rfl, rfl, ho, hnil, hG, Bl⟩ := hrel
    have HX : Hid (xs.length = k) := hxs
    clear hxs
    by_cases hlt : k < ss.length
    · have q0 := (Bl.cell (p := ⟨b, off + k, none⟩) (cell_lt (hc k hlt))).trans (hc k hlt)
      have hsk := hs ss[k] (List.getElem_mem hlt)
      generalize ss[k] = s at *
      go_wp2_with fail
      refine (decoded_any s (1000 + k) wr hsk (hT.below Bl hb0)).mono ?_
      rintro e w2 ⟨⟨l, g, h, i, rfl, M0, M1, M2, M3⟩, hb2⟩
      have o2 := owns_step ho (Step.of_below (b := 0) hb2) hb0
      have B2 := Bl.trans (hb2.mono Bl.size)
      have G2 : ∀ x ∈ xs, x.Good w2 := fun x hx => (hG x hx).below hb2
      obtain ⟨a0, k0, e0, h0⟩ := M0.slice
      obtain ⟨a1, k1, e1, h1⟩ := M1.slice
      obtain ⟨a2, k2, e2, h2⟩ := M2.slice
      obtain ⟨a3, k3, e3, h3⟩ := M3.slice
      subst h0 h1 h2 h3
      have HN : Hid (Kp.Good w2 ⟨.slice a0 k0 e0, .slice a1 k1 e1, .slice a2 k2 e2, .slice a3 k3 e3, 1000 + k⟩) := ⟨M0, M1, M2, M3⟩
      clear M0 M1 M2 M3 ho hG Bl hb2 q0
      unfold keptV
      have hkl : xs.length ≤ 1048576 := by have := HX.out; omega
      have hs2 := B2.size
      go_wp2_with (at_builtin; refine wpList_append_own _ rfl _ _ 27 rfl w.heap.size 29 i0 (.agg #[.slice none 0 0, .slice none 0 0, .slice none 0 0, .slice none 0 0, .int .i64 0]) 5 104 Tryd.underlying27 hinf hz0 hz1 hz2 rfl (by decide) u6 xs.length (kcs xs) rfl ((o2.alloc _).alloc _) ⟨w2.heap.size + 1, 0, none⟩ 1 1 [.slice a0 k0 e0, .slice a1 k1 e1, .slice a2 k2 e2, .slice a3 k3 e3, .int .i64 (1000 + k)] rfl rfl ?ca ?cb (by unfold maxLen; omega) (by omega) (by simp; omega) ?_)
      case ca => exact cells_new2 _ _ _ _ _ rfl
      case cb => intro u hu; simp at hu; rcases hu with rfl | rfl | rfl | rfl | rfl <;> rfl
      intro v5 w5 hown5 hg5 _
      obtain ⟨x, hx⟩ : ∃ x : Kp, x = ⟨.slice a0 k0 e0, .slice a1 k1 e1, .slice a2 k2 e2, .slice a3 k3 e3, 1000 + k⟩ := ⟨_, rfl⟩
      have o5 : w5.ownsRow w.heap.size 29 5 v5 (xs ++ [x]).length (kcs (xs ++ [x])) := by rw [kcs_snoc, List.length_append, hx]; exact hown5
      have bb : ∀ o1 o2, Below w2.heap.size w2 ((w2.alloc o1).alloc o2) := fun o1 o2 => below2 _ _ _
      have G5 : ∀ y ∈ xs ++ [x], y.Good w5 := by
        have K5 : ∀ mark, Keeps _ w5 mark := fun mark => keeps_grown ((o2.alloc _).alloc _) hnil (fun y hy => (G2 y hy).below (bb _ _)) hg5
        intro y hy
        have hg2 : y.Good w2 := by
          rcases List.mem_append.1 hy with h | h
          · exact G2 y h
          · have h1 : y = x := by simpa using h
            rw [h1, hx]; exact HN.out
        exact ⟨(hg2.below (bb _ _)).1.keeps (K5 _), (hg2.below (bb _ _)).2.1.keeps (K5 _), (hg2.below (bb _ _)).2.2.1.keeps (K5 _), (hg2.below (bb _ _)).2.2.2.keeps (K5 _)⟩
      have B5 : Below w.heap.size w w5 := below_own hg5 ((o2.alloc _).alloc _) (B2.trans ((bb _ _).mono hs2)) (Nat.le_refl _)
      have hyl : (xs ++ [x]).length = k + 1 := by have := HX.out; simp; omega
      generalize xs ++ [x] = ys at *
      have hne : ys ≠ [] := by intro h; rw [h] at hyl; simp at hyl
      obtain ⟨gg, cc, hv5, hgg, hcell⟩ := kept_row o5 hne
      subst hv5
      have HY : Hid (ys.length = k + 1) := hyl
      have hy2 : ys.length ≤ 1048577 := by omega
      have HO : Hid (w5.ownsRow w.heap.size 29 5 _ ys.length (kcs ys)) := o5
      clear hown5 hg5 o2 G2 HN hnil B2 hx hs2 hyl o5 HX hkl bb
      go_wp2_with fail
      go_loopw [5, 10, 11] (fun ok i _ wr2 => ∃ q : Nat, q ≤ ys.length ∧ ok = .bool true ∧ i = .int .i64 q ∧ Below w5.heap.size w5 wr2) (fun _ i _ _ => ys.length - (intOf i).toNat)
      case atStart => exact ⟨0, Nat.zero_le _, rfl, rfl, Below.refl _ _⟩
      case round =>
        obtain ⟨q, hq, rfl, rfl, Bq⟩ := hrel
        by_cases hql : q < ys.length
        · obtain ⟨p0, p1, p2, p3, p4⟩ := hcell q hql
          have r0 := (Bq.cell (p := ⟨gg, q * 5, none⟩) hgg).trans p0
          have r1 := (Bq.cell (p := ⟨gg, q * 5 + 1, none⟩) hgg).trans p1
          have r2 := (Bq.cell (p := ⟨gg, q * 5 + 2, none⟩) hgg).trans p2
          have r3 := (Bq.cell (p := ⟨gg, q * 5 + 3, none⟩) hgg).trans p3
          have r4 := (Bq.cell (p := ⟨gg, q * 5 + 4, none⟩) hgg).trans p4
          have Gq := (G5 ys[q] (List.getElem_mem hql)).below Bq
          generalize ys[q] = y at *
          clear p0 p1 p2 p3 p4
          go_wp2_with fail
          refine (stays_any y.l y.g y.h y.i y.mark _ Gq.1.mk Gq.2.1.mk Gq.2.2.1.mk Gq.2.2.2.mk).mono ?_
          rintro e w6 ⟨rfl, hb6⟩
          have B6 := Bq.trans (hb6.mono Bq.size)
          clear r0 r1 r2 r3 r4 Gq hb6 Bq
          go_wp2_with fail
          refine ⟨⟨q + 1, by omega, rfl, val_int (by omega), B6⟩, ?_⟩
          simp [intOf]; omega
        · have hqe : q = ys.length := by omega
          subst hqe
          go_wp2_with fail
          refine ⟨⟨k + 1, ys, by omega, HY.out, rfl, val_int (by omega), owns_step HO.out (Step.of_below (b := 0) Bq) hb0, fun h => absurd h hne, fun y hy => (G5 y hy).below Bq, B5.trans (Bq.mono B5.size)⟩, ?_⟩
          simp [intOf]; omega
    · have hke : k = ss.length := by omega
      subst hke
      have hT2 := hT.below Bl hb0
      go_wp2_with fail
      refine (decode_u ⟨#[77]⟩ wr (by unfold maxLen; decide) hT2).mono ?_
      have hd : decM ⟨#[77]⟩ = (msg0, 2) := by
        have h1 : decR ⟨#[77]⟩ = .inl 2 := by rfl
        unfold decM
        rw [h1]
      rw [hd]
      rintro e w2 ⟨ao2, cap3, rfl, hb2, _⟩
      have B2 := Bl.trans (hb2.mono Bl.size)
      clear ho hnil hG Bl hb2 hT2
      unfold msgV msg0
      go_wp2
      go_ret
      exact ⟨rfl, B2.alloc B2.size _⟩
end Go.Proofs.YtlagmbieaicmgaaDoor
