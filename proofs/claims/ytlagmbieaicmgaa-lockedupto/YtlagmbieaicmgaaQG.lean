/- The document's own table: barred, got. -/
import Derived.Test.YtlagmbieaicmgaaQE
namespace Go.Proofs.Ytlagmbieaicmgaa
open Go.RowKit Lk Go.Shelf

/-- Two records that are read, and the list's own cell. -/
abbrev BaS (d b ok oi : Nat) (v : Value) (p q : L4) (w : World) : Prop :=
  w.cell? ⟨d, 1, none⟩ = some v ∧ (w.cell? ⟨b, ok, none⟩ = some (.int .i64 p.tx) ∧ w.cell? ⟨b, ok + 1, none⟩ = some (.int .i64 p.key) ∧ w.cell? ⟨b, ok + 2, none⟩ = some (.bool p.wr) ∧ w.cell? ⟨b, ok + 3, none⟩ = some (.bool p.wt)) ∧
    w.cell? ⟨b, oi, none⟩ = some (.int .i64 q.tx) ∧ w.cell? ⟨b, oi + 1, none⟩ = some (.int .i64 q.key) ∧ w.cell? ⟨b, oi + 2, none⟩ = some (.bool q.wr) ∧ w.cell? ⟨b, oi + 3, none⟩ = some (.bool q.wt)
theorem cell_below {w w' : World} {b o : Nat} {v : Value} (h : w.cell? ⟨b, o, none⟩ = some v) (hb : Below w.heap.size w w') : w'.cell? ⟨b, o, none⟩ = some v :=
  (hb.cell (p := ⟨b, o, none⟩) (cell_lt h)).trans h
theorem BaS.below {d b ok oi : Nat} {v : Value} {p q : L4} {w w' : World} (h : BaS d b ok oi v p q w) (hb : Below w.heap.size w w') : BaS d b ok oi v p q w' :=
  ⟨cell_below h.1 hb, ⟨cell_below h.2.1.1 hb, cell_below h.2.1.2.1 hb, cell_below h.2.1.2.2.1 hb, cell_below h.2.1.2.2.2 hb⟩, cell_below h.2.2.1 hb, cell_below h.2.2.2.1 hb, cell_below h.2.2.2.2.1 hb, cell_below h.2.2.2.2.2 hb⟩

theorem below_dr {n : Nat} {w w' : World} (h : Below n w w') : Below n w w'.drew := ⟨h.os, h.tape, h.output, h.size, h.block⟩
abbrev BaB (W0 : World) (d b ok oi : Nat) (v : Value) (p q : L4) (w : World) : Prop := BaS d b ok oi v p q w ∧ Below W0.heap.size W0 w
theorem BaB.below {W0 : World} {d b ok oi : Nat} {v : Value} {p q : L4} {w w' : World} (h : BaB W0 d b ok oi v p q w) (hb : Below w.heap.size w w') : BaB W0 d b ok oi v p q w' := ⟨BaS.below h.1 hb, h.2.trans (hb.mono h.2.size)⟩

def barK (a l : L4) : Bool := wayB l a && (!l.wt || decide (l.tx < a.tx))
theorem barL_eq (L : List L4) (a : L4) : barL L a = L.any (barK a) := rfl

set_option maxHeartbeats 8000000 in
theorem rbarred_any (w : World) (d : Nat) (m : Int) (L : List L4) (F : List Int) (vl vf : Value) (i : Nat) (hi : i < L.length) (a : L4) (ha : L[i] = a) (h : RLd w d m L F vl vf) (hn : L.length ≤ 1000) :
    Calls Try.prog 62 #[.pointer (some ⟨d, 0, none⟩), .int .i64 i] w fun e w' => e = .returned (.bool (barL L a)) ∧ Below w.heap.size w w' := by
  obtain ⟨ao, cap, hv, hr, _, _⟩ := h.l.rd ll_len
  obtain ⟨b, off, rfl, hb, hc⟩ := hr.resolve_left (by intro e; rw [e] at hi; simp at hi)
  have HC : Hid (∀ W, Below w.heap.size w W → ∀ k (hk : k < L.length), BaS d b (off + k * 4) (off + i * 4) (.slice (some ⟨b, off, none⟩) L.length cap) L[k] a W) := fun W hW k hk => by
    have hcr := hc.block (hW.block b hb)
    have q := hcr i hi
    rw [ha] at q
    exact ⟨by rw [← hv]; exact (h.below hW).cells.1, ⟨hcr k hk 0 _ rfl, hcr k hk 1 _ rfl, hcr k hk 2 _ rfl, hcr k hk 3 _ rfl⟩, q 0 _ rfl, q 1 _ rfl, q 2 _ rfl, q 3 _ rfl⟩
  have hii : (i : Int) < (L.length : Int) := by omega
  clear h hv hr hc ha hb
  obtain ⟨x2, k2, r2, t2⟩ := a
  go_enter Try.func62, Try.ntmps62
  go_wp2
  go_loopw [5, 6] (fun s5 _ wr => ∃ k : Nat, k ≤ L.length ∧ s5 = .int .i64 k ∧ Hid (Below w.heap.size w wr) ∧ Hid (∀ j (hj : j < L.length), j < k → barK ⟨x2, k2, r2, t2⟩ L[j] = false)) (fun s5 _ _ => L.length - (intOf s5).toNat)
  case atStart => exact ⟨0, Nat.zero_le _, rfl, Below.refl _ _, fun j _ h => absurd h (Nat.not_lt_zero _)⟩
  case round =>
    obtain ⟨k, hk, rfl, BW, NB⟩ := hrel
    by_cases hlt : k < L.length
    · have s0 := HC.out wr BW.out k hlt
      have hki : (k : Int) < (L.length : Int) := by omega
      have NO : Hid (barK ⟨x2, k2, r2, t2⟩ L[k] = false → ∀ j (hj : j < L.length), j < k + 1 → barK ⟨x2, k2, r2, t2⟩ L[j] = false) := fun e j hj hjk => by
        by_cases ej : j = k
        · subst ej; exact e
        · exact NB.out j hj (by omega)
      have YES : Hid (barK ⟨x2, k2, r2, t2⟩ L[k] = true → barL L ⟨x2, k2, r2, t2⟩ = true) := fun e => any_hit hlt e
      generalize L[k] = p at *
      obtain ⟨x1, k1, r1, t1⟩ := p
      have c1 := s0.1
      have HBK : Hid (barK ⟨x2, k2, r2, t2⟩ ⟨x1, k1, r1, t1⟩ = (wayB ⟨x1, k1, r1, t1⟩ ⟨x2, k2, r2, t2⟩ && (!t1 || decide (x1 < x2)))) := rfl
      have hwy := way_any ⟨x1, k1, r1, t1⟩ ⟨x2, k2, r2, t2⟩
      generalize wayB ⟨x1, k1, r1, t1⟩ ⟨x2, k2, r2, t2⟩ = g at *
      have sB : BaS d b (off + k * 4) (off + i * 4) (.slice (some ⟨b, off, none⟩) L.length cap) ⟨x1, k1, r1, t1⟩ ⟨x2, k2, r2, t2⟩ wr.drew ∧ Below w.heap.size w wr.drew := ⟨s0, below_dr BW.out⟩
      go_wp2_with fail
      go_region_held3 (fun w' => BaB w d b (off + k * 4) (off + i * 4) (.slice (some ⟨b, off, none⟩) L.length cap) ⟨x1, k1, r1, t1⟩ ⟨x2, k2, r2, t2⟩ w') (first | exact sB | (refine BaB.below ?_ (by assumption); assumption)) (first | (go_at_call 60; refine (hwy _).mono ?_; rintro e w2 ⟨rfl, hb2⟩))
      obtain ⟨S2, BW2'⟩ : BaS d b (off + k * 4) (off + i * 4) (.slice (some ⟨b, off, none⟩) L.length cap) ⟨x1, k1, r1, t1⟩ ⟨x2, k2, r2, t2⟩ w2 ∧ Below w.heap.size w w2 := by assumption
      obtain ⟨c1', ⟨p0, p1, p2, p3⟩, q0, q1, q2, q3⟩ := S2
      have BW2 : Hid (Below w.heap.size w w2) := BW2'
      clear sB s0 c1 BW2' hb2 hwy
      clear p1 p2 q1 q2 q3
      have X : Hid (∀ n, Below w.heap.size w (w2.drewN n)) := fun n => BW2.out.trans ((below_dN w2 n).mono BW2.out.size)
      cases g
      · have e0 := HBK.out
        simp at e0
        have HN : Hid (∀ j (hj : j < L.length), j < k + 1 → barK ⟨x2, k2, r2, t2⟩ L[j] = false) := NO.out e0
        clear e0
        go_wp2_with fail
        go_quiet (fail)
        go_wp2
        go_roundw
        case rel => exact ⟨k + 1, by omega, by go_num, X.out _, HN⟩
        case measure => simp [intOf]; omega
      · cases t1
        · have HY : Hid (barL L ⟨x2, k2, r2, t2⟩ = true) := YES.out (by rw [HBK.out]; rfl)
          go_wp2_with fail
          go_quiet (fail)
          go_wp2
          go_ret
          exact ⟨by rw [HY.out]; rfl, X.out _⟩
        · by_cases hx : x1 < x2
          · have HY : Hid (barL L ⟨x2, k2, r2, t2⟩ = true) := YES.out (by rw [HBK.out]; simpa using hx)
            have hd : decide (x1 < x2) = true := by simpa using hx
            go_wp2_with fail
            go_quiet (fail)
            go_wp2
            go_ret
            exact ⟨by rw [HY.out]; rfl, X.out _⟩
          · have HN : Hid (∀ j (hj : j < L.length), j < k + 1 → barK ⟨x2, k2, r2, t2⟩ L[j] = false) := NO.out (by rw [HBK.out]; simpa using hx)
            have hd : decide (x1 < x2) = false := by simpa using hx
            go_wp2_with fail
            go_quiet (fail)
            go_wp2
            go_roundw
            case rel => exact ⟨k + 1, by omega, by go_num, X.out _, HN⟩
            case measure => simp [intOf]; omega
    · have hki : ¬ (k : Int) < (L.length : Int) := by omega
      have c1 : wr.cell? ⟨d, 1, none⟩ = some (.slice (some ⟨b, off, none⟩) L.length cap) := (HC.out wr BW.out i hi).1
      have HZ : Hid (barL L ⟨x2, k2, r2, t2⟩ = false) := any_miss fun j hj => NB.out j hj (by omega)
      go_wp2
      go_ret
      exact ⟨by rw [HZ.out]; rfl, BW.out⟩

/-- What got leaves: the list anew. -/
def RPut (w : World) (d : Nat) (m : Int) (L : List L4) (F : List Int) (vf : Value) (w' : World) : Prop :=
  ∃ vl', RLd w' d m L F vl' vf ∧ Fr (fun b => b = d) w w' ∧ ∀ g, vl'.ownBlock = some g → w.heap.size ≤ g
theorem any_next {L : List L4} {f : L4 → Bool} {k : Nat} (hk : k < L.length) : (L.take (k + 1)).any f = ((L.take k).any f || f L[k]) := by
  rw [take_next hk, List.any_append]; simp
theorem heap_cells_set2 {w : World} {d : Nat} {a b c e v : Value} {T : TypeId} (h : w.heap[d]? = some (.cells #[a, b, c, e] T (0, 0))) : (w.setCell ⟨d, 2, none⟩ v).heap[d]? = some (.cells #[a, b, v, e] T (0, 0)) := by
  simp [World.setCell, Array.getElem?_modify, h]
theorem heap_cells_set3 {w : World} {d : Nat} {a b c e v : Value} {T : TypeId} (h : w.heap[d]? = some (.cells #[a, b, c, e] T (0, 0))) : (w.setCell ⟨d, 3, none⟩ v).heap[d]? = some (.cells #[a, b, c, v] T (0, 0)) := by
  simp [World.setCell, Array.getElem?_modify, h]

set_option maxRecDepth 20000 in
set_option maxHeartbeats 8000000 in
theorem rgot_any (w : World) (d : Nat) (m : Int) (L : List L4) (F : List Int) (vl vf : Value) (i : Nat) (hi : i < L.length) (a : L4) (ha : L[i] = a) (h : RLd w d m L F vl vf) (hn : L.length ≤ 1000) :
    Calls Try.prog 63 #[.pointer (some ⟨d, 0, none⟩), .int .i64 i] w fun e w' => e = .returned (.tuple #[]) ∧ RPut w d m (gotR L a) F vf w' := by
  obtain ⟨ao, cap, hv, hr, _, _⟩ := h.l.rd ll_len
  obtain ⟨b, off, rfl, hb, hc⟩ := hr.resolve_left (by intro e; rw [e] at hi; simp at hi)
  have HC : Hid (∀ W, Below w.heap.size w W → ∀ k (hk : k < L.length), BaS d b (off + k * 4) (off + i * 4) (.slice (some ⟨b, off, none⟩) L.length cap) L[k] a W) := fun W hW k hk => by
    have hcr := hc.block (hW.block b hb)
    have q := hcr i hi
    rw [ha] at q
    exact ⟨by rw [← hv]; exact (h.below hW).cells.1, ⟨hcr k hk 0 _ rfl, hcr k hk 1 _ rfl, hcr k hk 2 _ rfl, hcr k hk 3 _ rfl⟩, q 0 _ rfl, q 1 _ rfl, q 2 _ rfl, q 3 _ rfl⟩
  have H0 : Hid (RLd w d m L F vl vf) := h
  have hii : (i : Int) < (L.length : Int) := by omega
  obtain ⟨x, y, z, t⟩ := a
  obtain ⟨c1, -, q0, q1, q2, q3⟩ := HC.out w (Below.refl _ _) i hi
  clear h hv hr hc ha hb
  go_enter Try.func63, Try.ntmps63
  go_wp2
  obtain ⟨W0, hW0⟩ : ∃ W0, W0 = w.alloc (.cells #[.int .i64 x, .int .i64 y, .bool z, .bool false] 92) := ⟨_, rfl⟩
  have B0 : Hid (Below w.heap.size w W0 ∧ W0.heap[w.heap.size]? = some (.cells #[.int .i64 x, .int .i64 y, .bool z, .bool false] 92 (0, 0))) := by
    rw [hW0]
    exact ⟨(Below.refl _ _).alloc (Nat.le_refl _) _, heap_new _ _⟩
  rw [← hW0]
  clear hW0 c1 q0 q1 q2 q3
  go_loopw [5, 6] (fun s5 s6 wr => ∃ k : Nat, k ≤ L.length ∧ s6 = .int .i64 k ∧ Hid (Below w.heap.size w wr ∧ wr.heap[w.heap.size]? = some (.cells #[.int .i64 x, .int .i64 y, .bool (z || (L.take k).any (fun l => sameL ⟨x, y, z, t⟩ l && l.wr)), .bool false] 92 (0, 0))) ∧ Hid (Own ll 4 92 wr s5 ((L.take k).filter (fun l => !sameL ⟨x, y, z, t⟩ l)) ∧ ∀ g, s5.ownBlock = some g → w.heap.size < g)) (fun _ s6 _ => L.length - (intOf s6).toNat)
  case atStart => exact ⟨0, Nat.zero_le _, rfl, ⟨B0.out.1, by simpa using B0.out.2⟩, Own.nil _ _ _ _, fun g e => by simp [Value.ownBlock] at e⟩
  case round =>
    obtain ⟨k, hk, rfl, BX, HO⟩ := hrel
    clear B0
    have hbx := BX.out.2
    generalize hzz : (z || (L.take k).any (fun l => sameL ⟨x, y, z, t⟩ l && l.wr)) = zz at *
    have HZZ : Hid ((z || (L.take k).any (fun l => sameL ⟨x, y, z, t⟩ l && l.wr)) = zz) := hzz
    have a0 : wr.cell? ⟨w.heap.size, 0, none⟩ = some (.int .i64 x) := by rw [cell_of_heap hbx]; rfl
    have a1 : wr.cell? ⟨w.heap.size, 1, none⟩ = some (.int .i64 y) := by rw [cell_of_heap hbx]; rfl
    have a2 : wr.cell? ⟨w.heap.size, 2, none⟩ = some (.bool zz) := by rw [cell_of_heap hbx]; rfl
    have a3 : wr.cell? ⟨w.heap.size, 3, none⟩ = some (.bool false) := by rw [cell_of_heap hbx]; rfl
    have f2 := Sh.free (n := 4) ⟨_, hbx, rfl⟩ 2
    clear hbx hzz
    by_cases hlt : k < L.length
    · obtain ⟨c1, ⟨p0, p1, p2, p3⟩, -⟩ := HC.out wr BX.out.1 k hlt
      have hki : (k : Int) < (L.length : Int) := by omega
      have AN : Hid ((L.take (k + 1)).any (fun l => sameL ⟨x, y, z, t⟩ l && l.wr) = ((L.take k).any (fun l => sameL ⟨x, y, z, t⟩ l && l.wr) || (sameL ⟨x, y, z, t⟩ L[k] && L[k].wr))) := any_next hlt
      have NX : Hid ((!sameL ⟨x, y, z, t⟩ L[k]) = true → (L.take (k + 1)).filter (fun l => !sameL ⟨x, y, z, t⟩ l) = (L.take k).filter (fun l => !sameL ⟨x, y, z, t⟩ l) ++ [L[k]]) := fun e => filter_next (p := fun l => !sameL ⟨x, y, z, t⟩ l) hlt e
      have SK : Hid ((!sameL ⟨x, y, z, t⟩ L[k]) = false → (L.take (k + 1)).filter (fun l => !sameL ⟨x, y, z, t⟩ l) = (L.take k).filter (fun l => !sameL ⟨x, y, z, t⟩ l)) := fun e => filter_skip (p := fun l => !sameL ⟨x, y, z, t⟩ l) hlt e
      have HLN : Hid (((L.take k).filter (fun l => !sameL ⟨x, y, z, t⟩ l)).length ≤ 1000) := Nat.le_trans (List.length_filter_le _ _) (by rw [List.length_take]; omega)
      obtain ⟨pl, hpl⟩ : ∃ pl, pl = (L.take k).filter (fun l => !sameL ⟨x, y, z, t⟩ l) := ⟨_, rfl⟩
      rw [← hpl] at HO NX SK HLN
      clear hpl
      generalize L[k] = l at *
      obtain ⟨x1, y1, z1, t1⟩ := l
      by_cases hs : x1 = x ∧ y1 = y
      · obtain ⟨hx, hy⟩ := hs
        have hsl : sameL ⟨x, y, z, t⟩ ⟨x1, y1, z1, t1⟩ = true := by simp [sameL, hx, hy]
        rw [hsl] at AN SK NX
        have AN2 : Hid ((z || (L.take (k + 1)).any (fun l => sameL ⟨x, y, z, t⟩ l && l.wr)) = (zz || z1)) := by show _ = _; rw [AN.out, ← HZZ.out, Bool.or_assoc]; rfl
        have F1 : Hid ((L.take (k + 1)).filter (fun l => !sameL ⟨x, y, z, t⟩ l) = pl) := SK.out rfl
        have YS : Hid (∀ (n : Nat) (v : Bool), v = (zz || z1) → (Below w.heap.size w ((wr.drewN n).setCell ⟨w.heap.size, 2, none⟩ (.bool v)) ∧ ((wr.drewN n).setCell ⟨w.heap.size, 2, none⟩ (.bool v)).heap[w.heap.size]? = some (.cells #[.int .i64 x, .int .i64 y, .bool (z || (L.take (k + 1)).any (fun l => sameL ⟨x, y, z, t⟩ l && l.wr)), .bool false] 92 (0, 0))) ∧ (Own ll 4 92 ((wr.drewN n).setCell ⟨w.heap.size, 2, none⟩ (.bool v)) u5 ((L.take (k + 1)).filter (fun l => !sameL ⟨x, y, z, t⟩ l)) ∧ ∀ g, u5.ownBlock = some g → w.heap.size < g)) := fun n v e => by
          subst e
          have bd := below_dN wr n
          have hbx : (wr.drewN n).heap[w.heap.size]? = some (.cells #[.int .i64 x, .int .i64 y, .bool zz, .bool false] 92 (0, 0)) := by
            rw [bd.block _ (cell_lt a0)]; exact BX.out.2
          refine ⟨⟨(BX.out.1.trans (bd.mono BX.out.1.size)).setCell (Nat.le_refl _) _, by rw [AN2.out]; exact heap_cells_set2 hbx⟩, ?_, HO.out.2⟩
          rw [F1.out]
          exact (own_below HO.out.1 bd).fr (fr_set _ _ _ _) fun g hg e => by have := HO.out.2 g hg; omega
        clear AN SK NX hsl
        cases zz
        · go_wp2_with fail
          go_quiet (fail)
          go_wp2
          go_roundw
          case rel => exact ⟨k + 1, by omega, by go_num, (YS.out _ _ rfl).1, (YS.out _ _ rfl).2⟩
          case measure => simp [intOf]; omega
        · go_wp2_with fail
          go_quiet (fail)
          go_wp2
          go_roundw
          case rel => exact ⟨k + 1, by omega, by go_num, (YS.out _ _ rfl).1, (YS.out _ _ rfl).2⟩
          case measure => simp [intOf]; omega
      · have hsl : sameL ⟨x, y, z, t⟩ ⟨x1, y1, z1, t1⟩ = false := by
          rw [Bool.eq_false_iff]; intro e
          exact hs (by simpa [sameL] using e)
        rw [hsl] at AN SK NX
        have AN2 : Hid ((z || (L.take (k + 1)).any (fun l => sameL ⟨x, y, z, t⟩ l && l.wr)) = zz) := by show _ = _; rw [AN.out, ← HZZ.out]; simp
        have F1 : Hid ((L.take (k + 1)).filter (fun l => !sameL ⟨x, y, z, t⟩ l) = pl ++ [⟨x1, y1, z1, t1⟩]) := NX.out rfl
        have BD : Hid (∀ n, Below wr.heap.size wr (wr.drewN n)) := below_dN wr
        have YS : Hid (∀ (w5 : World), Below wr.heap.size wr w5 → (BaS d b (off + k * 4) (off + k * 4) (.slice (some ⟨b, off, none⟩) L.length cap) ⟨x1, y1, z1, t1⟩ ⟨x1, y1, z1, t1⟩ w5) ∧ Own ll 4 92 (w5.alloc (.cells #[.int .i64 x1, .int .i64 y1, .bool z1, .bool t1] 92)) u5 pl ∧ ∀ (g cap' : Nat) (w4 : World), Own ll 4 92 w4 (.slice (some ⟨g, 0, none⟩) (pl.length + 1) cap') (pl ++ [⟨x1, y1, z1, t1⟩]) → Fr (fun b => u5.ownBlock = some b) (w5.alloc (.cells #[.int .i64 x1, .int .i64 y1, .bool z1, .bool t1] 92)) w4 → (u5.ownBlock = some g ∨ (w5.alloc (.cells #[.int .i64 x1, .int .i64 y1, .bool z1, .bool t1] 92)).heap.size ≤ g) →
            (Below w.heap.size w w4 ∧ w4.heap[w.heap.size]? = some (.cells #[.int .i64 x, .int .i64 y, .bool (z || (L.take (k + 1)).any (fun l => sameL ⟨x, y, z, t⟩ l && l.wr)), .bool false] 92 (0, 0))) ∧ (Own ll 4 92 w4 (.slice (some ⟨g, 0, none⟩) (pl.length + 1) cap') ((L.take (k + 1)).filter (fun l => !sameL ⟨x, y, z, t⟩ l)) ∧ ∀ g', (Value.slice (some ⟨g, 0, none⟩) (pl.length + 1) cap').ownBlock = some g' → w.heap.size < g')) := fun w5 bd => by
          refine ⟨BaS.below ⟨c1, ⟨p0, p1, p2, p3⟩, p0, p1, p2, p3⟩ bd, own_below (own_below HO.out.1 bd) ((Below.refl _ _).alloc (Nat.le_refl _) _), fun g cap' w4 ho hf hat => ?_⟩
          have ba := bd.trans (((Below.refl w5.heap.size w5).alloc (Nat.le_refl _) (.cells #[.int .i64 x1, .int .i64 y1, .bool z1, .bool t1] 92)).mono bd.size)
          have hsz : w.heap.size < wr.heap.size := cell_lt a0
          refine ⟨⟨below_fr (BX.out.1.trans (ba.mono BX.out.1.size)) (Nat.le_refl _) hf fun g' e => Nat.le_of_lt (HO.out.2 g' e), ?_⟩, by rw [F1.out]; exact ho, fun g' e => ?_⟩
          · rw [AN2.out, hf.block _ (Nat.lt_of_lt_of_le hsz ba.size) (fun e => by have := HO.out.2 _ e; omega), ba.block _ hsz]
            exact BX.out.2
          · have e' : g = g' := by simpa [Value.ownBlock] using e
            subst e'
            rcases hat with q | q
            · exact HO.out.2 g q
            · have := ba.size
              omega
        clear AN SK NX hsl
        have e1 : decide (x1 = x) = true → decide (y1 = y) = false := fun e => by
          have : x1 = x := by simpa using e
          rw [Bool.eq_false_iff]; intro q
          exact hs ⟨this, by simpa using q⟩
        clear a2 a3
        by_cases hx : x1 = x
        · have hy : ¬ y1 = y := by simpa using e1 (by simpa using hx)
          have hyd : decide (y1 = y) = false := by simpa using hy
          clear e1 hs
          subst x
          go_wp2_with fail
          go_quiet (fail)
          generalize hw5 : wr.drewN _ = w5
          obtain ⟨⟨c1', ⟨p0', p1', p2', p3'⟩, -⟩, o3, ys⟩ := YS.out w5 (by rw [← hw5]; exact BD.out _)
          have O3 : Hid (Own ll 4 92 (w5.alloc (.cells #[.int .i64 x1, .int .i64 y1, .bool z1, .bool t1] 92)) u5 pl) := o3
          have YY : Hid _ := ys
          clear hw5 o3 ys c1 p0 p1 p2 p3 a0 a1 f2 YS
          go_wp2_with (at_builtin; refine app_list el_rlock _ rfl _ _ rfl u5 pl rfl O3.out (w5.heap.size) ⟨x1, y1, z1, t1⟩ #[.int .i64 x1, .int .i64 y1, .bool z1, .bool t1] 92 rfl (heap_new _ _) rfl (by have := HLN.out; omega) ?_)
          intro g cap' w4 ho hf hat hgl
          obtain ⟨X1, X2⟩ := YY.out g cap' w4 ho hf (by simpa using hat)
          have X1' : Hid _ := X1
          have X2' : Hid _ := X2
          clear X1 X2 ho hf hat c1' p0' p1' p2' p3'
          go_wp2
          go_roundw
          case rel => exact ⟨k + 1, by omega, by go_num, X1', X2'⟩
          case measure => simp [intOf]; omega
        · have hxd : decide (x1 = x) = false := by simpa using hx
          clear e1 hs
          go_wp2_with fail
          go_quiet (fail)
          generalize hw5 : wr.drewN _ = w5
          obtain ⟨⟨c1', ⟨p0', p1', p2', p3'⟩, -⟩, o3, ys⟩ := YS.out w5 (by rw [← hw5]; exact BD.out _)
          have O3 : Hid (Own ll 4 92 (w5.alloc (.cells #[.int .i64 x1, .int .i64 y1, .bool z1, .bool t1] 92)) u5 pl) := o3
          have YY : Hid _ := ys
          clear hw5 o3 ys c1 p0 p1 p2 p3 a0 a1 f2 YS
          go_wp2_with (at_builtin; refine app_list el_rlock _ rfl _ _ rfl u5 pl rfl O3.out (w5.heap.size) ⟨x1, y1, z1, t1⟩ #[.int .i64 x1, .int .i64 y1, .bool z1, .bool t1] 92 rfl (heap_new _ _) rfl (by have := HLN.out; omega) ?_)
          intro g cap' w4 ho hf hat hgl
          obtain ⟨X1, X2⟩ := YY.out g cap' w4 ho hf (by simpa using hat)
          have X1' : Hid _ := X1
          have X2' : Hid _ := X2
          clear X1 X2 ho hf hat c1' p0' p1' p2' p3'
          go_wp2
          go_roundw
          case rel => exact ⟨k + 1, by omega, by go_num, X1', X2'⟩
          case measure => simp [intOf]; omega
    · have hki : ¬ (k : Int) < (L.length : Int) := by omega
      have c1 := (HC.out wr BX.out.1 i hi).1
      have hkk : Hid (L.take k = L) := by show _ = _; rw [show k = L.length by omega, List.take_length]
      rw [hkk.out] at HO HZZ
      clear hkk f2
      have HLN : Hid ((L.filter (fun l => !sameL ⟨x, y, z, t⟩ l)).length ≤ 1000) := Nat.le_trans (List.length_filter_le _ _) hn
      have GR : Hid (gotR L ⟨x, y, z, t⟩ = L.filter (fun l => !sameL ⟨x, y, z, t⟩ l) ++ [⟨x, y, zz, false⟩]) := by show _ = _; unfold gotR; rw [HZZ.out]
      generalize L.filter (fun l => !sameL ⟨x, y, z, t⟩ l) = pl at *
      have O3 : Hid (Own ll 4 92 (wr.alloc (.cells #[.int .i64 x, .int .i64 y, .bool zz, .bool false] 92)) u5 pl) := own_below HO.out.1 ((Below.refl _ _).alloc (Nat.le_refl _) _)
      have hdl : Hid (d < w.heap.size) := H0.out.lt
      go_wp2_with (at_builtin; refine app_list el_rlock _ rfl _ _ rfl u5 pl rfl O3.out (wr.heap.size) ⟨x, y, zz, false⟩ #[.int .i64 x, .int .i64 y, .bool zz, .bool false] 92 rfl (heap_new _ _) rfl (by have := HLN.out; omega) ?_)
      intro g cap' w4 ho hf hat hgl
      have ba := ((Below.refl wr.heap.size wr).alloc (Nat.le_refl _) (.cells #[.int .i64 x, .int .i64 y, .bool zz, .bool false] 92))
      have B4 : Hid (Below w.heap.size w w4) := below_fr (BX.out.1.trans (ba.mono BX.out.1.size)) (Nat.le_refl _) hf fun g' e => Nat.le_of_lt (HO.out.2 g' e)
      have hbx : w4.heap[d]? = some (.cells #[.int .i64 m, vl, vf] 71 (0, 0)) := (H0.out.below B4.out).box
      have HBX : Hid (w4.heap[d]? = some (.cells #[.int .i64 m, vl, vf] 71 (0, 0))) := hbx
      have g0 := Sh.free (n := 3) ⟨_, hbx, rfl⟩ 1
      have ho' : Hid (Own ll 4 92 w4 (.slice (some ⟨g, 0, none⟩) (pl.length + 1) cap') (pl ++ [⟨x, y, zz, false⟩])) := ho
      have HG : Hid (w.heap.size < g) := by
        show _ < _
        rcases hat with q | q
        · exact HO.out.2 g q
        · have := BX.out.1.size
          have q2 : wr.heap.size + 1 ≤ g := by simpa using q
          omega
      have c0 := (H0.out.below B4.out).cells.1
      clear hbx c1 a0 a1 a2 a3 ho hf hat ba
      go_wp2
      go_end0
      have f1 := fr_set w4 d 1 (.slice (some ⟨g, 0, none⟩) (pl.length + 1) cap')
      refine ⟨rfl, .slice (some ⟨g, 0, none⟩) (pl.length + 1) cap', ⟨?_, ?_, ?_, ?_, H0.out.fd, ?_⟩, (Fr.of_below (D := fun b => b = d) B4.out).trans f1 fun g _ e => e, fun g' e => ?_⟩
      · simp [World.setCell, Array.getElem?_modify, HBX.out]
      · rw [GR.out]
        exact ho'.out.fr f1 fun g' e q => by
          have e' : g = g' := by simpa [Value.ownBlock] using e
          have := HG.out; have := hdl.out; omega
      · exact ((H0.out.below B4.out).f).fr f1 fun g' e q => H0.out.fd (by rw [e, q])
      · intro e
        have e' : g = d := by simpa [Value.ownBlock] using e
        have := HG.out; have := hdl.out; omega
      · intro g' e q
        have e' : g = g' := by simpa [Value.ownBlock] using e
        have := HG.out
        have := H0.out.f.lt q
        omega
      · have e' : g = g' := by simpa [Value.ownBlock] using e
        have := HG.out
        omega
end Go.Proofs.Ytlagmbieaicmgaa
