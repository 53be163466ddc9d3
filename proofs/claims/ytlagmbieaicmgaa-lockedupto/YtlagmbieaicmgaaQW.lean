/- Locked, walked. -/
import Derived.Test.YtlagmbieaicmgaaQV
namespace Go.Proofs.Ytlagmbieaicmgaa
open Go.RowKit Lk Go.Shelf

theorem one_ans : (takeT ⟨1, [], [], []⟩ ⟨1, 0, true⟩).ans = 1 := by rfl

/-- What a step reads. -/
abbrev StS (bx by' p b o : Nat) (vx vy : Value) (q : Q5) (w : World) : Prop :=
  w.cell? ⟨bx, p, none⟩ = some vx ∧ w.cell? ⟨by', p, none⟩ = some vy ∧ w.cell? ⟨b, o, none⟩ = some (.int .i64 q.kd) ∧ w.cell? ⟨b, o + 1, none⟩ = some (.int .i64 q.tb) ∧ w.cell? ⟨b, o + 2, none⟩ = some (.int .i64 q.tx) ∧ w.cell? ⟨b, o + 3, none⟩ = some (.int .i64 q.key) ∧ w.cell? ⟨b, o + 4, none⟩ = some (.bool q.wr)
theorem StS.fr {D : Nat → Prop} {bx by' p b o : Nat} {vx vy : Value} {q : Q5} {w w' : World} (h : StS bx by' p b o vx vy q w) (hf : Fr D w w') (h1 : ¬ D bx) (h2 : ¬ D by') (h3 : ¬ D b) : StS bx by' p b o vx vy q w' :=
  ⟨hf.cell h.1 h1, hf.cell h.2.1 h2, hf.cell h.2.2.1 h3, hf.cell h.2.2.2.1 h3, hf.cell h.2.2.2.2.1 h3, hf.cell h.2.2.2.2.2.1 h3, hf.cell h.2.2.2.2.2.2 h3⟩

/-- The book and the two arrays, as the tables come into them. -/
def AR (w W : World) (x0 x1 y0 y1 : Value) : Prop :=
  Below w.heap.size w W ∧ W.heap[w.heap.size]? = some (.cells #[.slice none 0 0, .slice none 0 0, .slice none 0 0, .slice none 0 0, .slice none 0 0, .int .i64 0] 30 (0, 0)) ∧
    W.heap[w.heap.size + 1]? = some (.cells #[x0, x1, .pointer none] 32 (0, 0)) ∧ W.heap[w.heap.size + 2]? = some (.cells #[y0, y1, .pointer none] 34 (0, 0))
theorem AR.below {w W W' : World} {x0 x1 y0 y1 : Value} (h : AR w W x0 x1 y0 y1) (hb : Below W.heap.size W W') : AR w W' x0 x1 y0 y1 := ⟨h.1.trans (hb.mono h.1.size), box_below h.2.1 hb, box_below h.2.2.1 hb, box_below h.2.2.2 hb⟩
theorem heap_set_other {w : World} {b c o : Nat} {v : Value} (h : b ≠ c) : (w.setCell ⟨c, o, none⟩ v).heap[b]? = w.heap[b]? := Below.heap_setCell _ _ _ _ h
theorem AR.x0 {w W : World} {x0 x1 y0 y1 : Value} (h : AR w W x0 x1 y0 y1) (v : Value) : AR w (W.setCell ⟨w.heap.size + 1, 0, none⟩ v) v x1 y0 y1 := by
  refine ⟨h.1.setCell (by show _ ≤ w.heap.size + 1; omega) _, by rw [heap_set_other (by omega)]; exact h.2.1, ?_, by rw [heap_set_other (by omega)]; exact h.2.2.2⟩
  simp [World.setCell, Array.getElem?_modify, h.2.2.1]
theorem AR.x1 {w W : World} {x0 x1 y0 y1 : Value} (h : AR w W x0 x1 y0 y1) (v : Value) : AR w (W.setCell ⟨w.heap.size + 1, 1, none⟩ v) x0 v y0 y1 := by
  refine ⟨h.1.setCell (by show _ ≤ w.heap.size + 1; omega) _, by rw [heap_set_other (by omega)]; exact h.2.1, ?_, by rw [heap_set_other (by omega)]; exact h.2.2.2⟩
  simp [World.setCell, Array.getElem?_modify, h.2.2.1]
theorem AR.y0 {w W : World} {x0 x1 y0 y1 : Value} (h : AR w W x0 x1 y0 y1) (v : Value) : AR w (W.setCell ⟨w.heap.size + 2, 0, none⟩ v) x0 x1 v y1 := by
  refine ⟨h.1.setCell (by show _ ≤ w.heap.size + 2; omega) _, by rw [heap_set_other (by omega)]; exact h.2.1, by rw [heap_set_other (by omega)]; exact h.2.2.1, ?_⟩
  simp [World.setCell, Array.getElem?_modify, h.2.2.2]
theorem AR.y1 {w W : World} {x0 x1 y0 y1 : Value} (h : AR w W x0 x1 y0 y1) (v : Value) : AR w (W.setCell ⟨w.heap.size + 2, 1, none⟩ v) x0 x1 y0 v := by
  refine ⟨h.1.setCell (by show _ ≤ w.heap.size + 2; omega) _, by rw [heap_set_other (by omega)]; exact h.2.1, by rw [heap_set_other (by omega)]; exact h.2.2.1, ?_⟩
  simp [World.setCell, Array.getElem?_modify, h.2.2.2]
theorem AR.lt {w W : World} {x0 x1 y0 y1 : Value} (h : AR w W x0 x1 y0 y1) : w.heap.size + 2 < W.heap.size := (Array.getElem?_eq_some_iff.1 h.2.2.2).1
theorem AR.cx {w W : World} {x0 x1 y0 y1 : Value} (h : AR w W x0 x1 y0 y1) : W.cell? ⟨w.heap.size + 1, 0, none⟩ = some x0 ∧ W.cell? ⟨w.heap.size + 1, 1, none⟩ = some x1 ∧ W.frozen? ⟨w.heap.size + 1, 0, none⟩ = false ∧ W.frozen? ⟨w.heap.size + 1, 1, none⟩ = false := by
  refine ⟨?_, ?_, Sh.free (n := 3) ⟨_, h.2.2.1, rfl⟩ 0, Sh.free (n := 3) ⟨_, h.2.2.1, rfl⟩ 1⟩ <;> rw [cell_of_heap h.2.2.1] <;> rfl
theorem AR.cy {w W : World} {x0 x1 y0 y1 : Value} (h : AR w W x0 x1 y0 y1) : W.cell? ⟨w.heap.size + 2, 0, none⟩ = some y0 ∧ W.cell? ⟨w.heap.size + 2, 1, none⟩ = some y1 ∧ W.frozen? ⟨w.heap.size + 2, 0, none⟩ = false ∧ W.frozen? ⟨w.heap.size + 2, 1, none⟩ = false := by
  refine ⟨?_, ?_, Sh.free (n := 3) ⟨_, h.2.2.2, rfl⟩ 0, Sh.free (n := 3) ⟨_, h.2.2.2, rfl⟩ 1⟩ <;> rw [cell_of_heap h.2.2.2] <;> rfl
theorem AR.start (w : World) : AR w (((w.alloc (.cells #[.slice none 0 0, .slice none 0 0, .slice none 0 0, .slice none 0 0, .slice none 0 0, .int .i64 0] 30)).alloc (.cells #[.pointer none, .pointer none, .pointer none] 32)).alloc (.cells #[.pointer none, .pointer none, .pointer none] 34)) (.pointer none) (.pointer none) (.pointer none) (.pointer none) := by
  have h1 := heap_new w (.cells #[.slice none 0 0, .slice none 0 0, .slice none 0 0, .slice none 0 0, .slice none 0 0, .int .i64 0] 30)
  have h2 := heap_new (w.alloc (.cells #[.slice none 0 0, .slice none 0 0, .slice none 0 0, .slice none 0 0, .slice none 0 0, .int .i64 0] 30)) (.cells #[.pointer none, .pointer none, .pointer none] 32)
  have h3 := heap_new ((w.alloc (.cells #[.slice none 0 0, .slice none 0 0, .slice none 0 0, .slice none 0 0, .slice none 0 0, .int .i64 0] 30)).alloc (.cells #[.pointer none, .pointer none, .pointer none] 32)) (.cells #[.pointer none, .pointer none, .pointer none] 34)
  have al : ∀ (u : World) (o : Obj), Below u.heap.size u (u.alloc o) := fun u o => (Below.refl _ _).alloc (Nat.le_refl _) _
  refine ⟨(((Below.refl _ _).alloc (Nat.le_refl _) _).alloc (by simp) _).alloc (by simp; omega) _, box_below (box_below h1 (al _ _)) (al _ _), ?_, ?_⟩
  · have := box_below h2 (al _ (.cells #[.pointer none, .pointer none, .pointer none] 34))
    simpa using this
  · simpa using h3
theorem fr_set_low {n b o : Nat} {w : World} {v : Value} (h : b < n) : Fr (fun g => g < n) w (w.setCell ⟨b, o, none⟩ v) := (fr_set w b o v).mono fun g _ e => by rw [e]; exact h

theorem TP.nils {w : World} {ax ay : Option Addr} {D : Nat → Prop} (h : TP w (.pointer ax) (.pointer ay) D) : (ax = none ∧ ay = none) ∨ ∃ a d, ax = some ⟨a, 0, none⟩ ∧ ay = some ⟨d, 0, none⟩ := by
  rcases h with ⟨e1, e2, _⟩ | ⟨a, d, _, _, _, _, _, e1, e2, _⟩
  · injection e1 with e1
    injection e2 with e2
    exact .inl ⟨e1, e2⟩
  · injection e1 with e1
    injection e2 with e2
    exact .inr ⟨a, d, e1, e2⟩
theorem BK.start {w : World} {d : Nat} (h : w.heap[d]? = some (.cells #[.slice none 0 0, .slice none 0 0, .slice none 0 0, .slice none 0 0, .slice none 0 0, .int .i64 0] 30 (0, 0))) : BK w d 0 0 0 (fun g => g = d) (fun _ => False) := by
  have nb : ∀ g, (Value.slice none 0 0).ownBlock = some g → False := fun g e => by simp [Value.ownBlock] at e
  refine ⟨[], [], [], .slice none 0 0, .slice none 0 0, .slice none 0 0, ⟨h, Own.nil _ _ _ _, Own.nil _ _ _ _, Own.nil _ _ _ _, fun e => nb _ e, fun e => nb _ e, fun e => nb _ e, fun b e => (nb b e).elim, fun b e => (nb b e).elim, fun b e => (nb b e).elim⟩, fun g => ⟨fun q => ?_, fun q => .inl q⟩, fun n hn => absurd hn (Nat.not_lt_zero _), fun n hn => absurd hn (Nat.not_lt_zero _), fun n hn => absurd hn (Nat.not_lt_zero _), fun g e => e.elim, rfl, rfl, rfl⟩
  rcases q with q | q | q | q
  · exact q
  · exact (nb g q).elim
  · exact (nb g q).elim
  · exact (nb g q).elim

set_option maxRecDepth 20000 in
set_option maxHeartbeats 16000000 in
theorem locked_any (w : World) (one two : Int) (ao : Option Addr) (cap : Nat) (qs : List Q5) (hr : Rd q5l 5 w ao qs) (hn : qs.length ≤ 1048576) (hq : ∀ q ∈ qs, -9223372036854775808 ≤ q.tb ∧ q.tb < 9223372036854775808) :
    Calls Try.prog 3 #[.int .i64 one, .int .i64 two, .slice ao qs.length cap] w fun e w' => e = .returned (.bool true) ∧ Below w.heap.size w w' := by
  have RQ : Hid (Rd q5l 5 w ao qs) := hr
  have HQ : Hid (∀ q ∈ qs, -9223372036854775808 ≤ q.tb ∧ q.tb < 9223372036854775808) := hq
  obtain ⟨W0, hW0⟩ : ∃ W0, W0 = ((w.alloc (.cells #[.slice none 0 0, .slice none 0 0, .slice none 0 0, .slice none 0 0, .slice none 0 0, .int .i64 0] 30)).alloc (.cells #[.pointer none, .pointer none, .pointer none] 32)).alloc (.cells #[.pointer none, .pointer none, .pointer none] 34) := ⟨_, rfl⟩
  obtain ⟨M0, c0, d0⟩ := news_u one W0
  have A0 : Hid (AR w W0 (.pointer none) (.pointer none) (.pointer none) (.pointer none)) := by rw [hW0]; exact AR.start w
  have D0c : Hid (∀ w1 vx W, M0 w1 vx → Fr (fun g => g < W0.heap.size) w1 W → Calls Try.prog 6 #[.int .i64 one] W fun e w2 => ∃ ay, e = .returned (.pointer ay) ∧ Below W.heap.size W w2 ∧ ∃ D, TP w2 vx (.pointer ay) D ∧ ∀ g, D g → W0.heap.size ≤ g) := d0
  clear hr hq d0
  go_enter Try.func3, Try.ntmps3
  go_wp2_with fail
  rw [← hW0]
  clear hW0
  refine c0.mono ?_
  rintro e w1 ⟨ax0, rfl, hb1, hm1⟩
  have A1 : Hid (AR w w1 (.pointer none) (.pointer none) (.pointer none) (.pointer none)) := A0.out.below hb1
  obtain ⟨k0, k1, f0, f1⟩ := A1.out.cx
  have A2 : Hid (AR w (w1.setCell ⟨w.heap.size + 1, 0, none⟩ (.pointer ax0)) (.pointer ax0) (.pointer none) (.pointer none) (.pointer none)) := A1.out.x0 _
  have cr0 := D0c.out w1 _ (w1.setCell ⟨w.heap.size + 1, 0, none⟩ (.pointer ax0)) hm1 (fr_set_low (by have := A0.out.lt; omega))
  have HZ0 : Hid (w.heap.size + 2 < W0.heap.size) := A0.out.lt
  clear c0 hb1 hm1 D0c
  go_wp2_with fail
  refine cr0.mono ?_
  rintro e w2 ⟨ay0, rfl, hb2, D0, tp0, up0⟩
  have A3 : Hid (AR w w2 (.pointer ax0) (.pointer none) (.pointer none) (.pointer none)) := A2.out.below hb2
  clear k0 k1 f0 f1
  obtain ⟨k0, k1, f0, f1⟩ := A3.out.cy
  obtain ⟨w3, hw3⟩ : ∃ w3, w3 = w2.setCell ⟨w.heap.size + 2, 0, none⟩ (.pointer ay0) := ⟨_, rfl⟩
  have A4 : Hid (AR w w3 (.pointer ax0) (.pointer none) (.pointer ay0) (.pointer none)) := by rw [hw3]; exact A3.out.y0 _
  have T3 : Hid (TP w3 (.pointer ax0) (.pointer ay0) D0 ∧ ∀ g, D0 g → W0.heap.size ≤ g) := ⟨by rw [hw3]; exact tp0.fr (fr_set_low (n := W0.heap.size) (by have := HZ0.out; omega)) fun g e q => by have := up0 g e; omega, up0⟩
  obtain ⟨M1, c1, d1⟩ := news_u two w3
  have D1c : Hid (∀ w1 vx W, M1 w1 vx → Fr (fun g => g < w3.heap.size) w1 W → Calls Try.prog 6 #[.int .i64 two] W fun e w2 => ∃ ay, e = .returned (.pointer ay) ∧ Below W.heap.size W w2 ∧ ∃ D, TP w2 vx (.pointer ay) D ∧ ∀ g, D g → w3.heap.size ≤ g) := d1
  clear cr0 hb2 tp0 up0 d1
  go_wp2_with fail
  rw [← hw3]
  clear hw3 k0 k1 f0 f1
  refine c1.mono ?_
  rintro e w4 ⟨ax1, rfl, hb4, hm4⟩
  have A5 : Hid (AR w w4 (.pointer ax0) (.pointer none) (.pointer ay0) (.pointer none)) := A4.out.below hb4
  have T4' : Hid (TP w4 (.pointer ax0) (.pointer ay0) D0) := T3.out.1.below hb4
  obtain ⟨k0, k1, f0, f1⟩ := A5.out.cx
  have A6 : Hid (AR w (w4.setCell ⟨w.heap.size + 1, 1, none⟩ (.pointer ax1)) (.pointer ax0) (.pointer ax1) (.pointer ay0) (.pointer none)) := A5.out.x1 _
  have T6 : Hid (TP (w4.setCell ⟨w.heap.size + 1, 1, none⟩ (.pointer ax1)) (.pointer ax0) (.pointer ay0) D0) := T4'.out.fr (fr_set_low (n := W0.heap.size) (by have := HZ0.out; omega)) fun g e q => by have := T3.out.2 g e; omega
  have cr1 := D1c.out w4 _ (w4.setCell ⟨w.heap.size + 1, 1, none⟩ (.pointer ax1)) hm4 (fr_set_low (by have := A4.out.lt; omega))
  have HZ3 : Hid (∀ g, D0 g → g < w3.heap.size) := fun g e => T3.out.1.lt e
  have HZ4 : Hid (w.heap.size + 2 < w3.heap.size) := A4.out.lt
  clear c1 hb4 hm4 D1c
  go_wp2_with fail
  refine cr1.mono ?_
  rintro e w5 ⟨ay1, rfl, hb5, D1, tp1, up1⟩
  have A7 : Hid (AR w w5 (.pointer ax0) (.pointer ax1) (.pointer ay0) (.pointer none)) := A6.out.below hb5
  clear k0 k1 f0 f1
  obtain ⟨k0, k1, f0, f1⟩ := A7.out.cy
  obtain ⟨w6, hw6⟩ : ∃ w6, w6 = w5.setCell ⟨w.heap.size + 2, 1, none⟩ (.pointer ay1) := ⟨_, rfl⟩
  have A8 : Hid (AR w w6 (.pointer ax0) (.pointer ax1) (.pointer ay0) (.pointer ay1)) := by rw [hw6]; exact A7.out.y1 _
  have T8 : Hid (TP w6 (.pointer ax0) (.pointer ay0) D0 ∧ TP w6 (.pointer ax1) (.pointer ay1) D1 ∧ (∀ g, D0 g → W0.heap.size ≤ g ∧ g < w3.heap.size) ∧ ∀ g, D1 g → w3.heap.size ≤ g) := by
    refine ⟨?_, ?_, fun g e => ⟨T3.out.2 g e, HZ3.out g e⟩, up1⟩
    · rw [hw6]; exact (T6.out.below hb5).fr (fr_set_low (n := W0.heap.size) (by have := HZ0.out; omega)) fun g e q => by have := T3.out.2 g e; omega
    · rw [hw6]; exact tp1.fr (fr_set_low (n := w3.heap.size) (by have := HZ4.out; omega)) fun g e q => by have := up1 g e; omega
  clear cr1 hb5 tp1 up1 A0 A1 A2 A3 A4 A5 A6 A7 T3 T4' T6
  go_wp2
  rw [← hw6]
  clear hw6 k0 k1 f0 f1
  have L0 : Hid (LK w w.heap.size (w.heap.size + 1) (w.heap.size + 2) (.pointer ax0) (.pointer ax1) (.pointer ay0) (.pointer ay1) 0 D0 D1 (fun g => g = w.heap.size) (fun _ => False) 0 0 0 w6) := by
    obtain ⟨t0, t1, u0, u1⟩ := T8.out
    obtain ⟨q1, q2, q3, q4⟩ := A8.out
    have z0 := HZ0.out
    have z4 := HZ4.out
    refine ⟨t0, t1, BK.start q2, ⟨Nat.le_refl _, Nat.le_refl _, Nat.le_refl _⟩, fun g e q => ?_, fun g e => ⟨fun q => ?_, fun q => q⟩, fun g e => ⟨fun q => ?_, fun q => q⟩, fun g e => ?_, q1, q3, q4, by omega, by omega⟩
    · have := (u0 g e).2; have := u1 g q; omega
    · have := (u0 g e).1; omega
    · have := u1 g e; omega
    · rcases e with e | e | e | e
      · have := (u0 g e).1; omega
      · have := u1 g e; omega
      · omega
      · exact e.elim
  have N0 : Hid ((ax0 = none ∧ ay0 = none) ∨ ∃ a d, ax0 = some ⟨a, 0, none⟩ ∧ ay0 = some ⟨d, 0, none⟩) := T8.out.1.nils
  have N1 : Hid ((ax1 = none ∧ ay1 = none) ∨ ∃ a d, ax1 = some ⟨a, 0, none⟩ ∧ ay1 = some ⟨d, 0, none⟩) := T8.out.2.1.nils
  go_loopw [10] (fun s10 wr => ∃ i : Nat, i ≤ 2 ∧ s10 = .int .i64 i ∧ Hid (Below w6.heap.size w6 wr)) (fun s10 _ => 2 - (intOf s10).toNat)
  case atStart => exact ⟨0, Nat.zero_le _, rfl, Below.refl _ _⟩
  case round =>
    obtain ⟨i, hi, rfl, BW⟩ := hrel
    by_cases hlt : i < 2
    · have AA := A8.out.below BW.out
      obtain ⟨k0, k1, -, -⟩ := AA.cx
      obtain ⟨j0, j1, -, -⟩ := AA.cy
      have X : Hid (∀ n, Below w6.heap.size w6 (wr.drewN n)) := fun n => BW.out.trans ((below_dN wr n).mono BW.out.size)
      clear AA
      rcases (show i = 0 ∨ i = 1 by omega) with rfl | rfl
      · rcases N0.out with ⟨e1, e2⟩ | ⟨a, d, e1, e2⟩
        · subst e1 e2
          clear k1 j1
          go_wp2_with fail
          go_quiet (fail)
          go_wp2
          go_roundw
          case rel => exact ⟨1, by omega, rfl, X.out _⟩
          case measure => simp [intOf]
        · subst e1 e2
          clear k1 j1
          go_wp2_with fail
          go_quiet (fail)
          go_wp2
          go_roundw
          case rel => exact ⟨1, by omega, rfl, X.out _⟩
          case measure => simp [intOf]
      · rcases N1.out with ⟨e1, e2⟩ | ⟨a, d, e1, e2⟩
        · subst e1 e2
          clear k0 j0
          go_wp2_with fail
          go_quiet (fail)
          go_wp2
          go_roundw
          case rel => exact ⟨2, by omega, rfl, X.out _⟩
          case measure => simp [intOf]
        · subst e1 e2
          clear k0 j0
          go_wp2_with fail
          go_quiet (fail)
          go_wp2
          go_roundw
          case rel => exact ⟨2, by omega, rfl, X.out _⟩
          case measure => simp [intOf]
    · have hi2 : ¬ (i : Int) < 2 := by omega
      have L1 : Hid (LK w w.heap.size (w.heap.size + 1) (w.heap.size + 2) (.pointer ax0) (.pointer ax1) (.pointer ay0) (.pointer ay1) 0 D0 D1 (fun g => g = w.heap.size) (fun _ => False) 0 0 0 wr) := L0.out.below BW.out
      clear L0 A8 T8 BW hlt hi N0 N1
      generalize wr = wz at *
      go_wp2
      clear hi2
      go_loopw [11, 12, 13, 14] (fun s11 _ _ _ wr => ∃ k : Nat, k ≤ qs.length ∧ s11 = .int .i64 k ∧ Hid (∃ E0 E1 B K ni ng nw, LK w w.heap.size (w.heap.size + 1) (w.heap.size + 2) (.pointer ax0) (.pointer ax1) (.pointer ay0) (.pointer ay1) k E0 E1 B K ni ng nw wr)) (fun s11 _ _ _ _ => qs.length - (intOf s11).toNat)
      case atStart => exact ⟨0, Nat.zero_le _, rfl, _, _, _, _, _, _, _, L1.out⟩
      case round =>
        clear L1
        obtain ⟨k, hk, rfl, HK⟩ := hrel
        by_cases hlt : k < qs.length
        · obtain ⟨b, off, rfl, hb, hc⟩ := RQ.out.resolve_left (by intro e; rw [e] at hlt; simp at hlt)
          obtain ⟨E0, E1, B, K, ni, ng, nw, hlk⟩ := HK.out
          have hcw : Ra q5l 5 wr b off qs := hc.block (hlk.bel.block b hb)
          have q0 : wr.cell? ⟨b, off + k * 5, none⟩ = some (.int .i64 qs[k].kd) := hcw k hlt 0 _ rfl
          have q1 : wr.cell? ⟨b, off + k * 5 + 1, none⟩ = some (.int .i64 qs[k].tb) := hcw k hlt 1 _ rfl
          have q2 : wr.cell? ⟨b, off + k * 5 + 2, none⟩ = some (.int .i64 qs[k].tx) := hcw k hlt 2 _ rfl
          have q3 : wr.cell? ⟨b, off + k * 5 + 3, none⟩ = some (.int .i64 qs[k].key) := hcw k hlt 3 _ rfl
          have q4 : wr.cell? ⟨b, off + k * 5 + 4, none⟩ = some (.bool qs[k].wr) := hcw k hlt 4 _ rfl
          obtain ⟨y1, y2⟩ := HQ.out _ (List.getElem_mem hlt)
          have hki : (k : Int) < (qs.length : Int) := by omega
          have HL : Hid (LK w w.heap.size (w.heap.size + 1) (w.heap.size + 2) (.pointer ax0) (.pointer ax1) (.pointer ay0) (.pointer ay1) k E0 E1 B K ni ng nw wr) := hlk
          have HBl : Hid (b < w.heap.size) := hb
          clear hc hcw hlk HK
          generalize qs[k] = q at *
          obtain ⟨kd, tb, qx, qy, z⟩ := q
          have hpk := pick3_any tb wr y1 y2
          go_wp2_with fail
          refine hpk.mono ?_
          rintro e w' ⟨⟨p, hp, rfl⟩, hw'⟩
          subst w'
          clear hpk y1 y2
          rcases (show p = 0 ∨ p = 1 ∨ p = 2 by omega) with rfl | rfl | rfl
          · have hlk := HL.out
            have b1 : Below wr.heap.size wr wr.drew := below_dr (Below.refl _ _)
            have hsa : SA wr.drew (.pointer ax0) (.pointer ay0) w.heap.size ni ng nw E0 B K := SA.below ⟨hlk.t0, hlk.bk, hlk.d0b⟩ b1
            have hask := asked_true wr.drew (.pointer ax0) (.pointer ay0) w.heap.size ni ng nw k E0 B K kd tb qx qy z hsa hlk.n (by omega)
            have s0 : StS (w.heap.size + 1) (w.heap.size + 2) 0 b (off + k * 5) (.pointer ax0) (.pointer ay0) ⟨kd, tb, qx, qy, z⟩ wr := ⟨by rw [cell_of_heap hlk.xs]; rfl, by rw [cell_of_heap hlk.ys]; rfl, q0, q1, q2, q3, q4⟩
            have NN : Hid ((¬ (E0 (w.heap.size + 1) ∨ B (w.heap.size + 1))) ∧ (¬ (E0 (w.heap.size + 2) ∨ B (w.heap.size + 2))) ∧ ¬ (E0 b ∨ B b)) := by
              have hu : ∀ g, (E0 g ∨ B g) → w.heap.size ≤ g ∧ g ≠ w.heap.size + 1 ∧ g ≠ w.heap.size + 2 := fun g e => hlk.up g (e.elim (fun q => .inl q) fun q => .inr (.inr (.inl q)))
              exact ⟨fun e => (hu _ e).2.1 rfl, fun e => (hu _ e).2.2 rfl, fun e => by have := (hu _ e).1; have := HBl.out; omega⟩
            have c0 := s0.1
            have c1 := s0.2.1
            clear hlk hsa b1
            go_wp2_with fail
            go_region_held3 (fun w' => StS (w.heap.size + 1) (w.heap.size + 2) 0 b (off + k * 5) (.pointer ax0) (.pointer ay0) ⟨kd, tb, qx, qy, z⟩ w') (first | exact s0 | exact StS.fr (w := wr.drew) s0 (by assumption) NN.out.1 NN.out.2.1 NN.out.2.2) (first | (go_at_call 8; refine hask.mono ?_; rintro e w2 ⟨rfl, D', B', K', ni', ng', nw', sA, hN', f2, sDB, sK⟩))
            have f2' : Fr (fun g => E0 g ∨ B g) wr w2 := (Fr.of_below (D := fun g => E0 g ∨ B g) (below_dr (Below.refl wr.heap.size wr))).trans f2 fun _ _ e => e
            have LN := HL.out.step0 sA hN' f2' sDB sK
            have hkp := kept_true w2 w.heap.size ni' ng' nw' B' K' sA.2.1 (by omega) (by omega) (by omega)
            have HLN : Hid (∃ E0 E1 B K ni ng nw, LK w w.heap.size (w.heap.size + 1) (w.heap.size + 2) (.pointer ax0) (.pointer ax1) (.pointer ay0) (.pointer ay1) (k + 1) E0 E1 B K ni ng nw w2) := ⟨_, _, _, _, _, _, _, LN⟩
            clear hask s0 c0 c1 q0 q1 q2 q3 q4 sA hN' f2 f2' sDB sK LN
            go_wp2_with fail
            refine hkp.mono ?_
            rintro e w3 ⟨rfl, hb3⟩
            have HL3 : Hid (∃ E0 E1 B K ni ng nw, LK w w.heap.size (w.heap.size + 1) (w.heap.size + 2) (.pointer ax0) (.pointer ax1) (.pointer ay0) (.pointer ay1) (k + 1) E0 E1 B K ni ng nw w3) := by
              obtain ⟨a1, a2, a3, a4, a5, a6, a7, a8⟩ := HLN.out
              exact ⟨a1, a2, a3, a4, a5, a6, a7, a8.below hb3⟩
            clear hkp hb3 HLN
            go_wp2
            go_roundw
            case rel => exact ⟨k + 1, by omega, by go_num, HL3⟩
            case measure => simp [intOf]; omega
          · have hlk := HL.out
            have b1 : Below wr.heap.size wr wr.drew := below_dr (Below.refl _ _)
            have hsa : SA wr.drew (.pointer ax1) (.pointer ay1) w.heap.size ni ng nw E1 B K := SA.below ⟨hlk.t1, hlk.bk, hlk.d1b⟩ b1
            have hask := asked_true wr.drew (.pointer ax1) (.pointer ay1) w.heap.size ni ng nw k E1 B K kd tb qx qy z hsa hlk.n (by omega)
            have s0 : StS (w.heap.size + 1) (w.heap.size + 2) 1 b (off + k * 5) (.pointer ax1) (.pointer ay1) ⟨kd, tb, qx, qy, z⟩ wr := ⟨by rw [cell_of_heap hlk.xs]; rfl, by rw [cell_of_heap hlk.ys]; rfl, q0, q1, q2, q3, q4⟩
            have NN : Hid ((¬ (E1 (w.heap.size + 1) ∨ B (w.heap.size + 1))) ∧ (¬ (E1 (w.heap.size + 2) ∨ B (w.heap.size + 2))) ∧ ¬ (E1 b ∨ B b)) := by
              have hu : ∀ g, (E1 g ∨ B g) → w.heap.size ≤ g ∧ g ≠ w.heap.size + 1 ∧ g ≠ w.heap.size + 2 := fun g e => hlk.up g (e.elim (fun q => .inr (.inl q)) fun q => .inr (.inr (.inl q)))
              exact ⟨fun e => (hu _ e).2.1 rfl, fun e => (hu _ e).2.2 rfl, fun e => by have := (hu _ e).1; have := HBl.out; omega⟩
            have c0 := s0.1
            have c1 := s0.2.1
            clear hlk hsa b1
            go_wp2_with fail
            go_region_held3 (fun w' => StS (w.heap.size + 1) (w.heap.size + 2) 1 b (off + k * 5) (.pointer ax1) (.pointer ay1) ⟨kd, tb, qx, qy, z⟩ w') (first | exact s0 | exact StS.fr (w := wr.drew) s0 (by assumption) NN.out.1 NN.out.2.1 NN.out.2.2) (first | (go_at_call 8; refine hask.mono ?_; rintro e w2 ⟨rfl, D', B', K', ni', ng', nw', sA, hN', f2, sDB, sK⟩))
            have f2' : Fr (fun g => E1 g ∨ B g) wr w2 := (Fr.of_below (D := fun g => E1 g ∨ B g) (below_dr (Below.refl wr.heap.size wr))).trans f2 fun _ _ e => e
            have LN := HL.out.step1 sA hN' f2' sDB sK
            have hkp := kept_true w2 w.heap.size ni' ng' nw' B' K' sA.2.1 (by omega) (by omega) (by omega)
            have HLN : Hid (∃ E0 E1 B K ni ng nw, LK w w.heap.size (w.heap.size + 1) (w.heap.size + 2) (.pointer ax0) (.pointer ax1) (.pointer ay0) (.pointer ay1) (k + 1) E0 E1 B K ni ng nw w2) := ⟨_, _, _, _, _, _, _, LN⟩
            clear hask s0 c0 c1 q0 q1 q2 q3 q4 sA hN' f2 f2' sDB sK LN
            go_wp2_with fail
            refine hkp.mono ?_
            rintro e w3 ⟨rfl, hb3⟩
            have HL3 : Hid (∃ E0 E1 B K ni ng nw, LK w w.heap.size (w.heap.size + 1) (w.heap.size + 2) (.pointer ax0) (.pointer ax1) (.pointer ay0) (.pointer ay1) (k + 1) E0 E1 B K ni ng nw w3) := by
              obtain ⟨a1, a2, a3, a4, a5, a6, a7, a8⟩ := HLN.out
              exact ⟨a1, a2, a3, a4, a5, a6, a7, a8.below hb3⟩
            clear hkp hb3 HLN
            go_wp2
            go_roundw
            case rel => exact ⟨k + 1, by omega, by go_num, HL3⟩
            case measure => simp [intOf]; omega
          · have hlk := HL.out
            have b1 : Below wr.heap.size wr wr.drew := below_dr (Below.refl _ _)
            have hsa : SA wr.drew (.pointer none) (.pointer none) w.heap.size ni ng nw (fun _ : Nat => False) B K := SA.below ⟨.inl ⟨rfl, rfl, fun _ e => e⟩, hlk.bk, fun _ e => e.elim⟩ b1
            have hask := asked_true wr.drew (.pointer none) (.pointer none) w.heap.size ni ng nw k (fun _ : Nat => False) B K kd tb qx qy z hsa hlk.n (by omega)
            have s0 : StS (w.heap.size + 1) (w.heap.size + 2) 2 b (off + k * 5) (.pointer none) (.pointer none) ⟨kd, tb, qx, qy, z⟩ wr := ⟨by rw [cell_of_heap hlk.xs]; rfl, by rw [cell_of_heap hlk.ys]; rfl, q0, q1, q2, q3, q4⟩
            have NN : Hid ((¬ ((fun _ : Nat => False) (w.heap.size + 1) ∨ B (w.heap.size + 1))) ∧ (¬ ((fun _ : Nat => False) (w.heap.size + 2) ∨ B (w.heap.size + 2))) ∧ ¬ ((fun _ : Nat => False) b ∨ B b)) := by
              have hu : ∀ g, ((fun _ : Nat => False) g ∨ B g) → w.heap.size ≤ g ∧ g ≠ w.heap.size + 1 ∧ g ≠ w.heap.size + 2 := fun g e => hlk.up g (e.elim (fun q => q.elim) fun q => .inr (.inr (.inl q)))
              exact ⟨fun e => (hu _ e).2.1 rfl, fun e => (hu _ e).2.2 rfl, fun e => by have := (hu _ e).1; have := HBl.out; omega⟩
            have c0 := s0.1
            have c1 := s0.2.1
            clear hlk hsa b1
            go_wp2_with fail
            go_region_held3 (fun w' => StS (w.heap.size + 1) (w.heap.size + 2) 2 b (off + k * 5) (.pointer none) (.pointer none) ⟨kd, tb, qx, qy, z⟩ w') (first | exact s0 | exact StS.fr (w := wr.drew) s0 (by assumption) NN.out.1 NN.out.2.1 NN.out.2.2) (first | (go_at_call 8; refine hask.mono ?_; rintro e w2 ⟨rfl, D', B', K', ni', ng', nw', sA, hN', f2, sDB, sK⟩))
            have f2' : Fr (fun g => (fun _ : Nat => False) g ∨ B g) wr w2 := (Fr.of_below (D := fun g => (fun _ : Nat => False) g ∨ B g) (below_dr (Below.refl wr.heap.size wr))).trans f2 fun _ _ e => e
            have LN := HL.out.step2 sA hN' f2' sDB sK
            have hkp := kept_true w2 w.heap.size ni' ng' nw' B' K' sA.2.1 (by omega) (by omega) (by omega)
            have HLN : Hid (∃ E0 E1 B K ni ng nw, LK w w.heap.size (w.heap.size + 1) (w.heap.size + 2) (.pointer ax0) (.pointer ax1) (.pointer ay0) (.pointer ay1) (k + 1) E0 E1 B K ni ng nw w2) := ⟨_, _, _, _, _, _, _, LN⟩
            clear hask s0 c0 c1 q0 q1 q2 q3 q4 sA hN' f2 f2' sDB sK LN
            go_wp2_with fail
            refine hkp.mono ?_
            rintro e w3 ⟨rfl, hb3⟩
            have HL3 : Hid (∃ E0 E1 B K ni ng nw, LK w w.heap.size (w.heap.size + 1) (w.heap.size + 2) (.pointer ax0) (.pointer ax1) (.pointer ay0) (.pointer ay1) (k + 1) E0 E1 B K ni ng nw w3) := by
              obtain ⟨a1, a2, a3, a4, a5, a6, a7, a8⟩ := HLN.out
              exact ⟨a1, a2, a3, a4, a5, a6, a7, a8.below hb3⟩
            clear hkp hb3 HLN
            go_wp2
            go_roundw
            case rel => exact ⟨k + 1, by omega, by go_num, HL3⟩
            case measure => simp [intOf]; omega
        · have hki : ¬ (k : Int) < (qs.length : Int) := by omega
          obtain ⟨E0, E1, B, K, ni, ng, nw, hlk⟩ := HK.out
          have BW : Hid (Below w.heap.size w wr) := hlk.bel
          clear hlk HK
          have hnl := newLocks_any 1 wr (by omega) (by omega)
          go_wp2_with fail
          refine hnl.mono ?_
          rintro e w2 ⟨a, rfl, ha, hT, hB⟩
          have hpt := pTake_any w2 a ⟨1, [], [], []⟩ (fun g => g = a) 1 0 true hT (IR.init (by omega) (by omega)).fit (by omega) (by omega) (by omega) (by omega)
          rw [one_ans] at hpt
          have HBB : Hid (Below w.heap.size w w2 ∧ wr.heap.size ≤ a ∧ w.heap.size ≤ wr.heap.size) := ⟨BW.out.trans (hB.mono BW.out.size), ha, BW.out.size⟩
          clear hnl hT hB
          go_wp2_with fail
          refine hpt.mono ?_
          rintro e w3 ⟨vu, vg, rfl, hp⟩
          obtain ⟨-, -, E, -, f3, -⟩ := hp
          have B3 : Hid (Below w.heap.size w w3) := below_fr HBB.out.1 (Nat.le_refl _) f3 fun g e => by rw [e]; have := HBB.out.2; omega
          clear hpt f3
          go_wp2
          go_ret
          exact ⟨rfl, B3.out⟩
end Go.Proofs.Ytlagmbieaicmgaa
