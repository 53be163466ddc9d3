/- The document's own table: Take. -/
import Derived.Test.YtlagmbieaicmgaaQK
namespace Go.Proofs.Ytlagmbieaicmgaa
open Go.RowKit Lk Go.Shelf

set_option maxRecDepth 20000 in
set_option maxHeartbeats 4000000 in
theorem rTake_zero (w : World) (d : Nat) (m : Int) (L : List L4) (F : List Int) (D : Nat → Prop) (x y : Int) (z : Bool) (h : RT w d m L F D) (hn : L.length ≤ 1000) (hc : ¬ (1 ≤ x ∧ x ≤ 1000) ∨ busyB L x = true ∨ y < 0 ∨ 5 < y) :
    Calls Try.prog 22 #[.pointer (some ⟨d, 0, none⟩), .int .i64 x, .int .i64 y, .bool z] w fun e w' => e = .returned (.tuple #[.int .i64 0, .slice none 0 0, .slice none 0 0]) ∧ Below w.heap.size w w' := by
  obtain ⟨vl, vf, h, -⟩ := h
  have ho := ok_any x w
  have hw := rwaits_any w d m L F vl vf x h (by omega)
  generalize hok : (decide (1 ≤ x) && decide (x ≤ 1000)) = ob at *
  generalize hbz : busyB L x = bb at *
  have hc2 : ob = false ∨ bb = true ∨ y < 0 ∨ 5 < y := by
    rcases hc with q | q
    · exact .inl (by rw [← hok]; exact no_owner q)
    · exact .inr q
  clear h hok hbz hc
  go_enter Try.func22, Try.ntmps22
  go_wp2_with (go_at_call 41; refine ho.mono ?_; rintro e w' ⟨rfl, hw'⟩; subst w')
  refine hw.mono ?_
  rintro e w1 ⟨rfl, hb1⟩
  have B1 : Hid (Below w.heap.size w w1) := hb1
  clear ho hw hb1
  cases ob
  · clear hc2
    go_wp2
    refine bodyPost_ret (v := .tuple #[.int .i64 0, .slice none 0 0, .slice none 0 0]) (by simp [results, Try.results22, go_sem]) rfl ?_
    exact ⟨rfl, B1.out⟩
  · cases bb
    · have hc3 : y < 0 ∨ 5 < y := by simpa using hc2
      clear hc2
      by_cases hy : y < 0
      · clear hc3
        go_wp2
        refine bodyPost_ret (v := .tuple #[.int .i64 0, .slice none 0 0, .slice none 0 0]) (by simp [results, Try.results22, go_sem]) rfl ?_
        exact ⟨rfl, B1.out⟩
      · have hy5 : 5 < y := hc3.resolve_left hy
        clear hc3
        go_wp2
        refine bodyPost_ret (v := .tuple #[.int .i64 0, .slice none 0 0, .slice none 0 0]) (by simp [results, Try.results22, go_sem]) rfl ?_
        exact ⟨rfl, B1.out⟩
    · clear hc2
      go_wp2
      refine bodyPost_ret (v := .tuple #[.int .i64 0, .slice none 0 0, .slice none 0 0]) (by simp [results, Try.results22, go_sem]) rfl ?_
      exact ⟨rfl, B1.out⟩

/-- What is there behind a Take of the document's table. -/
def RTook (w : World) (d : Nat) (D : Nat → Prop) (r : Ans) (vu vg : Value) (w' : World) : Prop :=
  Own il 1 3 w' vu r.hurt ∧ Own gl 2 79 w' vg r.got ∧ ∃ L' F' E, RT w' d r.t.most L' F' E ∧ IR r.t L' F' ∧ Fr D w w' ∧ (∀ g, E g → D g ∨ w.heap.size ≤ g)
theorem RTook.none {w w' : World} {d : Nat} {D : Nat → Prop} {t : T4} {L : List L4} {F : List Int} {a : Int} (h : RT w d t.most L F D) (hir : IR t L F) (hb : Below w.heap.size w w') : RTook w d D ⟨a, t, [], []⟩ (.slice none 0 0) (.slice none 0 0) w' :=
  ⟨Own.nil _ _ _ _, Own.nil _ _ _ _, L, F, D, h.below hb, hir, Fr.of_below hb, fun _ e => .inl e⟩
def hasK (x y : Int) (z : Bool) (l : L4) : Bool := decide (l.tx = x) && (decide (l.key = y) && (l.wr || !z))
theorem rAns_next {gt : List G} {x : Int} {k : Nat} (hk : k < gt.length) : rAns (gt.take (k + 1)) x = if gt[k].a = x then 1 else rAns (gt.take k) x := by
  unfold rAns gotB
  rw [take_next hk, List.any_append]
  by_cases e : gt[k].a = x
  · simp [e]
  · simp [e]

set_option maxRecDepth 20000 in
set_option maxHeartbeats 16000000 in
theorem rTake_any (w : World) (d : Nat) (t : T4) (L : List L4) (F : List Int) (D : Nat → Prop) (x y : Int) (z : Bool) (h : RT w d t.most L F D) (hir : IR t L F) (h1 : 1 ≤ x) (h2 : x ≤ 1000) (h3 : 0 ≤ y) (h4 : y ≤ 5) (hbz : busyB L x = false) :
    Calls Try.prog 22 #[.pointer (some ⟨d, 0, none⟩), .int .i64 x, .int .i64 y, .bool z] w fun e w' => ∃ vu vg, e = .returned (.tuple #[.int .i64 (takeT t ⟨x, y, z⟩).ans, vu, vg]) ∧ RTook w d D (takeT t ⟨x, y, z⟩) vu vg w' := by
  have hll := hir.llen
  have hfl := hir.flen
  have HRT : Hid (RT w d t.most L F D ∧ IR t L F) := ⟨h, hir⟩
  obtain ⟨vl, vf, h, hD⟩ := h
  have ho := ok_any x w
  rw [show (decide (1 ≤ x) && decide (x ≤ 1000)) = true by simp [h1, h2]] at ho
  have hw := rwaits_any w d t.most L F vl vf x h (by omega)
  rw [hbz] at hw
  have hwt : waitB t.waits x = false := by rw [← hir.busy]; exact hbz
  have hhas := hir.has ⟨x, y, z⟩ hwt
  have HHAS : Hid (L.any (hasK x y z) = hasB t.held ⟨x, y, z⟩) := hhas
  have HWT : Hid (waitB t.waits x = false) := hwt
  have HLEN : Hid ((L.length : Int) = (t.held.length : Int) + (t.waits.length : Int)) := by show _ = _; rw [hir.len]; omega
  have hy1 : ¬ (y < 0) := by omega
  have hy2 : ¬ (5 < y) := by omega
  obtain ⟨ao, cap, hv, hr, -, -⟩ := h.l.rd ll_len
  have HC : Hid (∀ W, Below w.heap.size w W → W.cell? ⟨d, 1, none⟩ = some (.slice ao L.length cap)) := fun W hW => by rw [← hv]; exact (h.below hW).cells.1
  have HM : Hid (∀ W, Below w.heap.size w W → W.cell? ⟨d, 0, none⟩ = some (.int .i64 t.most)) := fun W hW => by rw [cell_of_heap (h.below hW).box]; rfl
  have RL : Hid (Rd ll 4 w ao L) := hr
  have H0 : Hid (RLd w d t.most L F vl vf ∧ ∀ g, RDl4 d vl vf g ↔ D g) := ⟨h, hD⟩
  have m0 := hir.m0
  clear h hD hir hwt hhas hv hr
  generalize hres : takeT t ⟨x, y, z⟩ = res
  have HRES : Hid (takeT t ⟨x, y, z⟩ = res) := hres
  clear hres
  have ANS : Hid (∀ a W, takeT t ⟨x, y, z⟩ = ⟨a, t, [], []⟩ → Below w.heap.size w W → ∃ vu vg, Ending.returned (.tuple #[.int .i64 a, .slice none 0 0, .slice none 0 0]) = .returned (.tuple #[.int .i64 res.ans, vu, vg]) ∧ RTook w d D res vu vg W) := fun a W e hW => by
    have e2 := HRES.out.symm.trans e
    subst e2
    exact ⟨_, _, rfl, RTook.none HRT.out.1 HRT.out.2 hW⟩
  go_enter Try.func22, Try.ntmps22
  go_wp2_with (go_at_call 41; refine ho.mono ?_; rintro e w' ⟨rfl, hw'⟩; subst w')
  refine hw.mono ?_
  rintro e w1 ⟨rfl, hb1⟩
  have B1 : Hid (Below w.heap.size w w1) := hb1
  clear ho hw hb1
  go_wp2
  go_loopw [13] (fun s13 wr => ∃ k : Nat, k ≤ L.length ∧ s13 = .int .i64 k ∧ Hid (wr = w1) ∧ Hid (∀ j (hj : j < L.length), j < k → hasK x y z L[j] = false)) (fun s13 _ => L.length - (intOf s13).toNat)
  case atStart => exact ⟨0, Nat.zero_le _, rfl, rfl, fun j _ h => absurd h (Nat.not_lt_zero _)⟩
  case round =>
    obtain ⟨k, hk, rfl, HWR, NH⟩ := hrel
    have hwr : wr = w1 := HWR.out
    clear HWR
    subst wr
    have c1 := HC.out w1 B1.out
    by_cases hlt : k < L.length
    · obtain ⟨b, off, rfl, hb, hc⟩ := RL.out.resolve_left (by intro e; rw [e] at hlt; simp at hlt)
      have hcr := hc.block (B1.out.block b hb)
      have q0 : w1.cell? ⟨b, off + k * 4, none⟩ = some (.int .i64 L[k].tx) := hcr k hlt 0 _ rfl
      have q1 : w1.cell? ⟨b, off + k * 4 + 1, none⟩ = some (.int .i64 L[k].key) := hcr k hlt 1 _ rfl
      have q2 : w1.cell? ⟨b, off + k * 4 + 2, none⟩ = some (.bool L[k].wr) := hcr k hlt 2 _ rfl
      have hki : (k : Int) < (L.length : Int) := by omega
      have NO : Hid (hasK x y z L[k] = false → ∀ j (hj : j < L.length), j < k + 1 → hasK x y z L[j] = false) := fun e j hj hjk => by
        by_cases ej : j = k
        · subst ej; exact e
        · exact NH.out j hj (by omega)
      have YES : Hid (hasK x y z L[k] = true → takeT t ⟨x, y, z⟩ = ⟨1, t, [], []⟩) := fun e => by
        have e1 : hasB t.held ⟨x, y, z⟩ = true := by rw [← HHAS.out]; exact any_hit hlt e
        unfold takeT
        rw [if_neg (by rw [HWT.out]; simp), if_pos e1]
      have HK : Hid (hasK x y z L[k] = (decide (L[k].tx = x) && (decide (L[k].key = y) && (L[k].wr || !z)))) := rfl
      clear hcr hc NH
      generalize hasK x y z L[k] = hb' at *
      generalize L[k].tx = lx at *
      generalize L[k].key = ly at *
      generalize L[k].wr = lz at *
      by_cases hh : hb' = true
      · have e := HK.out
        rw [hh] at e
        have e2 := e.symm
        rw [Bool.and_eq_true, Bool.and_eq_true] at e2
        have hlx : lx = x := by simpa using e2.1
        have hly : ly = y := by simpa using e2.2.1
        have hlz : (lz || !z) = true := e2.2.2
        have TE : Hid (takeT t ⟨x, y, z⟩ = ⟨1, t, [], []⟩) := YES.out hh
        clear e e2 HK NO YES hh
        subst lx
        subst ly
        cases lz
        · have hz : z = false := by simpa using hlz
          subst hz
          clear hlz
          go_wp2
          refine bodyPost_ret (v := .tuple #[.int .i64 1, .slice none 0 0, .slice none 0 0]) (by simp [results, Try.results22, go_sem]) rfl ?_
          exact ANS.out _ _ TE.out B1.out
        · clear hlz
          go_wp2
          refine bodyPost_ret (v := .tuple #[.int .i64 1, .slice none 0 0, .slice none 0 0]) (by simp [results, Try.results22, go_sem]) rfl ?_
          exact ANS.out _ _ TE.out B1.out
      · have hh' : hb' = false := by simpa using hh
        have N2 : Hid (∀ j (hj : j < L.length), j < k + 1 → hasK x y z L[j] = false) := NO.out hh'
        rw [hh'] at HK
        clear hh hh' NO YES
        by_cases hlx : lx = x
        · by_cases hly : ly = y
          · have e := HK.out
            rw [hlx, hly] at e
            simp at e
            obtain ⟨e1, e2⟩ := e
            clear HK
            subst lx
            subst ly
            subst lz
            subst z
            go_wp2
            go_roundw
            case rel => exact ⟨k + 1, by omega, by go_num, by first | exact True.intro | rfl, N2⟩
            case measure => simp [intOf]; omega
          · clear HK
            go_wp2
            go_roundw
            case rel => exact ⟨k + 1, by omega, by go_num, by first | exact True.intro | rfl, N2⟩
            case measure => simp [intOf]; omega
        · clear HK
          go_wp2
          go_roundw
          case rel => exact ⟨k + 1, by omega, by go_num, by first | exact True.intro | rfl, N2⟩
          case measure => simp [intOf]; omega
    · have hki : ¬ (k : Int) < (L.length : Int) := by omega
      have HNB : Hid (hasB t.held ⟨x, y, z⟩ = false) := by
        show _ = _
        rw [← HHAS.out]
        exact any_miss fun j hj => NH.out j hj (by omega)
      clear NH HHAS
      have c0 := HM.out w1 B1.out
      by_cases hfull : t.most ≤ (L.length : Int)
      · have e3 : takeT t ⟨x, y, z⟩ = ⟨3, t, [], []⟩ := by
          unfold takeT
          rw [if_neg (by rw [HWT.out]; simp), if_neg (by rw [HNB.out]; simp), if_pos (by rw [← HLEN.out]; exact hfull)]
        have TE : Hid (takeT t ⟨x, y, z⟩ = ⟨3, t, [], []⟩) := e3
        clear e3
        go_wp2_with fail
        go_quiet (fail)
        go_wp2
        refine bodyPost_ret (v := .tuple #[.int .i64 3, .slice none 0 0, .slice none 0 0]) (by simp [results, Try.results22, go_sem]) rfl ?_
        exact ANS.out _ _ TE.out (B1.out.trans ((below_dN _ _).mono B1.out.size))
      · go_wp2_with fail
        go_quiet (fail)
        generalize hw2 : w1.drewN _ = w2
        have B2 : Hid (Below w.heap.size w w2) := by rw [← hw2]; exact B1.out.trans ((below_dN _ _).mono B1.out.size)
        clear hw2 c1 c0
        have hHURT : Hid (woundR L F ⟨x, y, z, true⟩ (1000 - x).toNat = t.hurt ⟨x, y, z⟩) := HRT.out.2.wounds ⟨x, y, z⟩ h1 h2
        have HTR := HRT.out.2.asked ⟨x, y, z⟩ h1 h2 HWT.out (by rw [← HLEN.out]; omega)
        have HIA : Hid (IR (t.asked ⟨x, y, z⟩) (dropAll L (t.hurt ⟨x, y, z⟩) ++ [mk4 true ⟨x, y, z⟩]) (dropAllF F (t.hurt ⟨x, y, z⟩))) := HTR
        have HTA : Hid ((takeT t ⟨x, y, z⟩).ans = rAns (t.asked ⟨x, y, z⟩).gots x ∧ (takeT t ⟨x, y, z⟩).hurt = t.hurt ⟨x, y, z⟩ ∧ (takeT t ⟨x, y, z⟩).got = (t.asked ⟨x, y, z⟩).gots.filter (notTxG x) ∧ (takeT t ⟨x, y, z⟩).t = (t.asked ⟨x, y, z⟩).passed) := IR.answer ⟨x, y, z⟩ HWT.out HNB.out (by rw [← HLEN.out]; omega) HTR
        clear HTR
        obtain ⟨w3, hw3⟩ : ∃ w3, w3 = w2.alloc (.cells #[.int .i64 x, .int .i64 y, .bool z, .bool true] 92) := ⟨_, rfl⟩
        have B3 : Hid (Below w.heap.size w w3) := by rw [hw3]; exact B2.out.trans (((Below.refl _ _).alloc (Nat.le_refl _) _).mono B2.out.size)
        have X3 : Hid (w3.heap[w2.heap.size]? = some (.cells #[.int .i64 x, .int .i64 y, .bool z, .bool true] 92 (0, 0)) ∧ w.heap.size ≤ w2.heap.size) := by rw [hw3]; exact ⟨heap_new _ _, B2.out.size⟩
        have hwo := rwounded_any w3 d t.most L F vl vf ⟨x, y, z, true⟩ (H0.out.1.below B3.out) (by omega) (by omega) h1 h2
        rw [hHURT.out] at hwo
        generalize t.hurt ⟨x, y, z⟩ = hurt at *
        go_wp2_with fail
        rw [← hw3]
        refine hwo.mono ?_
        rintro e w4 ⟨vu, rfl, ou, hb4, fu⟩
        obtain ⟨au, cu, hvu, hru, hlu, hmu⟩ := ou.rd il_len
        subst hvu
        have B4 : Hid (Below w.heap.size w w4) := B3.out.trans (hb4.mono B3.out.size)
        have X4 : Hid (w4.heap[w2.heap.size]? = some (.cells #[.int .i64 x, .int .i64 y, .bool z, .bool true] 92 (0, 0)) ∧ w.heap.size ≤ w2.heap.size) := ⟨by rw [hb4.block _ (Array.getElem?_eq_some_iff.1 X3.out.1).1]; exact X3.out.1, X3.out.2⟩
        have OU : Hid (Own il 1 3 w4 (.slice au hurt.length cu) hurt ∧ Rd il 1 w4 au hurt ∧ ∀ g, (Value.slice au hurt.length cu).ownBlock = some g → w3.heap.size ≤ g) := ⟨ou, hru, fu⟩
        have hHL : hurt.length ≤ 1000 := by
          have := woundR_len L F ⟨x, y, z, true⟩ (1000 - x).toNat
          rw [hHURT.out] at this
          omega
        have HS3 : Hid (w2.heap.size < w3.heap.size ∧ w3.heap.size ≤ w4.heap.size) := ⟨(Array.getElem?_eq_some_iff.1 X3.out.1).1, hb4.size⟩
        clear hwo ou hru fu hb4 hw3 hHURT X3
        go_wp2
        go_loopw [16] (fun s16 wr => ∃ (k : Nat) (vl' vf' : Value), k ≤ hurt.length ∧ s16 = .int .i64 k ∧ Hid (RLd wr d t.most (dropAll L (hurt.take k)) (dropAllF F (hurt.take k)) vl' vf') ∧ Hid (Fr (fun b => b = d) w4 wr) ∧ Hid (∀ g, vl'.ownBlock = some g ∨ vf'.ownBlock = some g → (vl.ownBlock = some g ∨ vf.ownBlock = some g) ∨ w4.heap.size ≤ g)) (fun s16 _ => hurt.length - (intOf s16).toNat)
        case atStart => exact ⟨0, vl, vf, Nat.zero_le _, rfl, H0.out.1.below B4.out, Fr.refl _ _, fun g e => .inl e⟩
        case round =>
          obtain ⟨k2, vl', vf', hk2, rfl, HLk, HFk, HBk⟩ := hrel
          have hdw : d < w.heap.size := H0.out.1.lt
          by_cases hlt2 : k2 < hurt.length
          · obtain ⟨b, off, rfl, hb, hc⟩ := OU.out.2.1.resolve_left (by intro e; rw [e] at hlt2; simp at hlt2)
            have nbd : ¬ b = d := fun e => by
              have q1 := OU.out.2.2 b rfl
              have q2 := HS3.out
              have q3 := X4.out.2
              omega
            have q0 := (hc.fr HFk.out hb nbd) k2 hlt2 0 _ rfl
            rw [Nat.mul_one, Nat.add_zero] at q0
            have hki2 : (k2 : Int) < (hurt.length : Int) := by omega
            have hwt2 := rwithout_any wr d t.most _ _ vl' vf' hurt[k2] HLk.out (Nat.le_trans (dropAll_len _ _) (by omega)) (Nat.le_trans (dropAllF_len _ _) (by omega))
            have TN : Hid (dropAll L (hurt.take (k2 + 1)) = (dropAll L (hurt.take k2)).filter (dropB hurt[k2]) ∧ dropAllF F (hurt.take (k2 + 1)) = (dropAllF F (hurt.take k2)).filter (dropI hurt[k2])) := by
              rw [take_next hlt2, dropAll_snoc, dropAllF_snoc]; exact ⟨rfl, rfl⟩
            clear hc nbd
            generalize hurt[k2] = xk at *
            go_wp2_with fail
            refine hwt2.mono ?_
            rintro e w6 ⟨rfl, vl6, vf6, hl6, hf6, fr6⟩
            have Y1 : Hid (RLd w6 d t.most (dropAll L (hurt.take (k2 + 1))) (dropAllF F (hurt.take (k2 + 1))) vl6 vf6) := by rw [TN.out.1, TN.out.2]; exact hl6
            have Y2 : Hid (Fr (fun b => b = d) w4 w6) := HFk.out.trans hf6 fun g _ e => e
            have Y3 : Hid (∀ g, vl6.ownBlock = some g ∨ vf6.ownBlock = some g → (vl.ownBlock = some g ∨ vf.ownBlock = some g) ∨ w4.heap.size ≤ g) := fun g e => .inr (Nat.le_trans HFk.out.size (fr6 g e))
            clear hwt2 q0 hl6 hf6 fr6
            go_wp2
            go_roundw
            case rel => exact ⟨k2 + 1, vl6, vf6, by omega, by go_num, Y1, Y2, Y3⟩
            case measure => simp [intOf]; omega
          · have hki2 : ¬ (k2 : Int) < (hurt.length : Int) := by omega
            have hkk : hurt.take k2 = hurt := by rw [show k2 = hurt.length by omega, List.take_length]
            rw [hkk] at HLk
            clear hkk
            have HLL : Hid ((dropAll L hurt).length ≤ 1000) := Nat.le_trans (dropAll_len _ _) (by omega)
            have HFL : Hid ((dropAllF F hurt).length ≤ 1000) := Nat.le_trans (dropAllF_len _ _) (by omega)
            generalize hL1 : dropAll L hurt = L1 at *
            generalize hF1 : dropAllF F hurt = F1 at *
            clear hL1 hF1
            have hbx := HLk.out.box
            have c0 := HLk.out.cells.1
            have f0 := Sh.free (n := 3) ⟨_, hbx, rfl⟩ 1
            have c0' : ∀ o, (wr.alloc o).cell? ⟨d, 1, none⟩ = some vl' := fun o => Lib.cell?_alloc_some o c0
            have nld : Hid (¬ vl'.ownBlock = some d) := HLk.out.ld
            have own' : Hid (Own ll 4 92 wr vl' L1) := HLk.out.l
            have hw2r : Hid (w4.heap.size ≤ wr.heap.size) := HFk.out.size
            have nBd : ¬ w2.heap.size = d := fun e => by have := X4.out.2; omega
            have bx4 : wr.heap[w2.heap.size]? = some (.cells #[.int .i64 x, .int .i64 y, .bool z, .bool true] 92 (0, 0)) := by
              rw [HFk.out.block _ (Array.getElem?_eq_some_iff.1 X4.out.1).1 nBd]; exact X4.out.1
            have x0 : wr.cell? ⟨w2.heap.size, 0, none⟩ = some (.int .i64 x) := by rw [cell_of_heap bx4]; rfl
            have x1 : wr.cell? ⟨w2.heap.size, 1, none⟩ = some (.int .i64 y) := by rw [cell_of_heap bx4]; rfl
            have x2 : wr.cell? ⟨w2.heap.size, 2, none⟩ = some (.bool z) := by rw [cell_of_heap bx4]; rfl
            have x3 : wr.cell? ⟨w2.heap.size, 3, none⟩ = some (.bool true) := by rw [cell_of_heap bx4]; rfl
            have nvB : ¬ vl'.ownBlock = some w2.heap.size := fun e => (HBk.out _ (.inl e)).elim (fun q => absurd (H0.out.1.dlt (.inr q)) (by have := X4.out.2; omega)) (fun q => by have := HS3.out; omega)
            have ndB : ¬ d = w2.heap.size := fun e => nBd e.symm
            clear hbx bx4
            go_wp2_with fail
            refine wp_region_noPanic ?_
            refine wp_region_held_drew (S := fun w' => w'.cell? ⟨w2.heap.size, 0, none⟩ = some (.int .i64 x) ∧ w'.cell? ⟨w2.heap.size, 1, none⟩ = some (.int .i64 y) ∧ w'.cell? ⟨w2.heap.size, 2, none⟩ = some (.bool z) ∧ w'.cell? ⟨w2.heap.size, 3, none⟩ = some (.bool true)) (by kernel_rfl) ?_ (fun hHeld => ?_)
            · exact ⟨x0, x1, x2, x3⟩
            refine wpAnyH_take (i := 0) (v := ?_) (by simp only [List.getElem?_toArray, List.getElem?_cons_zero]; rfl) (by kernel_rfl) (by kernel_rfl) (by kernel_rfl) (fun _ _ _ h => h) (Or.inl ⟨by rfl, ?_⟩) (by assumption) ?_
            rotate_left
            · (intro w' hSw; (try dsimp only at hSw); go_simp <;> with_reducible rfl)
            try simp only [Act.put, List.setIfInBounds_toArray, List.set_cons_zero, List.set_cons_succ]
            refine wpAnyH_take (i := 1) (v := ?_) (by simp only [List.getElem?_toArray, List.getElem?_cons_succ, List.getElem?_cons_zero]; rfl) (by kernel_rfl) (by kernel_rfl) (by kernel_rfl) (fun _ _ _ h => h) (Or.inl ⟨by rfl, ?_⟩) (by assumption) ?_
            rotate_left
            · (intro w' hSw; (try dsimp only at hSw); go_simp <;> with_reducible rfl)
            try simp only [Act.put, List.setIfInBounds_toArray, List.set_cons_zero, List.set_cons_succ]
            refine wpAnyH_take (i := 2) (v := ?_) (by simp only [List.getElem?_toArray, List.getElem?_cons_succ, List.getElem?_cons_zero]; rfl) (by kernel_rfl) (by kernel_rfl) (by kernel_rfl) (fun _ _ _ h => h) (Or.inl ⟨by rfl, ?_⟩) (by assumption) ?_
            rotate_left
            · (intro w' hSw; (try dsimp only at hSw); go_simp <;> with_reducible rfl)
            try simp only [Act.put, List.setIfInBounds_toArray, List.set_cons_zero, List.set_cons_succ]
            refine wpAnyH_take (i := 3) (v := ?_) (by simp only [List.getElem?_toArray, List.getElem?_cons_succ, List.getElem?_cons_zero]; rfl) (by kernel_rfl) (by kernel_rfl) (by kernel_rfl) (fun _ _ _ h => h) (Or.inl ⟨by rfl, ?_⟩) (by assumption) ?_
            rotate_left
            · (intro w' hSw; (try dsimp only at hSw); go_simp <;> with_reducible rfl)
            try simp only [Act.put, List.setIfInBounds_toArray, List.set_cons_zero, List.set_cons_succ]
            refine wpAnyH_take (i := 5) (v := ?_) (by simp only [List.getElem?_toArray, List.getElem?_cons_succ, List.getElem?_cons_zero]; rfl) (by kernel_rfl) (by kernel_rfl) (by kernel_rfl) (fun _ _ _ h => h) (Or.inl ⟨by rfl, ?_⟩) (by assumption) ?_
            rotate_left
            · (intro w' hSw; (try dsimp only at hSw); go_simp <;> with_reducible rfl)
            try simp only [Act.put, List.setIfInBounds_toArray, List.set_cons_zero, List.set_cons_succ]
            refine wpAnyH_ready (rs := [4, 6]) (by kernel_rfl) (by simp) (AllReadyH.cons (i := 4) (by simp only [List.getElem?_toArray, List.getElem?_cons_succ, List.getElem?_cons_zero]; rfl) (fun K hK => ?_) (AllReadyH.cons (i := 6) (by simp only [List.getElem?_toArray, List.getElem?_cons_succ, List.getElem?_cons_zero]; rfl) (fun K hK => ?_) AllReadyH.nil))
            focus
              go_simp
              refine hK.out _ _ (by exact hHeld) (fun hHeld2 => ?_)
              clear hK K hHeld
              have hHeld := hHeld2
              clear hHeld2
              try simp only [Act.put, List.setIfInBounds_toArray, List.set_cons_zero, List.set_cons_succ]
              refine wpAnyH_ready (rs := [6]) (by kernel_rfl) (by simp) (AllReadyH.cons (i := 6) (by simp only [List.getElem?_toArray, List.getElem?_cons_succ, List.getElem?_cons_zero]; rfl) (fun K hK => ?_) AllReadyH.nil)
              go_simp
              refine hK.out _ _ (by exact ⟨Lib.cell?_alloc_some _ hHeld.1, Lib.cell?_alloc_some _ hHeld.2.1, Lib.cell?_alloc_some _ hHeld.2.2.1, Lib.cell?_alloc_some _ hHeld.2.2.2⟩) (fun hHeld2 => ?_)
              clear hK K hHeld
              have hHeld := hHeld2
              clear hHeld2
              try simp only [Act.put, List.setIfInBounds_toArray, List.set_cons_zero, List.set_cons_succ]
              revert hHeld
            rotate_left
            focus
              go_simp
              refine hK.out _ _ (by exact ⟨Lib.cell?_alloc_some _ hHeld.1, Lib.cell?_alloc_some _ hHeld.2.1, Lib.cell?_alloc_some _ hHeld.2.2.1, Lib.cell?_alloc_some _ hHeld.2.2.2⟩) (fun hHeld2 => ?_)
              clear hK K hHeld
              have hHeld := hHeld2
              clear hHeld2
              try simp only [Act.put, List.setIfInBounds_toArray, List.set_cons_zero, List.set_cons_succ]
              refine wpAnyH_ready (rs := [4]) (by kernel_rfl) (by simp) (AllReadyH.cons (i := 4) (by simp only [List.getElem?_toArray, List.getElem?_cons_succ, List.getElem?_cons_zero]; rfl) (fun K hK => ?_) AllReadyH.nil)
              go_simp
              refine hK.out _ _ (by exact hHeld) (fun hHeld2 => ?_)
              clear hK K hHeld
              have hHeld := hHeld2
              clear hHeld2
              try simp only [Act.put, List.setIfInBounds_toArray, List.set_cons_zero, List.set_cons_succ]
              revert hHeld
            all_goals
              intro hHeld
              refine wpAnyH_ready (rs := [7]) (by kernel_rfl) (by simp) (AllReadyH.cons (i := 7) (by simp only [List.getElem?_toArray, List.getElem?_cons_succ, List.getElem?_cons_zero]; rfl) (fun K hK => ?_) AllReadyH.nil)
              refine app_step el_rlock _ rfl (.tmp 119) (.tmp 121) rfl vl' L1 (by simp [Act.eval]) (own'.out.block fun g hg => Below.heap_alloc _ _ _ (own'.out.lt hg)) wr.heap.size ⟨x, y, z, true⟩ #[.int .i64 x, .int .i64 y, .bool z, .bool true] 92 (by simp [Act.eval]) (heap_new _ _) rfl (by have := HLL.out; omega) ?_
              intro g cap7 w7 ho hf hat hgl
              obtain ⟨d1, d2⟩ := store_ok hf c0 f0 nld.out (fun hl => Below.heap_alloc _ _ _ hl)
              refine hK.out _ _ (by exact ⟨hf.cell hHeld.1 nvB, hf.cell hHeld.2.1 nvB, hf.cell hHeld.2.2.1 nvB, hf.cell hHeld.2.2.2 nvB⟩) (fun hHeld2 => ?_)
              clear hK K hHeld
              have hHeld := hHeld2
              clear hHeld2
              try simp only [Act.put, List.setIfInBounds_toArray, List.set_cons_zero, List.set_cons_succ]
              refine wpAnyH_take (i := 8) (v := ?_) (by simp only [List.getElem?_toArray, List.getElem?_cons_succ, List.getElem?_cons_zero]; rfl) (by kernel_rfl) (by kernel_rfl) (by kernel_rfl) (fun _ _ _ h => h) (Or.inl ⟨by rfl, ?_⟩) (by assumption) ?_
              rotate_left
              · (intro w' hSw; (try dsimp only at hSw); go_simp <;> with_reducible rfl)
              try simp only [Act.put, List.setIfInBounds_toArray, List.set_cons_zero, List.set_cons_succ]
              refine wpAnyH_take (i := 9) (v := ?_) (by simp only [List.getElem?_toArray, List.getElem?_cons_succ, List.getElem?_cons_zero]; rfl) (by kernel_rfl) (by kernel_rfl) (by kernel_rfl) (fun _ _ _ h => h) (Or.inl ⟨by rfl, ?_⟩) (by assumption) ?_
              rotate_left
              · (intro w' hSw; (try dsimp only at hSw); go_simp <;> with_reducible rfl)
              try simp only [Act.put, List.setIfInBounds_toArray, List.set_cons_zero, List.set_cons_succ]
              refine wpAnyH_ready (rs := [10]) (by kernel_rfl) (by simp) (AllReadyH.cons (i := 10) (by simp only [List.getElem?_toArray, List.getElem?_cons_succ, List.getElem?_cons_zero]; rfl) (fun K hK => ?_) AllReadyH.nil)
              go_simp
              refine hK.out _ _ (by refine ⟨?_, ?_, ?_, ?_⟩ <;> (rw [World.cell?_setCell_far _ _ _ _ ndB]; first | exact hHeld.1 | exact hHeld.2.1 | exact hHeld.2.2.1 | exact hHeld.2.2.2)) (fun hHeld2 => ?_)
              clear hK K hHeld
              have hHeld := hHeld2
              clear hHeld2
              try simp only [Act.put, List.setIfInBounds_toArray, List.set_cons_zero, List.set_cons_succ]
              refine wpAnyH_done (by kernel_rfl) ?_ _
              refine NoPanic.normal ?_
              clear hHeld nvB
            all_goals
              have FWr : Fr (fun b => vl'.ownBlock = some b) wr w7 := ((Fr.refl (fun b => vl'.ownBlock = some b) wr).alloc _).drew.trans hf fun g _ e => e
              have hat2 : vl'.ownBlock = some g ∨ wr.heap.size ≤ g := hat.imp id fun q => by
                have q2 : wr.heap.size + 1 ≤ g := by simpa using q
                omega
              have fs := fr_set w7 d 1 (.slice (some ⟨g, 0, none⟩) (L1.length + 1) cap7)
              have gd : g ≠ d := fun e => hat2.elim (fun q => nld.out (by rw [q, e])) (fun q => absurd HLk.out.lt (by omega))
              have L7 : RLd (w7.setCell ⟨d, 1, none⟩ (.slice (some ⟨g, 0, none⟩) (L1.length + 1) cap7)) d t.most (L1 ++ [⟨x, y, z, true⟩]) F1 (.slice (some ⟨g, 0, none⟩) (L1.length + 1) cap7) vf' := by
                have h := HLk.out
                have hx7 : w7.heap[d]? = some (.cells #[.int .i64 t.most, vl', vf'] 71 (0, 0)) := (FWr.block d h.lt h.ld).trans h.box
                refine ⟨?_, ho.fr fs fun b hb e => ?_, (h.f.fr FWr fun b hb e => h.lf b e hb).fr fs fun b hb e => h.fd (by rw [hb, e]), fun e => ?_, h.fd, fun b hb e => ?_⟩
                · simp [World.setCell, Array.getElem?_modify, hx7]
                · have e2 : g = b := by simpa [Value.ownBlock] using hb
                  exact gd (by rw [e2, e])
                · have e2 : g = d := by simpa [Value.ownBlock] using e
                  exact gd e2
                · have e2 : g = b := by simpa [Value.ownBlock] using hb
                  subst e2
                  exact hat2.elim (fun q => h.lf g q e) (fun q => absurd (h.f.lt e) (by omega))
              have F7 : Fr (RDl4 d vl vf) w4 (w7.setCell ⟨d, 1, none⟩ (.slice (some ⟨g, 0, none⟩) (L1.length + 1) cap7)) := ((HFk.out.mono (E := RDl4 d vl vf) fun b _ e => .inl e).trans FWr fun b hb e => (HBk.out b (.inl e)).elim (fun q => q.elim (fun q => .inr (.inl q)) (fun q => .inr (.inr q))) (fun q => by omega)).trans fs fun b _ e => .inl e
              have B7 : ∀ b, RDl4 d (.slice (some ⟨g, 0, none⟩) (L1.length + 1) cap7) vf' b → RDl4 d vl vf b ∨ w4.heap.size ≤ b := fun b hb => by
                rcases hb with q | q | q
                · exact .inl (.inl q)
                · have e2 : g = b := by simpa [Value.ownBlock] using q
                  subst e2
                  rcases hat2 with r | r
                  · exact (HBk.out g (.inl r)).imp (fun q => q.elim (fun q => .inr (.inl q)) (fun q => .inr (.inr q))) id
                  · exact .inr (by have := hw2r.out; omega)
                · exact (HBk.out b (.inr q)).imp (fun q => q.elim (fun q => .inr (.inl q)) (fun q => .inr (.inr q))) id
              have nO : ∀ b, (Value.slice au hurt.length cu).ownBlock = some b → ¬ RDl4 d vl vf b := fun b e q => absurd (H0.out.1.dlt q) (by have := OU.out.2.2 b e; have := HS3.out; have := X4.out.2; omega)
              have OU7 : Hid (Own il 1 3 (w7.setCell ⟨d, 1, none⟩ (.slice (some ⟨g, 0, none⟩) (L1.length + 1) cap7)) (.slice au hurt.length cu) hurt ∧ ∀ b, (Value.slice au hurt.length cu).ownBlock = some b → b ≠ d) := ⟨OU.out.1.fr F7 nO, fun b e q => nO b e (.inl q)⟩
              have hmost : (t.asked ⟨x, y, z⟩).most = t.most := (stripAll_len (hurtL t.prep ⟨x, y, z⟩ t.held) t).2.2.2
              have hpa := rpass_any _ d (t.asked ⟨x, y, z⟩).most (L1 ++ [⟨x, y, z, true⟩]) F1 (.slice (some ⟨g, 0, none⟩) (L1.length + 1) cap7) vf' (t.asked ⟨x, y, z⟩).held (t.asked ⟨x, y, z⟩).waits (by rw [hmost]; exact L7) HIA.out.ps' (Nat.le_trans HIA.out.llen (by omega)) (t.asked ⟨x, y, z⟩).passed.held (t.asked ⟨x, y, z⟩).passed.waits (t.asked ⟨x, y, z⟩).gots rfl
              have hdD : D d := (H0.out.2 d).1 (.inl rfl)
              have F07 : Fr D w (w7.setCell ⟨d, 1, none⟩ (.slice (some ⟨g, 0, none⟩) (L1.length + 1) cap7)) := (Fr.of_below (D := D) B4.out).trans F7 fun b _ e => (H0.out.2 b).1 e
              have PP : Hid (∀ v W, RPass (w7.setCell ⟨d, 1, none⟩ (.slice (some ⟨g, 0, none⟩) (L1.length + 1) cap7)) d (t.asked ⟨x, y, z⟩).most F1 (.slice (some ⟨g, 0, none⟩) (L1.length + 1) cap7) vf' (t.asked ⟨x, y, z⟩).passed.held (t.asked ⟨x, y, z⟩).passed.waits v (t.asked ⟨x, y, z⟩).gots W → RPassed w d D (t.asked ⟨x, y, z⟩).passed F1 v (t.asked ⟨x, y, z⟩).gots W ∧ Own il 1 3 W (.slice au hurt.length cu) hurt) := fun v W hp =>
                ⟨RPass.passed (w0 := w) HIA.out (fun b e => (B7 b e).imp (fun q => (H0.out.2 b).1 q) fun q => Nat.le_trans B4.out.size q) F07 hdD hp, by
                  obtain ⟨_, _, _, _, _, _, hfr, _, _⟩ := hp
                  exact OU7.out.1.fr hfr OU7.out.2⟩
              have HGL : Hid ((t.asked ⟨x, y, z⟩).gots.length ≤ 1000) := by
                show _ ≤ _
                have q1 := (passF_len (t.asked ⟨x, y, z⟩).waits (t.asked ⟨x, y, z⟩).held [] []).2
                have q2 := HIA.out.llen
                have q3 := HIA.out.len
                have q4 : (t.asked ⟨x, y, z⟩).gots.length = (passF (t.asked ⟨x, y, z⟩).waits (t.asked ⟨x, y, z⟩).held [] []).2.2.length := rfl
                rw [q4]
                simp only [List.length_nil] at q1
                omega
              clear c0 c0' f0 x0 x1 x2 x3 d1 d2 ho hf hat fs FWr L7 F7 B7 nO OU7 hmost hdD F07
              generalize w7.setCell ⟨d, 1, none⟩ (.slice (some ⟨g, 0, none⟩) (L1.length + 1) cap7) = w8 at *
              generalize (t.asked ⟨x, y, z⟩).gots = gt at *
              go_wp2_with fail
              refine hpa.mono ?_
              rintro e w9 ⟨v, rfl, hp⟩
              obtain ⟨RP, OU9⟩ := PP.out v w9 hp
              obtain ⟨og, L9, E9, RP9⟩ := RP
              obtain ⟨ag', cg, hvg, hrg, -, -⟩ := og.rd gl_len
              subst hvg
              have RG9 : Hid (Rd gl 2 w9 ag' gt) := hrg
              have HR9 : Hid (Own il 1 3 w9 (.slice au hurt.length cu) hurt ∧ RT w9 d (t.asked ⟨x, y, z⟩).passed.most L9 F1 E9 ∧ IR (t.asked ⟨x, y, z⟩).passed L9 F1 ∧ Fr D w w9 ∧ ∀ g, E9 g → D g ∨ w.heap.size ≤ g) := ⟨OU9, RP9.1, RP9.2.1, RP9.2.2.1, RP9.2.2.2.1⟩
              clear hpa hp PP OU9 og RP9 hrg
              have hgl' : gt.length ≤ 1000 := HGL.out
              go_wp2
              go_loopw [18, 19, 20] (fun s18 s19 s20 wr => ∃ k : Nat, k ≤ gt.length ∧ s20 = .int .i64 k ∧ s18 = .int .i64 (rAns (gt.take k) x) ∧ Hid (Below w9.heap.size w9 wr) ∧ Hid (Own gl 2 79 wr s19 ((gt.take k).filter (notTxG x)) ∧ ∀ g, s19.ownBlock = some g → w9.heap.size ≤ g)) (fun _ _ s20 _ => gt.length - (intOf s20).toNat)
              case atStart => exact ⟨0, Nat.zero_le _, rfl, rfl, Below.refl _ _, Own.nil _ _ _ _, fun g e => by simp [Value.ownBlock] at e⟩
              case round =>
                obtain ⟨k3, hk3, rfl, rfl, BW, HO⟩ := hrel
                by_cases hlt3 : k3 < gt.length
                · obtain ⟨b, off, rfl, hb, hc⟩ := RG9.out.resolve_left (by intro e; rw [e] at hlt3; simp at hlt3)
                  have hcr := hc.block (BW.out.block b hb)
                  have q0 : wr.cell? ⟨b, off + k3 * 2, none⟩ = some (.int .i64 gt[k3].a) := hcr k3 hlt3 0 _ rfl
                  have q1 : wr.cell? ⟨b, off + k3 * 2 + 1, none⟩ = some (.int .i64 gt[k3].b) := hcr k3 hlt3 1 _ rfl
                  have hki3 : (k3 : Int) < (gt.length : Int) := by omega
                  have RN : Hid (rAns (gt.take (k3 + 1)) x = if gt[k3].a = x then 1 else rAns (gt.take k3) x) := rAns_next hlt3
                  have NX : Hid (notTxG x gt[k3] = true → (gt.take (k3 + 1)).filter (notTxG x) = (gt.take k3).filter (notTxG x) ++ [gt[k3]]) := filter_next hlt3
                  have SK : Hid (notTxG x gt[k3] = false → (gt.take (k3 + 1)).filter (notTxG x) = (gt.take k3).filter (notTxG x)) := filter_skip hlt3
                  have HLN : Hid (((gt.take k3).filter (notTxG x)).length ≤ 1000) := Nat.le_trans (List.length_filter_le _ _) (by rw [List.length_take]; omega)
                  obtain ⟨pl, hpl⟩ : ∃ pl, pl = (gt.take k3).filter (notTxG x) := ⟨_, rfl⟩
                  rw [← hpl] at HO NX SK HLN
                  clear hpl hcr hc
                  generalize gt[k3] = l at *
                  obtain ⟨ga, gb⟩ := l
                  generalize rAns (gt.take k3) x = ra at *
                  by_cases hga : ga = x
                  · have X2 : Hid (Own gl 2 79 wr u19 ((gt.take (k3 + 1)).filter (notTxG x)) ∧ ∀ g, u19.ownBlock = some g → w9.heap.size ≤ g) := ⟨by rw [SK.out (by simp [notTxG, hga])]; exact HO.out.1, HO.out.2⟩
                    have X1 : Hid (rAns (gt.take (k3 + 1)) x = 1) := by show _ = _; rw [RN.out, if_pos hga]
                    clear RN NX SK
                    go_wp2
                    go_roundw
                    case rel => exact ⟨k3 + 1, by omega, by go_num, by rw [X1.out], BW, X2⟩
                    case measure => simp [intOf]; omega
                  · have X1 : Hid (rAns (gt.take (k3 + 1)) x = ra) := by show _ = _; rw [RN.out, if_neg hga]
                    have NX2 : Hid ((gt.take (k3 + 1)).filter (notTxG x) = pl ++ [⟨ga, gb⟩]) := NX.out (by simp [notTxG, hga])
                    have O3 : Hid (Own gl 2 79 (wr.alloc (.cells #[.int .i64 ga, .int .i64 gb] 79)) u19 pl) := own_below HO.out.1 ((Below.refl _ _).alloc (Nat.le_refl _) _)
                    clear RN NX SK
                    go_wp2_with (at_builtin; refine app_list el_agrant _ rfl _ _ rfl u19 pl rfl O3.out wr.heap.size ⟨ga, gb⟩ #[.int .i64 ga, .int .i64 gb] 79 rfl (heap_new _ _) rfl (by have := HLN.out; omega) ?_)
                    intro g5 cap5 w10 ho hf hat hgl5
                    have ba := ((Below.refl wr.heap.size wr).alloc (Nat.le_refl _) (.cells #[.int .i64 ga, .int .i64 gb] 79))
                    have Y1 : Hid (Below w9.heap.size w9 w10) := below_fr (BW.out.trans (ba.mono BW.out.size)) (Nat.le_refl _) hf HO.out.2
                    have Y2 : Hid (Own gl 2 79 w10 (.slice (some ⟨g5, 0, none⟩) (pl.length + 1) cap5) ((gt.take (k3 + 1)).filter (notTxG x)) ∧ ∀ g', (Value.slice (some ⟨g5, 0, none⟩) (pl.length + 1) cap5).ownBlock = some g' → w9.heap.size ≤ g') := by
                      refine ⟨by rw [NX2.out]; exact ho, fun g' e => ?_⟩
                      have e' : g5 = g' := by simpa [Value.ownBlock] using e
                      subst e'
                      rcases hat with q | q
                      · exact HO.out.2 g5 q
                      · have q2 : wr.heap.size + 1 ≤ g5 := by simpa using q
                        have := BW.out.size
                        omega
                    clear ho hf hat ba q0 q1
                    go_wp2
                    go_roundw
                    case rel => exact ⟨k3 + 1, by omega, by go_num, by rw [X1.out], Y1, Y2⟩
                    case measure => simp [intOf]; omega
                · have hki3 : ¬ (k3 : Int) < (gt.length : Int) := by omega
                  have hkk3 : Hid (gt.take k3 = gt) := by show _ = _; rw [show k3 = gt.length by omega, List.take_length]
                  rw [hkk3.out] at HO
                  rw [hkk3.out]
                  clear hkk3
                  generalize hra : rAns gt x = ra at *
                  clear hra
                  obtain ⟨a19, c19, hv19, -, -, -⟩ := HO.out.1.rd gl_len
                  generalize hn19 : (gt.filter (notTxG x)).length = n19 at hv19
                  clear hn19
                  have HV : Hid (u19 = .slice a19 n19 c19) := hv19
                  subst hv19
                  go_wp2
                  refine bodyPost_ret (v := .tuple #[.int .i64 ra, .slice au hurt.length cu, .slice a19 n19 c19]) (by simp [results, Try.results22, go_sem]) rfl ?_
                  rw [← HRES.out]
                  obtain ⟨e1, e2, e3, e4⟩ := HTA.out
                  obtain ⟨ou9, rt9, ir9, fr9, sub9⟩ := HR9.out
                  refine ⟨.slice au hurt.length cu, .slice a19 n19 c19, by rw [e1], ?_, ?_, L9, F1, E9, ?_, ?_, fr9.below BW.out, sub9⟩
                  · rw [e2]; exact own_below ou9 BW.out
                  · rw [e3]; exact HO.out.1
                  · rw [e4]; exact rt9.below BW.out
                  · rw [e4]; exact ir9
end Go.Proofs.Ytlagmbieaicmgaa
