/- The ledger: take. -/
import Derived.Test.YtlagmbieaicmgaaPD
namespace Go.Proofs.Ytlagmbieaicmgaa
open Go.RowKit Lk Go.Shelf

/-- A table and a ledger beside it, with all their blocks. -/
def SS (w : World) (a : Nat) (t : T4) (d : Nat) (L : List L4) (F : List Int) (D : Nat → Prop) : Prop :=
  ∃ (E : Nat → Prop) (vl vf : Value), TT w a t E ∧ Led w d L F vl vf ∧ (∀ g, Dl4 d vl vf g → ¬ E g) ∧ ∀ g, D g ↔ E g ∨ Dl4 d vl vf g
def SG (w : World) (D : Nat → Prop) (w' : World) (a : Nat) (t : T4) (d : Nat) (L : List L4) (F : List Int) : Prop :=
  ∃ D' : Nat → Prop, SS w' a t d L F D' ∧ Fr D w w' ∧ ∀ g, D' g → D g ∨ w.heap.size ≤ g
theorem SS.lt {w : World} {a : Nat} {t : T4} {d : Nat} {L : List L4} {F : List Int} {D : Nat → Prop} (h : SS w a t d L F D) {g : Nat} (hg : D g) : g < w.heap.size := by
  obtain ⟨E, vl, vf, h1, h2, _, h4⟩ := h
  rcases (h4 g).1 hg with q | q
  · exact h1.lt q
  · exact h2.dlt q
theorem SS.fr {w w' : World} {a : Nat} {t : T4} {d : Nat} {L : List L4} {F : List Int} {D X : Nat → Prop} (h : SS w a t d L F D) (hf : Fr X w w') (hX : ∀ g, D g → ¬ X g) : SS w' a t d L F D := by
  obtain ⟨E, vl, vf, h1, h2, h3, h4⟩ := h
  exact ⟨E, vl, vf, h1.fr hf fun g e => hX g ((h4 g).2 (.inl e)), h2.fr hf fun g e => hX g ((h4 g).2 (.inr e)), h3, h4⟩
theorem SS.below {w w' : World} {a : Nat} {t : T4} {d : Nat} {L : List L4} {F : List Int} {D : Nat → Prop} (h : SS w a t d L F D) (hb : Below w.heap.size w w') : SS w' a t d L F D := h.fr (X := fun _ => False) (Fr.of_below hb) fun _ _ e => e
theorem SG.trans {w w1 w2 : World} {D D1 : Nat → Prop} {a : Nat} {t : T4} {d : Nat} {L : List L4} {F : List Int} (hf : Fr D w w1) (hD : ∀ g, D1 g → D g ∨ w.heap.size ≤ g) (k : SG w1 D1 w2 a t d L F) : SG w D w2 a t d L F := by
  obtain ⟨D2, k1, k2, k3⟩ := k
  refine ⟨D2, k1, hf.trans k2 fun g hg e => (hD g e).resolve_right (by omega), fun g hg => ?_⟩
  rcases k3 g hg with q | q
  · exact hD g q
  · exact .inr (Nat.le_trans hf.size q)
theorem SG.below {w w1 w2 : World} {D : Nat → Prop} {a : Nat} {t : T4} {d : Nat} {L : List L4} {F : List Int} (k : SG w D w1 a t d L F) (hb : Below w1.heap.size w1 w2) : SG w D w2 a t d L F := by
  obtain ⟨D2, k1, k2, k3⟩ := k
  exact ⟨D2, k1.below hb, k2.below hb, k3⟩

/-- The ledger behind a Take. -/
def ledL (L : List L4) (ask : C) (r : Ans) : List L4 := if r.ans = 1 ∨ r.ans = 2 then allL (dropAll L r.hurt ++ [⟨ask.tx, ask.key, ask.wr, decide (r.ans = 2)⟩]) r.got else L
def ledF (F : List Int) (r : Ans) : List Int := if r.ans = 1 ∨ r.ans = 2 then dropAllF F r.hurt else F

theorem take_hurt_len (t : T4) (ask : C) (h : t.held.length + t.waits.length ≤ 24) : (takeT t ask).hurt.length ≤ 1000 := by
  have hl : (t.hurt ask).length ≤ 100 := by
    unfold T4.hurt hurtL
    rw [List.length_mergeSort, List.length_map]
    exact Nat.le_trans (List.length_filter_le _ _) (by omega)
  unfold takeT
  split
  · simp
  · split
    · simp
    · split
      · simp
      · split
        · exact Nat.le_trans hl (by omega)
        · exact Nat.le_trans hl (by omega)

abbrev TkS (B : Nat) (x y : Int) (z : Bool) (d : Nat) (v : Value) (w' : World) : Prop := w'.cell? ⟨B, 1, none⟩ = some (.int .i64 x) ∧ w'.cell? ⟨B, 2, none⟩ = some (.int .i64 y) ∧ w'.cell? ⟨B, 3, none⟩ = some (.bool z) ∧ w'.cell? ⟨d, 0, none⟩ = some v

set_option maxHeartbeats 8000000 in
theorem ltake_any (w : World) (a : Nat) (t : T4) (d : Nat) (L : List L4) (F : List Int) (D : Nat → Prop) (kd x y : Int) (z : Bool) (h : SS w a t d L F D) (hfit : Fit t) (hok : TakeOk L F ⟨x, y, z⟩ (takeT t ⟨x, y, z⟩)) (hn : L.length < 4398046511104) (hm : F.length ≤ 4398046511104) (h1 : 1 ≤ x) (h2 : x ≤ 1000) (h3 : 0 ≤ y) (h4 : y < 6) :
    Calls Try.prog 12 #[.pointer (some ⟨d, 0, none⟩), .pointer (some ⟨a, 0, none⟩), .agg #[.int .i64 kd, .int .i64 x, .int .i64 y, .bool z]] w fun e w' => e = .returned (.bool true) ∧ SG w D w' a (takeT t ⟨x, y, z⟩).t d (ledL L ⟨x, y, z⟩ (takeT t ⟨x, y, z⟩)) (ledF F (takeT t ⟨x, y, z⟩)) := by
  obtain ⟨E, vl, vf, hT, hL, hdis, hD⟩ := h
  obtain ⟨w1, hw1⟩ : ∃ w1, w1 = w.alloc (.cells #[.int .i64 kd, .int .i64 x, .int .i64 y, .bool z] 53) := ⟨_, rfl⟩
  have b1 : Below w.heap.size w w1 := by rw [hw1]; exact (Below.refl _ _).alloc (Nat.le_refl _) _
  have hl1 : w1.heap.size = w.heap.size + 1 := by rw [hw1]; simp
  have X1 : Hid (w1.cell? ⟨w.heap.size, 1, none⟩ = some (.int .i64 x) ∧ w1.cell? ⟨w.heap.size, 2, none⟩ = some (.int .i64 y) ∧ w1.cell? ⟨w.heap.size, 3, none⟩ = some (.bool z)) := by
    rw [hw1]
    refine ⟨?_, ?_, ?_⟩ <;> (rw [cell_new]; rfl)
  have hbu := busy_any w1 d L F vl vf x (hL.below b1) (by omega)
  have HT : Hid (TT w1 a t E) := hT.below b1
  have HL : Hid (Led w1 d L F vl vf) := hL.below b1
  have HDs : Hid (∀ g, Dl4 d vl vf g → ¬ E g) := hdis
  have HD : Hid (∀ g, D g ↔ E g ∨ Dl4 d vl vf g) := hD
  have HB1 : Hid (Below w.heap.size w w1) := b1
  have HEw : Hid (∀ g, E g → g < w.heap.size) := fun g e => hT.lt e
  have HLw : Hid (∀ g, Dl4 d vl vf g → g < w.heap.size) := fun g e => hL.dlt e
  have HS : Hid (w1.heap.size = w.heap.size + 1) := hl1
  have hlh := take_hurt_len t ⟨x, y, z⟩ hfit.len
  have hlg := take_got_len t ⟨x, y, z⟩ hfit.len
  have hrb := hok.busy
  have hra := hok.ans
  have HOK : Hid (TakeOk L F ⟨x, y, z⟩ (takeT t ⟨x, y, z⟩)) := hok
  have hpt := fun W (hW : TT W a t E) => pTake_any W a t E x y z hW hfit h1 h2 h3 h4
  have HPT : Hid _ := hpt
  clear hT hL hdis hD b1 hl1 hok hpt
  generalize takeT t ⟨x, y, z⟩ = r at *
  generalize busyB L x = was at *
  go_enter Try.func12, Try.ntmps12
  go_wp2_with fail
  rw [← hw1]
  clear hw1
  refine hbu.mono ?_
  rintro e w2 ⟨rfl, hb2⟩
  have X2 : Hid (w2.cell? ⟨w.heap.size, 1, none⟩ = some (.int .i64 x) ∧ w2.cell? ⟨w.heap.size, 2, none⟩ = some (.int .i64 y) ∧ w2.cell? ⟨w.heap.size, 3, none⟩ = some (.bool z)) := by
    obtain ⟨x0, x1, x2⟩ := X1.out
    exact ⟨(hb2.cell (p := ⟨_, _, none⟩) (cell_lt x0)).trans x0, (hb2.cell (p := ⟨_, _, none⟩) (cell_lt x0)).trans x1, (hb2.cell (p := ⟨_, _, none⟩) (cell_lt x0)).trans x2⟩
  have HT2 : Hid (TT w2 a t E) := HT.out.below hb2
  have HL2 : Hid (Led w2 d L F vl vf) := HL.out.below hb2
  have BB2 : Hid (Below w.heap.size w w2) := HB1.out.trans (hb2.mono HB1.out.size)
  have hlw2 : Hid (w.heap.size < w2.heap.size) := by have := hb2.size; have := HS.out; show _ < _; omega
  obtain ⟨x0, x1, x2⟩ := X2.out
  have hpt2 := HPT.out w2 HT2.out
  clear hbu hb2
  go_wp2_with fail
  refine hpt2.mono ?_
  rintro e w3 ⟨vu, vg, rfl, ou, og, E3, TT3, F3, sub3, fu3, fg3⟩
  have nE : Hid (∀ g, Dl4 d vl vf g → ¬ E g) := HDs
  have HL3 : Hid (Led w3 d L F vl vf) := HL2.out.fr F3 HDs.out
  have hs23 : Hid (w2.heap.size ≤ w3.heap.size) := F3.size
  have HX3 : Hid (TT w3 a r.t E3 ∧ (∀ g, E3 g → E g ∨ w2.heap.size ≤ g)) := ⟨TT3, sub3⟩
  have HF3 : Hid (Fr D w w3) := (Fr.of_below (D := D) BB2.out).trans F3 fun g _ e => (HD.out g).2 (.inl e)
  have nDE : Hid (∀ g, Dl4 d vl vf g → ¬ E3 g) := fun g hg e => (sub3 g e).elim (HDs.out g hg) (fun q => by have := HLw.out g hg; have := hlw2.out; omega)
  have X3 : Hid (w3.cell? ⟨w.heap.size, 1, none⟩ = some (.int .i64 x) ∧ w3.cell? ⟨w.heap.size, 2, none⟩ = some (.int .i64 y) ∧ w3.cell? ⟨w.heap.size, 3, none⟩ = some (.bool z)) := by
    have nb : ¬ E w.heap.size := fun e => absurd (HEw.out _ e) (Nat.lt_irrefl _)
    exact ⟨F3.cell x0 nb, F3.cell x1 nb, F3.cell x2 nb⟩
  obtain ⟨au, cu, hvu, hru, -, -⟩ := ou.rd il_len
  obtain ⟨ag', cg, hvg, hrg, -, -⟩ := og.rd gl_len
  have fu : Hid (∀ g, vu.ownBlock = some g → w2.heap.size ≤ g) := fun g e => (fu3 g e).1
  have fg : Hid (∀ g, vg.ownBlock = some g → w2.heap.size ≤ g ∧ g < w3.heap.size) := fun g e => ⟨(fg3 g e).1, og.lt e⟩
  subst hvu
  subst hvg
  have RU : Hid (Rd il 1 w3 au r.hurt) := hru
  have RG : Hid (Rd gl 2 w3 ag' r.got) := hrg
  clear hpt2 ou og TT3 F3 sub3 fu3 fg3 hru hrg x0 x1 x2 X2 HT2 HL2 HT HL X1 HPT hfit
  obtain ⟨ans, t', hurt, got⟩ := r
  simp only at hra hrb RU RG hlh hlg ⊢
  have NONE : Hid (ans ≠ 1 → ans ≠ 2 → hurt = [] ∧ got = [] ∧ SG w D w3 a t' d (ledL L ⟨x, y, z⟩ ⟨ans, t', hurt, got⟩) (ledF F ⟨ans, t', hurt, got⟩)) := fun e1 e2 => by
    obtain ⟨q1, q2, q3⟩ := HOK.out.none e1 e2
    refine ⟨q1, q2, ?_⟩
    have e : ¬ (ans = 1 ∨ ans = 2) := fun q => q.elim e1 e2
    unfold ledL ledF
    rw [if_neg e, if_neg e]
    refine ⟨fun g => E3 g ∨ Dl4 d vl vf g, ⟨E3, vl, vf, HX3.out.1, HL3.out, nDE.out, fun g => Iff.rfl⟩, HF3.out, fun g hg => ?_⟩
    rcases hg with q | q
    · exact (HX3.out.2 g q).imp (fun q => (HD.out g).2 (.inl q)) (fun q => by have := hlw2.out; omega)
    · exact .inl ((HD.out g).2 (.inr q))
  rcases hra with rfl | hra
  · obtain ⟨rfl, rfl, hS⟩ := NONE.out (by omega) (by omega)
    have HSG : Hid _ := hS
    clear hS NONE
    cases was
    · go_wp2
      go_ret
      exact ⟨rfl, HSG.out⟩
    · go_wp2
      go_ret
      exact ⟨rfl, HSG.out⟩
  · have hwas : was = false := by
      cases was
      · rfl
      · have := hrb rfl; omega
    subst hwas
    clear hrb
    by_cases h3a : ans = 3
    · subst h3a
      obtain ⟨rfl, rfl, hS⟩ := NONE.out (by omega) (by omega)
      have HSG : Hid _ := hS
      clear hS NONE hra
      go_wp2
      go_ret
      exact ⟨rfl, HSG.out⟩
    · have h12 : ans = 1 ∨ ans = 2 := by omega
      have SOME : Hid ((∀ k (hk : k < hurt.length), firmB F hurt[k] = false ∧ x < hurt[k]) ∧ allOk (dropAll L hurt ++ [⟨x, y, z, decide (ans = 2)⟩]) got) := by
        obtain ⟨q1, q2, q3⟩ := HOK.out.some h12
        exact ⟨fun k hk => q1 _ (List.getElem_mem hk), q2⟩
      have EL : Hid (ledL L ⟨x, y, z⟩ ⟨ans, t', hurt, got⟩ = allL (dropAll L hurt ++ [⟨x, y, z, decide (ans = 2)⟩]) got ∧ ledF F ⟨ans, t', hurt, got⟩ = dropAllF F hurt) := by
        unfold ledL ledF
        rw [if_pos h12, if_pos h12]; exact ⟨rfl, rfl⟩
      clear NONE hra h3a HOK
      have hbw : Hid ((ans == 2) = decide (ans = 2)) := rfl
      rcases h12 with rfl | rfl
      · go_wp2
        go_loopw [11, 12] (fun s11 _ wr => ∃ (k : Nat) (vl' vf' : Value), k ≤ hurt.length ∧ s11 = .int .i64 k ∧ Hid (Led wr d (dropAll L (hurt.take k)) (dropAllF F (hurt.take k)) vl' vf') ∧ Hid (Fr (fun b => b = d) w3 wr) ∧ Hid (∀ g, vl'.ownBlock = some g ∨ vf'.ownBlock = some g → (vl.ownBlock = some g ∨ vf.ownBlock = some g) ∨ w3.heap.size ≤ g)) (fun s11 _ _ => hurt.length - (intOf s11).toNat)
        case atStart => exact ⟨0, vl, vf, Nat.zero_le _, rfl, HL3, Fr.refl _ _, fun g e => .inl e⟩
        case round =>
          obtain ⟨k, vl', vf', hk, rfl, HLk, HFk, HBk⟩ := hrel
          have nBd : Hid (¬ w.heap.size = d) := fun e => absurd (HLw.out d (.inl rfl)) (by omega)
          have Xk : Hid (∀ W, Fr (fun b => b = d) w3 W → W.cell? ⟨w.heap.size, 1, none⟩ = some (.int .i64 x) ∧ W.cell? ⟨w.heap.size, 2, none⟩ = some (.int .i64 y) ∧ W.cell? ⟨w.heap.size, 3, none⟩ = some (.bool z)) := fun W hW => ⟨hW.cell X3.out.1 nBd.out, hW.cell X3.out.2.1 nBd.out, hW.cell X3.out.2.2 nBd.out⟩
          by_cases hlt : k < hurt.length
          · obtain ⟨b, off, rfl, hb, hc⟩ := RU.out.resolve_left (by intro e; rw [e] at hlt; simp at hlt)
            have nbd : ¬ b = d := fun e => absurd (HLw.out d (.inl rfl)) (by have := fu.out b rfl; have := hlw2.out; omega)
            have QU : Hid (∀ W, Fr (fun b => b = d) w3 W → W.cell? ⟨b, off + k, none⟩ = some (.int .i64 hurt[k])) := fun W hW => by
              have := (hc.fr hW hb nbd) k hlt 0 _ rfl
              rw [Nat.mul_one, Nat.add_zero] at this; exact this
            have hki : (k : Int) < (hurt.length : Int) := by omega
            obtain ⟨s1, s2⟩ := SOME.out.1 k hlt
            have hfm : firmB (dropAllF F (hurt.take k)) hurt[k] = false := by
              unfold firmB at s1 ⊢
              rw [Bool.eq_false_iff] at s1 ⊢
              intro e
              have : hurt[k] ∈ dropAllF F (hurt.take k) := by simpa using e
              exact s1 (by simpa using ((dropAllF_mem _ F _).1 this).1)
            have hl1 : (dropAll L (hurt.take k)).length ≤ 4398046511104 := Nat.le_trans (dropAll_len _ _) (by omega)
            have hl2 : (dropAllF F (hurt.take k)).length ≤ 4398046511104 := Nat.le_trans (dropAllF_len _ _) hm
            have hhe := held_any wr d _ _ vl' vf' hurt[k] HLk.out hl2
            rw [hfm] at hhe
            have TN : Hid (dropAll L (hurt.take (k + 1)) = (dropAll L (hurt.take k)).filter (dropB hurt[k]) ∧ dropAllF F (hurt.take (k + 1)) = (dropAllF F (hurt.take k)).filter (dropI hurt[k])) := by
              rw [take_next hlt, dropAll_snoc, dropAllF_snoc]; exact ⟨rfl, rfl⟩
            have q0 := QU.out wr HFk.out
            have HL12 : Hid ((dropAll L (hurt.take k)).length ≤ 4398046511104 ∧ (dropAllF F (hurt.take k)).length ≤ 4398046511104) := ⟨hl1, hl2⟩
            clear hc s1 hfm hl1 hl2
            generalize hurt[k] = xk at *
            go_wp2_with fail
            refine hhe.mono ?_
            rintro e w4 ⟨rfl, hb4⟩
            have HF4 : Hid (Fr (fun b => b = d) w3 w4) := HFk.out.below hb4
            have HL4 : Hid (Led w4 d (dropAll L (hurt.take k)) (dropAllF F (hurt.take k)) vl' vf') := HLk.out.below hb4
            clear hhe q0 hb4
            have q0 := QU.out w4 HF4.out
            obtain ⟨x0, -, -⟩ := Xk.out w4 HF4.out
            have hle : decide (xk ≤ x) = false := by simpa using s2
            have hle' : ¬ (xk ≤ x) := by omega
            go_wp2_with fail
            go_quiet (fail)
            generalize hw5 : w4.drewN _ = w5
            have B5 : Hid (Below w4.heap.size w4 w5) := by rw [← hw5]; exact below_dN _ _
            clear hw5
            have HF5 : Hid (Fr (fun b => b = d) w3 w5) := HF4.out.below B5.out
            have HL5 : Hid (Led w5 d (dropAll L (hurt.take k)) (dropAllF F (hurt.take k)) vl' vf') := HL4.out.below B5.out
            clear q0 x0
            have q0 := QU.out w5 HF5.out
            have hdr := drop_any w5 d _ _ vl' vf' xk HL5.out HL12.out.1 HL12.out.2
            go_wp2_with fail
            refine hdr.mono ?_
            rintro e w6 ⟨rfl, vl6, vf6, hl6, hf6, fr6⟩
            have Y1 : Hid (Led w6 d (dropAll L (hurt.take (k + 1))) (dropAllF F (hurt.take (k + 1))) vl6 vf6) := by rw [TN.out.1, TN.out.2]; exact hl6
            have Y2 : Hid (Fr (fun b => b = d) w3 w6) := HF5.out.trans hf6 fun g _ e => e
            have Y3 : Hid (∀ g, vl6.ownBlock = some g ∨ vf6.ownBlock = some g → (vl.ownBlock = some g ∨ vf.ownBlock = some g) ∨ w3.heap.size ≤ g) := fun g e => .inr (Nat.le_trans HF5.out.size (fr6 g e))
            clear hdr q0
            go_wp2
            go_roundw
            case rel => exact ⟨k + 1, vl6, vf6, by omega, by go_num, Y1, Y2, Y3⟩
            case measure => simp [intOf]; omega
          · have hki : ¬ (k : Int) < (hurt.length : Int) := by omega
            have hkk : hurt.take k = hurt := by rw [show k = hurt.length by omega, List.take_length]
            rw [hkk] at HLk
            clear hkk
            have HLL : Hid ((dropAll L hurt).length < 4398046511104) := Nat.lt_of_le_of_lt (dropAll_len _ _) hn
            generalize hL1 : dropAll L hurt = L1 at *
            obtain ⟨x0, x1, x2⟩ := Xk.out wr HFk.out
            obtain ⟨c0, -⟩ := HLk.out.cells
            have hbx := HLk.out.box
            have f0 := Sh.free (n := 2) ⟨_, hbx, rfl⟩ 0
            have c0' : ∀ o, (wr.alloc o).cell? ⟨d, 0, none⟩ = some vl' := fun o => Lib.cell?_alloc_some o c0
            have nld : Hid (¬ vl'.ownBlock = some d) := HLk.out.ld
            have own' : Hid (Own ll 4 88 wr vl' L1) := HLk.out.l
            have hw2r : Hid (w3.heap.size ≤ wr.heap.size) := HFk.out.size
            clear hbx
            go_wp2_with fail
            have nvB : ¬ vl'.ownBlock = some w.heap.size := fun e => (HBk.out _ (.inl e)).elim (fun q => absurd (HLw.out w.heap.size (.inr q)) (Nat.lt_irrefl _)) (fun q => by have := hs23.out; have := hlw2.out; omega)
            have ndB : ¬ d = w.heap.size := fun e => nBd.out e.symm
            refine wp_region_noPanic ?_
            refine wp_region_held_drew (S := fun w' => w'.cell? ⟨w.heap.size, 1, none⟩ = some (.int .i64 x) ∧ w'.cell? ⟨w.heap.size, 2, none⟩ = some (.int .i64 y) ∧ w'.cell? ⟨w.heap.size, 3, none⟩ = some (.bool z)) (by kernel_rfl) ?_ (fun hHeld => ?_)
            · exact ⟨x0, x1, x2⟩
            refine wpAnyH_take (i := 0) (v := ?_) (by simp only [List.getElem?_toArray, List.getElem?_cons_zero]; rfl) (by kernel_rfl) (by kernel_rfl) (by kernel_rfl) (fun _ _ _ h => h) (Or.inl ⟨by rfl, ?_⟩) (by assumption) ?_
            rotate_left
            · (intro w' hSw; (try dsimp only at hSw); go_simp <;> with_reducible rfl)
            try simp only [Act.put, List.setIfInBounds_toArray, List.set_cons_zero, List.set_cons_succ]
            refine wpAnyH_take (i := 1) (v := ?_) (by simp only [List.getElem?_toArray, List.getElem?_cons_succ, List.getElem?_cons_zero]; rfl) (by kernel_rfl) (by kernel_rfl) (by kernel_rfl) (fun _ _ _ h => h) (Or.inl ⟨by rfl, ?_⟩) (by assumption) ?_
            rotate_left
            · (intro w' hSw; (try dsimp only at hSw); go_simp <;> with_reducible rfl)
            try simp only [Act.put, List.setIfInBounds_toArray, List.set_cons_zero, List.set_cons_succ]
            refine wpAnyH_take (i := 2) (v := ?_) (by simp only [List.getElem?_toArray, List.getElem?_cons_succ, List.getElem?_cons_zero]; rfl) (by kernel_rfl) (by kernel_rfl) (by kernel_rfl) (fun _ _ _ h => h) (Or.inl ⟨by rfl, ?_⟩) (by assumption) ?_
            rotate_left
            · (intro w' hSw; (try dsimp only at hSw); go_simp <;> with_reducible rfl)
            try simp only [Act.put, List.setIfInBounds_toArray, List.set_cons_zero, List.set_cons_succ]
            refine wpAnyH_take (i := 3) (v := ?_) (by simp only [List.getElem?_toArray, List.getElem?_cons_succ, List.getElem?_cons_zero]; rfl) (by kernel_rfl) (by kernel_rfl) (by kernel_rfl) (fun _ _ _ h => h) (Or.inl ⟨by rfl, ?_⟩) (by assumption) ?_
            rotate_left
            · (intro w' hSw; (try dsimp only at hSw); go_simp <;> with_reducible rfl)
            try simp only [Act.put, List.setIfInBounds_toArray, List.set_cons_zero, List.set_cons_succ]
            refine wpAnyH_take (i := 5) (v := ?_) (by simp only [List.getElem?_toArray, List.getElem?_cons_succ, List.getElem?_cons_zero]; rfl) (by kernel_rfl) (by kernel_rfl) (by kernel_rfl) (fun _ _ _ h => h) (Or.inl ⟨by rfl, ?_⟩) (by assumption) ?_
            rotate_left
            · (intro w' hSw; (try dsimp only at hSw); go_simp <;> with_reducible rfl)
            try simp only [Act.put, List.setIfInBounds_toArray, List.set_cons_zero, List.set_cons_succ]
            refine wpAnyH_take (i := 6) (v := ?_) (by simp only [List.getElem?_toArray, List.getElem?_cons_succ, List.getElem?_cons_zero]; rfl) (by kernel_rfl) (by kernel_rfl) (by kernel_rfl) (fun _ _ _ h => h) (Or.inl ⟨by rfl, ?_⟩) (by assumption) ?_
            rotate_left
            · (intro w' hSw; (try dsimp only at hSw); go_simp <;> with_reducible rfl)
            try simp only [Act.put, List.setIfInBounds_toArray, List.set_cons_zero, List.set_cons_succ]
            refine wpAnyH_take (i := 7) (v := ?_) (by simp only [List.getElem?_toArray, List.getElem?_cons_succ, List.getElem?_cons_zero]; rfl) (by kernel_rfl) (by kernel_rfl) (by kernel_rfl) (fun _ _ _ h => h) (Or.inl ⟨by rfl, ?_⟩) (by assumption) ?_
            rotate_left
            · (intro w' hSw; (try dsimp only at hSw); go_simp <;> with_reducible rfl)
            try simp only [Act.put, List.setIfInBounds_toArray, List.set_cons_zero, List.set_cons_succ]
            refine wpAnyH_take (i := 8) (v := ?_) (by simp only [List.getElem?_toArray, List.getElem?_cons_succ, List.getElem?_cons_zero]; rfl) (by kernel_rfl) (by kernel_rfl) (by kernel_rfl) (fun _ _ _ h => h) (Or.inl ⟨by rfl, ?_⟩) (by assumption) ?_
            rotate_left
            · (intro w' hSw; (try dsimp only at hSw); go_simp <;> with_reducible rfl)
            try simp only [Act.put, List.setIfInBounds_toArray, List.set_cons_zero, List.set_cons_succ]
            refine wpAnyH_take (i := 9) (v := ?_) (by simp only [List.getElem?_toArray, List.getElem?_cons_succ, List.getElem?_cons_zero]; rfl) (by kernel_rfl) (by kernel_rfl) (by kernel_rfl) (fun _ _ _ h => h) (Or.inl ⟨by rfl, ?_⟩) (by assumption) ?_
            rotate_left
            · (intro w' hSw; (try dsimp only at hSw); go_simp <;> with_reducible rfl)
            try simp only [Act.put, List.setIfInBounds_toArray, List.set_cons_zero, List.set_cons_succ]
            refine wpAnyH_take (i := 10) (v := ?_) (by simp only [List.getElem?_toArray, List.getElem?_cons_succ, List.getElem?_cons_zero]; rfl) (by kernel_rfl) (by kernel_rfl) (by kernel_rfl) (fun _ _ _ h => h) (Or.inl ⟨by rfl, ?_⟩) (by assumption) ?_
            rotate_left
            · (intro w' hSw; (try dsimp only at hSw); go_simp <;> with_reducible rfl)
            try simp only [Act.put, List.setIfInBounds_toArray, List.set_cons_zero, List.set_cons_succ]
            refine wpAnyH_take (i := 11) (v := ?_) (by simp only [List.getElem?_toArray, List.getElem?_cons_succ, List.getElem?_cons_zero]; rfl) (by kernel_rfl) (by kernel_rfl) (by kernel_rfl) (fun _ _ _ h => h) (Or.inl ⟨by rfl, ?_⟩) (by assumption) ?_
            rotate_left
            · (intro w' hSw; (try dsimp only at hSw); go_simp <;> with_reducible rfl)
            try simp only [Act.put, List.setIfInBounds_toArray, List.set_cons_zero, List.set_cons_succ]
            refine wpAnyH_take (i := 12) (v := ?_) (by simp only [List.getElem?_toArray, List.getElem?_cons_succ, List.getElem?_cons_zero]; rfl) (by kernel_rfl) (by kernel_rfl) (by kernel_rfl) (fun _ _ _ h => h) (Or.inl ⟨by rfl, ?_⟩) (by assumption) ?_
            rotate_left
            · (intro w' hSw; (try dsimp only at hSw); go_simp <;> with_reducible rfl)
            try simp only [Act.put, List.setIfInBounds_toArray, List.set_cons_zero, List.set_cons_succ]
            refine wpAnyH_take (i := 13) (v := ?_) (by simp only [List.getElem?_toArray, List.getElem?_cons_succ, List.getElem?_cons_zero]; rfl) (by kernel_rfl) (by kernel_rfl) (by kernel_rfl) (fun _ _ _ h => h) (Or.inl ⟨by rfl, ?_⟩) (by assumption) ?_
            rotate_left
            · (intro w' hSw; (try dsimp only at hSw); go_simp <;> with_reducible rfl)
            try simp only [Act.put, List.setIfInBounds_toArray, List.set_cons_zero, List.set_cons_succ]
            refine wpAnyH_ready (rs := [4, 14]) (by kernel_rfl) (by simp) (AllReadyH.cons (i := 4) (by simp only [List.getElem?_toArray, List.getElem?_cons_succ, List.getElem?_cons_zero]; rfl) (fun K hK => ?_) (AllReadyH.cons (i := 14) (by simp only [List.getElem?_toArray, List.getElem?_cons_succ, List.getElem?_cons_zero]; rfl) (fun K hK => ?_) AllReadyH.nil))
            focus
              go_simp
              refine hK.out _ _ (by exact hHeld) (fun hHeld2 => ?_)
              clear hK K hHeld
              have hHeld := hHeld2
              clear hHeld2
              try simp only [Act.put, List.setIfInBounds_toArray, List.set_cons_zero, List.set_cons_succ]
              refine wpAnyH_ready (rs := [14]) (by kernel_rfl) (by simp) (AllReadyH.cons (i := 14) (by simp only [List.getElem?_toArray, List.getElem?_cons_succ, List.getElem?_cons_zero]; rfl) (fun K hK => ?_) AllReadyH.nil)
              go_simp
              refine hK.out _ _ (by exact ⟨Lib.cell?_alloc_some _ hHeld.1, Lib.cell?_alloc_some _ hHeld.2.1, Lib.cell?_alloc_some _ hHeld.2.2⟩) (fun hHeld2 => ?_)
              clear hK K hHeld
              have hHeld := hHeld2
              clear hHeld2
              try simp only [Act.put, List.setIfInBounds_toArray, List.set_cons_zero, List.set_cons_succ]
              revert hHeld
            rotate_left
            focus
              go_simp
              refine hK.out _ _ (by exact ⟨Lib.cell?_alloc_some _ hHeld.1, Lib.cell?_alloc_some _ hHeld.2.1, Lib.cell?_alloc_some _ hHeld.2.2⟩) (fun hHeld2 => ?_)
              clear hK K hHeld
              have hHeld := hHeld2
              clear hHeld2
              try simp only [Act.put, List.setIfInBounds_toArray, List.set_cons_zero, List.set_cons_succ]
              refine wpAnyH_ready (rs := [4]) (by kernel_rfl) (by simp) (AllReadyH.cons (i := 4) (by simp only [List.getElem?_toArray, List.getElem?_cons_succ, List.getElem?_cons_zero]; rfl) (fun K hK => ?_) AllReadyH.nil)
              go_simp
              refine hK.out _ _ (by exact hHeld) (fun hHeld2 => ?_)
              clear hK K hHeld
              have hHeld := hHeld2
              clear hHeld2
              try simp only [Act.put, List.setIfInBounds_toArray, List.set_cons_zero, List.set_cons_succ]
              revert hHeld
            all_goals
              intro hHeld
              refine wpAnyH_ready (rs := [15]) (by kernel_rfl) (by simp) (AllReadyH.cons (i := 15) (by simp only [List.getElem?_toArray, List.getElem?_cons_succ, List.getElem?_cons_zero]; rfl) (fun K hK => ?_) AllReadyH.nil)
              refine app_stepb el_lock _ rfl (.tmp 88) (.tmp 98) rfl vl' L1 (by simp [Act.eval]) (own'.out.block fun g hg => Below.heap_alloc _ _ _ (own'.out.lt hg)) wr.heap.size ⟨x, y, z, false⟩ #[.int .i64 x, .int .i64 y, .bool z, .bool false] 88 (by simp [Act.eval]) (heap_new _ _) rfl (by have := HLL.out; omega) (by omega) ?_
              intro g cap w7 ho hf hat hgl
              obtain ⟨d1, d2⟩ := store_ok hf c0 f0 nld.out (fun hl => Below.heap_alloc _ _ _ hl)
              refine hK.out _ _ (by exact ⟨hf.cell hHeld.1 nvB, hf.cell hHeld.2.1 nvB, hf.cell hHeld.2.2 nvB⟩) (fun hHeld2 => ?_)
              clear hK K hHeld
              have hHeld := hHeld2
              clear hHeld2
              try simp only [Act.put, List.setIfInBounds_toArray, List.set_cons_zero, List.set_cons_succ]
              refine wpAnyH_take (i := 16) (v := ?_) (by simp only [List.getElem?_toArray, List.getElem?_cons_succ, List.getElem?_cons_zero]; rfl) (by kernel_rfl) (by kernel_rfl) (by kernel_rfl) (fun _ _ _ h => h) (Or.inl ⟨by rfl, ?_⟩) (by assumption) ?_
              rotate_left
              · (intro w' hSw; (try dsimp only at hSw); go_simp <;> with_reducible rfl)
              try simp only [Act.put, List.setIfInBounds_toArray, List.set_cons_zero, List.set_cons_succ]
              refine wpAnyH_take (i := 17) (v := ?_) (by simp only [List.getElem?_toArray, List.getElem?_cons_succ, List.getElem?_cons_zero]; rfl) (by kernel_rfl) (by kernel_rfl) (by kernel_rfl) (fun _ _ _ h => h) (Or.inl ⟨by rfl, ?_⟩) (by assumption) ?_
              rotate_left
              · (intro w' hSw; (try dsimp only at hSw); go_simp <;> with_reducible rfl)
              try simp only [Act.put, List.setIfInBounds_toArray, List.set_cons_zero, List.set_cons_succ]
              refine wpAnyH_ready (rs := [18]) (by kernel_rfl) (by simp) (AllReadyH.cons (i := 18) (by simp only [List.getElem?_toArray, List.getElem?_cons_succ, List.getElem?_cons_zero]; rfl) (fun K hK => ?_) AllReadyH.nil)
              go_simp
              refine hK.out _ _ (by refine ⟨?_, ?_, ?_⟩ <;> (rw [World.cell?_setCell_far _ _ _ _ ndB]; first | exact hHeld.1 | exact hHeld.2.1 | exact hHeld.2.2)) (fun hHeld2 => ?_)
              clear hK K hHeld
              have hHeld := hHeld2
              clear hHeld2
              try simp only [Act.put, List.setIfInBounds_toArray, List.set_cons_zero, List.set_cons_succ]
              refine wpAnyH_done (by kernel_rfl) ?_ _
              refine NoPanic.normal ?_
              clear hHeld nvB
            all_goals
              have FWr : Fr (fun b => vl'.ownBlock = some b) wr w7 := ((Fr.refl (fun b => vl'.ownBlock = some b) wr).alloc _).drew.trans hf fun g _ e => e
              have hat2 : vl'.ownBlock = some g ∨ wr.heap.size ≤ g := hat.imp id fun q => by
                have q2 : wr.heap.size + 1 ≤ g := by simpa using q
                omega
              have fs := fr_set w7 d 0 (.slice (some ⟨g, 0, none⟩) (L1.length + 1) cap)
              have gd : g ≠ d := fun e => hat2.elim (fun q => nld.out (by rw [q, e])) (fun q => absurd HLk.out.lt (by omega))
              have L7 : Hid (Led (w7.setCell ⟨d, 0, none⟩ (.slice (some ⟨g, 0, none⟩) (L1.length + 1) cap)) d (L1 ++ [⟨x, y, z, false⟩]) (dropAllF F hurt) (.slice (some ⟨g, 0, none⟩) (L1.length + 1) cap) vf') := by
                have h := HLk.out
                have hx7 : w7.heap[d]? = some (.cells #[vl', vf'] 51 (0, 0)) := (FWr.block d h.lt h.ld).trans h.box
                refine ⟨?_, ho.fr fs fun b hb e => ?_, (h.f.fr FWr fun b hb e => h.lf b e hb).fr fs fun b hb e => h.fd (by rw [hb, e]), fun e => ?_, h.fd, fun b hb e => ?_⟩
                · simp [World.setCell, Array.getElem?_modify, hx7]
                · have e2 : g = b := by simpa [Value.ownBlock] using hb
                  exact gd (by rw [e2, e])
                · have e2 : g = d := by simpa [Value.ownBlock] using e
                  exact gd e2
                · have e2 : g = b := by simpa [Value.ownBlock] using hb
                  subst e2
                  exact hat2.elim (fun q => h.lf g q e) (fun q => absurd (h.f.lt e) (by omega))
              have F7 : Hid (Fr (Dl4 d vl vf) w3 (w7.setCell ⟨d, 0, none⟩ (.slice (some ⟨g, 0, none⟩) (L1.length + 1) cap))) := ((HFk.out.mono (E := Dl4 d vl vf) fun b _ e => .inl e).trans FWr fun b hb e => (HBk.out b (.inl e)).elim (fun q => q.elim (fun q => .inr (.inl q)) (fun q => .inr (.inr q))) (fun q => by omega)).trans fs fun b _ e => .inl e
              have B7 : Hid (∀ b, Dl4 d (.slice (some ⟨g, 0, none⟩) (L1.length + 1) cap) vf' b → Dl4 d vl vf b ∨ w3.heap.size ≤ b) := fun b hb => by
                rcases hb with q | q | q
                · exact .inl (.inl q)
                · have e2 : g = b := by simpa [Value.ownBlock] using q
                  subst e2
                  rcases hat2 with r | r
                  · exact (HBk.out g (.inl r)).imp (fun q => q.elim (fun q => .inr (.inl q)) (fun q => .inr (.inr q))) id
                  · exact .inr (by have := hw2r.out; omega)
                · exact (HBk.out b (.inr q)).imp (fun q => q.elim (fun q => .inr (.inl q)) (fun q => .inr (.inr q))) id
              have R7 : Hid (Rd gl 2 (w7.setCell ⟨d, 0, none⟩ (.slice (some ⟨g, 0, none⟩) (L1.length + 1) cap)) ag' got ∧ ∀ b off, ag' = some ⟨b, off, none⟩ → (Value.slice (some ⟨g, 0, none⟩) (L1.length + 1) cap).ownBlock ≠ some b) := by
                have nb : ∀ b off, ag' = some ⟨b, off, none⟩ → ¬ Dl4 d vl vf b := fun b off e hd => absurd (HLw.out b hd) (by have := (fg.out b (by rw [e]; rfl)).1; have := hlw2.out; omega)
                refine ⟨?_, fun b off e q => ?_⟩
                · rcases RG.out with q | ⟨b, off, q1, q2, q3⟩
                  · exact .inl q
                  · exact .inr ⟨b, off, q1, Nat.lt_of_lt_of_le q2 F7.out.size, q3.fr F7.out q2 (nb b off q1)⟩
                · have hb2 := fg.out b (by rw [e]; rfl)
                  exact (B7.out b (.inr (.inl q))).elim (nb b off e) (fun r => by omega)
              have hal := all_true _ d _ _ _ _ ag' cg got L7.out (by rw [List.length_append]; have := HLL.out; simp; omega) R7.out.1 (by omega) R7.out.2 SOME.out.2
              clear c0 c0' f0 x0 x1 x2 d1 d2 ho hf hat fs FWr
              go_wp2_with fail
              refine hal.mono ?_
              rintro e w8 ⟨rfl, hl8, hf8⟩
              clear hal
              go_wp2
              go_ret
              refine ⟨rfl, ?_⟩
              rw [EL.out.1, EL.out.2]
              refine ⟨fun b => E3 b ∨ Dl4 d (.slice (some ⟨g, 0, none⟩) (L1.length + 1) cap) vf' b, ⟨E3, _, vf', ?_, hl8, fun b hb e => ?_, fun b => Iff.rfl⟩, ?_, fun b hb => ?_⟩
              · have t7 : TT (w7.setCell ⟨d, 0, none⟩ (.slice (some ⟨g, 0, none⟩) (L1.length + 1) cap)) a t' E3 := HX3.out.1.fr F7.out fun b e q => nDE.out b q e
                exact t7.fr hf8 fun b e q => (B7.out b (.inr (.inl q))).elim (fun r => nDE.out b r e) (fun r => absurd (HX3.out.1.lt e) (by omega))
              · exact (B7.out b hb).elim (fun r => nDE.out b r e) (fun r => absurd (HX3.out.1.lt e) (by omega))
              · exact (HF3.out.trans F7.out fun b _ e => (HD.out b).2 (.inr e)).trans hf8 fun b hb e => (B7.out b (.inr (.inl e))).elim (fun r => (HD.out b).2 (.inr r)) (fun r => by have := hs23.out; have := hlw2.out; omega)
              · rcases hb with q | q
                · exact (HX3.out.2 b q).imp (fun q => (HD.out b).2 (.inl q)) (fun q => by have := hlw2.out; omega)
                · exact (B7.out b q).imp (fun r => (HD.out b).2 (.inr r)) (fun r => by have := hs23.out; have := hlw2.out; omega)
      · go_wp2
        go_loopw [11, 12] (fun s11 _ wr => ∃ (k : Nat) (vl' vf' : Value), k ≤ hurt.length ∧ s11 = .int .i64 k ∧ Hid (Led wr d (dropAll L (hurt.take k)) (dropAllF F (hurt.take k)) vl' vf') ∧ Hid (Fr (fun b => b = d) w3 wr) ∧ Hid (∀ g, vl'.ownBlock = some g ∨ vf'.ownBlock = some g → (vl.ownBlock = some g ∨ vf.ownBlock = some g) ∨ w3.heap.size ≤ g)) (fun s11 _ _ => hurt.length - (intOf s11).toNat)
        case atStart => exact ⟨0, vl, vf, Nat.zero_le _, rfl, HL3, Fr.refl _ _, fun g e => .inl e⟩
        case round =>
          obtain ⟨k, vl', vf', hk, rfl, HLk, HFk, HBk⟩ := hrel
          have nBd : Hid (¬ w.heap.size = d) := fun e => absurd (HLw.out d (.inl rfl)) (by omega)
          have Xk : Hid (∀ W, Fr (fun b => b = d) w3 W → W.cell? ⟨w.heap.size, 1, none⟩ = some (.int .i64 x) ∧ W.cell? ⟨w.heap.size, 2, none⟩ = some (.int .i64 y) ∧ W.cell? ⟨w.heap.size, 3, none⟩ = some (.bool z)) := fun W hW => ⟨hW.cell X3.out.1 nBd.out, hW.cell X3.out.2.1 nBd.out, hW.cell X3.out.2.2 nBd.out⟩
          by_cases hlt : k < hurt.length
          · obtain ⟨b, off, rfl, hb, hc⟩ := RU.out.resolve_left (by intro e; rw [e] at hlt; simp at hlt)
            have nbd : ¬ b = d := fun e => absurd (HLw.out d (.inl rfl)) (by have := fu.out b rfl; have := hlw2.out; omega)
            have QU : Hid (∀ W, Fr (fun b => b = d) w3 W → W.cell? ⟨b, off + k, none⟩ = some (.int .i64 hurt[k])) := fun W hW => by
              have := (hc.fr hW hb nbd) k hlt 0 _ rfl
              rw [Nat.mul_one, Nat.add_zero] at this; exact this
            have hki : (k : Int) < (hurt.length : Int) := by omega
            obtain ⟨s1, s2⟩ := SOME.out.1 k hlt
            have hfm : firmB (dropAllF F (hurt.take k)) hurt[k] = false := by
              unfold firmB at s1 ⊢
              rw [Bool.eq_false_iff] at s1 ⊢
              intro e
              have : hurt[k] ∈ dropAllF F (hurt.take k) := by simpa using e
              exact s1 (by simpa using ((dropAllF_mem _ F _).1 this).1)
            have hl1 : (dropAll L (hurt.take k)).length ≤ 4398046511104 := Nat.le_trans (dropAll_len _ _) (by omega)
            have hl2 : (dropAllF F (hurt.take k)).length ≤ 4398046511104 := Nat.le_trans (dropAllF_len _ _) hm
            have hhe := held_any wr d _ _ vl' vf' hurt[k] HLk.out hl2
            rw [hfm] at hhe
            have TN : Hid (dropAll L (hurt.take (k + 1)) = (dropAll L (hurt.take k)).filter (dropB hurt[k]) ∧ dropAllF F (hurt.take (k + 1)) = (dropAllF F (hurt.take k)).filter (dropI hurt[k])) := by
              rw [take_next hlt, dropAll_snoc, dropAllF_snoc]; exact ⟨rfl, rfl⟩
            have q0 := QU.out wr HFk.out
            have HL12 : Hid ((dropAll L (hurt.take k)).length ≤ 4398046511104 ∧ (dropAllF F (hurt.take k)).length ≤ 4398046511104) := ⟨hl1, hl2⟩
            clear hc s1 hfm hl1 hl2
            generalize hurt[k] = xk at *
            go_wp2_with fail
            refine hhe.mono ?_
            rintro e w4 ⟨rfl, hb4⟩
            have HF4 : Hid (Fr (fun b => b = d) w3 w4) := HFk.out.below hb4
            have HL4 : Hid (Led w4 d (dropAll L (hurt.take k)) (dropAllF F (hurt.take k)) vl' vf') := HLk.out.below hb4
            clear hhe q0 hb4
            have q0 := QU.out w4 HF4.out
            obtain ⟨x0, -, -⟩ := Xk.out w4 HF4.out
            have hle : decide (xk ≤ x) = false := by simpa using s2
            have hle' : ¬ (xk ≤ x) := by omega
            go_wp2_with fail
            go_quiet (fail)
            generalize hw5 : w4.drewN _ = w5
            have B5 : Hid (Below w4.heap.size w4 w5) := by rw [← hw5]; exact below_dN _ _
            clear hw5
            have HF5 : Hid (Fr (fun b => b = d) w3 w5) := HF4.out.below B5.out
            have HL5 : Hid (Led w5 d (dropAll L (hurt.take k)) (dropAllF F (hurt.take k)) vl' vf') := HL4.out.below B5.out
            clear q0 x0
            have q0 := QU.out w5 HF5.out
            have hdr := drop_any w5 d _ _ vl' vf' xk HL5.out HL12.out.1 HL12.out.2
            go_wp2_with fail
            refine hdr.mono ?_
            rintro e w6 ⟨rfl, vl6, vf6, hl6, hf6, fr6⟩
            have Y1 : Hid (Led w6 d (dropAll L (hurt.take (k + 1))) (dropAllF F (hurt.take (k + 1))) vl6 vf6) := by rw [TN.out.1, TN.out.2]; exact hl6
            have Y2 : Hid (Fr (fun b => b = d) w3 w6) := HF5.out.trans hf6 fun g _ e => e
            have Y3 : Hid (∀ g, vl6.ownBlock = some g ∨ vf6.ownBlock = some g → (vl.ownBlock = some g ∨ vf.ownBlock = some g) ∨ w3.heap.size ≤ g) := fun g e => .inr (Nat.le_trans HF5.out.size (fr6 g e))
            clear hdr q0
            go_wp2
            go_roundw
            case rel => exact ⟨k + 1, vl6, vf6, by omega, by go_num, Y1, Y2, Y3⟩
            case measure => simp [intOf]; omega
          · have hki : ¬ (k : Int) < (hurt.length : Int) := by omega
            have hkk : hurt.take k = hurt := by rw [show k = hurt.length by omega, List.take_length]
            rw [hkk] at HLk
            clear hkk
            have HLL : Hid ((dropAll L hurt).length < 4398046511104) := Nat.lt_of_le_of_lt (dropAll_len _ _) hn
            generalize hL1 : dropAll L hurt = L1 at *
            obtain ⟨x0, x1, x2⟩ := Xk.out wr HFk.out
            obtain ⟨c0, -⟩ := HLk.out.cells
            have hbx := HLk.out.box
            have f0 := Sh.free (n := 2) ⟨_, hbx, rfl⟩ 0
            have c0' : ∀ o, (wr.alloc o).cell? ⟨d, 0, none⟩ = some vl' := fun o => Lib.cell?_alloc_some o c0
            have nld : Hid (¬ vl'.ownBlock = some d) := HLk.out.ld
            have own' : Hid (Own ll 4 88 wr vl' L1) := HLk.out.l
            have hw2r : Hid (w3.heap.size ≤ wr.heap.size) := HFk.out.size
            clear hbx
            go_wp2_with fail
            have nvB : ¬ vl'.ownBlock = some w.heap.size := fun e => (HBk.out _ (.inl e)).elim (fun q => absurd (HLw.out w.heap.size (.inr q)) (Nat.lt_irrefl _)) (fun q => by have := hs23.out; have := hlw2.out; omega)
            have ndB : ¬ d = w.heap.size := fun e => nBd.out e.symm
            refine wp_region_noPanic ?_
            refine wp_region_held_drew (S := fun w' => w'.cell? ⟨w.heap.size, 1, none⟩ = some (.int .i64 x) ∧ w'.cell? ⟨w.heap.size, 2, none⟩ = some (.int .i64 y) ∧ w'.cell? ⟨w.heap.size, 3, none⟩ = some (.bool z)) (by kernel_rfl) ?_ (fun hHeld => ?_)
            · exact ⟨x0, x1, x2⟩
            refine wpAnyH_take (i := 0) (v := ?_) (by simp only [List.getElem?_toArray, List.getElem?_cons_zero]; rfl) (by kernel_rfl) (by kernel_rfl) (by kernel_rfl) (fun _ _ _ h => h) (Or.inl ⟨by rfl, ?_⟩) (by assumption) ?_
            rotate_left
            · (intro w' hSw; (try dsimp only at hSw); go_simp <;> with_reducible rfl)
            try simp only [Act.put, List.setIfInBounds_toArray, List.set_cons_zero, List.set_cons_succ]
            refine wpAnyH_take (i := 1) (v := ?_) (by simp only [List.getElem?_toArray, List.getElem?_cons_succ, List.getElem?_cons_zero]; rfl) (by kernel_rfl) (by kernel_rfl) (by kernel_rfl) (fun _ _ _ h => h) (Or.inl ⟨by rfl, ?_⟩) (by assumption) ?_
            rotate_left
            · (intro w' hSw; (try dsimp only at hSw); go_simp <;> with_reducible rfl)
            try simp only [Act.put, List.setIfInBounds_toArray, List.set_cons_zero, List.set_cons_succ]
            refine wpAnyH_take (i := 2) (v := ?_) (by simp only [List.getElem?_toArray, List.getElem?_cons_succ, List.getElem?_cons_zero]; rfl) (by kernel_rfl) (by kernel_rfl) (by kernel_rfl) (fun _ _ _ h => h) (Or.inl ⟨by rfl, ?_⟩) (by assumption) ?_
            rotate_left
            · (intro w' hSw; (try dsimp only at hSw); go_simp <;> with_reducible rfl)
            try simp only [Act.put, List.setIfInBounds_toArray, List.set_cons_zero, List.set_cons_succ]
            refine wpAnyH_take (i := 3) (v := ?_) (by simp only [List.getElem?_toArray, List.getElem?_cons_succ, List.getElem?_cons_zero]; rfl) (by kernel_rfl) (by kernel_rfl) (by kernel_rfl) (fun _ _ _ h => h) (Or.inl ⟨by rfl, ?_⟩) (by assumption) ?_
            rotate_left
            · (intro w' hSw; (try dsimp only at hSw); go_simp <;> with_reducible rfl)
            try simp only [Act.put, List.setIfInBounds_toArray, List.set_cons_zero, List.set_cons_succ]
            refine wpAnyH_take (i := 5) (v := ?_) (by simp only [List.getElem?_toArray, List.getElem?_cons_succ, List.getElem?_cons_zero]; rfl) (by kernel_rfl) (by kernel_rfl) (by kernel_rfl) (fun _ _ _ h => h) (Or.inl ⟨by rfl, ?_⟩) (by assumption) ?_
            rotate_left
            · (intro w' hSw; (try dsimp only at hSw); go_simp <;> with_reducible rfl)
            try simp only [Act.put, List.setIfInBounds_toArray, List.set_cons_zero, List.set_cons_succ]
            refine wpAnyH_take (i := 6) (v := ?_) (by simp only [List.getElem?_toArray, List.getElem?_cons_succ, List.getElem?_cons_zero]; rfl) (by kernel_rfl) (by kernel_rfl) (by kernel_rfl) (fun _ _ _ h => h) (Or.inl ⟨by rfl, ?_⟩) (by assumption) ?_
            rotate_left
            · (intro w' hSw; (try dsimp only at hSw); go_simp <;> with_reducible rfl)
            try simp only [Act.put, List.setIfInBounds_toArray, List.set_cons_zero, List.set_cons_succ]
            refine wpAnyH_take (i := 7) (v := ?_) (by simp only [List.getElem?_toArray, List.getElem?_cons_succ, List.getElem?_cons_zero]; rfl) (by kernel_rfl) (by kernel_rfl) (by kernel_rfl) (fun _ _ _ h => h) (Or.inl ⟨by rfl, ?_⟩) (by assumption) ?_
            rotate_left
            · (intro w' hSw; (try dsimp only at hSw); go_simp <;> with_reducible rfl)
            try simp only [Act.put, List.setIfInBounds_toArray, List.set_cons_zero, List.set_cons_succ]
            refine wpAnyH_take (i := 8) (v := ?_) (by simp only [List.getElem?_toArray, List.getElem?_cons_succ, List.getElem?_cons_zero]; rfl) (by kernel_rfl) (by kernel_rfl) (by kernel_rfl) (fun _ _ _ h => h) (Or.inl ⟨by rfl, ?_⟩) (by assumption) ?_
            rotate_left
            · (intro w' hSw; (try dsimp only at hSw); go_simp <;> with_reducible rfl)
            try simp only [Act.put, List.setIfInBounds_toArray, List.set_cons_zero, List.set_cons_succ]
            refine wpAnyH_take (i := 9) (v := ?_) (by simp only [List.getElem?_toArray, List.getElem?_cons_succ, List.getElem?_cons_zero]; rfl) (by kernel_rfl) (by kernel_rfl) (by kernel_rfl) (fun _ _ _ h => h) (Or.inl ⟨by rfl, ?_⟩) (by assumption) ?_
            rotate_left
            · (intro w' hSw; (try dsimp only at hSw); go_simp <;> with_reducible rfl)
            try simp only [Act.put, List.setIfInBounds_toArray, List.set_cons_zero, List.set_cons_succ]
            refine wpAnyH_take (i := 10) (v := ?_) (by simp only [List.getElem?_toArray, List.getElem?_cons_succ, List.getElem?_cons_zero]; rfl) (by kernel_rfl) (by kernel_rfl) (by kernel_rfl) (fun _ _ _ h => h) (Or.inl ⟨by rfl, ?_⟩) (by assumption) ?_
            rotate_left
            · (intro w' hSw; (try dsimp only at hSw); go_simp <;> with_reducible rfl)
            try simp only [Act.put, List.setIfInBounds_toArray, List.set_cons_zero, List.set_cons_succ]
            refine wpAnyH_take (i := 11) (v := ?_) (by simp only [List.getElem?_toArray, List.getElem?_cons_succ, List.getElem?_cons_zero]; rfl) (by kernel_rfl) (by kernel_rfl) (by kernel_rfl) (fun _ _ _ h => h) (Or.inl ⟨by rfl, ?_⟩) (by assumption) ?_
            rotate_left
            · (intro w' hSw; (try dsimp only at hSw); go_simp <;> with_reducible rfl)
            try simp only [Act.put, List.setIfInBounds_toArray, List.set_cons_zero, List.set_cons_succ]
            refine wpAnyH_take (i := 12) (v := ?_) (by simp only [List.getElem?_toArray, List.getElem?_cons_succ, List.getElem?_cons_zero]; rfl) (by kernel_rfl) (by kernel_rfl) (by kernel_rfl) (fun _ _ _ h => h) (Or.inl ⟨by rfl, ?_⟩) (by assumption) ?_
            rotate_left
            · (intro w' hSw; (try dsimp only at hSw); go_simp <;> with_reducible rfl)
            try simp only [Act.put, List.setIfInBounds_toArray, List.set_cons_zero, List.set_cons_succ]
            refine wpAnyH_take (i := 13) (v := ?_) (by simp only [List.getElem?_toArray, List.getElem?_cons_succ, List.getElem?_cons_zero]; rfl) (by kernel_rfl) (by kernel_rfl) (by kernel_rfl) (fun _ _ _ h => h) (Or.inl ⟨by rfl, ?_⟩) (by assumption) ?_
            rotate_left
            · (intro w' hSw; (try dsimp only at hSw); go_simp <;> with_reducible rfl)
            try simp only [Act.put, List.setIfInBounds_toArray, List.set_cons_zero, List.set_cons_succ]
            refine wpAnyH_ready (rs := [4, 14]) (by kernel_rfl) (by simp) (AllReadyH.cons (i := 4) (by simp only [List.getElem?_toArray, List.getElem?_cons_succ, List.getElem?_cons_zero]; rfl) (fun K hK => ?_) (AllReadyH.cons (i := 14) (by simp only [List.getElem?_toArray, List.getElem?_cons_succ, List.getElem?_cons_zero]; rfl) (fun K hK => ?_) AllReadyH.nil))
            focus
              go_simp
              refine hK.out _ _ (by exact hHeld) (fun hHeld2 => ?_)
              clear hK K hHeld
              have hHeld := hHeld2
              clear hHeld2
              try simp only [Act.put, List.setIfInBounds_toArray, List.set_cons_zero, List.set_cons_succ]
              refine wpAnyH_ready (rs := [14]) (by kernel_rfl) (by simp) (AllReadyH.cons (i := 14) (by simp only [List.getElem?_toArray, List.getElem?_cons_succ, List.getElem?_cons_zero]; rfl) (fun K hK => ?_) AllReadyH.nil)
              go_simp
              refine hK.out _ _ (by exact ⟨Lib.cell?_alloc_some _ hHeld.1, Lib.cell?_alloc_some _ hHeld.2.1, Lib.cell?_alloc_some _ hHeld.2.2⟩) (fun hHeld2 => ?_)
              clear hK K hHeld
              have hHeld := hHeld2
              clear hHeld2
              try simp only [Act.put, List.setIfInBounds_toArray, List.set_cons_zero, List.set_cons_succ]
              revert hHeld
            rotate_left
            focus
              go_simp
              refine hK.out _ _ (by exact ⟨Lib.cell?_alloc_some _ hHeld.1, Lib.cell?_alloc_some _ hHeld.2.1, Lib.cell?_alloc_some _ hHeld.2.2⟩) (fun hHeld2 => ?_)
              clear hK K hHeld
              have hHeld := hHeld2
              clear hHeld2
              try simp only [Act.put, List.setIfInBounds_toArray, List.set_cons_zero, List.set_cons_succ]
              refine wpAnyH_ready (rs := [4]) (by kernel_rfl) (by simp) (AllReadyH.cons (i := 4) (by simp only [List.getElem?_toArray, List.getElem?_cons_succ, List.getElem?_cons_zero]; rfl) (fun K hK => ?_) AllReadyH.nil)
              go_simp
              refine hK.out _ _ (by exact hHeld) (fun hHeld2 => ?_)
              clear hK K hHeld
              have hHeld := hHeld2
              clear hHeld2
              try simp only [Act.put, List.setIfInBounds_toArray, List.set_cons_zero, List.set_cons_succ]
              revert hHeld
            all_goals
              intro hHeld
              refine wpAnyH_ready (rs := [15]) (by kernel_rfl) (by simp) (AllReadyH.cons (i := 15) (by simp only [List.getElem?_toArray, List.getElem?_cons_succ, List.getElem?_cons_zero]; rfl) (fun K hK => ?_) AllReadyH.nil)
              refine app_stepb el_lock _ rfl (.tmp 88) (.tmp 98) rfl vl' L1 (by simp [Act.eval]) (own'.out.block fun g hg => Below.heap_alloc _ _ _ (own'.out.lt hg)) wr.heap.size ⟨x, y, z, true⟩ #[.int .i64 x, .int .i64 y, .bool z, .bool true] 88 (by simp [Act.eval]) (heap_new _ _) rfl (by have := HLL.out; omega) (by omega) ?_
              intro g cap w7 ho hf hat hgl
              obtain ⟨d1, d2⟩ := store_ok hf c0 f0 nld.out (fun hl => Below.heap_alloc _ _ _ hl)
              refine hK.out _ _ (by exact ⟨hf.cell hHeld.1 nvB, hf.cell hHeld.2.1 nvB, hf.cell hHeld.2.2 nvB⟩) (fun hHeld2 => ?_)
              clear hK K hHeld
              have hHeld := hHeld2
              clear hHeld2
              try simp only [Act.put, List.setIfInBounds_toArray, List.set_cons_zero, List.set_cons_succ]
              refine wpAnyH_take (i := 16) (v := ?_) (by simp only [List.getElem?_toArray, List.getElem?_cons_succ, List.getElem?_cons_zero]; rfl) (by kernel_rfl) (by kernel_rfl) (by kernel_rfl) (fun _ _ _ h => h) (Or.inl ⟨by rfl, ?_⟩) (by assumption) ?_
              rotate_left
              · (intro w' hSw; (try dsimp only at hSw); go_simp <;> with_reducible rfl)
              try simp only [Act.put, List.setIfInBounds_toArray, List.set_cons_zero, List.set_cons_succ]
              refine wpAnyH_take (i := 17) (v := ?_) (by simp only [List.getElem?_toArray, List.getElem?_cons_succ, List.getElem?_cons_zero]; rfl) (by kernel_rfl) (by kernel_rfl) (by kernel_rfl) (fun _ _ _ h => h) (Or.inl ⟨by rfl, ?_⟩) (by assumption) ?_
              rotate_left
              · (intro w' hSw; (try dsimp only at hSw); go_simp <;> with_reducible rfl)
              try simp only [Act.put, List.setIfInBounds_toArray, List.set_cons_zero, List.set_cons_succ]
              refine wpAnyH_ready (rs := [18]) (by kernel_rfl) (by simp) (AllReadyH.cons (i := 18) (by simp only [List.getElem?_toArray, List.getElem?_cons_succ, List.getElem?_cons_zero]; rfl) (fun K hK => ?_) AllReadyH.nil)
              go_simp
              refine hK.out _ _ (by refine ⟨?_, ?_, ?_⟩ <;> (rw [World.cell?_setCell_far _ _ _ _ ndB]; first | exact hHeld.1 | exact hHeld.2.1 | exact hHeld.2.2)) (fun hHeld2 => ?_)
              clear hK K hHeld
              have hHeld := hHeld2
              clear hHeld2
              try simp only [Act.put, List.setIfInBounds_toArray, List.set_cons_zero, List.set_cons_succ]
              refine wpAnyH_done (by kernel_rfl) ?_ _
              refine NoPanic.normal ?_
              clear hHeld nvB
            all_goals
              have FWr : Fr (fun b => vl'.ownBlock = some b) wr w7 := ((Fr.refl (fun b => vl'.ownBlock = some b) wr).alloc _).drew.trans hf fun g _ e => e
              have hat2 : vl'.ownBlock = some g ∨ wr.heap.size ≤ g := hat.imp id fun q => by
                have q2 : wr.heap.size + 1 ≤ g := by simpa using q
                omega
              have fs := fr_set w7 d 0 (.slice (some ⟨g, 0, none⟩) (L1.length + 1) cap)
              have gd : g ≠ d := fun e => hat2.elim (fun q => nld.out (by rw [q, e])) (fun q => absurd HLk.out.lt (by omega))
              have L7 : Hid (Led (w7.setCell ⟨d, 0, none⟩ (.slice (some ⟨g, 0, none⟩) (L1.length + 1) cap)) d (L1 ++ [⟨x, y, z, true⟩]) (dropAllF F hurt) (.slice (some ⟨g, 0, none⟩) (L1.length + 1) cap) vf') := by
                have h := HLk.out
                have hx7 : w7.heap[d]? = some (.cells #[vl', vf'] 51 (0, 0)) := (FWr.block d h.lt h.ld).trans h.box
                refine ⟨?_, ho.fr fs fun b hb e => ?_, (h.f.fr FWr fun b hb e => h.lf b e hb).fr fs fun b hb e => h.fd (by rw [hb, e]), fun e => ?_, h.fd, fun b hb e => ?_⟩
                · simp [World.setCell, Array.getElem?_modify, hx7]
                · have e2 : g = b := by simpa [Value.ownBlock] using hb
                  exact gd (by rw [e2, e])
                · have e2 : g = d := by simpa [Value.ownBlock] using e
                  exact gd e2
                · have e2 : g = b := by simpa [Value.ownBlock] using hb
                  subst e2
                  exact hat2.elim (fun q => h.lf g q e) (fun q => absurd (h.f.lt e) (by omega))
              have F7 : Hid (Fr (Dl4 d vl vf) w3 (w7.setCell ⟨d, 0, none⟩ (.slice (some ⟨g, 0, none⟩) (L1.length + 1) cap))) := ((HFk.out.mono (E := Dl4 d vl vf) fun b _ e => .inl e).trans FWr fun b hb e => (HBk.out b (.inl e)).elim (fun q => q.elim (fun q => .inr (.inl q)) (fun q => .inr (.inr q))) (fun q => by omega)).trans fs fun b _ e => .inl e
              have B7 : Hid (∀ b, Dl4 d (.slice (some ⟨g, 0, none⟩) (L1.length + 1) cap) vf' b → Dl4 d vl vf b ∨ w3.heap.size ≤ b) := fun b hb => by
                rcases hb with q | q | q
                · exact .inl (.inl q)
                · have e2 : g = b := by simpa [Value.ownBlock] using q
                  subst e2
                  rcases hat2 with r | r
                  · exact (HBk.out g (.inl r)).imp (fun q => q.elim (fun q => .inr (.inl q)) (fun q => .inr (.inr q))) id
                  · exact .inr (by have := hw2r.out; omega)
                · exact (HBk.out b (.inr q)).imp (fun q => q.elim (fun q => .inr (.inl q)) (fun q => .inr (.inr q))) id
              have R7 : Hid (Rd gl 2 (w7.setCell ⟨d, 0, none⟩ (.slice (some ⟨g, 0, none⟩) (L1.length + 1) cap)) ag' got ∧ ∀ b off, ag' = some ⟨b, off, none⟩ → (Value.slice (some ⟨g, 0, none⟩) (L1.length + 1) cap).ownBlock ≠ some b) := by
                have nb : ∀ b off, ag' = some ⟨b, off, none⟩ → ¬ Dl4 d vl vf b := fun b off e hd => absurd (HLw.out b hd) (by have := (fg.out b (by rw [e]; rfl)).1; have := hlw2.out; omega)
                refine ⟨?_, fun b off e q => ?_⟩
                · rcases RG.out with q | ⟨b, off, q1, q2, q3⟩
                  · exact .inl q
                  · exact .inr ⟨b, off, q1, Nat.lt_of_lt_of_le q2 F7.out.size, q3.fr F7.out q2 (nb b off q1)⟩
                · have hb2 := fg.out b (by rw [e]; rfl)
                  exact (B7.out b (.inr (.inl q))).elim (nb b off e) (fun r => by omega)
              have hal := all_true _ d _ _ _ _ ag' cg got L7.out (by rw [List.length_append]; have := HLL.out; simp; omega) R7.out.1 (by omega) R7.out.2 SOME.out.2
              clear c0 c0' f0 x0 x1 x2 d1 d2 ho hf hat fs FWr
              go_wp2_with fail
              refine hal.mono ?_
              rintro e w8 ⟨rfl, hl8, hf8⟩
              clear hal
              go_wp2
              go_ret
              refine ⟨rfl, ?_⟩
              rw [EL.out.1, EL.out.2]
              refine ⟨fun b => E3 b ∨ Dl4 d (.slice (some ⟨g, 0, none⟩) (L1.length + 1) cap) vf' b, ⟨E3, _, vf', ?_, hl8, fun b hb e => ?_, fun b => Iff.rfl⟩, ?_, fun b hb => ?_⟩
              · have t7 : TT (w7.setCell ⟨d, 0, none⟩ (.slice (some ⟨g, 0, none⟩) (L1.length + 1) cap)) a t' E3 := HX3.out.1.fr F7.out fun b e q => nDE.out b q e
                exact t7.fr hf8 fun b e q => (B7.out b (.inr (.inl q))).elim (fun r => nDE.out b r e) (fun r => absurd (HX3.out.1.lt e) (by omega))
              · exact (B7.out b hb).elim (fun r => nDE.out b r e) (fun r => absurd (HX3.out.1.lt e) (by omega))
              · exact (HF3.out.trans F7.out fun b _ e => (HD.out b).2 (.inr e)).trans hf8 fun b hb e => (B7.out b (.inr (.inl e))).elim (fun r => (HD.out b).2 (.inr r)) (fun r => by have := hs23.out; have := hlw2.out; omega)
              · rcases hb with q | q
                · exact (HX3.out.2 b q).imp (fun q => (HD.out b).2 (.inl q)) (fun q => by have := hlw2.out; omega)
                · exact (B7.out b q).imp (fun r => (HD.out b).2 (.inr r)) (fun r => by have := hs23.out; have := hlw2.out; omega)
end Go.Proofs.Ytlagmbieaicmgaa
