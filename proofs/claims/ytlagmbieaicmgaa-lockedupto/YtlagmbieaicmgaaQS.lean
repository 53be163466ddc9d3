/- A table and the document's, side by side: each call on both. -/
import Derived.Test.YtlagmbieaicmgaaQL
namespace Go.Proofs.Ytlagmbieaicmgaa
open Go.RowKit Lk Go.Shelf

/-- A table and the document's beside it, or neither; their blocks. -/
def TP (w : World) (vx vy : Value) (D : Nat → Prop) : Prop :=
  (vx = .pointer none ∧ vy = .pointer none ∧ ∀ g, ¬ D g) ∨ ∃ a d t L F D1 D2, vx = .pointer (some ⟨a, 0, none⟩) ∧ vy = .pointer (some ⟨d, 0, none⟩) ∧ TT w a t D1 ∧ RT w d t.most L F D2 ∧ IR t L F ∧ (∀ g, D1 g → ¬ D2 g) ∧ ∀ g, D g ↔ D1 g ∨ D2 g
theorem TP.lt {w : World} {vx vy : Value} {D : Nat → Prop} (h : TP w vx vy D) {g : Nat} (hg : D g) : g < w.heap.size := by
  rcases h with ⟨_, _, h⟩ | ⟨a, d, t, L, F, D1, D2, _, _, h1, h2, _, _, h4⟩
  · exact (h g hg).elim
  · rcases (h4 g).1 hg with q | q
    · exact h1.lt q
    · exact h2.lt q
theorem TP.fr {w w' : World} {vx vy : Value} {D X : Nat → Prop} (h : TP w vx vy D) (hf : Fr X w w') (hX : ∀ g, D g → ¬ X g) : TP w' vx vy D := by
  rcases h with h | ⟨a, d, t, L, F, D1, D2, e1, e2, h1, h2, h3, h4, h5⟩
  · exact .inl h
  · exact .inr ⟨a, d, t, L, F, D1, D2, e1, e2, h1.fr hf fun g e => hX g ((h5 g).2 (.inl e)), h2.fr hf fun g e => hX g ((h5 g).2 (.inr e)), h3, h4, h5⟩
theorem TP.below {w w' : World} {vx vy : Value} {D : Nat → Prop} (h : TP w vx vy D) (hb : Below w.heap.size w w') : TP w' vx vy D := h.fr (X := fun _ => False) (Fr.of_below hb) fun _ _ e => e

/-- Both tables behind a call on each. -/
def TPG (w : World) (vx vy : Value) (D : Nat → Prop) (D' : Nat → Prop) (w' : World) : Prop := TP w' vx vy D' ∧ Fr D w w' ∧ ∀ g, D' g → D g ∨ w.heap.size ≤ g
theorem TPG.same {w w' : World} {vx vy : Value} {D : Nat → Prop} (h : TP w vx vy D) (hb : Below w.heap.size w w') : TPG w vx vy D D w' := ⟨h.below hb, Fr.of_below hb, fun _ e => .inl e⟩
theorem TPG.both {w w1 w2 : World} {a d : Nat} {t' : T4} {L' : List L4} {F' : List Int} {D D1 D2 E1 E2 : Nat → Prop} (hx : ∀ g, D1 g → ¬ D2 g) (hD : ∀ g, D g ↔ D1 g ∨ D2 g) (h2w : ∀ g, D2 g → g < w.heap.size)
    (h1 : TT w1 a t' E1) (f1 : Fr D1 w w1) (s1 : ∀ g, E1 g → D1 g ∨ w.heap.size ≤ g) (h2 : RT w2 d t'.most L' F' E2) (f2 : Fr D2 w1 w2) (s2 : ∀ g, E2 g → D2 g ∨ w1.heap.size ≤ g) (hir : IR t' L' F') :
    TPG w (.pointer (some ⟨a, 0, none⟩)) (.pointer (some ⟨d, 0, none⟩)) D (fun g => E1 g ∨ E2 g) w2 := by
  have n12 : ∀ g, E1 g → ¬ D2 g := fun g e q => (s1 g e).elim (fun r => hx g r q) (fun r => by have := h2w g q; omega)
  refine ⟨.inr ⟨a, d, t', L', F', E1, E2, rfl, rfl, h1.fr f2 n12, h2, hir, fun g e q => ?_, fun _ => Iff.rfl⟩, ?_, fun g e => ?_⟩
  · rcases s2 g q with r | r
    · exact n12 g e r
    · have := h1.lt e; omega
  · exact (f1.mono fun g _ e => (hD g).2 (.inl e)).trans f2 fun g _ e => (hD g).2 (.inr e)
  · rcases e with e | e
    · exact (s1 g e).imp (fun r => (hD g).2 (.inl r)) id
    · exact (s2 g e).imp (fun r => (hD g).2 (.inr r)) fun r => Nat.le_trans f1.size r

/-- What is there behind a Take of both. -/
def Takes (w : World) (vx vy : Value) (D : Nat → Prop) (hu : List Int) (gt : List G) (vu vg vu' vg' : Value) (w2 : World) : Prop :=
  Own il 1 3 w2 vu hu ∧ Own gl 2 79 w2 vg gt ∧ Own il 1 3 w2 vu' hu ∧ Own gl 2 79 w2 vg' gt ∧ ∃ D', TPG w vx vy D D' w2 ∧ (∀ g, vu.ownBlock = some g → w.heap.size ≤ g ∧ ¬ D' g) ∧ ∀ g, vg.ownBlock = some g → w.heap.size ≤ g ∧ ¬ D' g ∧ vu.ownBlock ≠ some g
theorem nil_block {g : Nat} (e : (Value.slice none 0 0).ownBlock = some g) : False := by simp [Value.ownBlock] at e
theorem Takes.none {w w2 : World} {vx vy : Value} {D D' : Nat → Prop} (h : TPG w vx vy D D' w2) : Takes w vx vy D [] [] (.slice none 0 0) (.slice none 0 0) (.slice none 0 0) (.slice none 0 0) w2 :=
  ⟨Own.nil _ _ _ _, Own.nil _ _ _ _, Own.nil _ _ _ _, Own.nil _ _ _ _, D', h, fun _ e => (nil_block e).elim, fun _ e => (nil_block e).elim⟩

theorem hurt_len (t : T4) (ask : C) (h : t.held.length + t.waits.length ≤ 24) : (takeT t ask).hurt.length ≤ 1000 := by
  have hl : (t.hurt ask).length ≤ 100 := by
    unfold T4.hurt hurtL
    rw [List.length_mergeSort, List.length_map]
    exact Nat.le_trans (List.length_filter_le _ _) (by omega)
  unfold takeT
  split
  · simp
  · split
    · simp
    · split
      · simp
      · split
        · exact Nat.le_trans hl (by omega)
        · exact Nat.le_trans hl (by omega)

theorem takes_u (w : World) (vx vy : Value) (D : Nat → Prop) (x y : Int) (z : Bool) (h : TP w vx vy D) : ∃ (an : Int) (hu : List Int) (gt : List G) (MID : World → Value → Value → Prop), hu.length ≤ 1000 ∧ gt.length ≤ 1000 ∧
    (Calls Try.prog 10 #[vx, .int .i64 x, .int .i64 y, .bool z] w fun e w1 => ∃ vu vg, e = .returned (.tuple #[.int .i64 an, vu, vg]) ∧ w.heap.size ≤ w1.heap.size ∧ Fr D w w1 ∧ MID w1 vu vg) ∧
    ∀ w1 vu vg, MID w1 vu vg → Calls Try.prog 22 #[vy, .int .i64 x, .int .i64 y, .bool z] w1 fun e w2 => ∃ vu' vg', e = .returned (.tuple #[.int .i64 an, vu', vg']) ∧ Fr D w1 w2 ∧ Takes w vx vy D hu gt vu vg vu' vg' w2 := by
  have h0 := h
  rcases h with ⟨rfl, rfl, hD⟩ | ⟨a, d, t, L, F, D1, D2, rfl, rfl, h1, h2, hir, h4, h5⟩
  · refine ⟨0, [], [], fun w1 vu vg => w1 = w ∧ vu = .slice none 0 0 ∧ vg = .slice none 0 0, by simp, by simp, (pTake_nil x y z w).mono ?_, ?_⟩
    · rintro e w1 ⟨rfl, rfl⟩
      exact ⟨_, _, rfl, Nat.le_refl _, Fr.refl _ _, rfl, rfl, rfl⟩
    · rintro w1 vu vg ⟨rfl, rfl, rfl⟩
      refine (rTake_nil x y z w1).mono ?_
      rintro e w2 ⟨rfl, rfl⟩
      exact ⟨_, _, rfl, Fr.refl _ _, Takes.none (TPG.same h0 (Below.refl _ _))⟩
  · have hll := hir.llen
    by_cases hbad : ¬ (1 ≤ x ∧ x ≤ 1000) ∨ y < 0 ∨ 5 < y
    · refine ⟨0, [], [], fun w1 vu vg => w1 = w ∧ vu = .slice none 0 0 ∧ vg = .slice none 0 0, by simp, by simp, (pTake_bad a x y z w hbad).mono ?_, ?_⟩
      · rintro e w1 ⟨rfl, rfl⟩
        exact ⟨_, _, rfl, Nat.le_refl _, Fr.refl _ _, rfl, rfl, rfl⟩
      · rintro w1 vu vg ⟨rfl, rfl, rfl⟩
        refine (rTake_zero w1 d t.most L F D2 x y z h2 (by omega) (hbad.imp (fun q => q) (fun q => .inr q))).mono ?_
        rintro e w2 ⟨rfl, hb⟩
        exact ⟨_, _, rfl, Fr.of_below hb, Takes.none (TPG.same h0 hb)⟩
    · have hx : 1 ≤ x ∧ x ≤ 1000 := Classical.byContradiction fun e => hbad (.inl e)
      have hy : 0 ≤ y ∧ y ≤ 5 := ⟨by omega, by omega⟩
      refine ⟨(takeT t ⟨x, y, z⟩).ans, (takeT t ⟨x, y, z⟩).hurt, (takeT t ⟨x, y, z⟩).got, fun w1 vu vg => PTook w a D1 (takeT t ⟨x, y, z⟩) vu vg w1, hurt_len t _ hir.fit.len, take_got_len t _ hir.fit.len, (pTake_any w a t D1 x y z h1 hir.fit hx.1 hx.2 hy.1 (by omega)).mono ?_, ?_⟩
      · rintro e w1 ⟨vu, vg, rfl, hp⟩
        obtain ⟨_, _, E, _, f1, _⟩ := id hp
        exact ⟨vu, vg, rfl, f1.size, f1.mono fun g _ e => (h5 g).2 (.inl e), hp⟩
      · rintro w1 vu vg ⟨ou, og, E, hT, f1, s1, fu, fg⟩
        have hrt : RT w1 d t.most L F D2 := h2.fr f1 fun g e q => h4 g q e
        have h2w : ∀ g, D2 g → g < w.heap.size := fun g e => h2.lt e
        by_cases hbz : busyB L x = true
        · have ht : takeT t ⟨x, y, z⟩ = ⟨0, t, [], []⟩ := by
            unfold takeT
            rw [if_pos (by rw [← hir.busy]; exact hbz)]
          rw [ht] at ou og hT ⊢
          refine (rTake_zero w1 d t.most L F D2 x y z hrt (by omega) (.inr (.inl hbz))).mono ?_
          rintro e w2 ⟨rfl, hb⟩
          have hG := TPG.both h4 h5 h2w hT f1 s1 (hrt.below hb) (Fr.of_below hb) (fun g e => .inl e) hir
          refine ⟨_, _, rfl, Fr.of_below hb, own_below ou hb, own_below og hb, Own.nil _ _ _ _, Own.nil _ _ _ _, _, hG, fun g e => ⟨(fu g e).1, fun q => ?_⟩, fun g e => ⟨(fg g e).1, fun q => ?_, (fg g e).2.2⟩⟩
          · rcases q with q | q
            · exact (fu g e).2 q
            · have := h2w g q; have := (fu g e).1; omega
          · rcases q with q | q
            · exact (fg g e).2.1 q
            · have := h2w g q; have := (fg g e).1; omega
        · refine (rTake_any w1 d t L F D2 x y z hrt hir hx.1 hx.2 hy.1 hy.2 (by simpa using hbz)).mono ?_
          rintro e w2 ⟨vu', vg', rfl, ou', og', L', F', E2, hT2, hir2, f2, s2⟩
          have hG := TPG.both h4 h5 h2w hT f1 s1 hT2 f2 s2 hir2
          have nu : ∀ g, vu.ownBlock = some g → ¬ D2 g := fun g e q => by have := h2w g q; have := (fu g e).1; omega
          have ng : ∀ g, vg.ownBlock = some g → ¬ D2 g := fun g e q => by have := h2w g q; have := (fg g e).1; omega
          refine ⟨vu', vg', rfl, f2.mono fun g _ e => (h5 g).2 (.inr e), ou.fr f2 nu, og.fr f2 ng, ou', og', _, hG, fun g e => ⟨(fu g e).1, fun q => ?_⟩, fun g e => ⟨(fg g e).1, fun q => ?_, (fg g e).2.2⟩⟩
          · rcases q with q | q
            · exact (fu g e).2 q
            · rcases s2 g q with r | r
              · exact nu g e r
              · have := ou.lt e; omega
          · rcases q with q | q
            · exact (fg g e).2.1 q
            · rcases s2 g q with r | r
              · exact ng g e r
              · have := og.lt e; omega

theorem holds_u (w : World) (vx vy : Value) (D : Nat → Prop) (x : Int) (h : TP w vx vy D) : ∃ MID : World → Prop,
    (Calls Try.prog 13 #[vx, .int .i64 x] w fun e w1 => e = .returned (.tuple #[]) ∧ Fr D w w1 ∧ MID w1) ∧
    ∀ w1, MID w1 → Calls Try.prog 27 #[vy, .int .i64 x] w1 fun e w2 => e = .returned (.tuple #[]) ∧ ∃ D', TPG w vx vy D D' w2 := by
  have h0 := h
  rcases h with ⟨rfl, rfl, hD⟩ | ⟨a, d, t, L, F, D1, D2, rfl, rfl, h1, h2, hir, h4, h5⟩
  · refine ⟨fun w1 => w1 = w, (pHold_nil x w).mono ?_, ?_⟩
    · rintro e w1 ⟨rfl, rfl⟩
      exact ⟨rfl, Fr.refl _ _, rfl⟩
    · rintro w1 rfl
      refine (rHold_nil x w1).mono ?_
      rintro e w2 ⟨rfl, rfl⟩
      exact ⟨rfl, D, TPG.same h0 (Below.refl _ _)⟩
  · have hll := hir.llen
    have hfl := hir.flen
    have h2w : ∀ g, D2 g → g < w.heap.size := fun g e => h2.lt e
    by_cases hx : 1 ≤ x ∧ x ≤ 1000
    · refine ⟨fun w1 => TG w D1 w1 a { t with prep := holdP t.prep t.waits x }, (pHold_any w a t D1 x h1 hir.fit hx.1 hx.2).mono ?_, ?_⟩
      · rintro e w1 ⟨rfl, hg⟩
        obtain ⟨E, _, f1, _⟩ := id hg
        exact ⟨rfl, f1.mono fun g _ e => (h5 g).2 (.inl e), hg⟩
      · rintro w1 ⟨E, hT, f1, s1⟩
        have hrt : RT w1 d t.most L F D2 := h2.fr f1 fun g e q => h4 g q e
        refine (rHold_any w1 d t.most L F D2 x hrt (by omega) hfl).mono ?_
        rintro e w2 ⟨rfl, E2, hT2, f2, s2⟩
        have hi := hir.hold x hx.1 hx.2
        unfold rHoldF at hT2
        rw [if_pos hx] at hT2
        exact ⟨rfl, _, TPG.both h4 h5 h2w hT f1 s1 hT2 f2 s2 hi⟩
    · refine ⟨fun w1 => w1 = w, (pHold_bad a x w hx).mono ?_, ?_⟩
      · rintro e w1 ⟨rfl, rfl⟩
        exact ⟨rfl, Fr.refl _ _, rfl⟩
      · rintro w1 rfl
        refine (rHold_any w1 d t.most L F D2 x h2 (by omega) hfl).mono ?_
        rintro e w2 ⟨rfl, E2, hT2, f2, s2⟩
        unfold rHoldF at hT2
        rw [if_neg hx] at hT2
        exact ⟨rfl, _, TPG.both h4 h5 h2w h1 (Fr.refl _ _) (fun g e => .inl e) hT2 f2 s2 hir⟩

/-- What is there behind a Free of both. -/
def Frees (w : World) (vx vy : Value) (D : Nat → Prop) (gt : List G) (vg vg' : Value) (w2 : World) : Prop :=
  Own gl 2 79 w2 vg gt ∧ Own gl 2 79 w2 vg' gt ∧ ∃ D', TPG w vx vy D D' w2 ∧ ∀ g, vg.ownBlock = some g → w.heap.size ≤ g ∧ ¬ D' g
theorem Frees.none {w w2 : World} {vx vy : Value} {D D' : Nat → Prop} (h : TPG w vx vy D D' w2) : Frees w vx vy D [] (.slice none 0 0) (.slice none 0 0) w2 := ⟨Own.nil _ _ _ _, Own.nil _ _ _ _, D', h, fun _ e => (nil_block e).elim⟩
theorem freed_gots_len (t : T4) (x : Int) (h : Fit t) : (t.freed x).gots.length ≤ 1000 := by
  have h3 := (passF_len (t.freed x).waits (t.freed x).held [] []).2
  have e1 : (t.freed x).waits.length ≤ t.waits.length := List.length_filter_le _ _
  have e4 : (t.freed x).gots = (passF (t.freed x).waits (t.freed x).held [] []).2.2 := rfl
  rw [e4]
  have := h.len
  simp at h3
  omega

theorem frees_u (w : World) (vx vy : Value) (D : Nat → Prop) (x : Int) (h : TP w vx vy D) : ∃ (gt : List G) (MID : World → Value → Prop), gt.length ≤ 1000 ∧
    (Calls Try.prog 16 #[vx, .int .i64 x] w fun e w1 => ∃ vg, e = .returned vg ∧ Fr D w w1 ∧ MID w1 vg) ∧
    ∀ w1 vg, MID w1 vg → Calls Try.prog 28 #[vy, .int .i64 x] w1 fun e w2 => ∃ vg', e = .returned vg' ∧ Fr D w1 w2 ∧ Frees w vx vy D gt vg vg' w2 := by
  have h0 := h
  rcases h with ⟨rfl, rfl, hD⟩ | ⟨a, d, t, L, F, D1, D2, rfl, rfl, h1, h2, hir, h4, h5⟩
  · refine ⟨[], fun w1 vg => w1 = w ∧ vg = .slice none 0 0, by simp, (pFree_nil x w).mono ?_, ?_⟩
    · rintro e w1 ⟨rfl, rfl⟩
      exact ⟨_, rfl, Fr.refl _ _, rfl, rfl⟩
    · rintro w1 vg ⟨rfl, rfl⟩
      refine (rFree_nil x w1).mono ?_
      rintro e w2 ⟨rfl, rfl⟩
      exact ⟨_, rfl, Fr.refl _ _, Frees.none (TPG.same h0 (Below.refl _ _))⟩
  · by_cases hx : 1 ≤ x ∧ x ≤ 1000
    · have h2w : ∀ g, D2 g → g < w.heap.size := fun g e => h2.lt e
      refine ⟨(t.freed x).gots, fun w1 vg => PPass w a D1 (t.freed x).passed vg (t.freed x).gots w1, freed_gots_len t x hir.fit, (pFree_any w a t D1 x h1 hir.fit hx.1 hx.2).mono ?_, ?_⟩
      · rintro e w1 ⟨vg, rfl, hp⟩
        obtain ⟨_, E, _, f1, _⟩ := id hp
        exact ⟨vg, rfl, f1.mono fun g _ e => (h5 g).2 (.inl e), hp⟩
      · rintro w1 vg ⟨og, E, hT, f1, s1, fg⟩
        have hrt : RT w1 d t.most L F D2 := h2.fr f1 fun g e q => h4 g q e
        refine (rFree_any w1 d t L F D2 x hrt hir hx.1 hx.2).mono ?_
        rintro e w2 ⟨vg', rfl, og', L', E2, hT2, hir2, f2, s2, _⟩
        have hG := TPG.both h4 h5 h2w hT f1 s1 hT2 f2 s2 hir2
        have ng : ∀ g, vg.ownBlock = some g → ¬ D2 g := fun g e q => by have := h2w g q; have := (fg g e).1; omega
        refine ⟨vg', rfl, f2.mono fun g _ e => (h5 g).2 (.inr e), og.fr f2 ng, og', _, hG, fun g e => ⟨(fg g e).1, fun q => ?_⟩⟩
        rcases q with q | q
        · exact (fg g e).2 q
        · rcases s2 g q with r | r
          · exact ng g e r
          · have := og.lt e; omega
    · refine ⟨[], fun w1 vg => w1 = w ∧ vg = .slice none 0 0, by simp, (pFree_bad a x w hx).mono ?_, ?_⟩
      · rintro e w1 ⟨rfl, rfl⟩
        exact ⟨_, rfl, Fr.refl _ _, rfl, rfl⟩
      · rintro w1 vg ⟨rfl, rfl⟩
        refine (rFree_bad d x w1 hx).mono ?_
        rintro e w2 ⟨rfl, rfl⟩
        exact ⟨_, rfl, Fr.refl _ _, Frees.none (TPG.same h0 (Below.refl _ _))⟩

theorem waits_u (w : World) (vx vy : Value) (D : Nat → Prop) (h : TP w vx vy D) : ∃ (ps : List G) (MID : World → Value → Prop), ps.length ≤ 800000 ∧
    (Calls Try.prog 18 #[vx] w fun e w1 => ∃ vg, e = .returned vg ∧ MID w1 vg) ∧
    ∀ w1 vg, MID w1 vg → Calls Try.prog 29 #[vy] w1 fun e w2 => ∃ vg', e = .returned vg' ∧ Own gl 2 81 w2 vg ps ∧ Own gl 2 81 w2 vg' ps ∧ Below w.heap.size w w2 ∧ ∀ g, vg.ownBlock = some g → w.heap.size ≤ g := by
  rcases h with ⟨rfl, rfl, hD⟩ | ⟨a, d, t, L, F, D1, D2, rfl, rfl, h1, h2, hir, h4, h5⟩
  · refine ⟨[], fun w1 vg => w1 = w ∧ vg = .slice none 0 0, by simp, (pWaits_nil w).mono ?_, ?_⟩
    · rintro e w1 ⟨rfl, rfl⟩
      exact ⟨_, rfl, rfl, rfl⟩
    · rintro w1 vg ⟨rfl, rfl⟩
      refine (rWaits_nil w1).mono ?_
      rintro e w2 ⟨rfl, rfl⟩
      exact ⟨_, rfl, Own.nil _ _ _ _, Own.nil _ _ _ _, Below.refl _ _, fun _ e => (nil_block e).elim⟩
  · have hll := hir.llen
    have hlen : (waitP t t.waits.length).length ≤ 800000 := by
      have := hir.fit.len
      have q := waitP_len t 800 (by omega) t.waits.length
      have r := Nat.mul_le_mul_right 800 (show t.waits.length ≤ 24 by omega)
      omega
    refine ⟨waitP t t.waits.length, fun w1 vg => Own gl 2 81 w1 vg (waitP t t.waits.length) ∧ Below w.heap.size w w1 ∧ ∀ g, vg.ownBlock = some g → w.heap.size ≤ g, hlen, (pWaits_any w a t D1 h1 hir.fit).mono ?_, ?_⟩
    · rintro e w1 ⟨v, rfl, q⟩
      exact ⟨v, rfl, q⟩
    · rintro w1 vg ⟨og, hb, fg⟩
      refine (rWaits_any w1 d t.most L F D2 (h2.below hb) (by omega)).mono ?_
      rintro e w2 ⟨v, rfl, og', hb2, _⟩
      rw [hir.waitsEq] at og'
      exact ⟨v, rfl, own_below og hb2, og', hb.trans (hb2.mono hb.size), fg⟩
end Go.Proofs.Ytlagmbieaicmgaa
