/- Tables of locks: passOn, walked. -/
import Derived.Test.YtlagmbieaicmgaaLM
namespace Go.Proofs.Ytlagmbieaicmgaa
open Go.RowKit Lk Go.Shelf

theorem Tab.put2' {w : World} {a : Nat} {t : T4} {vh vw vp v : Value} {hs : List C} (h : Tab w a t vh vw vp) (ho : Own cl 3 97 w v hs) (hb : ∀ g, v.ownBlock = some g → g ≠ a ∧ vh.ownBlock ≠ some g ∧ vp.ownBlock ≠ some g) :
    Tab (w.setCell ⟨a, 2, none⟩ v) a { t with waits := hs } vh v vp := by
  have f1 := fr_set w a 2 v
  exact ⟨Bx.set2 h.box v, h.held.fr f1 fun g hg e => h.ha (by rw [hg, e]), ho.fr f1 fun g hg => (hb g hg).1, h.prep.fr f1 fun g hg e => h.pa (by rw [hg, e]), h.ha, fun e => (hb a e).1 rfl, h.pa, fun g hg e => (hb g e).2.1 hg, h.hp, fun g hg e => (hb g hg).2.2 e⟩

abbrev PaS (a B : Nat) (vh : Value) (c : C) (w' : World) : Prop :=
  w'.cell? ⟨a, 1, none⟩ = some vh ∧ w'.cell? ⟨B, 0, none⟩ = some (.int .i64 c.tx) ∧ w'.cell? ⟨B, 1, none⟩ = some (.int .i64 c.key) ∧ w'.cell? ⟨B, 2, none⟩ = some (.bool c.wr)
theorem PaS.below {a B : Nat} {vh : Value} {c : C} {w w' : World} (h : PaS a B vh c w) (hb : Below w.heap.size w w') : PaS a B vh c w' :=
  ⟨(hb.cell (p := ⟨a, 1, none⟩) (cell_lt h.1)).trans h.1, (hb.cell (p := ⟨B, 0, none⟩) (cell_lt h.2.1)).trans h.2.1, (hb.cell (p := ⟨B, 1, none⟩) (cell_lt h.2.1)).trans h.2.2.1, (hb.cell (p := ⟨B, 2, none⟩) (cell_lt h.2.1)).trans h.2.2.2⟩

/-- What passOn leaves and answers. -/
def Passed (w : World) (a : Nat) (D : Nat → Prop) (t : T4) (v : Value) (gt : List G) (w' : World) : Prop :=
  Own gl 2 102 w' v gt ∧ ∃ E, TT w' a t E ∧ Fr D w w' ∧ (∀ g, E g → D g ∨ w.heap.size ≤ g) ∧ ∀ g, v.ownBlock = some g → w.heap.size ≤ g ∧ ¬ E g

set_option maxHeartbeats 8000000 in
theorem passOn_any (w : World) (a : Nat) (t : T4) (vh vw vp : Value) (h : Tab w a t vh vw vp) (hn : t.held.length + t.waits.length ≤ 900) :
    Calls Try.prog 52 #[.pointer (some ⟨a, 0, none⟩)] w fun e w' => ∃ v, e = .returned v ∧ Passed w a (Dm a vh vw vp) { t with held := (passF t.waits t.held [] []).1, waits := (passF t.waits t.held [] []).2.1 } v (passF t.waits t.held [] []).2.2 w' := by
  obtain ⟨ao, cap, hvw, hr, hlc, _⟩ := h.waits.rd cl_len
  have c2 := h.cells.2.2.1
  rw [hvw] at c2
  have H0 : Hid (Tab w a t vh vw vp) := h
  have HW : Hid (vw = .slice ao t.waits.length cap) := hvw
  clear h hvw
  go_enter Try.func52, Try.ntmps52
  go_wp2
  go_loopw [3, 4, 6, 12] (fun s3 s4 _ s12 wr => ∃ (k : Nat) (hs st : List C) (gt : List G) (vh' : Value), s12 = .int .i64 k ∧ k ≤ t.waits.length ∧ hs.length ≤ t.held.length + k ∧ st.length ≤ k ∧ gt.length ≤ k ∧ Hid (PInv w wr a t vh vw vp hs st gt vh' s3 s4) ∧ Hid (passF t.waits t.held [] [] = passF (t.waits.drop k) hs st gt)) (fun _ _ _ s12 _ => t.waits.length - (intOf s12).toNat)
  case atStart => exact ⟨0, t.held, [], [], vh, rfl, Nat.zero_le _, by omega, by simp, by simp, PInv.start H0.out, rfl⟩
  case round =>
    obtain ⟨k, hs, st, gt, vh', rfl, hk, hl1, hl2, hl3, HP, HE⟩ := hrel
    by_cases hlt : k < t.waits.length
    · obtain ⟨b, off, rfl, hb, hc⟩ := hr.resolve_left (by intro e; rw [e] at hlt; simp at hlt)
      have hbD : ¬ (b = a ∨ vh.ownBlock = some b) := by
        have eb : vw.ownBlock = some b := by rw [HW.out]; rfl
        rintro (e | e)
        · exact H0.out.wa (by rw [eb, e])
        · exact H0.out.hw b e eb
      have hcr := hc.block (HP.out.fr.block b hb hbD)
      have q0 := hcr k hlt 0 _ rfl
      have q1 := hcr k hlt 1 _ rfl
      have q2 := hcr k hlt 2 _ rfl
      rw [Nat.add_zero] at q0
      clear hcr hc
      have hD : Hid (t.waits.drop k = t.waits[k] :: t.waits.drop (k + 1)) := List.drop_eq_getElem_cons hlt
      generalize t.waits[k] = c at *
      have hki : (k : Int) < (t.waits.length : Int) := by omega
      obtain ⟨ah, ch, hvh, hrh, hlh, _⟩ := HP.out.tab.held.rd cl_len
      obtain ⟨a4, ca4, hv4, hr4, hl4, _⟩ := HP.out.o4.rd cl_len
      simp only at hvh hrh hlh
      subst hv4
      have B1 : Below wr.heap.size wr (wr.alloc (.cells #[.int .i64 c.tx, .int .i64 c.key, .bool c.wr] 97)) := (Below.refl _ _).alloc (Nat.le_refl _) _
      obtain ⟨w1, hw1⟩ : ∃ w1, w1 = wr.alloc (.cells #[.int .i64 c.tx, .int .i64 c.key, .bool c.wr] 97) := ⟨_, rfl⟩
      have s0 : PaS a wr.heap.size vh' c w1 := by
        rw [hw1]
        exact ⟨(HP.out.tab.below B1).cells.2.1, by rw [cell_new]; rfl, by rw [cell_new]; rfl, by rw [cell_new]; rfl⟩
      rw [← hw1] at B1
      rw [hvh] at s0
      have HB1 : Hid (Below wr.heap.size wr w1) := B1
      have hag1 : ∀ W, Below w1.heap.size w1 W → Calls Try.prog 72 #[clV c, .slice ah hs.length ch] W fun e w' => e = .returned (.bool (agAny c hs)) ∧ Below W.heap.size W w' := fun W hW =>
        againstAny_any W c ah ch hs (hrh.below (B1.trans (hW.mono B1.size))) (by omega)
      have hag2 : ∀ W, Below w1.heap.size w1 W → Calls Try.prog 72 #[clV c, .slice a4 st.length ca4] W fun e w' => e = .returned (.bool (agAny c st)) ∧ Below W.heap.size W w' := fun W hW =>
        againstAny_any W c a4 ca4 st (hr4.below (B1.trans (hW.mono B1.size))) (by omega)
      have hbd : Below w1.heap.size w1 w1.drew := ⟨rfl, rfl, rfl, Nat.le_refl _, fun _ _ => rfl⟩
      have HVH : Hid (vh' = .slice ah hs.length ch) := hvh
      clear hrh hr4 B1 hvh hr
      obtain ⟨x, y, z⟩ := c
      have hag1' := hag1 w1.drew hbd
      have hag2' : ∀ W, Below w1.drew.heap.size w1.drew W → Calls Try.prog 72 #[clV ⟨x, y, z⟩, .slice a4 st.length ca4] W fun e w' => e = .returned (.bool (agAny ⟨x, y, z⟩ st)) ∧ Below W.heap.size W w' := fun W hW => hag2 W ⟨hW.os, hW.tape, hW.output, hW.size, hW.block⟩
      have HPb : Hid (∀ w2, Below w1.drew.heap.size w1.drew w2 → PInv w w2 a t vh vw vp hs st gt vh' u3 (.slice a4 st.length ca4)) := fun w2 hW => (HP.out.below HB1.out).below ⟨hW.os, hW.tape, hW.output, hW.size, hW.block⟩
      have HSb : Hid (∀ w2, Below w1.drew.heap.size w1.drew w2 → PaS a wr.heap.size (.slice ah hs.length ch) ⟨x, y, z⟩ w2) := fun w2 hW => PaS.below (w := w1.drew) s0 hW
      clear hag1 hag2
      have bar : ∀ w2, Below w1.drew.heap.size w1.drew w2 → (agAny ⟨x, y, z⟩ hs || agAny ⟨x, y, z⟩ st) = true → ∀ g cap' w3, Own cl 3 97 w3 (.slice (some ⟨g, 0, none⟩) (st.length + 1) cap') (st ++ [⟨x, y, z⟩]) → Fr (fun b => (Value.slice a4 st.length ca4).ownBlock = some b) (w2.alloc (.cells #[.int .i64 x, .int .i64 y, .bool z] 97)) w3 → ((Value.slice a4 st.length ca4).ownBlock = some g ∨ (w2.alloc (.cells #[.int .i64 x, .int .i64 y, .bool z] 97)).heap.size ≤ g) →
          Hid (PInv w w3 a t vh vw vp hs (st ++ [⟨x, y, z⟩]) gt vh' u3 (.slice (some ⟨g, 0, none⟩) (st.length + 1) cap')) ∧ Hid (passF t.waits t.held [] [] = passF (t.waits.drop (k + 1)) hs (st ++ [⟨x, y, z⟩]) gt) := by
        intro w2 h2 hbar g cap' w3 ho hf hat
        refine ⟨PInv.still H0.out ((HPb.out w2 h2).below ((Below.refl _ _).alloc (Nat.le_refl _) _)) ho hf fun g' e => ?_, ?_⟩
        · have e' : g = g' := by simpa [Value.ownBlock] using e
          subst e'; exact hat
        · show _ = _
          rw [HE.out, hD.out, passF_bar hbar]
      have BAR : Hid _ := bar
      clear bar
      cases hA1 : agAny ⟨x, y, z⟩ hs with
      | true =>
        rw [hA1] at hag1'
        have hbar : Hid ((agAny ⟨x, y, z⟩ hs || agAny ⟨x, y, z⟩ st) = true) := by show _ = _; rw [hA1]; rfl
        go_wp2_with fail
        rw [← hw1]
        clear hw1
        obtain ⟨s1, s2, s3, s4⟩ := s0
        first
          | go_region_with (go_at_call 72; refine hag1'.mono ?_; rintro e w2 ⟨rfl, hb2⟩)
          | fail
        all_goals
          obtain ⟨r1, r2, r3, r4⟩ := HSb.out w2 hb2
          have O4 : Hid (Own cl 3 97 (w2.alloc (.cells #[.int .i64 x, .int .i64 y, .bool z] 97)) (.slice a4 st.length ca4) st) := ((HPb.out w2 hb2).below ((Below.refl _ _).alloc (Nat.le_refl _) _)).o4
          go_wp2_with (at_builtin; refine app_list el_claim _ rfl _ _ rfl (.slice a4 st.length ca4) st rfl O4.out w2.heap.size ⟨x, y, z⟩ #[.int .i64 x, .int .i64 y, .bool z] 97 rfl (heap_new _ _) rfl (by omega) ?_)
          intro g cap' w3 ho hf hat hgl
          obtain ⟨P3, E3⟩ := BAR.out w2 hb2 hbar.out g cap' w3 ho hf (hat.imp id fun q => by simpa using q)
          go_wp2
          go_roundw
          case rel => exact ⟨k + 1, hs, st ++ [⟨x, y, z⟩], gt, vh', by go_num, by omega, by omega, by simp; omega, by omega, P3, E3⟩
          case measure => simp [intOf]; omega
      | false =>
        rw [hA1] at hag1'
        cases hA2 : agAny ⟨x, y, z⟩ st with
        | true =>
          rw [hA2] at hag2'
          have hbar : Hid ((agAny ⟨x, y, z⟩ hs || agAny ⟨x, y, z⟩ st) = true) := by show _ = _; rw [hA1, hA2]; rfl
          go_wp2_with fail
          rw [← hw1]
          clear hw1
          obtain ⟨s1, s2, s3, s4⟩ := s0
          first
            | go_region_with (first | (go_at_call_of 72 (Value.slice ah hs.length ch); refine hag1'.mono ?_; rintro e w2 ⟨rfl, hb2⟩; obtain ⟨r1, r2, r3, r4⟩ := HSb.out w2 hb2) | (go_at_call_of 72 (Value.slice a4 st.length ca4); refine (hag2' _ (by assumption)).mono ?_; rintro e w3 ⟨rfl, hb3⟩))
            | fail
          all_goals
            have hbb := hb2.trans (hb3.mono hb2.size)
            clear r1 r2 r3 r4
            obtain ⟨r1, r2, r3, r4⟩ := HSb.out w3 hbb
            have O4 : Hid (Own cl 3 97 (w3.alloc (.cells #[.int .i64 x, .int .i64 y, .bool z] 97)) (.slice a4 st.length ca4) st) := ((HPb.out w3 hbb).below ((Below.refl _ _).alloc (Nat.le_refl _) _)).o4
            go_wp2_with (at_builtin; refine app_list el_claim _ rfl _ _ rfl (.slice a4 st.length ca4) st rfl O4.out w3.heap.size ⟨x, y, z⟩ #[.int .i64 x, .int .i64 y, .bool z] 97 rfl (heap_new _ _) rfl (by omega) ?_)
            intro g cap' w4 ho hf hat hgl
            obtain ⟨P3, E3⟩ := BAR.out w3 hbb hbar.out g cap' w4 ho hf (hat.imp id fun q => by simpa using q)
            go_wp2
            go_roundw
            case rel => exact ⟨k + 1, hs, st ++ [⟨x, y, z⟩], gt, vh', by go_num, by omega, by omega, by simp; omega, by omega, P3, E3⟩
            case measure => simp [intOf]; omega
        | false =>
          rw [hA2] at hag2'
          have HF : Hid ((agAny ⟨x, y, z⟩ hs || agAny ⟨x, y, z⟩ st) = false) := by show _ = _; rw [hA1, hA2]; rfl
          have hlB : Hid (wr.heap.size < w1.heap.size) := by rw [hw1]; show _ < _; simp
          go_wp2_with fail
          rw [← hw1]
          clear hw1
          obtain ⟨s1, s2, s3, s4⟩ := s0
          first
            | go_region_with (first | (go_at_call_of 72 (Value.slice ah hs.length ch); refine hag1'.mono ?_; rintro e w2 ⟨rfl, hb2⟩; obtain ⟨r1, r2, r3, r4⟩ := HSb.out w2 hb2) | (go_at_call_of 72 (Value.slice a4 st.length ca4); refine (hag2' _ (by assumption)).mono ?_; rintro e w3 ⟨rfl, hb3⟩))
            | fail
          all_goals
            have hbb := hb2.trans (hb3.mono hb2.size)
            clear r1 r2 r3 r4
            obtain ⟨r1, r2, r3, r4⟩ := HSb.out w3 hbb
            have PW : Hid (PInv w w3 a t vh vw vp hs st gt vh' u3 (.slice a4 st.length ca4)) := HPb.out w3 hbb
            have hgv := give_any w3 a { t with held := hs } vh' vw vp ⟨x, y, z⟩ PW.out.tab (by show hs.length ≤ 1000; omega)
            go_wp2_with fail
            refine hgv.mono ?_
            rintro e w4 ⟨rfl, hgave⟩
            obtain ⟨vh2, P4, f4⟩ := PInv.gave H0.out PW.out hgave
            have nB : ¬ (wr.heap.size = a ∨ vh'.ownBlock = some wr.heap.size) := by
              rintro (e | e)
              · exact absurd HP.out.tab.lt (by omega)
              · exact absurd (HP.out.tab.held.lt e) (Nat.lt_irrefl _)
            have x2 := f4.cell r2 nB
            have x3 := f4.cell r3 nB
            have HP4 : Hid (PInv w w4 a t vh vw vp (giveL hs ⟨x, y, z⟩) st gt vh2 u3 (.slice a4 st.length ca4)) := P4
            have HP5 : Hid (PInv w (w4.alloc (.cells #[.int .i64 x, .int .i64 y] 102)) a t vh vw vp (giveL hs ⟨x, y, z⟩) st gt vh2 u3 (.slice a4 st.length ca4)) := P4.below ((Below.refl _ _).alloc (Nat.le_refl _) _)
            have HL : Hid ((giveL hs ⟨x, y, z⟩).length ≤ hs.length + 1) := giveL_len _ _
            clear P4 f4 hgave hgv r1 r2 r3 r4 nB
            go_wp2_with (at_builtin; refine app_list el_grant _ rfl _ _ rfl u3 gt rfl HP5.out.o3 w4.heap.size ⟨x, y⟩ #[.int .i64 x, .int .i64 y] 102 rfl (heap_new _ _) rfl (by omega) ?_)
            intro g cap' w5 ho hf hat hgl
            have P6 : Hid (PInv w w5 a t vh vw vp (giveL hs ⟨x, y, z⟩) st (gt ++ [⟨x, y⟩]) vh2 (.slice (some ⟨g, 0, none⟩) (gt.length + 1) cap') (.slice a4 st.length ca4)) := PInv.got H0.out HP5.out ho hf fun g' e => by
              have e' : g = g' := by simpa [Value.ownBlock] using e
              subst e'
              exact hat.imp id fun q => by simpa using q
            have E6 : Hid (passF t.waits t.held [] [] = passF (t.waits.drop (k + 1)) (giveL hs ⟨x, y, z⟩) st (gt ++ [⟨x, y⟩])) := by
              show _ = _
              rw [HE.out, hD.out, passF_free HF.out]
            go_wp2
            go_roundw
            case rel => exact ⟨k + 1, giveL hs ⟨x, y, z⟩, st, gt ++ [⟨x, y⟩], vh2, by go_num, by omega, by have := HL.out; omega, by omega, by simp; omega, P6, E6⟩
            case measure => simp [intOf]; omega
    · have hkk : k = t.waits.length := by omega
      have hki : ¬ (k : Int) < (t.waits.length : Int) := by omega
      obtain ⟨a4, ca4, hv4, -, -, -⟩ := HP.out.o4.rd cl_len
      subst hv4
      have d2 := HP.out.tab.cells.2.2.1
      have f2 := Bx.free HP.out.tab.box 2
      have HK : Hid (passF t.waits t.held [] [] = (hs, st, gt)) := by
        show _ = _
        rw [HE.out, hkk, List.drop_length]; rfl
      have T3 : Hid (Tab (wr.setCell ⟨a, 2, none⟩ (.slice a4 st.length ca4)) a { t with held := hs, waits := st } vh' (.slice a4 st.length ca4) vp) := Tab.put2' HP.out.tab HP.out.o4 fun g e => by
        have := HP.out.b4 g e
        exact ⟨fun q => absurd H0.out.lt (by omega), this.2.1, fun q => absurd (H0.out.prep.lt q) (by omega)⟩
      clear hkk c2 hr
      go_wp2
      go_ret
      refine ⟨_, rfl, ?_⟩
      rw [HK.out]
      have fs := fr_set wr a 2 (.slice a4 st.length ca4)
      refine ⟨HP.out.o3.fr fs fun g e q => ?_, Dm a vh' (.slice a4 st.length ca4) vp, ⟨vh', _, vp, T3.out, fun g => Iff.rfl⟩, ?_, ?_, ?_⟩
      · exact absurd H0.out.lt (by have := (HP.out.b3 g e).1; omega)
      · refine (HP.out.fr.mono (E := Dm a vh vw vp) fun g _ e => ?_).trans fs fun g _ e => .inl e
        rcases e with e | e
        · exact .inl e
        · exact .inr (.inl e)
      · intro g hg
        rcases hg with e | e | e | e
        · exact .inl (.inl e)
        · exact (HP.out.hb g e).imp (fun q => .inr (.inl q)) id
        · exact .inr (HP.out.b4 g e).1
        · exact .inl (.inr (.inr (.inr e)))
      · intro g e
        refine ⟨(HP.out.b3 g e).1, fun hg => ?_⟩
        rcases hg with q | q | q | q
        · exact absurd H0.out.lt (by have := (HP.out.b3 g e).1; omega)
        · exact (HP.out.b3 g e).2 q
        · exact (HP.out.b4 g q).2.2 e
        · exact absurd (H0.out.prep.lt q) (by have := (HP.out.b3 g e).1; omega)
end Go.Proofs.Ytlagmbieaicmgaa
