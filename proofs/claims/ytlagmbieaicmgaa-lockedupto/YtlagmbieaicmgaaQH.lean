/- The document's own table: those that wait are gone through. -/
import Derived.Test.YtlagmbieaicmgaaQG
namespace Go.Proofs.Ytlagmbieaicmgaa
open Go.RowKit Lk Go.Shelf

/-- What pass leaves. -/
def RPass (w : World) (d : Nat) (m : Int) (F : List Int) (vl vf : Value) (hs st : List C) (v : Value) (gt : List G) (w' : World) : Prop :=
  Own gl 2 79 w' v gt ∧ ∃ L' vl' x, PS x L' hs st [] ∧ RLd w' d m L' F vl' vf ∧ Fr (fun b => b = d) w w' ∧ (∀ g, vl'.ownBlock = some g → vl.ownBlock = some g ∨ w.heap.size ≤ g) ∧ ∀ g, v.ownBlock = some g → w.heap.size ≤ g ∧ ¬ RDl4 d vl' vf g
theorem PS.len {tx : Int} {L : List L4} {hs st r : List C} (h : PS tx L hs st r) : L.length = hs.length + (st.length + r.length) := by
  rw [h.l.length_eq, allS_len, List.length_append]
theorem passF_yes (c : C) (r hs st : List C) (gt : List G) (h : (agAny c hs || agAny c st) = true) : passF (c :: r) hs st gt = passF r hs (st ++ [c]) gt := by
  rw [passF, if_pos h]
theorem passF_no (c : C) (r hs st : List C) (gt : List G) (h : (agAny c hs || agAny c st) = false) : passF (c :: r) hs st gt = passF r (giveL hs c) st (gt ++ [⟨c.tx, c.key⟩]) := by
  rw [passF, if_neg (by rw [h]; simp)]

set_option maxRecDepth 20000 in
set_option maxHeartbeats 8000000 in
theorem rpass_any (w : World) (d : Nat) (m : Int) (L : List L4) (F : List Int) (vl vf : Value) (hs0 r0 : List C) (h : RLd w d m L F vl vf) (hp : PS 0 L hs0 [] r0) (hn : L.length ≤ 100) (hs st : List C) (gt : List G) (he : passF r0 hs0 [] [] = (hs, st, gt)) :
    Calls Try.prog 45 #[.pointer (some ⟨d, 0, none⟩)] w fun e w' => ∃ v, e = .returned v ∧ RPass w d m F vl vf hs st v gt w' := by
  have H0 : Hid (RLd w d m L F vl vf ∧ PS 0 L hs0 [] r0 ∧ passF r0 hs0 [] [] = (hs, st, gt)) := ⟨h, hp, he⟩
  clear h hp he
  go_enter Try.func45, Try.ntmps45
  go_wp2
  go_loopw [3, 4, 5, 6, 7] (fun s3 s4 _ _ _ wr => ∃ x : Int, 0 ≤ x ∧ x ≤ 1000 ∧ s4 = .int .i64 x ∧ Hid (∃ L1 hs1 st1 r1 gt1 vl1, L1.length ≤ L.length ∧ gt1.length + r1.length ≤ L.length ∧ PS x L1 hs1 st1 r1 ∧ passF r1 hs1 st1 gt1 = (hs, st, gt) ∧ RLd wr d m L1 F vl1 vf ∧ Fr (fun b => b = d) w wr ∧ (∀ g, vl1.ownBlock = some g → vl.ownBlock = some g ∨ w.heap.size ≤ g) ∧ Own gl 2 79 wr s3 gt1 ∧ ∀ g, s3.ownBlock = some g → w.heap.size ≤ g ∧ ¬ RDl4 d vl1 vf g)) (fun _ s4 _ _ _ _ => 1000 - (intOf s4).toNat)
  case atStart =>
    refine ⟨0, by omega, by omega, rfl, L, hs0, [], r0, [], vl, Nat.le_refl _, ?_, H0.out.2.1, H0.out.2.2, H0.out.1, Fr.refl _ _, fun g e => .inl e, Own.nil _ _ _ _, fun g e => by simp [Value.ownBlock] at e⟩
    have := H0.out.2.1.len
    simp at this ⊢
    omega
  case round =>
    obtain ⟨x, hx0, hx1, rfl, HX⟩ := hrel
    obtain ⟨L1, hs1, st1, r1, gt1, vl1, hl1, hgl, hps, hpf, hrl, hfr, hvl, hown, hfresh⟩ := HX.out
    clear HX
    have P1 : Hid (PS x L1 hs1 st1 r1 ∧ passF r1 hs1 st1 gt1 = (hs, st, gt)) := ⟨hps, hpf⟩
    have P2 : Hid (RLd wr d m L1 F vl1 vf ∧ Fr (fun b => b = d) w wr ∧ (∀ g, vl1.ownBlock = some g → vl.ownBlock = some g ∨ w.heap.size ≤ g) ∧ Own gl 2 79 wr u3 gt1 ∧ ∀ g, u3.ownBlock = some g → w.heap.size ≤ g ∧ ¬ RDl4 d vl1 vf g) := ⟨hrl, hfr, hvl, hown, hfresh⟩
    have hnx := rnext_any wr d m L1 F vl1 vf x hrl (by omega)
    clear hps hpf hrl hfr hvl hown hfresh
    go_wp2_with fail
    refine hnx.mono ?_
    rintro e w2 ⟨⟨r, rfl, hni⟩, hb2⟩
    have HB2 : Hid (Below wr.heap.size wr w2) := hb2
    clear hnx hb2
    rcases hni with ⟨hr, hni⟩ | ⟨b, hb, hbl, hr, hq, hni⟩
    · subst hr
      have hn1 : NextI L1 x L1.length (-1) := .inl ⟨rfl, hni⟩
      have hr1 := P1.out.1.none hn1
      subst hr1
      clear hni hn1
      go_wp2
      go_ret
      have e2 := P1.out.2
      rw [passF] at e2
      injection e2 with e3 e4
      injection e4 with e5 e6
      subst e3 e5 e6
      obtain ⟨hrl, hfr, hvl, hown, hfresh⟩ := P2.out
      exact ⟨_, rfl, own_below hown HB2.out, L1, vl1, x, P1.out.1, hrl.below HB2.out, hfr.below HB2.out, hvl, hfresh⟩
    · subst hr
      have hn1 : NextI L1 x L1.length (b : Int) := .inr ⟨b, hb, hbl, rfl, hq, hni⟩
      obtain ⟨c, r', hrc, hb', hbc⟩ := P1.out.1.some hn1
      subst hrc
      clear hni hq hbl hn1
      have hcx : x < c.tx := P1.out.1.hi c (by simp)
      have hcr : 1 ≤ c.tx ∧ c.tx ≤ 1000 := by
        have := P1.out.1.rg _ (List.getElem_mem hb)
        rw [hbc] at this
        exact this
      obtain ⟨ao, cap, hv, hrd, -, -⟩ := P2.out.1.l.rd ll_len
      obtain ⟨bl, off, rfl, hblt, hc⟩ := hrd.resolve_left (by intro e; rw [e] at hb; simp at hb)
      have hcr2 := (hc.block (HB2.out.block bl hblt)) b hb
      rw [hbc] at hcr2
      have q0 : w2.cell? ⟨bl, off + b * 4, none⟩ = some (.int .i64 c.tx) := hcr2 0 _ rfl
      have q1 : w2.cell? ⟨bl, off + b * 4 + 1, none⟩ = some (.int .i64 c.key) := hcr2 1 _ rfl
      have q2 : w2.cell? ⟨bl, off + b * 4 + 2, none⟩ = some (.bool c.wr) := hcr2 2 _ rfl
      have q3 : w2.cell? ⟨bl, off + b * 4 + 3, none⟩ = some (.bool true) := hcr2 3 _ rfl
      have c1 : w2.cell? ⟨d, 1, none⟩ = some (.slice (some ⟨bl, off, none⟩) L1.length cap) := by rw [← hv]; exact (P2.out.1.below HB2.out).cells.1
      have hbi : (b : Int) < (L1.length : Int) := by omega
      have hb0 : ¬ (b : Int) < 0 := by omega
      have HCX : Hid (x < c.tx ∧ 1 ≤ c.tx ∧ c.tx ≤ 1000) := ⟨hcx, hcr⟩
      have HBC : Hid (L1[b] = mk4 true c) := hbc
      have HV : Hid (vl1 = .slice (some ⟨bl, off, none⟩) L1.length cap) := hv
      clear hcr2 hc hrd hv hbc hcx hcr hblt
      obtain ⟨cx, cy, cz⟩ := c
      obtain ⟨w3, hw3⟩ : ∃ w3, w3 = w2.alloc (.cells #[.int .i64 cx, .int .i64 cy, .bool cz, .bool true] 92) := ⟨_, rfl⟩
      have B3 : Hid (Below wr.heap.size wr w3) := by rw [hw3]; exact HB2.out.trans (((Below.refl _ _).alloc (Nat.le_refl _) _).mono HB2.out.size)
      have HX3 : Hid (w3.heap[w2.heap.size]? = some (.cells #[.int .i64 cx, .int .i64 cy, .bool cz, .bool true] 92 (0, 0))) := by rw [hw3]; exact heap_new _ _
      have hba := rbarred_any w3 d m L1 F vl1 vf b hb _ HBC.out (P2.out.1.below B3.out) (by omega)
      rw [P1.out.1.bars] at hba
      go_wp2_with fail
      rw [← hw3]
      refine hba.mono ?_
      rintro e w4 ⟨rfl, hb4⟩
      have HB4 : Hid (Below wr.heap.size wr w4 ∧ w4.heap[w2.heap.size]? = some (.cells #[.int .i64 cx, .int .i64 cy, .bool cz, .bool true] 92 (0, 0))) := by
        refine ⟨B3.out.trans (hb4.mono B3.out.size), ?_⟩
        have := HX3.out
        rw [hb4.block _ (Array.getElem?_eq_some_iff.1 this).1]; exact this
      clear hb4 hba hw3 q0 q1 q2 q3 c1 B3 HX3
      generalize hgb : (agAny ⟨cx, cy, cz⟩ hs1 || agAny ⟨cx, cy, cz⟩ st1) = gb
      have HGB : Hid ((agAny ⟨cx, cy, cz⟩ hs1 || agAny ⟨cx, cy, cz⟩ st1) = gb) := hgb
      clear hgb
      cases gb
      · have hgo := rgot_any w4 d m L1 F vl1 vf b hb _ HBC.out (P2.out.1.below HB4.out.1) (by omega)
        go_wp2_with fail
        refine hgo.mono ?_
        rintro e w5 ⟨rfl, vl2, hrl2, hfr2, hvl2⟩
        have P5 : Hid (RLd w5 d m (gotR L1 (mk4 true ⟨cx, cy, cz⟩)) F vl2 vf ∧ Fr (fun b => b = d) w4 w5 ∧ ∀ g, vl2.ownBlock = some g → w4.heap.size ≤ g) := ⟨hrl2, hfr2, hvl2⟩
        clear hgo hrl2 hfr2 hvl2
        have hs24 : w2.heap.size < w4.heap.size := (Array.getElem?_eq_some_iff.1 HB4.out.2).1
        have hdw : d < wr.heap.size := P2.out.1.lt
        have hbx : w5.heap[w2.heap.size]? = some (.cells #[.int .i64 cx, .int .i64 cy, .bool cz, .bool true] 92 (0, 0)) := by
          rw [P5.out.2.1.block _ hs24 (by have := HB2.out.size; omega)]
          exact HB4.out.2
        have a0 : w5.cell? ⟨w2.heap.size, 0, none⟩ = some (.int .i64 cx) := by rw [cell_of_heap hbx]; rfl
        have a1 : w5.cell? ⟨w2.heap.size, 1, none⟩ = some (.int .i64 cy) := by rw [cell_of_heap hbx]; rfl
        have O5 : Hid (Own gl 2 79 (w5.alloc (.cells #[.int .i64 cx, .int .i64 cy] 79)) u3 gt1) :=
          own_below ((own_below P2.out.2.2.2.1 HB4.out.1).fr P5.out.2.1 fun g hg e => (P2.out.2.2.2.2 g hg).2 (.inl e)) ((Below.refl _ _).alloc (Nat.le_refl _) _)
        have HGL : Hid (gt1.length ≤ 1000) := by show _ ≤ _; omega
        clear hbx hs24 hdw
        go_wp2_with (at_builtin; refine app_list el_agrant _ rfl _ _ rfl u3 gt1 rfl O5.out (w5.heap.size) ⟨cx, cy⟩ #[.int .i64 cx, .int .i64 cy] 79 rfl (heap_new _ _) rfl (by have := HGL.out; omega) ?_)
        intro g cap' w6 ho hf hat hgl6
        have XX : Hid (∃ L2 hs2 st2 r2 gt2 vl2, L2.length ≤ L.length ∧ gt2.length + r2.length ≤ L.length ∧ PS cx L2 hs2 st2 r2 ∧ passF r2 hs2 st2 gt2 = (hs, st, gt) ∧ RLd w6 d m L2 F vl2 vf ∧ Fr (fun b => b = d) w w6 ∧ (∀ g, vl2.ownBlock = some g → vl.ownBlock = some g ∨ w.heap.size ≤ g) ∧ Own gl 2 79 w6 (.slice (some ⟨g, 0, none⟩) (gt1.length + 1) cap') gt2 ∧ ∀ g', (Value.slice (some ⟨g, 0, none⟩) (gt1.length + 1) cap').ownBlock = some g' → w.heap.size ≤ g' ∧ ¬ RDl4 d vl2 vf g') := by
          obtain ⟨hrl, hfr, hvl, hown, hfresh⟩ := P2.out
          obtain ⟨hrl5, hfr5, hvl5⟩ := P5.out
          have hpf := P1.out.2
          rw [passF_no _ _ _ _ _ HGB.out] at hpf
          have hmem : mk4 true ⟨cx, cy, cz⟩ ∈ L1 := by rw [← HBC.out]; exact List.getElem_mem hb
          have hlen := gotR_len hmem
          have ba := (Below.refl w5.heap.size w5).alloc (Nat.le_refl _) (.cells #[.int .i64 cx, .int .i64 cy] 79)
          have hsz := HB4.out.1.size
          have hwr := hfr.size
          have h45 := hfr5.size
          have hu : ∀ g, u3.ownBlock = some g → g < wr.heap.size := fun g e => hown.lt e
          have hrl6 : RLd w6 d m (gotR L1 (mk4 true ⟨cx, cy, cz⟩)) F vl2 vf := (hrl5.below ba).fr hf fun g' e q => by
            rcases e with e | e | e
            · exact (hfresh g' q).2 (.inl e)
            · have := hvl5 g' e; have := hu g' q; omega
            · exact (hfresh g' q).2 (.inr (.inr e))
          have hfr6 : Fr (fun b => b = d) w w6 := ((((hfr.below HB4.out.1).trans hfr5 fun _ _ e => e).below ba).trans hf fun g' hg e => by have := (hfresh g' e).1; omega)
          refine ⟨gotR L1 (mk4 true ⟨cx, cy, cz⟩), giveL hs1 ⟨cx, cy, cz⟩, st1, r', gt1 ++ [⟨cx, cy⟩], vl2, by omega, by simp at hgl ⊢; omega, P1.out.1.got, hpf, hrl6, hfr6, fun g' e => .inr (by have := hvl5 g' e; omega), ho, fun g' e => ?_⟩
          have e' : g = g' := by simpa [Value.ownBlock] using e
          subst e'
          rcases hat with q | q
          · refine ⟨(hfresh g q).1, fun e => ?_⟩
            rcases e with e | e | e
            · exact (hfresh g q).2 (.inl e)
            · have := hvl5 g e; have := hu g q; omega
            · exact (hfresh g q).2 (.inr (.inr e))
          · have q' : w5.heap.size + 1 ≤ g := by simpa using q
            refine ⟨by omega, fun e => ?_⟩
            have := hrl5.dlt e
            omega
        clear a0 a1 ho hf hat
        go_wp2
        go_roundw
        case rel => exact ⟨cx, by have := HCX.out.2.1; omega, HCX.out.2.2, rfl, XX⟩
        case measure =>
          have h1 : x < cx := HCX.out.1
          have h2 : cx ≤ 1000 := HCX.out.2.2
          simp [intOf]; omega
      · have XX : Hid (∃ L2 hs2 st2 r2 gt2 vl2, L2.length ≤ L.length ∧ gt2.length + r2.length ≤ L.length ∧ PS cx L2 hs2 st2 r2 ∧ passF r2 hs2 st2 gt2 = (hs, st, gt) ∧ RLd w4 d m L2 F vl2 vf ∧ Fr (fun b => b = d) w w4 ∧ (∀ g, vl2.ownBlock = some g → vl.ownBlock = some g ∨ w.heap.size ≤ g) ∧ Own gl 2 79 w4 u3 gt2 ∧ ∀ g, u3.ownBlock = some g → w.heap.size ≤ g ∧ ¬ RDl4 d vl2 vf g) := by
          obtain ⟨hrl, hfr, hvl, hown, hfresh⟩ := P2.out
          have hpf := P1.out.2
          rw [passF_yes _ _ _ _ _ HGB.out] at hpf
          exact ⟨L1, hs1, st1 ++ [⟨cx, cy, cz⟩], r', gt1, vl1, hl1, by simp at hgl; omega, P1.out.1.bar, hpf, hrl.below HB4.out.1, hfr.below HB4.out.1, hvl, own_below hown HB4.out.1, hfresh⟩
        go_wp2
        go_roundw
        case rel => exact ⟨cx, by have := HCX.out.2.1; omega, HCX.out.2.2, rfl, XX⟩
        case measure =>
          have h1 : x < cx := HCX.out.1
          have h2 : cx ≤ 1000 := HCX.out.2.2
          simp [intOf]; omega
end Go.Proofs.Ytlagmbieaicmgaa
