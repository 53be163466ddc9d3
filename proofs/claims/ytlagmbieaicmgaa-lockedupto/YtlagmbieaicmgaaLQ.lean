/- Tables of locks: wound. -/
import Derived.Test.YtlagmbieaicmgaaLP
namespace Go.Proofs.Ytlagmbieaicmgaa
open Go.RowKit Lk Go.Shelf

/-- Is this holder wounded by who asks? -/
def hurtB (prep : List Int) (ask h : C) : Bool := decide (ask.tx < h.tx) && (ag h ask && !prep.contains h.tx)
def hurtL (prep : List Int) (ask : C) (hs : List C) : List Int := (hs.filter (hurtB prep ask)).map C.tx
def stripAll (t : T4) (l : List Int) : T4 := l.foldl (fun t x => t.strip x) t
theorem stripAll_snoc (t : T4) (l : List Int) (x : Int) : stripAll t (l ++ [x]) = (stripAll t l).strip x := by unfold stripAll; rw [List.foldl_append]; rfl
theorem stripAll_len (l : List Int) : ∀ t : T4, (stripAll t l).held.length ≤ t.held.length ∧ (stripAll t l).waits.length ≤ t.waits.length ∧ (stripAll t l).prep = t.prep ∧ (stripAll t l).most = t.most := by
  induction l with
  | nil => intro t; exact ⟨Nat.le_refl _, Nat.le_refl _, rfl, rfl⟩
  | cons x r ih =>
    intro t
    obtain ⟨h1, h2, h3, h4⟩ := ih (t.strip x)
    exact ⟨Nat.le_trans h1 (List.length_filter_le _ _), Nat.le_trans h2 (List.length_filter_le _ _), h3, h4⟩

abbrev WoS (a A B : Nat) (vp : Value) (c h : C) (w' : World) : Prop :=
  w'.cell? ⟨a, 3, none⟩ = some vp ∧ w'.cell? ⟨B, 0, none⟩ = some (.int .i64 h.tx) ∧ w'.cell? ⟨B, 1, none⟩ = some (.int .i64 h.key) ∧ w'.cell? ⟨B, 2, none⟩ = some (.bool h.wr) ∧
    w'.cell? ⟨A, 0, none⟩ = some (.int .i64 c.tx) ∧ w'.cell? ⟨A, 1, none⟩ = some (.int .i64 c.key) ∧ w'.cell? ⟨A, 2, none⟩ = some (.bool c.wr)
theorem WoS.below {a A B : Nat} {vp : Value} {c h : C} {w w' : World} (s : WoS a A B vp c h w) (hb : Below w.heap.size w w') : WoS a A B vp c h w' := by
  obtain ⟨s1, s2, s3, s4, s5, s6, s7⟩ := s
  exact ⟨(hb.cell (p := ⟨a, 3, none⟩) (cell_lt s1)).trans s1, (hb.cell (p := ⟨B, 0, none⟩) (cell_lt s2)).trans s2, (hb.cell (p := ⟨B, 1, none⟩) (cell_lt s2)).trans s3, (hb.cell (p := ⟨B, 2, none⟩) (cell_lt s2)).trans s4,
    (hb.cell (p := ⟨A, 0, none⟩) (cell_lt s5)).trans s5, (hb.cell (p := ⟨A, 1, none⟩) (cell_lt s5)).trans s6, (hb.cell (p := ⟨A, 2, none⟩) (cell_lt s5)).trans s7⟩

/-- What wound leaves. -/
def Wounded (w : World) (a : Nat) (vh vw vp : Value) (t : T4) (v : Value) (l : List Int) (w' : World) : Prop :=
  Own il 1 3 w' v l ∧ ∃ vh' vw', vh'.ownBlock = vh.ownBlock ∧ vw'.ownBlock = vw.ownBlock ∧ Tab w' a t vh' vw' vp ∧ Fr (Dm a vh vw vp) w w' ∧ ∀ g, v.ownBlock = some g → w.heap.size ≤ g

theorem hurt_next {prep : List Int} {ask : C} {hs : List C} {k : Nat} (hk : k < hs.length) (h : hurtB prep ask hs[k] = true) : hurtL prep ask (hs.take (k + 1)) = hurtL prep ask (hs.take k) ++ [hs[k].tx] := by
  unfold hurtL
  rw [take_next hk, List.filter_append, List.filter_cons_of_pos h]; simp
theorem hurt_skip {prep : List Int} {ask : C} {hs : List C} {k : Nat} (hk : k < hs.length) (h : hurtB prep ask hs[k] = false) : hurtL prep ask (hs.take (k + 1)) = hurtL prep ask (hs.take k) := by
  unfold hurtL
  rw [take_next hk, List.filter_append, List.filter_cons_of_neg (by simp [h])]; simp

set_option maxHeartbeats 8000000 in
theorem wound_any (w : World) (a : Nat) (t : T4) (vh vw vp : Value) (ask : C) (h : Tab w a t vh vw vp) (hn : t.held.length ≤ 900) (hn2 : t.waits.length ≤ 900) (hm : t.prep.length ≤ 1000) (hs : t.prep.Pairwise (· ≤ ·)) :
    Calls Try.prog 50 #[.pointer (some ⟨a, 0, none⟩), clV ask] w fun e w' => ∃ v, e = .returned v ∧ Wounded w a vh vw vp (stripAll t (hurtL t.prep ask t.held)) v ((hurtL t.prep ask t.held).mergeSort fun x y => decide (x ≤ y)) w' := by
  obtain ⟨x, y, z⟩ := ask
  obtain ⟨w0, hw0⟩ : ∃ w0, w0 = w.alloc (.cells #[.int .i64 x, .int .i64 y, .bool z] 97) := ⟨_, rfl⟩
  have b0 : Below w.heap.size w w0 := by rw [hw0]; exact (Below.refl _ _).alloc (Nat.le_refl _) _
  have T0 : Hid (Tab w0 a t vh vw vp) := h.below b0
  have A0 : Hid (w0.cell? ⟨w.heap.size, 0, none⟩ = some (.int .i64 x) ∧ w0.cell? ⟨w.heap.size, 1, none⟩ = some (.int .i64 y) ∧ w0.cell? ⟨w.heap.size, 2, none⟩ = some (.bool z)) := by
    rw [hw0]; exact ⟨by rw [cell_new]; rfl, by rw [cell_new]; rfl, by rw [cell_new]; rfl⟩
  obtain ⟨ah, ch, hvh, hrh, hlh, _⟩ := T0.out.held.rd cl_len
  obtain ⟨ap, cp, hvp, hrp, hlp, _⟩ := T0.out.prep.rd il_len
  have c1 := T0.out.cells.2.1
  rw [hw0, hvh] at c1
  have H0 : Hid (Tab w a t vh vw vp) := h
  have HB0 : Hid (Below w.heap.size w w0) := b0
  have HVP : Hid (vp = .slice ap t.prep.length cp) := hvp
  have RH : Hid (Rd cl 3 w0 ah t.held) := hrh
  have RP : Hid (Rd il 1 w0 ap t.prep) := hrp
  have HSO : Hid (t.prep.Pairwise (· ≤ ·)) := hs
  clear h b0 hvp hvh hrh hrp hs
  go_enter Try.func50, Try.ntmps50
  go_wp2
  rw [← hw0]
  clear c1
  go_loopw [5, 7, 8, 9, 17] (fun s5 _ _ _ s17 wr => ∃ k : Nat, s17 = .int .i64 k ∧ k ≤ t.held.length ∧ Hid (Below w0.heap.size w0 wr) ∧ Hid (Own il 1 3 wr s5 (hurtL t.prep ⟨x, y, z⟩ (t.held.take k)) ∧ ∀ g, s5.ownBlock = some g → w0.heap.size ≤ g)) (fun _ _ _ _ s17 _ => t.held.length - (intOf s17).toNat)
  case atStart => exact ⟨0, rfl, Nat.zero_le _, Below.refl _ _, Own.nil _ _ _ _, fun g e => by simp [Value.ownBlock] at e⟩
  case round =>
    obtain ⟨k, rfl, hk, HF, HO⟩ := hrel
    by_cases hlt : k < t.held.length
    · obtain ⟨b, off, rfl, hb, hc⟩ := RH.out.resolve_left (by intro e; rw [e] at hlt; simp at hlt)
      have hcr := hc.block (HF.out.block b hb)
      have q0 := hcr k hlt 0 _ rfl
      have q1 := hcr k hlt 1 _ rfl
      have q2 := hcr k hlt 2 _ rfl
      rw [Nat.add_zero] at q0
      clear hcr hc
      have hki : (k : Int) < (t.held.length : Int) := by omega
      have NX : Hid (hurtB t.prep ⟨x, y, z⟩ t.held[k] = true → hurtL t.prep ⟨x, y, z⟩ (t.held.take (k + 1)) = hurtL t.prep ⟨x, y, z⟩ (t.held.take k) ++ [t.held[k].tx]) := hurt_next hlt
      have SK : Hid (hurtB t.prep ⟨x, y, z⟩ t.held[k] = false → hurtL t.prep ⟨x, y, z⟩ (t.held.take (k + 1)) = hurtL t.prep ⟨x, y, z⟩ (t.held.take k)) := hurt_skip hlt
      have HLN : Hid ((hurtL t.prep ⟨x, y, z⟩ (t.held.take k)).length ≤ 900) := by
        show _ ≤ _
        unfold hurtL
        rw [List.length_map]
        exact Nat.le_trans (List.length_filter_le _ _) (by rw [List.length_take]; omega)
      generalize t.held[k] = c at *
      obtain ⟨p, q, r⟩ := c
      obtain ⟨w1, hw1⟩ : ∃ w1, w1 = wr.alloc (.cells #[.int .i64 p, .int .i64 q, .bool r] 97) := ⟨_, rfl⟩
      have B1 : Below wr.heap.size wr w1 := by rw [hw1]; exact (Below.refl _ _).alloc (Nat.le_refl _) _
      have HB1 : Hid (Below wr.heap.size wr w1) := B1
      have BW1 : Hid (Below w0.heap.size w0 w1) := HF.out.trans (B1.mono HF.out.size)
      have s0 : WoS a w.heap.size wr.heap.size (.slice ap t.prep.length cp) ⟨x, y, z⟩ ⟨p, q, r⟩ w1 := by
        obtain ⟨a0, a1, a2⟩ := A0.out
        have cl' : ∀ o v, w0.cell? ⟨w.heap.size, o, none⟩ = some v → w1.cell? ⟨w.heap.size, o, none⟩ = some v := fun o v hv => (BW1.out.cell (p := ⟨w.heap.size, o, none⟩) (cell_lt hv)).trans hv
        refine ⟨?_, ?_, ?_, ?_, cl' _ _ a0, cl' _ _ a1, cl' _ _ a2⟩
        · rw [← HVP.out]; exact (T0.out.below BW1.out).cells.2.2.2
        · rw [hw1, cell_new]; rfl
        · rw [hw1, cell_new]; rfl
        · rw [hw1, cell_new]; rfl
      have hbd : Below w1.heap.size w1 w1.drew := ⟨rfl, rfl, rfl, Nat.le_refl _, fun _ _ => rfl⟩
      have hbin := bin_any ap cp t.prep p w1.drew ((RP.out.below BW1.out).below hbd) (by omega) HSO.out
      have HO2 : Hid (∀ W, Below w1.drew.heap.size w1.drew W → Own il 1 3 W u5 (hurtL t.prep ⟨x, y, z⟩ (t.held.take k))) := fun W hW => by
        have hW' : Below w1.heap.size w1 W := ⟨hW.os, hW.tape, hW.output, hW.size, hW.block⟩
        exact HO.out.1.block fun g e => ((HB1.out.trans (hW'.mono HB1.out.size)).block g (HO.out.1.lt e))
      have BWx : Hid (∀ W, Below w1.drew.heap.size w1.drew W → Below w0.heap.size w0 W) := fun W hW => BW1.out.trans (Below.mono (show Below w1.heap.size w1 W from ⟨hW.os, hW.tape, hW.output, hW.size, hW.block⟩) BW1.out.size)
      clear B1
      have skip : ∀ W, Below w1.drew.heap.size w1.drew W → hurtB t.prep ⟨x, y, z⟩ ⟨p, q, r⟩ = false → Hid (Below w0.heap.size w0 W) ∧ Hid (Own il 1 3 W u5 (hurtL t.prep ⟨x, y, z⟩ (t.held.take (k + 1))) ∧ ∀ g, u5.ownBlock = some g → w0.heap.size ≤ g) := fun W hW hb => ⟨BWx.out W hW, by rw [SK.out hb]; exact HO2.out W hW, HO.out.2⟩
      have SKIP : Hid _ := skip
      clear skip
      have HUB : Hid (hurtB t.prep ⟨x, y, z⟩ ⟨p, q, r⟩ = (decide (x < p) && (ag ⟨p, q, r⟩ ⟨x, y, z⟩ && !t.prep.contains p))) := rfl
      generalize t.prep.contains p = cb at *
      go_wp2_with fail
      rw [← hw1]
      clear hw1
      go_region_held3 (fun w' => WoS a w.heap.size wr.heap.size (.slice ap t.prep.length cp) ⟨x, y, z⟩ ⟨p, q, r⟩ w') (first | exact s0 | (refine WoS.below ?_ (by assumption); assumption)) (first | (go_at_call 55; refine hbin.mono ?_; rintro e w2 ⟨rfl, hb2⟩))
      have hS : WoS a w.heap.size wr.heap.size (.slice ap t.prep.length cp) ⟨x, y, z⟩ ⟨p, q, r⟩ w2 := by assumption
      have HS2 : Hid (WoS a w.heap.size wr.heap.size (.slice ap t.prep.length cp) ⟨x, y, z⟩ ⟨p, q, r⟩ w2) := hS
      obtain ⟨-, r1, r2, r3, r4, r5, r6⟩ := hS
      clear hbin s0
      by_cases hgt : x < p
      · have hcal := against_any ⟨p, q, r⟩ ⟨x, y, z⟩ w2
        cases hag : ag ⟨p, q, r⟩ ⟨x, y, z⟩ with
        | true =>
          rw [hag] at hcal
          cases cb with
          | true =>
            have HU : Hid (hurtB t.prep ⟨x, y, z⟩ ⟨p, q, r⟩ = false) := by show _ = _; rw [HUB.out, hag]; simp
            go_wp2_with (go_at_call 67; refine hcal.mono ?_; rintro e w3 ⟨rfl, hb3⟩)
            obtain ⟨X1, X2⟩ := SKIP.out w3 (hb2.trans (hb3.mono hb2.size)) HU.out
            go_roundw
            case rel => exact ⟨k + 1, by go_num, by omega, X1, X2⟩
            case measure => simp [intOf]; omega
          | false =>
            have HU : Hid (hurtB t.prep ⟨x, y, z⟩ ⟨p, q, r⟩ = true) := by show _ = _; rw [HUB.out, hag]; simpa using hgt
            go_wp2_with fail
            refine hcal.mono ?_
            rintro e w3 ⟨rfl, hb3⟩
            have hbb := hb2.trans (hb3.mono hb2.size)
            clear r1 r2 r3 r4 r5 r6
            obtain ⟨-, r1, -, -, -, -, -⟩ := HS2.out.below hb3
            have O3 : Hid (Own il 1 3 (w3.alloc (.cells #[.int .i64 p] 3)) u5 (hurtL t.prep ⟨x, y, z⟩ (t.held.take k))) := (HO2.out w3 hbb).block fun g e => Below.heap_alloc _ _ _ ((HO2.out w3 hbb).lt e)
            clear hcal
            go_wp2_with (at_builtin; refine app_list el_int _ rfl _ _ rfl u5 (hurtL t.prep ⟨x, y, z⟩ (t.held.take k)) rfl O3.out w3.heap.size p #[.int .i64 p] 3 rfl (heap_new _ _) rfl (by have := HLN.out; omega) ?_)
            intro g cap' w4 ho hf hat hgl
            have X1 : Hid (Below w0.heap.size w0 w4) := by
              have f5 := hf.mono (E := fun b => w0.heap.size ≤ b) fun b _ e => HO.out.2 b e
              have f6 := (BWx.out w3 hbb).trans ((((Below.refl w3.heap.size w3).alloc (Nat.le_refl _) (.cells #[.int .i64 p] 3))).mono (BWx.out w3 hbb).size)
              exact ⟨f5.os.trans f6.os, f5.tape.trans f6.tape, f5.output.trans f6.output, Nat.le_trans f6.size f5.size, fun b hb => (f5.block b (Nat.lt_of_lt_of_le hb f6.size) (Nat.not_le.2 hb)).trans (f6.block b hb)⟩
            have X2 : Hid (Own il 1 3 w4 (.slice (some ⟨g, 0, none⟩) ((hurtL t.prep ⟨x, y, z⟩ (t.held.take k)).length + 1) cap') (hurtL t.prep ⟨x, y, z⟩ (t.held.take (k + 1))) ∧ ∀ g', (Value.slice (some ⟨g, 0, none⟩) ((hurtL t.prep ⟨x, y, z⟩ (t.held.take k)).length + 1) cap').ownBlock = some g' → w0.heap.size ≤ g') := by
              refine ⟨by rw [NX.out HU.out]; exact ho, fun g' e => ?_⟩
              have e' : g = g' := by simpa [Value.ownBlock] using e
              subst e'
              rcases hat with q' | q'
              · exact HO.out.2 g q'
              · have := (BWx.out w3 hbb).size
                have q2' : w3.heap.size + 1 ≤ g := by simpa using q'
                omega
            go_wp2
            go_roundw
            case rel => exact ⟨k + 1, by go_num, by omega, X1, X2⟩
            case measure => simp [intOf]; omega
        | false =>
          rw [hag] at hcal
          have HU : Hid (hurtB t.prep ⟨x, y, z⟩ ⟨p, q, r⟩ = false) := by show _ = _; rw [HUB.out, hag]; simp
          go_wp2_with (go_at_call 67; refine hcal.mono ?_; rintro e w3 ⟨rfl, hb3⟩)
          obtain ⟨X1, X2⟩ := SKIP.out w3 (hb2.trans (hb3.mono hb2.size)) HU.out
          go_roundw
          case rel => exact ⟨k + 1, by go_num, by omega, X1, X2⟩
          case measure => simp [intOf]; omega
      · have HU : Hid (hurtB t.prep ⟨x, y, z⟩ ⟨p, q, r⟩ = false) := by show _ = _; rw [HUB.out]; simp; intro h; omega
        go_wp2
        obtain ⟨X1, X2⟩ := SKIP.out w2 hb2 HU.out
        go_roundw
        case rel => exact ⟨k + 1, by go_num, by omega, X1, X2⟩
        case measure => simp [intOf]; omega
    · have hki : ¬ (k : Int) < (t.held.length : Int) := by omega
      have hkk : Hid (t.held.take k = t.held) := by show _ = _; rw [show k = t.held.length by omega, List.take_length]
      rw [hkk.out] at HO
      clear hkk
      have HLN : Hid ((hurtL t.prep ⟨x, y, z⟩ t.held).length ≤ 900) := by
        show _ ≤ _
        unfold hurtL
        rw [List.length_map]
        exact Nat.le_trans (List.length_filter_le _ _) hn
      generalize hwl0 : hurtL t.prep ⟨x, y, z⟩ t.held = wl at *
      have HWL : Hid (hurtL t.prep ⟨x, y, z⟩ t.held = wl) := hwl0
      clear hwl0
      obtain ⟨a5, c5, hv5, hr5, hl5, _⟩ := HO.out.1.rd il_len
      have HV5 : Hid (u5 = .slice a5 wl.length c5) := hv5
      subst hv5
      have R5 : Hid (Rd il 1 wr a5 wl) := hr5
      have TR : Hid (Tab wr a t vh vw vp) := T0.out.below HF.out
      have nD : Hid (∀ g, (Value.slice a5 wl.length c5).ownBlock = some g → ¬ Dm a vh vw vp g) := fun g e hd => absurd (T0.out.dlt hd) (by have := HO.out.2 g e; omega)
      clear hr5
      generalize wr = wv at *
      have hwl : wl.length ≤ 900 := HLN.out
      go_wp2
      go_loopw [11, 53] (fun _ s53 w2 => ∃ (j : Nat) (vh' vw' : Value), s53 = .int .i64 j ∧ j ≤ wl.length ∧ Hid (vh'.ownBlock = vh.ownBlock ∧ vw'.ownBlock = vw.ownBlock) ∧ Hid (Tab w2 a (stripAll t (wl.take j)) vh' vw' vp) ∧ Hid (Fr (Dm a vh vw vp) wv w2)) (fun _ s53 _ => wl.length - (intOf s53).toNat)
      case atStart => exact ⟨0, vh, vw, rfl, Nat.zero_le _, ⟨rfl, rfl⟩, by rw [List.take_zero]; exact TR.out, Fr.refl _ _⟩
      case round =>
        clear hki
        obtain ⟨j, vh', vw', rfl, hj, HVV, HT, HFR⟩ := hrel
        by_cases hjl : j < wl.length
        · obtain ⟨b5, o5, rfl, hb5, hra5⟩ := R5.out.resolve_left (by intro e; rw [e] at hjl; simp at hjl)
          have hji : (j : Int) < (wl.length : Int) := by omega
          have q := (hra5.fr HFR.out hb5 (nD.out b5 rfl)) j hjl 0 _ rfl
          rw [Nat.mul_one, Nat.add_zero] at q
          clear hra5
          have hlen := stripAll_len (wl.take j) t
          have hst := strip_any _ a _ vh' vw' vp wl[j] HT.out (by omega) (by omega)
          have HN : Hid (stripAll t (wl.take (j + 1)) = (stripAll t (wl.take j)).strip wl[j]) := by show _ = _; rw [take_next hjl, stripAll_snoc]
          clear hlen
          generalize wl[j] = x5 at *
          go_wp2_with fail
          refine hst.mono ?_
          rintro e w3 ⟨rfl, vh2, vw2, o1, o2, T3, F3⟩
          clear hst
          have Y1 : Hid (Tab w3 a (stripAll t (wl.take (j + 1))) vh2 vw2 vp) := by rw [HN.out]; exact T3
          have Y2 : Hid (Fr (Dm a vh vw vp) wv w3) := HFR.out.trans F3 fun g _ hg => by
            rcases hg with q | q | q | q
            · exact .inl q
            · exact .inr (.inl (by rw [← HVV.out.1]; exact q))
            · exact .inr (.inr (.inl (by rw [← HVV.out.2]; exact q)))
            · exact .inr (.inr (.inr q))
          have Y3 : Hid (vh2.ownBlock = vh.ownBlock ∧ vw2.ownBlock = vw.ownBlock) := ⟨o1.trans HVV.out.1, o2.trans HVV.out.2⟩
          go_wp2
          go_roundw
          case rel => exact ⟨j + 1, vh2, vw2, by go_num, by omega, Y3, Y1, Y2⟩
          case measure => simp [intOf]; omega
        · have hji : ¬ (j : Int) < (wl.length : Int) := by omega
          have hjj : Hid (wl.take j = wl) := by show _ = _; rw [show j = wl.length by omega, List.take_length]
          rw [hjj.out] at HT
          have O2 : Hid (Own il 1 3 wr (.slice a5 wl.length c5) wl) := HO.out.1.fr HFR.out nD.out
          have hso := sort_any (.slice a5 wl.length c5) wl wr O2.out (by have := HLN.out; omega)
          clear hjj
          go_wp2_with fail
          refine hso.mono ?_
          rintro e w3 ⟨rfl, ho3, hf3⟩
          clear hso
          go_wp2
          go_ret
          rw [HWL.out]
          refine ⟨_, rfl, ho3, vh', vw', HVV.out.1, HVV.out.2, HT.out.fr hf3 fun g hd e => ?_, ?_, fun g e => Nat.le_trans HB0.out.size (HO.out.2 g e)⟩
          · refine nD.out g e ?_
            rcases hd with q | q | q | q
            · exact .inl q
            · exact .inr (.inl (by rw [← HVV.out.1]; exact q))
            · exact .inr (.inr (.inl (by rw [← HVV.out.2]; exact q)))
            · exact .inr (.inr (.inr q))
          · have f1 : Fr (Dm a vh vw vp) w wv := Fr.of_below (HB0.out.trans (HF.out.mono HB0.out.size))
            exact (f1.trans HFR.out fun g _ e => e).trans hf3 fun g hg e => absurd (HO.out.2 g e) (by have := HB0.out.size; omega)
end Go.Proofs.Ytlagmbieaicmgaa
