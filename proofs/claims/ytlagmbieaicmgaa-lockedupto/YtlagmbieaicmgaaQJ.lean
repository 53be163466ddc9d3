/- The document's own table: Hold, Free, Waits. -/
import Derived.Test.YtlagmbieaicmgaaQI
namespace Go.Proofs.Ytlagmbieaicmgaa
open Go.RowKit Lk Go.Shelf

/-- The document's table with its blocks. -/
def RT (w : World) (d : Nat) (m : Int) (L : List L4) (F : List Int) (D : Nat → Prop) : Prop := ∃ vl vf, RLd w d m L F vl vf ∧ ∀ g, RDl4 d vl vf g ↔ D g
def RG (w : World) (D : Nat → Prop) (w' : World) (d : Nat) (m : Int) (L : List L4) (F : List Int) : Prop := ∃ E, RT w' d m L F E ∧ Fr D w w' ∧ ∀ g, E g → D g ∨ w.heap.size ≤ g
theorem RT.lt {w : World} {d : Nat} {m : Int} {L : List L4} {F : List Int} {D : Nat → Prop} (h : RT w d m L F D) {g : Nat} (hg : D g) : g < w.heap.size := by
  obtain ⟨vl, vf, h, e⟩ := h
  exact h.dlt ((e g).2 hg)
theorem RT.fr {D E : Nat → Prop} {w w' : World} {d : Nat} {m : Int} {L : List L4} {F : List Int} (h : RT w d m L F E) (hf : Fr D w w') (hD : ∀ g, E g → ¬ D g) : RT w' d m L F E := by
  obtain ⟨vl, vf, h, e⟩ := h
  exact ⟨vl, vf, h.fr hf fun g hg => hD g ((e g).1 hg), e⟩
theorem RT.below {w w' : World} {d : Nat} {m : Int} {L : List L4} {F : List Int} {E : Nat → Prop} (h : RT w d m L F E) (hb : Below w.heap.size w w') : RT w' d m L F E := h.fr (D := fun _ => False) (Fr.of_below hb) fun _ _ e => e
theorem RLd.rg {w w' : World} {d : Nat} {m : Int} {L' : List L4} {F' : List Int} {vl vf vl' vf' : Value} {D : Nat → Prop} (hD : ∀ g, RDl4 d vl vf g ↔ D g) (h : RLd w' d m L' F' vl' vf') (hf : Fr (RDl4 d vl vf) w w') (hs : ∀ g, RDl4 d vl' vf' g → RDl4 d vl vf g ∨ w.heap.size ≤ g) : RG w D w' d m L' F' :=
  ⟨RDl4 d vl' vf', ⟨vl', vf', h, fun _ => Iff.rfl⟩, hf.mono fun g _ e => (hD g).1 e, fun g e => (hs g e).imp (hD g).1 id⟩

set_option maxHeartbeats 2000000 in
theorem rHold_nil (x : Int) (w : World) : Calls Try.prog 27 #[.pointer none, .int .i64 x] w fun e w' => e = .returned (.tuple #[]) ∧ w' = w := by
  go_enter Try.func27, Try.ntmps27
  go_wp2
  refine bodyPost_ret (v := .tuple #[]) (by simp [results, Try.results27, go_sem]) rfl ?_
  exact ⟨rfl, rfl⟩
set_option maxHeartbeats 2000000 in
theorem rFree_nil (x : Int) (w : World) : Calls Try.prog 28 #[.pointer none, .int .i64 x] w fun e w' => e = .returned (.slice none 0 0) ∧ w' = w := by
  go_enter Try.func28, Try.ntmps28
  go_wp2
  go_ret
  exact ⟨rfl, rfl⟩
set_option maxHeartbeats 2000000 in
theorem rWaits_nil (w : World) : Calls Try.prog 29 #[.pointer none] w fun e w' => e = .returned (.slice none 0 0) ∧ w' = w := by
  go_enter Try.func29, Try.ntmps29
  go_wp2
  go_ret
  exact ⟨rfl, rfl⟩
set_option maxHeartbeats 2000000 in
theorem rTake_nil (x y : Int) (z : Bool) (w : World) : Calls Try.prog 22 #[.pointer none, .int .i64 x, .int .i64 y, .bool z] w fun e w' => e = .returned (.tuple #[.int .i64 0, .slice none 0 0, .slice none 0 0]) ∧ w' = w := by
  go_enter Try.func22, Try.ntmps22
  go_wp2
  refine bodyPost_ret (v := .tuple #[.int .i64 0, .slice none 0 0, .slice none 0 0]) (by simp [results, Try.results22, go_sem]) rfl ?_
  exact ⟨rfl, rfl⟩

set_option maxHeartbeats 2000000 in
theorem rFree_bad (d : Nat) (x : Int) (w : World) (hx : ¬ (1 ≤ x ∧ x ≤ 1000)) : Calls Try.prog 28 #[.pointer (some ⟨d, 0, none⟩), .int .i64 x] w fun e w' => e = .returned (.slice none 0 0) ∧ w' = w := by
  have ho := ok_any x w
  rw [no_owner hx] at ho
  clear hx
  go_enter Try.func28, Try.ntmps28
  go_wp2_with (go_at_call 41; refine ho.mono ?_; rintro e w' ⟨rfl, hw'⟩; subst w')
  go_ret
  exact ⟨rfl, rfl⟩

/-- The prepared ones behind a Hold. -/
def rHoldF (L : List L4) (F : List Int) (x : Int) : List Int := if 1 ≤ x ∧ x ≤ 1000 then (if busyB L x || firmB F x then F else F ++ [x]) else F
set_option maxHeartbeats 4000000 in
theorem rHold_any (w : World) (d : Nat) (m : Int) (L : List L4) (F : List Int) (D : Nat → Prop) (x : Int) (h : RT w d m L F D) (hn : L.length ≤ 1000) (hm : F.length ≤ 1000) :
    Calls Try.prog 27 #[.pointer (some ⟨d, 0, none⟩), .int .i64 x] w fun e w' => e = .returned (.tuple #[]) ∧ RG w D w' d m L (rHoldF L F x) := by
  obtain ⟨vl, vf, h, hD⟩ := h
  have ho := ok_any x w
  have hw := rwaits_any w d m L F vl vf x h (by omega)
  have H0 : Hid (RLd w d m L F vl vf ∧ ∀ g, RDl4 d vl vf g ↔ D g) := ⟨h, hD⟩
  generalize hok : (decide (1 ≤ x) && decide (x ≤ 1000)) = ob at *
  have HOK : Hid ((decide (1 ≤ x) && decide (x ≤ 1000)) = ob) := hok
  generalize hbz : busyB L x = bb at hw
  have HBB : Hid (busyB L x = bb) := hbz
  clear h hD hok hbz
  go_enter Try.func27, Try.ntmps27
  go_wp2_with (go_at_call 41; refine ho.mono ?_; rintro e w' ⟨rfl, hw'⟩; subst w')
  refine hw.mono ?_
  rintro e w1 ⟨rfl, hb1⟩
  have B1 : Hid (Below w.heap.size w w1) := hb1
  have hfi := rfirm_any w1 d m L F vl vf x (H0.out.1.below hb1) (by omega)
  generalize hfb : firmB F x = fb at hfi
  have HFB : Hid (firmB F x = fb) := hfb
  clear ho hw hb1 hfb
  go_wp2_with fail
  refine hfi.mono ?_
  rintro e w2 ⟨rfl, hb2⟩
  have B2 : Hid (Below w.heap.size w w2) := B1.out.trans (hb2.mono B1.out.size)
  clear hfi hb2
  have SAME : Hid (RG w D w2 d m L F) := RLd.rg H0.out.2 (H0.out.1.below B2.out) (Fr.of_below B2.out) fun g e => .inl e
  cases ob
  · have hx : ¬ (1 ≤ x ∧ x ≤ 1000) := fun e => by have := HOK.out; simp [e.1, e.2] at this
    have HX : Hid (¬ (1 ≤ x ∧ x ≤ 1000)) := hx
    clear hx
    go_wp2
    go_end0
    refine ⟨rfl, ?_⟩
    unfold rHoldF
    rw [if_neg HX.out]
    exact SAME.out
  · have hx : 1 ≤ x ∧ x ≤ 1000 := by simpa using HOK.out
    have HX : Hid (1 ≤ x ∧ x ≤ 1000) := hx
    clear hx
    cases bb
    · cases fb
      · obtain ⟨ao, cap, hvf, hrd, -, -⟩ := H0.out.1.f.rd il_len
        have c2 : w2.cell? ⟨d, 2, none⟩ = some (.slice ao F.length cap) := by rw [← hvf]; exact (H0.out.1.below B2.out).cells.2
        have hbx := (H0.out.1.below B2.out).box
        have g0 := Sh.free (n := 3) ⟨_, hbx, rfl⟩ 2
        have HVF : Hid (vf = .slice ao F.length cap) := hvf
        have O3 : Hid (Own il 1 3 (w2.alloc (.cells #[.int .i64 x] 3)) (.slice ao F.length cap) F) := by
          rw [← HVF.out]
          exact own_below (H0.out.1.below B2.out).f ((Below.refl _ _).alloc (Nat.le_refl _) _)
        have HLN : Hid (F.length ≤ 1000) := hm
        clear hvf hrd hbx
        go_wp2_with (at_builtin; refine app_list el_int _ rfl _ _ rfl (.slice ao F.length cap) F rfl O3.out (w2.heap.size) x #[.int .i64 x] 3 rfl (heap_new _ _) rfl (by have := HLN.out; omega) ?_)
        intro g cap' w4 ho hf hat hgl
        have h := H0.out.1.below B2.out
        have hv2 : vf.ownBlock = (Value.slice ao F.length cap).ownBlock := by rw [HVF.out]
        have ba := (Below.refl w2.heap.size w2).alloc (Nat.le_refl _) (.cells #[.int .i64 x] 3)
        have hf2 : Fr (fun b => vf.ownBlock = some b) w2 w4 := (Fr.of_below (D := fun b => vf.ownBlock = some b) ba).trans hf fun b _ e => by rw [hv2]; exact e
        have hat2 : vf.ownBlock = some g ∨ w2.heap.size ≤ g := by
          rcases hat with q | q
          · exact .inl (by rw [hv2]; exact q)
          · have q' : w2.heap.size + 1 ≤ g := by simpa using q
            exact .inr (by omega)
        have hbx : w4.heap[d]? = some (.cells #[.int .i64 m, vl, vf] 71 (0, 0)) := by rw [hf2.block d h.lt h.fd]; exact h.box
        have HB4 : Hid (w4.heap[d]? = some (.cells #[.int .i64 m, vl, vf] 71 (0, 0))) := hbx
        have c4 : w4.cell? ⟨d, 2, none⟩ = some vf := by rw [cell_of_heap hbx]; rfl
        have g4 := Sh.free (n := 3) ⟨_, hbx, rfl⟩ 2
        have HH : Hid (RLd w2 d m L F vl vf ∧ Fr (fun b => vf.ownBlock = some b) w2 w4 ∧ (vf.ownBlock = some g ∨ w2.heap.size ≤ g) ∧ Own il 1 3 w4 (.slice (some ⟨g, 0, none⟩) (F.length + 1) cap') (F ++ [x])) := ⟨h, hf2, hat2, ho⟩
        clear ho hf hat h hv2 ba hf2 hat2 hbx c2 g0
        go_wp2
        go_end0
        obtain ⟨h, hf2, hat2, ho⟩ := HH.out
        have f1 := fr_set w4 d 2 (.slice (some ⟨g, 0, none⟩) (F.length + 1) cap')
        have gd : g ≠ d := fun e => by
          rcases hat2 with q | q
          · exact h.fd (by rw [q, e])
          · have := h.lt; omega
        refine ⟨rfl, ?_⟩
        unfold rHoldF
        rw [if_pos HX.out, if_neg (by rw [HBB.out, HFB.out]; simp)]
        refine RLd.rg H0.out.2 (vl' := vl) (vf' := .slice (some ⟨g, 0, none⟩) (F.length + 1) cap') ⟨?_, ?_, ?_, h.ld, ?_, ?_⟩ ?_ fun b hb => ?_
        · simp [World.setCell, Array.getElem?_modify, HB4.out]
        · exact (h.l.fr hf2 fun b hb e => h.lf b hb e).fr f1 fun b hb e => h.ld (by rw [hb, e])
        · exact ho.fr f1 fun b hb e => by
            have e2 : g = b := by simpa [Value.ownBlock] using hb
            exact gd (by rw [e2, e])
        · intro e
          have e2 : g = d := by simpa [Value.ownBlock] using e
          exact gd e2
        · intro b hb e
          have e2 : g = b := by simpa [Value.ownBlock] using e
          subst e2
          rcases hat2 with q | q
          · exact h.lf g hb q
          · have := h.l.lt hb; omega
        · exact (((Fr.of_below (D := RDl4 d vl vf) B2.out).trans hf2 fun b _ e => .inr (.inr e)).trans f1 fun b _ e => .inl e)
        · rcases hb with q | q | q
          · exact .inl (.inl q)
          · exact .inl (.inr (.inl q))
          · have e2 : g = b := by simpa [Value.ownBlock] using q
            subst e2
            rcases hat2 with q | q
            · exact .inl (.inr (.inr q))
            · exact .inr (by have := B2.out.size; omega)
      · go_wp2
        go_end0
        refine ⟨rfl, ?_⟩
        unfold rHoldF
        rw [if_pos HX.out, if_pos (by rw [HBB.out, HFB.out]; simp)]
        exact SAME.out
    · go_wp2
      go_end0
      refine ⟨rfl, ?_⟩
      unfold rHoldF
      rw [if_pos HX.out, if_pos (by rw [HBB.out]; simp)]
      exact SAME.out

/-- What Free of the document's table leaves. -/
def RPassed (w : World) (d : Nat) (D : Nat → Prop) (t : T4) (F : List Int) (v : Value) (gt : List G) (w' : World) : Prop :=
  Own gl 2 79 w' v gt ∧ ∃ L' E, RT w' d t.most L' F E ∧ IR t L' F ∧ Fr D w w' ∧ (∀ g, E g → D g ∨ w.heap.size ≤ g) ∧ ∀ g, v.ownBlock = some g → w.heap.size ≤ g ∧ ¬ E g
theorem RPass.passed {w w0 w' : World} {d : Nat} {t : T4} {L : List L4} {F : List Int} {vl vf v : Value} {D : Nat → Prop} (hir : IR t L F) (hD : ∀ g, RDl4 d vl vf g → D g ∨ w0.heap.size ≤ g) (hf0 : Fr D w0 w) (hd : D d) (h : RPass w d t.most F vl vf t.passed.held t.passed.waits v t.gots w') : RPassed w0 d D t.passed F v t.gots w' := by
  obtain ⟨ho, L', vl', x, hps, hrl, hfr, hvl, hfresh⟩ := h
  have hf : Fr D w0 w' := hf0.trans hfr fun g _ e => by rw [e]; exact hd
  have hs := hf0.size
  refine ⟨ho, L', RDl4 d vl' vf, ⟨vl', vf, hrl, fun _ => Iff.rfl⟩, hir.passed rfl hps, hf, fun g e => ?_, fun g e => ⟨Nat.le_trans hs (hfresh g e).1, (hfresh g e).2⟩⟩
  rcases e with e | e | e
  · exact .inl (by rw [e]; exact hd)
  · rcases hvl g e with q | q
    · exact hD g (.inr (.inl q))
    · exact .inr (Nat.le_trans hs q)
  · exact hD g (.inr (.inr e))

set_option maxHeartbeats 4000000 in
theorem rFree_any (w : World) (d : Nat) (t : T4) (L : List L4) (F : List Int) (D : Nat → Prop) (x : Int) (h : RT w d t.most L F D) (hir : IR t L F) (h1 : 1 ≤ x) (h2 : x ≤ 1000) :
    Calls Try.prog 28 #[.pointer (some ⟨d, 0, none⟩), .int .i64 x] w fun e w' => ∃ v, e = .returned v ∧ RPassed w d D (t.freed x).passed (F.filter (dropI x)) v (t.freed x).gots w' := by
  obtain ⟨vl, vf, h, hD⟩ := h
  have hll := hir.llen
  have hfl := hir.flen
  have ho := ok_any x w
  rw [show (decide (1 ≤ x) && decide (x ≤ 1000)) = true by simp [h1, h2]] at ho
  have hwo := rwithout_any w d t.most L F vl vf x h (by omega) (by omega)
  have H0 : Hid (IR t L F ∧ ∀ g, RDl4 d vl vf g ↔ D g) := ⟨hir, hD⟩
  have hlt : Hid (d < w.heap.size) := h.lt
  clear h hD hir
  go_enter Try.func28, Try.ntmps28
  go_wp2_with (go_at_call 41; refine ho.mono ?_; rintro e w' ⟨rfl, hw'⟩; subst w')
  refine hwo.mono ?_
  rintro e w1 ⟨rfl, vl1, vf1, hrl1, hfr1, hb1⟩
  have P1 : Hid (RLd w1 d t.most (L.filter (dropB x)) (F.filter (dropI x)) vl1 vf1 ∧ Fr (fun b => b = d) w w1 ∧ ∀ g, vl1.ownBlock = some g ∨ vf1.ownBlock = some g → w.heap.size ≤ g) := ⟨hrl1, hfr1, hb1⟩
  have hir1 := H0.out.1.freed x
  have hpa := rpass_any w1 d t.most (L.filter (dropB x)) (F.filter (dropI x)) vl1 vf1 (t.freed x).held (t.freed x).waits hrl1 hir1.ps' (by have := List.length_filter_le (dropB x) L; omega) (t.freed x).passed.held (t.freed x).passed.waits (t.freed x).gots rfl
  have HIR : Hid (IR (t.freed x) (L.filter (dropB x)) (F.filter (dropI x))) := hir1
  clear hwo ho hrl1 hfr1 hb1 hir1
  go_wp2_with fail
  refine hpa.mono ?_
  rintro e w2 ⟨v, rfl, hp⟩
  have HP : Hid (RPass w1 d t.most (F.filter (dropI x)) vl1 vf1 (t.freed x).passed.held (t.freed x).passed.waits v (t.freed x).gots w2) := hp
  clear hp hpa
  go_wp2
  go_ret
  refine ⟨v, rfl, RPass.passed (t := t.freed x) HIR.out (vl := vl1) (fun g e => ?_) (P1.out.2.1.mono fun g _ e => by rw [e]; exact (H0.out.2 d).1 (.inl rfl)) ((H0.out.2 d).1 (.inl rfl)) HP.out⟩
  rcases e with e | e | e
  · exact .inl (by rw [e]; exact (H0.out.2 d).1 (.inl rfl))
  · exact .inr (P1.out.2.2 g (.inl e))
  · exact .inr (P1.out.2.2 g (.inr e))
end Go.Proofs.Ytlagmbieaicmgaa
