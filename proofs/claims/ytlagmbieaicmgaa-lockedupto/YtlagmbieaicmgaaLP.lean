/- Tables of locks: Hold, and Free. -/
import Derived.Test.YtlagmbieaicmgaaLN
import Derived.Test.YtlagmbieaicmgaaLO
namespace Go.Proofs.Ytlagmbieaicmgaa
open Go.RowKit Lk Go.Shelf

def cntL (xs : List Int) (x : Int) : Nat := xs.countP (· < x)
theorem cntL_le (xs : List Int) (x : Int) : cntL xs x ≤ xs.length := List.countP_le_length
def holdP (prep : List Int) (ws : List C) (tx : Int) : List Int := if prep.contains tx || waitB ws tx then prep else insI prep (cntL prep tx) tx
def freeP (prep : List Int) (tx : Int) : List Int := if prep.contains tx then prep.take (cntL prep tx) ++ prep.drop (cntL prep tx + 1) else prep

theorem Tab.tg {w w' : World} {a : Nat} {t' : T4} {vh vw vp vh' vw' vp' : Value} (h : Tab w' a t' vh' vw' vp') (hf : Fr (Dm a vh vw vp) w w') (hb : ∀ g, Dm a vh' vw' vp' g → Dm a vh vw vp g ∨ w.heap.size ≤ g) : TG w (Dm a vh vw vp) w' a t' :=
  ⟨Dm a vh' vw' vp', ⟨vh', vw', vp', h, fun _ => Iff.rfl⟩, hf, hb⟩

set_option maxHeartbeats 2000000 in
theorem Hold_any (w : World) (a : Nat) (t : T4) (vh vw vp : Value) (tx : Int) (h : Tab w a t vh vw vp) (hn : t.waits.length ≤ 1000) (hm : t.prep.length ≤ 1000) (hs : t.prep.Pairwise (· ≤ ·)) :
    Calls Try.prog 37 #[.pointer (some ⟨a, 0, none⟩), .int .i64 tx] w fun e w' => e = .returned (.tuple #[]) ∧ TG w (Dm a vh vw vp) w' a { t with prep := holdP t.prep t.waits tx } := by
  obtain ⟨ao, cap, hv, hr, _, _⟩ := h.prep.rd il_len
  have hbs := bin_any ao cap t.prep tx w hr (by omega) hs
  have c3 := h.cells.2.2.2
  rw [hv] at c3
  have H0 : Hid (Tab w a t vh vw vp) := h
  have HV : Hid (vp = .slice ao t.prep.length cap) := hv
  have HQ : Hid (cntL t.prep tx = t.prep.countP (· < tx)) := rfl
  have keep : ∀ W, Below w.heap.size w W → holdP t.prep t.waits tx = t.prep → TG w (Dm a vh vw vp) W a { t with prep := holdP t.prep t.waits tx } := fun W hW e => by
    rw [e]
    exact Tab.tg (H0.out.below hW) (Fr.of_below hW) fun g hg => .inl hg
  have KEEP : Hid _ := keep
  clear h hv hr keep
  cases hc : t.prep.contains tx with
  | true =>
    rw [hc] at hbs
    have HK : Hid (holdP t.prep t.waits tx = t.prep) := by show _ = _; unfold holdP; rw [hc]; rfl
    go_enter Try.func37, Try.ntmps37
    go_wp2_with fail
    refine hbs.mono ?_
    rintro e w1 ⟨rfl, hb1⟩
    go_wp2
    go_end0
    exact ⟨rfl, KEEP.out _ hb1 HK.out⟩
  | false =>
    rw [hc] at hbs
    have hwt := fun W (hW : Below w.heap.size w W) => waiting_any W a t vh vw vp tx (H0.out.below hW) hn
    have C3 : Hid (∀ W, Below w.heap.size w W → W.cell? ⟨a, 3, none⟩ = some (.slice ao t.prep.length cap) ∧ W.frozen? ⟨a, 3, none⟩ = false) := fun W hW => ⟨by rw [← HV.out]; exact (H0.out.below hW).cells.2.2.2, Bx.free (H0.out.below hW).box 3⟩
    cases hw : waitB t.waits tx with
    | true =>
      rw [hw] at hwt
      have HK : Hid (holdP t.prep t.waits tx = t.prep) := by show _ = _; unfold holdP; rw [hc, hw]; rfl
      go_enter Try.func37, Try.ntmps37
      go_wp2_with fail
      refine hbs.mono ?_
      rintro e w1 ⟨rfl, hb1⟩
      have hwt1 := hwt w1 hb1
      clear hwt
      go_wp2_with fail
      refine hwt1.mono ?_
      rintro e w2 ⟨rfl, hb2⟩
      go_wp2
      go_end0
      exact ⟨rfl, KEEP.out _ (hb1.trans (hb2.mono hb1.size)) HK.out⟩
    | false =>
      rw [hw] at hwt
      have HK : Hid (holdP t.prep t.waits tx = insI t.prep (cntL t.prep tx) tx) := by show _ = _; unfold holdP; rw [hc, hw]; rfl
      go_enter Try.func37, Try.ntmps37
      go_wp2_with fail
      refine hbs.mono ?_
      rintro e w1 ⟨rfl, hb1⟩
      have hwt1 := hwt w1 hb1
      clear hwt
      go_wp2_with fail
      refine hwt1.mono ?_
      rintro e w2 ⟨rfl, hb2⟩
      have B2 : Hid (Below w.heap.size w w2) := hb1.trans (hb2.mono hb1.size)
      obtain ⟨d3, f3⟩ := C3.out w2 B2.out
      have T2 : Hid (Tab w2 a t vh vw vp) := H0.out.below B2.out
      have own2 : Hid (Own il 1 3 w2 (.slice ao t.prep.length cap) t.prep) := by rw [← HV.out]; exact T2.out.prep
      have na : Hid (¬ (Value.slice ao t.prep.length cap).ownBlock = some a) := by rw [← HV.out]; exact T2.out.pa
      have hins := ins_any (cntL t.prep tx) w2.heap.size t.prep (.slice ao t.prep.length cap) tx (w2.alloc (.cells #[.int .i64 tx] 3)) (own2.out.block fun g hg => Below.heap_alloc _ _ _ (own2.out.lt hg)) (cntL_le _ _) (by omega) (fun e => absurd (own2.out.lt e) (Nat.lt_irrefl _)) (heap_new _ _)
      rw [show cntL t.prep tx = t.prep.countP (· < tx) from rfl] at hins
      clear hwt1 hbs c3
      go_wp2_with fail
      refine hins.mono ?_
      rintro e w3 ⟨v', rfl, ho, hf, hat⟩
      obtain ⟨ao', cap', hv', -, -, -⟩ := ho.rd il_len
      generalize (insI t.prep (t.prep.countP (· < tx)) tx).length = L at hv'
      subst hv'
      obtain ⟨e1, e2⟩ := store_ok hf d3 f3 na.out (fun hl => Below.heap_alloc _ _ _ hl)
      have FW : Hid (Fr (fun b => vp.ownBlock = some b) w w3) := (Fr.of_below B2.out).trans (((Fr.refl (fun b => vp.ownBlock = some b) w2).alloc _).trans (by rw [← HV.out] at hf; exact hf) fun g _ e => e) fun g _ e => e
      rw [← HV.out] at hat
      have hat' : ∀ g, (Value.slice ao' L cap').ownBlock = some g → vp.ownBlock = some g ∨ w.heap.size ≤ g := fun g e => (hat g e).imp id fun q => by
        have q1 := B2.out.size
        have q2 : w2.heap.size + 1 ≤ g := by simpa using q
        omega
      have HA : Hid _ := hat'
      have HO : Hid _ := ho
      clear hins d3 f3 hat hat' hf ho
      go_wp2
      go_end0
      obtain ⟨p1, p2⟩ := H0.out.put3 FW.out HO.out HA.out
      rw [HK.out]
      refine ⟨rfl, Tab.tg p1 p2 fun g hg => ?_⟩
      rcases hg with q | q | q | q
      · exact .inl (.inl q)
      · exact .inl (.inr (.inl q))
      · exact .inl (.inr (.inr (.inl q)))
      · exact (HA.out g q).imp (fun e => .inr (.inr (.inr e))) id

theorem Passed.of {w w1 w2 : World} {a : Nat} {D E : Nat → Prop} {t : T4} {v : Value} {gt : List G} (hf : Fr D w w1) (hE : ∀ g, E g → D g ∨ w.heap.size ≤ g) (h : Passed w1 a E t v gt w2) : Passed w a D t v gt w2 := by
  obtain ⟨h1, E2, h2, h3, h4, h5⟩ := h
  refine ⟨h1, E2, h2, hf.trans h3 fun g hg e => (hE g e).resolve_right (by omega), fun g hg => ?_, fun g hg => ⟨Nat.le_trans hf.size (h5 g hg).1, (h5 g hg).2⟩⟩
  rcases h4 g hg with e | e
  · exact hE g e
  · exact .inr (Nat.le_trans hf.size e)

/-- The table behind a Free, ahead of what is passed on. -/
def T4.freed (t : T4) (tx : Int) : T4 := { t.strip tx with prep := freeP t.prep tx }
def T4.passed (t : T4) : T4 := { t with held := (passF t.waits t.held [] []).1, waits := (passF t.waits t.held [] []).2.1 }
def T4.gots (t : T4) : List G := (passF t.waits t.held [] []).2.2

theorem count_lt {xs : List Int} {x : Int} (h : xs.contains x = true) : cntL xs x < xs.length := by
  unfold cntL
  rcases Nat.lt_or_ge (xs.countP (· < x)) xs.length with hl | hl
  · exact hl
  · have e := Nat.le_antisymm List.countP_le_length hl
    rw [List.countP_eq_length] at e
    have := e x (by simpa using h)
    simp at this

set_option maxHeartbeats 2000000 in
theorem Free_any (w : World) (a : Nat) (t : T4) (vh vw vp : Value) (tx : Int) (h : Tab w a t vh vw vp) (hn : t.held.length + t.waits.length ≤ 900) (hm : t.prep.length ≤ 1000) (hs : t.prep.Pairwise (· ≤ ·)) :
    Calls Try.prog 38 #[.pointer (some ⟨a, 0, none⟩), .int .i64 tx] w fun e w' => ∃ v, e = .returned v ∧ Passed w a (Dm a vh vw vp) (t.freed tx).passed v (t.freed tx).gots w' := by
  have hst := strip_any w a t vh vw vp tx h (by omega) (by omega)
  have hl1 : (t.strip tx).held.length ≤ t.held.length := List.length_filter_le _ _
  have hl2 : (t.strip tx).waits.length ≤ t.waits.length := List.length_filter_le _ _
  have HL : Hid ((t.strip tx).held.length + (t.strip tx).waits.length ≤ 900) := by show _ ≤ _; omega
  clear hl1 hl2 h
  cases hc : t.prep.contains tx with
  | false =>
    have HK : Hid (t.freed tx = t.strip tx) := by show _ = _; unfold T4.freed freeP; rw [hc]; rfl
    go_enter Try.func38, Try.ntmps38
    go_wp2_with fail
    refine hst.mono ?_
    rintro e w1 ⟨rfl, vh1, vw1, o1, o2, T1, F1⟩
    obtain ⟨ao, cap, hv, hr, _, _⟩ := T1.prep.rd il_len
    have hbs := bin_any ao cap t.prep tx w1 hr (by show t.prep.length ≤ _; omega) hs
    rw [hc] at hbs
    have c3 := T1.cells.2.2.2
    rw [hv] at c3
    have HT : Hid (Tab w1 a (t.strip tx) vh1 vw1 vp) := T1
    clear hst hv hr
    go_wp2_with fail
    refine hbs.mono ?_
    rintro e w2 ⟨rfl, hb2⟩
    have hpo := passOn_any w2 a (t.strip tx) vh1 vw1 vp (HT.out.below hb2) HL.out
    clear hbs c3
    go_wp2_with fail
    refine hpo.mono ?_
    rintro e w3 ⟨v, rfl, hP⟩
    clear hpo
    go_wp2
    go_ret
    refine ⟨v, rfl, ?_⟩
    rw [HK.out]
    refine Passed.of (F1.below hb2) (fun g hg => .inl ?_) hP
    rcases hg with q | q | q | q
    · exact .inl q
    · exact .inr (.inl (by rw [← o1]; exact q))
    · exact .inr (.inr (.inl (by rw [← o2]; exact q)))
    · exact .inr (.inr (.inr q))
  | true =>
    have HK : Hid (freeP t.prep tx = t.prep.take (cntL t.prep tx) ++ t.prep.drop (cntL t.prep tx + 1)) := by show _ = _; unfold freeP; rw [hc]; rfl
    go_enter Try.func38, Try.ntmps38
    go_wp2_with fail
    refine hst.mono ?_
    rintro e w1 ⟨rfl, vh1, vw1, o1, o2, T1, F1⟩
    obtain ⟨ao, cap, hv, hr, _, _⟩ := T1.prep.rd il_len
    have hbs := bin_any ao cap t.prep tx w1 hr (by show t.prep.length ≤ _; omega) hs
    rw [hc] at hbs
    have hcl := count_lt hc
    obtain ⟨p, hp⟩ : ∃ p, p = cntL t.prep tx := ⟨_, rfl⟩
    rw [show t.prep.countP (· < tx) = p from hp.symm] at hbs
    rw [← hp] at HK hcl
    have c3 := T1.cells.2.2.2
    rw [hv] at c3
    have HT : Hid (Tab w1 a (t.strip tx) vh1 vw1 vp) := T1
    have HV : Hid (vp = .slice ao (t.strip tx).prep.length cap) := hv
    clear hst hv hr hp
    go_wp2_with fail
    refine hbs.mono ?_
    rintro e w2 ⟨rfl, hb2⟩
    have T2 : Hid (Tab w2 a (t.strip tx) vh1 vw1 vp) := HT.out.below hb2
    have d3 := T2.out.cells.2.2.2
    have f3 := Bx.free T2.out.box 3
    have hdel := del_any vp t.prep w2 p T2.out.prep (by omega) hcl
    rw [HV.out] at d3
    have hpw : IntKind.i64.wrap ((p : Int) + 1) = (p : Int) + 1 := by rw [IntKind.wrap_i64]; omega
    rw [show (((p + 1 : Nat) : Int)) = (p : Int) + 1 by omega, HV.out] at hdel
    clear hbs c3
    go_wp2_with fail
    refine hdel.mono ?_
    rintro e w3 ⟨v', rfl, ob, ho, hf⟩
    obtain ⟨ao', cap', hv', -, -, -⟩ := ho.rd il_len
    generalize (t.prep.take p ++ t.prep.drop (p + 1)).length = L at hv'
    subst hv'
    rw [← HV.out] at hf ob
    obtain ⟨e1, e2⟩ := store_ok hf d3 f3 T2.out.pa (fun _ => rfl)
    obtain ⟨p1, p2⟩ := T2.out.put3 hf ho (fun g e => .inl (by rw [← ob]; exact e))
    have hpo := passOn_any _ a _ vh1 vw1 _ p1 HL.out
    clear hdel d3 f3
    go_wp2_with fail
    refine hpo.mono ?_
    rintro e w4 ⟨v, rfl, hP⟩
    clear hpo
    go_wp2
    go_ret
    refine ⟨v, rfl, ?_⟩
    have e5 : t.freed tx = { t.strip tx with prep := t.prep.take p ++ t.prep.drop (p + 1) } := by unfold T4.freed; rw [HK.out]
    rw [e5]
    have hDD : ∀ g, Dm a vh1 vw1 vp g → Dm a vh vw vp g := fun g hg => by
      rcases hg with q | q | q | q
      · exact .inl q
      · exact .inr (.inl (by rw [← o1]; exact q))
      · exact .inr (.inr (.inl (by rw [← o2]; exact q)))
      · exact .inr (.inr (.inr q))
    refine Passed.of ((F1.below hb2).trans p2 fun g _ e => hDD g e) (fun g hg => .inl ?_) hP
    rcases hg with q | q | q | q
    · exact hDD g (.inl q)
    · exact hDD g (.inr (.inl q))
    · exact hDD g (.inr (.inr (.inl q)))
    · exact hDD g (.inr (.inr (.inr (by rw [← ob]; exact q))))
end Go.Proofs.Ytlagmbieaicmgaa
