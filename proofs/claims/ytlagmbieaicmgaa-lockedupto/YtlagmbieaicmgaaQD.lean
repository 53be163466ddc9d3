/- The document's own table: next. -/
import Derived.Test.YtlagmbieaicmgaaQC
namespace Go.Proofs.Ytlagmbieaicmgaa
open Go.RowKit Lk Go.Shelf

def qlB (tx : Int) (l : L4) : Bool := l.wt && decide (tx < l.tx)
/-- Among the first k: the place of the oldest that waits and is younger than tx, or -1. -/
def NextI (L : List L4) (tx : Int) (k : Nat) (r : Int) : Prop :=
  (r = -1 ∧ ∀ j (hj : j < L.length), j < k → qlB tx L[j] = false) ∨ ∃ (b : Nat) (hb : b < L.length), b < k ∧ r = (b : Int) ∧ qlB tx L[b] = true ∧ ∀ j (hj : j < L.length), j < k → qlB tx L[j] = true → L[b].tx ≤ L[j].tx
theorem NextI.skip {L : List L4} {tx : Int} {k : Nat} {r : Int} (h : NextI L tx k r) (hk : k < L.length) (hq : qlB tx L[k] = false) : NextI L tx (k + 1) r := by
  rcases h with ⟨e, h⟩ | ⟨b, hb, hbk, e, h1, h2⟩
  · refine .inl ⟨e, fun j hj hjk => ?_⟩
    by_cases ej : j = k
    · subst ej; exact hq
    · exact h j hj (by omega)
  · refine .inr ⟨b, hb, by omega, e, h1, fun j hj hjk q => ?_⟩
    by_cases ej : j = k
    · subst ej; rw [hq] at q; cases q
    · exact h2 j hj (by omega) q
theorem NextI.keep {L : List L4} {tx : Int} {k b : Nat} (hb : b < L.length) (h : NextI L tx k (b : Int)) (hk : k < L.length) (hq : L[b].tx ≤ L[k].tx) : NextI L tx (k + 1) (b : Int) := by
  rcases h with ⟨e, h⟩ | ⟨b', hb', hbk, e, h1, h2⟩
  · omega
  · have eb : b' = b := by omega
    subst eb
    refine .inr ⟨b', hb, by omega, rfl, h1, fun j hj hjk q => ?_⟩
    by_cases ej : j = k
    · subst ej; exact hq
    · exact h2 j hj (by omega) q
theorem NextI.take {L : List L4} {tx : Int} {k : Nat} {r : Int} (h : NextI L tx k r) (hk : k < L.length) (hq : qlB tx L[k] = true) (hl : ∀ b (hb : b < L.length), r = (b : Int) → L[k].tx < L[b].tx) : NextI L tx (k + 1) (k : Int) := by
  refine .inr ⟨k, hk, by omega, rfl, hq, fun j hj hjk q => ?_⟩
  by_cases ej : j = k
  · subst ej; exact Int.le_refl _
  · rcases h with ⟨e, h⟩ | ⟨b, hb, hbk, e, h1, h2⟩
    · rw [h j hj (by omega)] at q; cases q
    · have := h2 j hj (by omega) q
      have := hl b hb e
      omega

set_option maxHeartbeats 8000000 in
theorem rnext_any (w : World) (d : Nat) (m : Int) (L : List L4) (F : List Int) (vl vf : Value) (tx : Int) (h : RLd w d m L F vl vf) (hn : L.length ≤ 1000) :
    Calls Try.prog 61 #[.pointer (some ⟨d, 0, none⟩), .int .i64 tx] w fun e w' => (∃ r : Int, e = .returned (.int .i64 r) ∧ NextI L tx L.length r) ∧ Below w.heap.size w w' := by
  obtain ⟨ao, cap, hv, hr, _, _⟩ := h.l.rd ll_len
  have HC : Hid (∀ W, Below w.heap.size w W → W.cell? ⟨d, 1, none⟩ = some (.slice ao L.length cap)) := fun W hW => by rw [← hv]; exact (h.below hW).cells.1
  have RL : Hid (Rd ll 4 w ao L) := hr
  clear h hv hr
  go_enter Try.func61, Try.ntmps61
  go_wp2
  go_loopw [5, 6] (fun s5 s6 wr => ∃ (k : Nat) (r : Int), k ≤ L.length ∧ s6 = .int .i64 k ∧ s5 = .int .i64 r ∧ Hid (NextI L tx k r) ∧ Hid (Below w.heap.size w wr)) (fun _ s6 _ => L.length - (intOf s6).toNat)
  case atStart => exact ⟨0, -1, Nat.zero_le _, rfl, rfl, .inl ⟨rfl, fun j _ hj => absurd hj (Nat.not_lt_zero _)⟩, Below.refl _ _⟩
  case round =>
    obtain ⟨k, r, hk, rfl, rfl, HI, BW⟩ := hrel
    have c1 := HC.out wr BW.out
    by_cases hlt : k < L.length
    · obtain ⟨b, off, rfl, hb, hc⟩ := RL.out.resolve_left (by intro e; rw [e] at hlt; simp at hlt)
      have hcr := hc.block (BW.out.block b hb)
      have q0 := hcr k hlt 0 _ rfl
      have q3 := hcr k hlt 3 _ rfl
      rw [Nat.add_zero] at q0
      have hki : (k : Int) < (L.length : Int) := by omega
      have SK : Hid (qlB tx L[k] = false → NextI L tx (k + 1) r) := HI.out.skip hlt
      have TK : Hid (qlB tx L[k] = true → (∀ b (hb : b < L.length), r = (b : Int) → L[k].tx < L[b].tx) → NextI L tx (k + 1) (k : Int)) := HI.out.take hlt
      have HQ : Hid (∀ z x, L[k].wt = z → L[k].tx = x → qlB tx L[k] = (z && decide (tx < x))) := fun z x e1 e2 => by subst e1; subst e2; rfl
      have HQ2 := HQ.out _ _ rfl rfl
      have HQ3 : Hid (qlB tx L[k] = (L[k].wt && decide (tx < L[k].tx))) := HQ2
      clear HQ HQ2
      by_cases hz : L[k].wt = false
      · rw [hz] at q3
        have Y : Hid (NextI L tx (k + 1) r) := SK.out (by rw [HQ3.out, hz]; rfl)
        clear hcr hc
        generalize L[k].tx = x at *
        go_wp2_with fail
        go_quiet (fail)
        generalize hw5 : wr.drewN _ = w5
        have B5 : Hid (Below w.heap.size w w5) := by rw [← hw5]; exact BW.out.trans ((below_dN _ _).mono BW.out.size)
        clear hw5 q0 q3 c1
        go_wp2
        go_roundw
        case rel => exact ⟨k + 1, r, by omega, by go_num, rfl, Y, B5⟩
        case measure => simp [intOf]; omega
      · have hz' : L[k].wt = true := by simpa using hz
        rw [hz'] at q3
        clear hz
        by_cases hx : tx < L[k].tx
        · have HQ4 : Hid (qlB tx L[k] = true) := by show _ = _; rw [HQ3.out, hz']; simpa using hx
          have hd : decide (tx < L[k].tx) = true := by simpa using hx
          rcases HI.out with ⟨e, _⟩ | ⟨b', hb', hbk, e, _, _⟩
          · subst e
            have Y : Hid (NextI L tx (k + 1) (k : Int)) := TK.out HQ4.out (fun b hb e => by omega)
            clear hcr hc HQ3 HQ4 SK TK hz' HI
            generalize L[k].tx = x at *
            go_wp2_with fail
            go_quiet (fail)
            generalize hw5 : wr.drewN _ = w5
            have B5 : Hid (Below w.heap.size w w5) := by rw [← hw5]; exact BW.out.trans ((below_dN _ _).mono BW.out.size)
            clear hw5 q0 q3 c1
            go_wp2
            go_roundw
            case rel => exact ⟨k + 1, (k : Int), by omega, by go_num, rfl, Y, B5⟩
            case measure => simp [intOf]; omega
          · subst e
            have q0b := hcr b' hb' 0 _ rfl
            rw [Nat.add_zero] at q0b
            have hbi : (b' : Int) < (L.length : Int) := by omega
            have hb0 : ¬ ((b' : Int) < 0) := by omega
            have hd0 : decide ((b' : Int) < 0) = false := by simp
            by_cases hl : L[k].tx < L[b'].tx
            · have Y : Hid (NextI L tx (k + 1) (k : Int)) := TK.out HQ4.out (fun b hb e => by have e2 : b = b' := by omega
                                                                                              subst e2; exact hl)
              have hdl : decide (L[k].tx < L[b'].tx) = true := by simpa using hl
              clear hcr hc HQ3 HQ4 SK TK hz' HI
              generalize L[k].tx = x at *
              generalize L[b'].tx = x' at *
              go_wp2_with fail
              go_quiet (fail)
              generalize hw5 : wr.drewN _ = w5
              have B5 : Hid (Below w.heap.size w w5) := by rw [← hw5]; exact BW.out.trans ((below_dN _ _).mono BW.out.size)
              clear hw5 q0 q3 q0b c1
              go_wp2
              go_roundw
              case rel => exact ⟨k + 1, (k : Int), by omega, by go_num, rfl, Y, B5⟩
              case measure => simp [intOf]; omega
            · have Y : Hid (NextI L tx (k + 1) (b' : Int)) := HI.out.keep hb' hlt (by omega)
              have hdl : decide (L[k].tx < L[b'].tx) = false := by simpa using hl
              clear hcr hc HQ3 HQ4 SK TK hz' HI
              generalize L[k].tx = x at *
              generalize L[b'].tx = x' at *
              go_wp2_with fail
              go_quiet (fail)
              generalize hw5 : wr.drewN _ = w5
              have B5 : Hid (Below w.heap.size w w5) := by rw [← hw5]; exact BW.out.trans ((below_dN _ _).mono BW.out.size)
              clear hw5 q0 q3 q0b c1
              go_wp2
              go_roundw
              case rel => exact ⟨k + 1, (b' : Int), by omega, by go_num, rfl, Y, B5⟩
              case measure => simp [intOf]; omega
        · have Y : Hid (NextI L tx (k + 1) r) := SK.out (by rw [HQ3.out, hz']; simpa using hx)
          have hd : decide (tx < L[k].tx) = false := by simpa using hx
          clear hcr hc HQ3 SK TK hz'
          generalize L[k].tx = x at *
          go_wp2_with fail
          go_quiet (fail)
          generalize hw5 : wr.drewN _ = w5
          have B5 : Hid (Below w.heap.size w w5) := by rw [← hw5]; exact BW.out.trans ((below_dN _ _).mono BW.out.size)
          clear hw5 q0 q3 c1
          go_wp2
          go_roundw
          case rel => exact ⟨k + 1, r, by omega, by go_num, rfl, Y, B5⟩
          case measure => simp [intOf]; omega
    · have hki : ¬ (k : Int) < (L.length : Int) := by omega
      have hkk : k = L.length := by omega
      have HZ : Hid (NextI L tx L.length r) := by rw [← hkk]; exact HI.out
      clear hkk
      go_wp2
      go_ret
      exact ⟨⟨r, rfl, HZ.out⟩, BW.out⟩
end Go.Proofs.Ytlagmbieaicmgaa
