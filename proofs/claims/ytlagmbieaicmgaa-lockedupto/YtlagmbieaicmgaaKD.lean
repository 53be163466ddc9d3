/- The ledger: all, waiting. -/
import Derived.Test.YtlagmbieaicmgaaKC
namespace Go.Proofs.Ytlagmbieaicmgaa
open Go.RowKit Lk Go.Shelf

def allL (L : List L4) (gs : List G) : List L4 := gs.foldl (fun L g => gotL L g.a g.b) L
def allOk : List L4 → List G → Prop
  | _, [] => True
  | L, g :: r => (∃ l ∈ L, gotP g.a g.b l = true) ∧ allOk (gotL L g.a g.b) r
theorem allL_snoc (L : List L4) (gs : List G) (g : G) : allL L (gs ++ [g]) = gotL (allL L gs) g.a g.b := by unfold allL; rw [List.foldl_append]; rfl
theorem gotL_len (L : List L4) (a b : Int) : (gotL L a b).length = L.length := by unfold gotL; split <;> simp
theorem allL_len (gs : List G) : ∀ L, (allL L gs).length = L.length := by
  induction gs with
  | nil => intro L; rfl
  | cons g r ih => intro L; exact (ih (gotL L g.a g.b)).trans (gotL_len _ _ _)
theorem allOk_at : ∀ (gs : List G) (L : List L4), allOk L gs → ∀ k (hk : k < gs.length), ∃ l ∈ allL L (gs.take k), gotP gs[k].a gs[k].b l = true
  | g :: r, L, h, 0, _ => h.1
  | g :: r, L, h, k + 1, hk => allOk_at r (gotL L g.a g.b) h.2 k (by simpa using hk)

abbrev AlS (b o : Nat) (p q : Int) (w' : World) : Prop := w'.cell? ⟨b, o, none⟩ = some (.int .i64 p) ∧ w'.cell? ⟨b, o + 1, none⟩ = some (.int .i64 q)
theorem AlS.fr {D : Nat → Prop} {b o : Nat} {p q : Int} {w w' : World} (h : AlS b o p q w) (hf : Fr D w w') (hD : ¬ D b) : AlS b o p q w' := ⟨hf.cell h.1 hD, hf.cell h.2 hD⟩

set_option maxHeartbeats 4000000 in
theorem all_true (w : World) (d : Nat) (L : List L4) (F : List Int) (vl vf : Value) (ao : Option Addr) (cap : Nat) (gs : List G) (h : Led w d L F vl vf) (hn : L.length ≤ 4398046511104) (hr : Rd gl 2 w ao gs) (hg : gs.length ≤ 1000000) (hD : ∀ b off, ao = some ⟨b, off, none⟩ → vl.ownBlock ≠ some b) (hok : allOk L gs) :
    Calls Try.prog 17 #[.pointer (some ⟨d, 0, none⟩), .slice ao gs.length cap] w fun e w' => e = .returned (.bool true) ∧ Led w' d (allL L gs) F vl vf ∧ Fr (fun b => vl.ownBlock = some b) w w' := by
  have RG : Hid (Rd gl 2 w ao gs) := hr
  have HD : Hid (∀ b off, ao = some ⟨b, off, none⟩ → vl.ownBlock ≠ some b) := hD
  have OK : Hid (∀ k (hk : k < gs.length), ∃ l ∈ allL L (gs.take k), gotP gs[k].a gs[k].b l = true) := allOk_at gs L hok
  have H0 : Hid (Led w d L F vl vf) := h
  clear h hr hD hok
  go_enter Try.func17, Try.ntmps17
  go_wp2
  go_loopw [5, 6] (fun s5 _ wr => ∃ k : Nat, k ≤ gs.length ∧ s5 = .int .i64 k ∧ Hid (Led wr d (allL L (gs.take k)) F vl vf) ∧ Hid (Fr (fun b => vl.ownBlock = some b) w wr)) (fun s5 _ _ => gs.length - (intOf s5).toNat)
  case atStart => exact ⟨0, Nat.zero_le _, rfl, H0, Fr.refl _ _⟩
  case round =>
    obtain ⟨k, hk, rfl, HL, HF⟩ := hrel
    by_cases hlt : k < gs.length
    · obtain ⟨b, off, rfl, hb, hc⟩ := RG.out.resolve_left (by intro e; rw [e] at hlt; simp at hlt)
      have hcr := hc.fr HF.out hb (HD.out b off rfl)
      have q0 := hcr k hlt 0 _ rfl
      have q1 := hcr k hlt 1 _ rfl
      rw [Nat.add_zero] at q0
      have hki : (k : Int) < (gs.length : Int) := by omega
      have hex := OK.out k hlt
      have TN : Hid (allL L (gs.take (k + 1)) = gotL (allL L (gs.take k)) gs[k].a gs[k].b) := by show _ = _; rw [take_next hlt, allL_snoc]
      have nb : Hid (¬ vl.ownBlock = some b) := HD.out b off rfl
      clear hcr hc
      generalize gs[k] = g at *
      obtain ⟨p, q⟩ := g
      have s0 : AlS b (off + k * 2) p q wr := ⟨q0, q1⟩
      have hgt := got_true wr.drew d (allL L (gs.take k)) F vl vf p q (HL.out.fr (D := fun _ => False) (Fr.refl _ _).drew fun _ _ e => e) (by rw [allL_len]; exact hn) hex
      have HFD : Hid (Fr (fun b => vl.ownBlock = some b) w wr.drew) := HF.out.drew
      clear hex
      go_wp2_with fail
      go_region_held3 (fun w' => AlS b (off + k * 2) p q w') (first | exact s0 | exact AlS.fr (w := wr.drew) s0 (by assumption) nb.out) (first | (go_at_call 39; refine hgt.mono ?_; rintro e w2 ⟨rfl, hl2, hf2⟩))
      have X1 : Hid (Led w2 d (allL L (gs.take (k + 1))) F vl vf) := by rw [TN.out]; exact hl2
      have X2 : Hid (Fr (fun b => vl.ownBlock = some b) w w2) := HFD.out.trans hf2 fun g _ e => e
      clear hgt
      go_wp2
      go_roundw
      case rel => exact ⟨k + 1, by omega, by go_num, X1, X2⟩
      case measure => simp [intOf]; omega
    · have hki : ¬ (k : Int) < (gs.length : Int) := by omega
      have hkk : Hid (gs.take k = gs) := by show _ = _; rw [show k = gs.length by omega, List.take_length]
      rw [hkk.out] at HL
      go_wp2
      go_ret
      exact ⟨rfl, HL.out, HF.out⟩
end Go.Proofs.Ytlagmbieaicmgaa
