/- The document's own answer: entries and Can: which messages can be sent. -/
import Derived.Test.YtlagmbieaicmgaaDoorRefA
import Derived.Deep.QuietTactic
import Derived.BigQuiet
namespace Go.Proofs.YtlagmbieaicmgaaDoor
open Go.RowKit Pact

def prevSlot (es : List Ent) (k : Nat) : Int := if k = 0 then -1 else (es[k - 1]?.getD ⟨0, 0, .empty⟩).slot
theorem prev_zero (es : List Ent) : prevSlot es 0 = -1 := rfl
theorem prev_succ (es : List Ent) (k : Nat) (h : k < es.length) : prevSlot es (k + 1) = es[k].slot := by
  unfold prevSlot
  rw [if_neg (by omega), Nat.add_sub_cancel, List.getElem?_eq_getElem h]; rfl

theorem ok_a {pr : Int} {e : Ent} (hp : -1 ≤ pr) (h : upToB e.slot 240 = false) : entOk pr e = false := by
  refine entOk_no ?_
  simp [upToB] at h
  omega
theorem ok_b {pr : Int} {e : Ent} (h : upToB e.ballot 16777215 = false) : entOk pr e = false := by
  refine entOk_no ?_
  simp [upToB] at h
  omega
theorem ok_yes {pr : Int} {e : Ent} (h1 : upToB e.slot 240 = true) (h2 : upToB e.ballot 16777215 = true) (h3 : ¬ 40 < (e.value.size : Int)) (h4 : ¬ e.slot ≤ pr) : entOk pr e = true := by
  simp [upToB] at h1 h2
  exact entOk_yes h4 (by omega) (by omega) (by omega) h3

set_option maxHeartbeats 1600000 in
theorem rentries_some (es : List Ent) (b off cap : Nat) (w : World) (hn : es.length ≤ 241) (hc : EntCells w b off es) :
    Calls Tryd.prog 47 #[.slice (some ⟨b, off, none⟩) es.length cap] w fun e w' => e = .returned (.bool (entsOk (-1) es)) ∧ Below w.heap.size w w' := by
  go_enter Tryd.func47, Tryd.ntmps47
  go_wp2
  go_loopw [3, 4, 5] (fun i _ _ wr => ∃ (k q : Nat), k ≤ es.length ∧ i = .int .i64 k ∧ Hid (entsOk (-1) es = entsOk (prevSlot es k) (es.drop k)) ∧ Hid (-1 ≤ prevSlot es k) ∧ wr = w.drewN q) (fun i _ _ _ => es.length - (intOf i).toNat)
  case atStart => exact ⟨0, 0, Nat.zero_le _, rfl, rfl, by show _ ≤ _; rw [prev_zero]; omega, rfl⟩
  case round =>
    obtain ⟨k, q, hk, rfl, hE, hM, rfl⟩ := hrel
    by_cases hlt : k < es.length
    · obtain ⟨q0, q1, q2⟩ := hc k hlt
      have hD : Hid (entsOk (-1) es = (entOk (prevSlot es k) es[k] && entsOk (prevSlot es (k + 1)) (es.drop (k + 1)))) := by
        have := hE.out; rw [entsOk_drop _ es k hlt] at this; rw [prev_succ es k hlt]; exact this
      have hN : Hid (prevSlot es (k + 1) = es[k].slot) := prev_succ es k hlt
      clear hE
      have hp : k = 0 ∨ (0 < k ∧ w.cell? ⟨b, off + (k - 1) * 3, none⟩ = some (.int .i64 (prevSlot es k))) := by
        by_cases h0 : k = 0
        · exact .inl h0
        · have h1 := (hc (k - 1) (by omega)).1
          have h2 := prev_succ es (k - 1) (by omega)
          rw [show k - 1 + 1 = k from by omega] at h2
          rw [← h2] at h1
          exact .inr ⟨by omega, h1⟩
      generalize hpr : prevSlot es k = pr at *
      have hpr0 : k = 0 → pr = -1 := fun h => by rw [← hpr, h]; rfl
      clear hpr hc
      generalize es[k] = e at *
      have go : ∀ (x : Bool), entOk pr e = x → Hid (entsOk (-1) es = (x && entsOk (prevSlot es (k + 1)) (es.drop (k + 1)))) := fun x hx => by show _ = _; rw [← hx]; exact hD.out
      clear hD
      cases h1 : upToB e.slot 240 with
      | false =>
        have hG := go false (ok_a hM.out h1)
        clear go hp hpr0
        go_wp2_with (go_at_call 46; refine (word_any _ _ _).mono ?_; rintro e w' ⟨rfl, rfl⟩)
        go_quiet (fail)
        go_wp2
        go_ret
        exact ⟨ret_b (by rw [hG.out]; rfl), below_drewN (below_drewN (Below.refl _ _) _) _⟩
      | true =>
        cases h2 : upToB e.ballot 16777215 with
        | false =>
          have hG := go false (ok_b h2)
          clear go hp hpr0
          go_wp2_with (go_at_call 46; refine (word_any _ _ _).mono ?_; rintro e w' ⟨rfl, rfl⟩)
          go_quiet (fail)
          go_wp2
          go_ret
          exact ⟨ret_b (by rw [hG.out]; rfl), below_drewN (below_drewN (Below.refl _ _) _) _⟩
        | true =>
          by_cases h3 : 40 < (e.value.size : Int)
          · have hG := go false (entOk_no (by omega))
            have hd3 : decide (40 < (e.value.size : Int)) = true := by simpa using h3
            clear go hp hpr0
            go_wp2_with (go_at_call 46; refine (word_any _ _ _).mono ?_; rintro e w' ⟨rfl, rfl⟩)
            go_quiet (fail)
            go_wp2
            go_ret
            exact ⟨ret_b (by rw [hG.out]; rfl), below_drewN (below_drewN (Below.refl _ _) _) _⟩
          · have hd3 : decide (40 < (e.value.size : Int)) = false := by simpa using h3
            have hsl : 0 ≤ e.slot := by simp [upToB] at h1; omega
            have hM' : Hid (-1 ≤ prevSlot es (k + 1)) := by show _ ≤ _; rw [hN.out]; omega
            rcases hp with h0 | ⟨h0, hpc⟩
            · have hG := go true (ok_yes h1 h2 h3 (by have := hpr0 h0; omega))
              have hd4 : decide (0 < (k : Int)) = false := by simp; omega
              have hd5 : decide (0 < k) = false := by simp; omega
              clear go hpr0 h0
              go_wp2_with (go_at_call 46; refine (word_any _ _ _).mono ?_; rintro e w' ⟨rfl, rfl⟩)
              go_quiet (fail)
              go_wp2
              go_roundw
              case rel => exact ⟨k + 1, q + _, by omega, by go_num, by show _ = _; rw [hG.out]; rfl, hM', rfl⟩
              case measure => simp [intOf]; omega
            · have hd4 : decide (0 < (k : Int)) = true := by simp; omega
              have hk1 : (1 : Int) ≤ k := by omega
              by_cases h5 : e.slot ≤ pr
              · have hG := go false (entOk_no (.inl h5))
                clear go hpr0
                go_wp2_with (go_at_call 46; refine (word_any _ _ _).mono ?_; rintro e w' ⟨rfl, rfl⟩)
                go_quiet (fail)
                go_wp2
                go_ret
                exact ⟨ret_b (by rw [hG.out]; rfl), below_drewN (below_drewN (Below.refl _ _) _) _⟩
              · have hG := go true (ok_yes h1 h2 h3 h5)
                clear go hpr0
                go_wp2_with (go_at_call 46; refine (word_any _ _ _).mono ?_; rintro e w' ⟨rfl, rfl⟩)
                go_quiet (fail)
                go_wp2
                go_roundw
                case rel => exact ⟨k + 1, q + _, by omega, by go_num, by show _ = _; rw [hG.out]; rfl, hM', rfl⟩
                case measure => simp [intOf]; omega
    · have hd : es.drop k = [] := List.drop_of_length_le (by omega)
      have hF : Hid (entsOk (-1) es = true) := by have := hE.out; rw [hd, entsOk] at this; exact this
      clear hE hd
      go_wp2
      go_ret
      exact ⟨ret_b hF.out.symm, below_drewN (Below.refl _ _) _⟩

set_option maxHeartbeats 400000 in
theorem rentries_none (ao : Option Addr) (cap : Nat) (w : World) :
    Calls Tryd.prog 47 #[.slice ao 0 cap] w fun e w' => e = .returned (.bool true) ∧ Below w.heap.size w w' := by
  go_enter Tryd.func47, Tryd.ntmps47
  go_wp2
  refine wp_loop_rounds 1 ?_
  rw [rounds_succ]
  go_wp2
  go_ret
  exact ⟨rfl, Below.refl _ _⟩

set_option maxHeartbeats 400000 in
theorem rentries_long (ao : Option Addr) (n cap : Nat) (w : World) (h : 241 < n) :
    Calls Tryd.prog 47 #[.slice ao n cap] w fun e w' => e = .returned (.bool false) ∧ Below w.heap.size w w' := by
  go_enter Tryd.func47, Tryd.ntmps47
  go_wp2
  go_ret
  exact ⟨rfl, Below.refl _ _⟩

/-- May the list be? -/
def listB (es : List Ent) : Bool := decide (es.length ≤ 241) && entsOk (-1) es

theorem rentries_any (es : List Ent) (ao : Option Addr) (cap : Nat) (w : World) (h : EntsIn w ao es) :
    Calls Tryd.prog 47 #[.slice ao es.length cap] w fun e w' => e = .returned (.bool (listB es)) ∧ Below w.heap.size w w' := by
  unfold listB
  by_cases hn : es.length ≤ 241
  · rw [decide_eq_true hn, Bool.true_and]
    rcases h with rfl | ⟨b, off, rfl, hc⟩
    · exact rentries_none ao cap w
    · exact rentries_some es b off cap w hn hc
  · rw [decide_eq_false hn, Bool.false_and]
    exact rentries_long ao es.length cap w (by omega)
end Go.Proofs.YtlagmbieaicmgaaDoor
