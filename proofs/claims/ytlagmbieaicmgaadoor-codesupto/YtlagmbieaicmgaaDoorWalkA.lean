/- Which messages can be sent: upTo, groupFits, limitsOf, entriesFit, Sendable. -/
import Derived.Test.YtlagmbieaicmgaaDoorProg
import Derived.Test.YtlagmbieaicmgaaDoorPure
import Derived.WalkKit
import Derived.WalkSpells
import Derived.WalkLawsBesides
namespace Go.Proofs.YtlagmbieaicmgaaDoor
open Go.RowKit Pact

theorem ret_bool {a b : Bool} (h : a = b) : Ending.returned (.bool a) = .returned (.bool b) := by rw [h]

set_option maxHeartbeats 400000 in
theorem upTo_any (n most : Int) (w : World) :
    Calls Tryd.prog 39 #[.int .i64 n, .int .i64 most] w fun e w' => e = .returned (.bool (upToB n most)) ∧ w' = w := by
  by_cases h : 0 ≤ n
  all_goals
    go_enter Tryd.func39, Tryd.ntmps39
    go_wp2
    go_ret
    exact ⟨ret_bool (by simp [upToB]; omega), rfl⟩

set_option maxHeartbeats 400000 in
theorem groupFits_any (s : ByteArray) (most : Int) (w : World) :
    Calls Tryd.prog 40 #[.string s, .int .i64 most] w fun e w' => e = .returned (.bool (groupB s.size most)) ∧ w' = w := by
  go_enter Tryd.func40, Tryd.ntmps40
  go_wp2
  all_goals
    go_ret
    exact ⟨ret_bool (by simp [groupB]; omega), rfl⟩

set_option maxHeartbeats 1000000 in
theorem entriesFit_some (es : List Ent) (b off cap : Nat) (w : World) (hn : es.length ≤ maxLen) (hc : EntCells w b off es) :
    Calls Tryd.prog 41 #[.slice (some ⟨b, off, none⟩) es.length cap] w fun e w' => e = .returned (.bool (entsOk (-1) es)) ∧ Below w.heap.size w w' := by
  unfold maxLen at hn
  go_enter Tryd.func41, Tryd.ntmps41
  go_wp2
  go_loopw [3, 5, 8] (fun l _ i wr => ∃ k : Nat, ∃ c : Int, k ≤ es.length ∧ i = .int .i64 k ∧ l = .int .i64 c ∧ Hid (entsOk (-1) es = entsOk c (es.drop k)) ∧ Below w.heap.size w wr) (fun _ _ i _ => es.length - (intOf i).toNat)
  case atStart => exact ⟨0, -1, Nat.zero_le _, rfl, rfl, rfl, Below.refl _ _⟩
  case round =>
    obtain ⟨k, c, hk, rfl, rfl, hE, hb⟩ := hrel
    by_cases hlt : k < es.length
    · obtain ⟨q0, q1, q2⟩ := hc.below hb (cell_lt (hc k hlt).1) k hlt
      have hD : Hid (entsOk (-1) es = (entOk c es[k] && entsOk es[k].slot (es.drop (k + 1)))) := by have := hE.out; rw [entsOk_drop c es k hlt] at this; exact this
      have hbs := hb.size
      generalize es[k] = e at *
      clear hc hE
      go_wp2
      all_goals first
        | (go_ret; exact ⟨ret_bool (by rw [hD.out, entOk_no (by omega)]; rfl), hb.alloc (by omega) _⟩)
        | (go_roundw; (case rel => exact ⟨k + 1, e.slot, by omega, by go_num, rfl, by unfold Hid; rw [hD.out, entOk_yes (by omega) (by omega) (by omega) (by omega) (by omega)]; rfl, hb.alloc (by omega) _⟩); (case measure => simp [intOf]; omega))
    · have hd : es.drop k = [] := List.drop_of_length_le (by omega)
      have hF : Hid (entsOk (-1) es = true) := by have := hE.out; rw [hd, entsOk] at this; exact this
      clear hE hd
      go_wp2
      go_ret
      exact ⟨ret_bool hF.out.symm, hb⟩

set_option maxHeartbeats 400000 in
theorem entriesFit_none (ao : Option Addr) (cap : Nat) (w : World) :
    Calls Tryd.prog 41 #[.slice ao 0 cap] w fun e w' => e = .returned (.bool true) ∧ Below w.heap.size w w' := by
  go_enter Tryd.func41, Tryd.ntmps41
  go_wp2
  refine wp_loop_rounds 1 ?_
  rw [rounds_succ]
  go_wp2
  go_ret
  exact ⟨rfl, Below.refl _ _⟩

theorem entriesFit_any (es : List Ent) (ao : Option Addr) (cap : Nat) (w : World) (hn : es.length ≤ maxLen) (h : EntsIn w ao es) :
    Calls Tryd.prog 41 #[.slice ao es.length cap] w fun e w' => e = .returned (.bool (entsOk (-1) es)) ∧ Below w.heap.size w w' := by
  rcases h with rfl | ⟨b, off, rfl, hc⟩
  · exact entriesFit_none ao cap w
  · exact entriesFit_some es b off cap w hn hc

set_option maxHeartbeats 1000000 in
theorem limitsOf_any (k : Int) (w : World) :
    Calls Tryd.prog 38 #[.int .i64 k] w fun e w' => e = .returned (.tuple #[.agg #[.int .i64 (lim k).g, .int .i64 (lim k).b, .int .i64 (lim k).s, .int .i64 (lim k).v, .int .i64 (lim k).l], .bool (lim k).known]) ∧
      w' = w.alloc (.cells #[.int .i64 (lim k).g, .int .i64 (lim k).b, .int .i64 (lim k).s, .int .i64 (lim k).v, .int .i64 (lim k).l] 71) := by
  have hk : k = 1 ∨ k = 5 ∨ k = 2 ∨ k = 3 ∨ k = 4 ∨ k = 6 ∨ k = 7 ∨ k = 8 ∨ k = 9 ∨ (¬ k = 1 ∧ ¬ k = 5 ∧ ¬ k = 2 ∧ ¬ k = 3 ∧ ¬ k = 4 ∧ ¬ k = 6 ∧ ¬ k = 7 ∧ ¬ k = 8 ∧ ¬ k = 9) := by omega
  rcases hk with rfl | rfl | rfl | rfl | rfl | rfl | rfl | rfl | rfl | ⟨h1, h5, h2, h3, h4, h6, h7, h8, h9⟩
  all_goals
    simp [lim, *]
    go_enter Tryd.func38, Tryd.ntmps38
    go_wp2
    exact bodyPost_ret (by simp [results, Tryd.results38, go_sem]) rfl ⟨rfl, rfl⟩

set_option maxHeartbeats 2000000 in
theorem sendable_any (m : Msg) (ao : Option Addr) (cap : Nat) (w : World) (hn : m.ents.length ≤ maxLen) (h : EntsIn w ao m.ents) :
    Calls Tryd.prog 24 #[msgV m ao cap] w fun e w' => e = .returned (.bool (sendB m)) ∧ Below w.heap.size w w' := by
  go_enter Tryd.func24, Tryd.ntmps24
  go_wp2_with (first | (go_at_call 38; refine (limitsOf_any _ _).mono ?_; rintro e w' ⟨rfl, rfl⟩) | (go_at_call 39; refine (upTo_any _ _ _).mono ?_; rintro e w' ⟨rfl, rfl⟩) | (go_at_call 40; refine (groupFits_any _ _ _).mono ?_; rintro e w' ⟨rfl, rfl⟩))
  all_goals first
    | (go_ret; exact ⟨ret_bool (by symm; rw [← Bool.not_eq_true]; intro hs; obtain ⟨g1, g2, g3, g4, g5, g6, g7, g8, g9⟩ := (sendB_iff m).1 hs; first | omega | contradiction), below3 _ _ _ _⟩)
    | skip
  refine (entriesFit_any m.ents ao cap _ hn (h.below (below3 _ _ _ _))).mono ?_
  rintro e w' ⟨rfl, hb⟩
  have hs : Hid (sendB m = entsOk (-1) m.ents) := by
    show sendB m = _
    rw [Bool.eq_iff_iff, sendB_iff]
    exact ⟨fun hs => hs.2.2.2.2.2.2.2.2, fun hs => ⟨by assumption, by assumption, by assumption, by assumption, by assumption, by assumption, by assumption, by assumption, hs⟩⟩
  go_wp2
  go_ret
  exact ⟨ret_bool hs.out.symm, (below3 _ _ _ _).trans (hb.mono (by simp; omega))⟩
end Go.Proofs.YtlagmbieaicmgaaDoor
