/- Ordered, walked: pick; what a round keeps. -/
import Derived.Test.YtlagmbieaicmgaaKF
namespace Go.Proofs.Ytlagmbieaicmgaa
open Go.RowKit Lk Go.Shelf

theorem ret_i {a b : Int} (h : a = b) : Ending.returned (Value.int .i64 a) = .returned (Value.int .i64 b) := by rw [h]

set_option maxHeartbeats 1000000 in
theorem pick_any (c : Int) (n : Nat) (w : World) (h1 : -9223372036854775808 ≤ c) (h2 : c < 9223372036854775808) (hn : 0 < n) (hn2 : n < 1000000000) :
    Calls Try.prog 11 #[.int .i64 c, .int .i64 n] w fun e w' => (∃ p : Nat, p < n ∧ e = .returned (.int .i64 p)) ∧ w' = w := by
  by_cases hc : c < 0
  · go_enter Try.func11, Try.ntmps11
    have e : -(c + 1).tmod (n : Int) = (-(c + 1)) % (n : Int) := by rw [← Int.neg_tmod, Int.tmod_eq_emod_of_nonneg (by omega)]
    have e0 := Int.emod_nonneg (-(c + 1)) (show (n : Int) ≠ 0 by omega)
    have e1 := Int.emod_lt_of_pos (-(c + 1)) (show (0 : Int) < n by omega)
    have HE : Hid (-(c + 1).tmod (n : Int) = (((-(c + 1)) % (n : Int)).toNat : Int)) := by show _ = _; rw [Int.toNat_of_nonneg e0]; exact e
    have HL : Hid (((-(c + 1)) % (n : Int)).toNat < n) := by show _ < _; omega
    clear e e0 e1
    go_wp2
    go_ret
    exact ⟨⟨_, HL.out, ret_i HE.out⟩, rfl⟩
  · have e0 := Int.emod_nonneg c (show (n : Int) ≠ 0 by omega)
    have e1 := Int.emod_lt_of_pos c (show (0 : Int) < n by omega)
    have HE : Hid (c % (n : Int) = ((c % (n : Int)).toNat : Int)) := by show _ = _; rw [Int.toNat_of_nonneg e0]
    have HL : Hid ((c % (n : Int)).toNat < n) := by show _ < _; omega
    clear e0 e1
    go_enter Try.func11, Try.ntmps11
    go_wp2
    go_ret
    exact ⟨⟨_, HL.out, ret_i HE.out⟩, rfl⟩

structure Q4 where
  kd : Int
  tx : Int
  key : Int
  wr : Bool
def ql (q : Q4) : List Value := [.int .i64 q.kd, .int .i64 q.tx, .int .i64 q.key, .bool q.wr]
theorem ql_len (q : Q4) : (ql q).length = 4 := rfl

/-- What a round keeps. -/
def RK (w : World) (a d k : Nat) (wr : World) : Prop := ∃ (t : T4) (L : List L4) (F : List Int) (D : Nat → Prop), SS wr a t d L F D ∧ Inv t L F ∧ L.length ≤ k ∧ F.length ≤ k ∧ (∀ g, D g → w.heap.size ≤ g) ∧ Below w.heap.size w wr

theorem RK.step {w w1 w2 : World} {a d k : Nat} {t' : T4} {L' : List L4} {F' : List Int} {D : Nat → Prop} (hD : ∀ g, D g → w.heap.size ≤ g) (hB : Below w.heap.size w w1) (hs : w.heap.size ≤ w1.heap.size) (g : SG w1 D w2 a t' d L' F') (hi : Inv t' L' F') (hl : L'.length ≤ k) (hf : F'.length ≤ k) : RK w a d k w2 := by
  obtain ⟨D', s, f, sub⟩ := g
  refine ⟨t', L', F', D', s, hi, hl, hf, fun g hg => (sub g hg).elim (hD g) (fun q => by omega), ?_⟩
  exact below_fr hB (Nat.le_refl _) f hD

theorem SS.parts {w : World} {a : Nat} {t : T4} {d : Nat} {L : List L4} {F : List Int} {D : Nat → Prop} (h : SS w a t d L F D) : ∃ vl vf, Led w d L F vl vf := by
  obtain ⟨_, vl, vf, _, h, _⟩ := h
  exact ⟨vl, vf, h⟩

set_option maxHeartbeats 4000000 in
/-- The apart that closes a round. -/
theorem apart_rk (w : World) (a d k : Nat) (wr : World) (h : RK w a d k wr) (hk : k ≤ 4398046511104) : Calls Try.prog 20 #[.pointer (some ⟨d, 0, none⟩)] wr fun e w' => e = .returned (.bool true) ∧ RK w a d k w' := by
  obtain ⟨t, L, F, D, s, hi, hl, hf, hD, hB⟩ := h
  obtain ⟨vl, vf, hL⟩ := s.parts
  refine (apart_true wr d L F vl vf hL (by omega) hi.apart).mono ?_
  rintro e w' ⟨rfl, hb⟩
  exact ⟨rfl, t, L, F, D, s.below hb, hi, hl, hf, hD, hB.trans (hb.mono hB.size)⟩

theorem allL_le (L : List L4) (gs : List G) (k : Nat) (h : L.length ≤ k) : (allL L gs).length ≤ k := by rw [allL_len]; exact h

/-- A Take's round. -/
theorem take_rk (w : World) (a d k : Nat) (wr : World) (h : RK w a d k wr) (hk : k < 4398046511104) (kd x y : Int) (z : Bool) (h1 : 1 ≤ x) (h2 : x ≤ 12) (h3 : 0 ≤ y) (h4 : y < 6) :
    Calls Try.prog 12 #[.pointer (some ⟨d, 0, none⟩), .pointer (some ⟨a, 0, none⟩), .agg #[.int .i64 kd, .int .i64 x, .int .i64 y, .bool z]] wr fun e w' => e = .returned (.bool true) ∧ RK w a d (k + 1) w' := by
  obtain ⟨t, L, F, D, s, hi, hl, hf, hD, hB⟩ := h
  have ok := hi.take ⟨x, y, z⟩ h1 h2
  refine (ltake_any wr a t d L F D kd x y z s hi.fit ok (by omega) (by omega) h1 (by omega) h3 h4).mono ?_
  rintro e w' ⟨rfl, g⟩
  refine ⟨rfl, RK.step hD hB hB.size g ?_ ?_ ?_⟩
  · unfold ledL ledF
    by_cases hc : (takeT t ⟨x, y, z⟩).ans = 1 ∨ (takeT t ⟨x, y, z⟩).ans = 2
    · rw [if_pos hc, if_pos hc]; exact (ok.some hc).2.2
    · rw [if_neg hc, if_neg hc]
      exact (ok.none (fun e => hc (.inl e)) (fun e => hc (.inr e))).2.2
  · unfold ledL
    split
    · refine allL_le _ _ _ ?_
      rw [List.length_append]
      have := dropAll_len (takeT t ⟨x, y, z⟩).hurt L
      simp; omega
    · omega
  · unfold ledF
    split
    · have := dropAllF_len (takeT t ⟨x, y, z⟩).hurt F
      omega
    · omega
end Go.Proofs.Ytlagmbieaicmgaa
