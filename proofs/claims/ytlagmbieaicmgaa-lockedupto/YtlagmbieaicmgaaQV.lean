/- Locked, walked. -/
import Derived.Test.YtlagmbieaicmgaaQU
namespace Go.Proofs.Ytlagmbieaicmgaa
open Go.RowKit Lk Go.Shelf

theorem ret_i' {a b : Int} (h : a = b) : Ending.returned (Value.int .i64 a) = .returned (Value.int .i64 b) := by rw [h]
set_option maxHeartbeats 1000000 in
theorem pick3_any (c : Int) (w : World) (h1 : -9223372036854775808 ≤ c) (h2 : c < 9223372036854775808) :
    Calls Try.prog 7 #[.int .i64 c, .int .i64 3] w fun e w' => (∃ p : Nat, p < 3 ∧ e = .returned (.int .i64 p)) ∧ w' = w := by
  by_cases hc : c < 0
  · go_enter Try.func7, Try.ntmps7
    have e : -(c + 1).tmod 3 = (-(c + 1)) % 3 := by rw [← Int.neg_tmod, Int.tmod_eq_emod_of_nonneg (by omega)]
    have e0 := Int.emod_nonneg (-(c + 1)) (show (3 : Int) ≠ 0 by omega)
    have e1 := Int.emod_lt_of_pos (-(c + 1)) (show (0 : Int) < 3 by omega)
    have HE : Hid (-(c + 1).tmod 3 = (((-(c + 1)) % 3).toNat : Int)) := by show _ = _; rw [Int.toNat_of_nonneg e0]; exact e
    have HL : Hid (((-(c + 1)) % 3).toNat < 3) := by show _ < _; omega
    clear e e0 e1
    go_wp2
    go_ret
    exact ⟨⟨_, HL.out, ret_i' HE.out⟩, rfl⟩
  · have e0 := Int.emod_nonneg c (show (3 : Int) ≠ 0 by omega)
    have e1 := Int.emod_lt_of_pos c (show (0 : Int) < 3 by omega)
    have HE : Hid (c % 3 = ((c % 3).toNat : Int)) := by show _ = _; rw [Int.toNat_of_nonneg e0]
    have HL : Hid ((c % 3).toNat < 3) := by show _ < _; omega
    clear e0 e1
    go_enter Try.func7, Try.ntmps7
    go_wp2
    go_ret
    exact ⟨⟨_, HL.out, ret_i' HE.out⟩, rfl⟩

theorem news_u (m : Int) (w : World) : ∃ MID : World → Value → Prop,
    (Calls Try.prog 5 #[.int .i64 m] w fun e w1 => ∃ ax, e = .returned (.pointer ax) ∧ Below w.heap.size w w1 ∧ MID w1 (.pointer ax)) ∧
    ∀ w1 vx W, MID w1 vx → Fr (fun g => g < w.heap.size) w1 W → Calls Try.prog 6 #[.int .i64 m] W fun e w2 => ∃ ay, e = .returned (.pointer ay) ∧ Below W.heap.size W w2 ∧ ∃ D, TP w2 vx (.pointer ay) D ∧ ∀ g, D g → w.heap.size ≤ g := by
  by_cases hm : 1 ≤ m ∧ m ≤ 24
  · refine ⟨fun w1 vx => ∃ a, vx = .pointer (some ⟨a, 0, none⟩) ∧ w.heap.size ≤ a ∧ TT w1 a ⟨m, [], [], []⟩ (fun g => g = a), (newLocks_any m w hm.1 hm.2).mono ?_, ?_⟩
    · rintro e w1 ⟨a, rfl, ha, hT, hB⟩
      exact ⟨_, rfl, hB, a, rfl, ha, hT⟩
    · rintro w1 vx W ⟨a, rfl, ha, hT⟩ hf
      have hT' : TT W a ⟨m, [], [], []⟩ (fun g => g = a) := hT.fr hf fun g e q => by rw [e] at q; exact absurd q (by omega)
      have haW : a < W.heap.size := hT'.lt rfl
      refine (rnew_any m W hm.1 hm.2).mono ?_
      rintro e w2 ⟨rfl, hR, hB⟩
      have nb : ∀ g, (Value.slice none 0 0).ownBlock = some g → False := fun g e => by simp [Value.ownBlock] at e
      refine ⟨_, rfl, hB, fun g => g = a ∨ g = W.heap.size, .inr ⟨a, W.heap.size, ⟨m, [], [], []⟩, [], [], fun g => g = a, fun g => g = W.heap.size, rfl, rfl, hT'.below hB, ⟨_, _, hR, fun g => ⟨fun q => ?_, fun q => .inl q⟩⟩, IR.init hm.1 hm.2, fun g e q => ?_, fun _ => Iff.rfl⟩, fun g e => ?_⟩
      · rcases q with q | q | q
        · exact q
        · exact (nb g q).elim
        · exact (nb g q).elim
      · omega
      · rcases e with e | e
        · rw [e]; exact ha
        · omega
  · have hm' : m < 1 ∨ 24 < m := by omega
    refine ⟨fun w1 vx => w1 = w ∧ vx = .pointer none, (newLocks_none m w hm').mono ?_, ?_⟩
    · rintro e w1 ⟨rfl, rfl⟩
      exact ⟨none, rfl, Below.refl _ _, rfl, rfl⟩
    · rintro w1 vx W ⟨rfl, rfl⟩ hf
      refine (rnew_none m W hm').mono ?_
      rintro e w2 ⟨rfl, rfl⟩
      exact ⟨none, rfl, Below.refl _ _, fun _ => False, .inl ⟨rfl, rfl, fun _ e => e⟩, fun _ e => e.elim⟩

/-- A step of the script, as it lies in memory. -/
structure Q5 where
  kd : Int
  tb : Int
  tx : Int
  key : Int
  wr : Bool
def q5l (q : Q5) : List Value := [.int .i64 q.kd, .int .i64 q.tb, .int .i64 q.tx, .int .i64 q.key, .bool q.wr]
theorem q5_len (q : Q5) : (q5l q).length = 5 := rfl

/-- What a round of Locked keeps. -/
structure LK (w : World) (d0 bx by' : Nat) (v0 v1 u0 u1 : Value) (k : Nat) (D0 D1 B K : Nat → Prop) (ni ng nw : Nat) (wr : World) : Prop where
  t0 : TP wr v0 u0 D0
  t1 : TP wr v1 u1 D1
  bk : BK wr d0 ni ng nw B K
  n : ni ≤ k ∧ ng ≤ k ∧ nw ≤ k
  d01 : ∀ g, D0 g → ¬ D1 g
  d0b : ∀ g, D0 g → ¬ B g ∧ ¬ K g
  d1b : ∀ g, D1 g → ¬ B g ∧ ¬ K g
  up : ∀ g, D0 g ∨ D1 g ∨ B g ∨ K g → w.heap.size ≤ g ∧ g ≠ bx ∧ g ≠ by'
  bel : Below w.heap.size w wr
  xs : wr.heap[bx]? = some (.cells #[v0, v1, .pointer none] 32 (0, 0))
  ys : wr.heap[by']? = some (.cells #[u0, u1, .pointer none] 34 (0, 0))
  lo : w.heap.size ≤ bx ∧ w.heap.size ≤ by'

theorem LK.below {w : World} {d0 bx by' : Nat} {v0 v1 u0 u1 : Value} {k : Nat} {D0 D1 B K : Nat → Prop} {ni ng nw : Nat} {wr wr' : World} (h : LK w d0 bx by' v0 v1 u0 u1 k D0 D1 B K ni ng nw wr) (hb : Below wr.heap.size wr wr') : LK w d0 bx by' v0 v1 u0 u1 k D0 D1 B K ni ng nw wr' :=
  ⟨h.t0.below hb, h.t1.below hb, h.bk.below hb, h.n, h.d01, h.d0b, h.d1b, h.up, h.bel.trans (hb.mono h.bel.size), box_below h.xs hb, box_below h.ys hb, h.lo⟩
theorem LK.next {w : World} {d0 bx by' : Nat} {v0 v1 u0 u1 : Value} {k : Nat} {D0 D1 B K : Nat → Prop} {ni ng nw : Nat} {wr wr' : World} (h : LK w d0 bx by' v0 v1 u0 u1 k D0 D1 B K ni ng nw wr) {X D' B' K' : Nat → Prop} {ni' ng' nw' : Nat} {vx vy : Value}
    (hX : ∀ g, X g → D0 g ∨ D1 g) (sA : SA wr' vx vy d0 ni' ng' nw' D' B' K') (hf : Fr (fun g => X g ∨ B g) wr wr') (sDB : ∀ g, D' g ∨ B' g → (X g ∨ B g) ∨ wr.heap.size ≤ g) (sK : ∀ g, K' g → K g ∨ wr.heap.size ≤ g) :
    Below w.heap.size w wr' ∧ wr'.heap[bx]? = some (.cells #[v0, v1, .pointer none] 32 (0, 0)) ∧ wr'.heap[by']? = some (.cells #[u0, u1, .pointer none] 34 (0, 0)) ∧ (∀ g, D' g ∨ B' g ∨ K' g → w.heap.size ≤ g ∧ g ≠ bx ∧ g ≠ by') ∧ BK wr' d0 ni' ng' nw' B' K' ∧ (∀ g, D' g → ¬ B' g ∧ ¬ K' g) ∧
      ∀ Y : Nat → Prop, (∀ g, Y g → g < wr.heap.size ∧ ¬ X g ∧ ¬ B g ∧ ¬ K g) → ∀ g, Y g → ¬ D' g ∧ ¬ B' g ∧ ¬ K' g := by
  have hxl : bx < wr.heap.size := (Array.getElem?_eq_some_iff.1 h.xs).1
  have hyl : by' < wr.heap.size := (Array.getElem?_eq_some_iff.1 h.ys).1
  have hXu : ∀ g, X g ∨ B g → w.heap.size ≤ g ∧ g ≠ bx ∧ g ≠ by' := fun g e => h.up g (e.elim (fun q => (hX g q).imp id fun r => .inl r) fun q => .inr (.inr (.inl q)))
  have hwr := h.bel.size
  refine ⟨below_fr h.bel (Nat.le_refl _) hf fun g e => (hXu g e).1, box_fr h.xs hf fun e => (hXu bx e).2.1 rfl, box_fr h.ys hf fun e => (hXu by' e).2.2 rfl, fun g e => ?_, sA.2.1, sA.2.2, fun Y hY g e => ⟨fun q => ?_, fun q => ?_, fun q => ?_⟩⟩
  · have key : (X g ∨ B g ∨ K g) ∨ wr.heap.size ≤ g := by
      rcases e with e | e | e
      · exact (sDB g (.inl e)).imp (fun q => q.imp id fun r => .inl r) id
      · exact (sDB g (.inr e)).imp (fun q => q.imp id fun r => .inl r) id
      · exact (sK g e).imp (fun q => .inr (.inr q)) id
    rcases key with (q | q | q) | q
    · exact hXu g (.inl q)
    · exact hXu g (.inr q)
    · exact h.up g (.inr (.inr (.inr q)))
    · exact ⟨by omega, by omega, by omega⟩
  · obtain ⟨y1, y2, y3, y4⟩ := hY g e
    rcases sDB g (.inl q) with (r | r) | r
    · exact y2 r
    · exact y3 r
    · omega
  · obtain ⟨y1, y2, y3, y4⟩ := hY g e
    rcases sDB g (.inr q) with (r | r) | r
    · exact y2 r
    · exact y3 r
    · omega
  · obtain ⟨y1, y2, y3, y4⟩ := hY g e
    rcases sK g q with r | r
    · exact y4 r
    · omega
theorem LK.step0 {w : World} {d0 bx by' : Nat} {v0 v1 u0 u1 : Value} {k : Nat} {D0 D1 B K : Nat → Prop} {ni ng nw : Nat} {wr wr' : World} (h : LK w d0 bx by' v0 v1 u0 u1 k D0 D1 B K ni ng nw wr) {D' B' K' : Nat → Prop} {ni' ng' nw' : Nat}
    (sA : SA wr' v0 u0 d0 ni' ng' nw' D' B' K') (hn : ni' ≤ k + 1 ∧ ng' ≤ k + 1 ∧ nw' ≤ k + 1) (hf : Fr (fun g => D0 g ∨ B g) wr wr') (sDB : ∀ g, D' g ∨ B' g → (D0 g ∨ B g) ∨ wr.heap.size ≤ g) (sK : ∀ g, K' g → K g ∨ wr.heap.size ≤ g) : LK w d0 bx by' v0 v1 u0 u1 (k + 1) D' D1 B' K' ni' ng' nw' wr' := by
  obtain ⟨e1, e2, e3, e4, e5, e6, e7⟩ := h.next (X := D0) (fun g e => .inl e) sA hf sDB sK
  have hY := e7 D1 fun g e => ⟨h.t1.lt e, fun q => h.d01 g q e, (h.d1b g e).1, (h.d1b g e).2⟩
  refine ⟨sA.1, h.t1.fr hf fun g e q => q.elim (fun r => h.d01 g r e) (h.d1b g e).1, e5, hn, fun g e q => (hY g q).1 e, e6, fun g e => (hY g e).2, fun g e => ?_, e1, e2, e3, h.lo⟩
  rcases e with e | e | e | e
  · exact e4 g (.inl e)
  · exact h.up g (.inr (.inl e))
  · exact e4 g (.inr (.inl e))
  · exact e4 g (.inr (.inr e))
theorem LK.step1 {w : World} {d0 bx by' : Nat} {v0 v1 u0 u1 : Value} {k : Nat} {D0 D1 B K : Nat → Prop} {ni ng nw : Nat} {wr wr' : World} (h : LK w d0 bx by' v0 v1 u0 u1 k D0 D1 B K ni ng nw wr) {D' B' K' : Nat → Prop} {ni' ng' nw' : Nat}
    (sA : SA wr' v1 u1 d0 ni' ng' nw' D' B' K') (hn : ni' ≤ k + 1 ∧ ng' ≤ k + 1 ∧ nw' ≤ k + 1) (hf : Fr (fun g => D1 g ∨ B g) wr wr') (sDB : ∀ g, D' g ∨ B' g → (D1 g ∨ B g) ∨ wr.heap.size ≤ g) (sK : ∀ g, K' g → K g ∨ wr.heap.size ≤ g) : LK w d0 bx by' v0 v1 u0 u1 (k + 1) D0 D' B' K' ni' ng' nw' wr' := by
  obtain ⟨e1, e2, e3, e4, e5, e6, e7⟩ := h.next (X := D1) (fun g e => .inr e) sA hf sDB sK
  have hY := e7 D0 fun g e => ⟨h.t0.lt e, fun q => h.d01 g e q, (h.d0b g e).1, (h.d0b g e).2⟩
  refine ⟨h.t0.fr hf fun g e q => q.elim (fun r => h.d01 g e r) (h.d0b g e).1, sA.1, e5, hn, fun g e q => (hY g e).1 q, fun g e => (hY g e).2, e6, fun g e => ?_, e1, e2, e3, h.lo⟩
  rcases e with e | e | e | e
  · exact h.up g (.inl e)
  · exact e4 g (.inl e)
  · exact e4 g (.inr (.inl e))
  · exact e4 g (.inr (.inr e))
theorem LK.step2 {w : World} {d0 bx by' : Nat} {v0 v1 u0 u1 : Value} {k : Nat} {D0 D1 B K : Nat → Prop} {ni ng nw : Nat} {wr wr' : World} (h : LK w d0 bx by' v0 v1 u0 u1 k D0 D1 B K ni ng nw wr) {D' B' K' : Nat → Prop} {ni' ng' nw' : Nat}
    (sA : SA wr' (.pointer none) (.pointer none) d0 ni' ng' nw' D' B' K') (hn : ni' ≤ k + 1 ∧ ng' ≤ k + 1 ∧ nw' ≤ k + 1) (hf : Fr (fun g => False ∨ B g) wr wr') (sDB : ∀ g, D' g ∨ B' g → (False ∨ B g) ∨ wr.heap.size ≤ g) (sK : ∀ g, K' g → K g ∨ wr.heap.size ≤ g) : LK w d0 bx by' v0 v1 u0 u1 (k + 1) D0 D1 B' K' ni' ng' nw' wr' := by
  obtain ⟨e1, e2, e3, e4, e5, e6, e7⟩ := h.next (X := fun _ => False) (fun g e => e.elim) sA hf sDB sK
  have hY0 := e7 D0 fun g e => ⟨h.t0.lt e, fun q => q, (h.d0b g e).1, (h.d0b g e).2⟩
  have hY1 := e7 D1 fun g e => ⟨h.t1.lt e, fun q => q, (h.d1b g e).1, (h.d1b g e).2⟩
  refine ⟨h.t0.fr hf fun g e q => q.elim id (h.d0b g e).1, h.t1.fr hf fun g e q => q.elim id (h.d1b g e).1, e5, hn, h.d01, fun g e => (hY0 g e).2, fun g e => (hY1 g e).2, fun g e => ?_, e1, e2, e3, h.lo⟩
  rcases e with e | e | e | e
  · exact h.up g (.inl e)
  · exact h.up g (.inr (.inl e))
  · exact e4 g (.inr (.inl e))
  · exact e4 g (.inr (.inr e))
end Go.Proofs.Ytlagmbieaicmgaa
