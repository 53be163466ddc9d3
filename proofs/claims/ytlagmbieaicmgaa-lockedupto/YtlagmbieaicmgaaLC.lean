/- Tables of locks: slices.IndexFunc and ContainsFunc over claims. -/
import Derived.Test.YtlagmbieaicmgaaLB
import Derived.Shelf.Abstract
namespace Go.Proofs.Ytlagmbieaicmgaa
open Go.RowKit Lk

/-- The place of the first that is so, or -1. -/
def ix {α : Type} (p : α → Bool) (cs : List α) : Int := match cs.findIdx? p with
  | some i => i
  | none => -1
theorem ix_hit {α : Type} (p : α → Bool) (cs : List α) (k : Nat) (hk : k < cs.length) (h1 : p cs[k] = true) (h0 : ∀ j (h : j < cs.length), j < k → p cs[j] = false) : ix p cs = k := by
  have : cs.findIdx? p = some k := List.findIdx?_eq_some_iff_getElem.2 ⟨hk, h1, fun j hj => by rw [h0 j (by omega) hj]; simp⟩
  unfold ix; rw [this]
theorem ix_miss {α : Type} (p : α → Bool) (cs : List α) (h0 : ∀ j (h : j < cs.length), p cs[j] = false) : ix p cs = -1 := by
  have : cs.findIdx? p = none := List.findIdx?_eq_none_iff.2 fun x hx => by
    obtain ⟨j, hj, rfl⟩ := List.getElem_of_mem hx
    exact h0 j hj
  unfold ix; rw [this]
theorem ix_any {α : Type} (p : α → Bool) (cs : List α) : decide (0 ≤ ix p cs) = cs.any p := by
  unfold ix
  cases h : cs.findIdx? p with
  | none =>
    rw [List.findIdx?_eq_none_iff] at h
    simp
    exact fun x hx => h x hx
  | some i =>
    obtain ⟨hi, h1, _⟩ := List.findIdx?_eq_some_iff_getElem.1 h
    simp only [Int.natCast_nonneg, decide_true]
    exact (List.any_eq_true.2 ⟨cs[i], List.getElem_mem hi, h1⟩).symm
theorem ix_spec {α : Type} (p : α → Bool) (cs : List α) : (ix p cs = -1 ∧ ∀ x ∈ cs, p x = false) ∨ ∃ (k : Nat) (h : k < cs.length), ix p cs = k ∧ p cs[k] = true ∧ ∀ j (h : j < cs.length), j < k → p cs[j] = false := by
  unfold ix
  cases h : cs.findIdx? p with
  | none =>
    rw [List.findIdx?_eq_none_iff] at h
    exact .inl ⟨rfl, h⟩
  | some i =>
    obtain ⟨hi, h1, h2⟩ := List.findIdx?_eq_some_iff_getElem.1 h
    exact .inr ⟨i, hi, rfl, h1, fun j hj hji => by simpa using h2 j hji⟩

/-- What a predicate on claims must do, from a world on: it answers, and lays but blocks of its own. -/
def PredC (g : Nat) (fa lb : Array Value) (p : C → Bool) (w : World) : Prop :=
  ∀ (W : World) (c : C), Below w.heap.size w W → Calls Try.prog g (fa ++ #[clV c] ++ lb) W fun e w' => e = .returned (.bool (p c)) ∧ Below W.heap.size W w'

set_option maxHeartbeats 2000000 in
theorem index_any (g : Nat) (fa lb : Array Value) (p : C → Bool) (eg : ∀ args w, (callFunc g args).run Try.prog w = .ok (.enter g args) w) (ao : Option Addr) (cap : Nat) (cs : List C) (w : World) (hr : Rd cl 3 w ao cs) (hn : cs.length ≤ 1000) (hp : PredC g fa lb p w) :
    Calls Try.prog 83 #[.slice ao cs.length cap, .func (.func g) fa lb] w fun e w' => e = .returned (.int .i64 (ix p cs)) ∧ Below w.heap.size w w' := by
  go_enter Try.func83, Try.ntmps83
  go_wp2
  go_loopw [5, 8] (fun _ i wr => ∃ k : Nat, k ≤ cs.length ∧ i = .int .i64 k ∧ Hid (Below w.heap.size w wr) ∧ Hid (∀ j (h : j < cs.length), j < k → p cs[j] = false)) (fun _ i _ => cs.length - (intOf i).toNat)
  case atStart => exact ⟨0, Nat.zero_le _, rfl, Below.refl _ _, fun j _ h => absurd h (Nat.not_lt_zero _)⟩
  case round =>
    obtain ⟨k, hk, rfl, BW, A⟩ := hrel
    by_cases hlt : k < cs.length
    · obtain ⟨b, off, rfl, hb, hc⟩ := hr.resolve_left (by intro h; rw [h] at hlt; simp at hlt)
      have hc2 := hc.block (BW.out.block b hb)
      have q0 := hc2 k hlt 0 _ rfl
      have q1 := hc2 k hlt 1 _ rfl
      have q2 := hc2 k hlt 2 _ rfl
      rw [Nat.add_zero] at q0
      clear hc hc2
      have hcall := hp wr cs[k] BW.out
      have HB : Hid (∃ x : Bool, p cs[k] = x) := ⟨_, rfl⟩
      generalize hy : cs[k] = y at *
      have Y : Hid (cs[k] = y) := hy
      clear hy hp HB
      cases hq : p y with
      | true =>
        rw [hq] at hcall
        go_wp2_with (go_at_fn g; refine hcall.mono ?_; rintro e w' ⟨rfl, hb'⟩)
        go_ret
        exact ⟨by rw [ix_hit p cs k hlt (by rw [Y.out]; exact hq) A.out]; rfl, BW.out.trans (hb'.mono BW.out.size)⟩
      | false =>
        rw [hq] at hcall
        go_wp2_with (go_at_fn g; refine hcall.mono ?_; rintro e w' ⟨rfl, hb'⟩)
        go_roundw
        case rel =>
          refine ⟨k + 1, by omega, by go_num, BW.out.trans (hb'.mono BW.out.size), (show Hid _ from fun j hj hjk => ?_)⟩
          by_cases e : j = k
          · subst e
            rw [Y.out]; exact hq
          · exact A.out j hj (by omega)
        case measure => simp [intOf]; omega
    · go_wp2
      go_ret
      exact ⟨by rw [ix_miss p cs (fun j hj => A.out j hj (by omega))]; rfl, BW.out⟩

set_option maxHeartbeats 1000000 in
theorem contains_any (g : Nat) (fa lb : Array Value) (p : C → Bool) (eg : ∀ args w, (callFunc g args).run Try.prog w = .ok (.enter g args) w) (ao : Option Addr) (cap : Nat) (cs : List C) (w : World) (hr : Rd cl 3 w ao cs) (hn : cs.length ≤ 1000) (hp : PredC g fa lb p w) :
    Calls Try.prog 64 #[.slice ao cs.length cap, .func (.func g) fa lb] w fun e w' => e = .returned (.bool (cs.any p)) ∧ Below w.heap.size w w' := by
  rw [← ix_any]
  go_enter Try.func64, Try.ntmps64
  go_wp2_with (go_at_call 83; refine (index_any g fa lb p eg ao cap cs _ hr hn hp).mono ?_; rintro e w' ⟨rfl, hb'⟩)
  go_ret
  exact ⟨rfl, hb'⟩
end Go.Proofs.Ytlagmbieaicmgaa
