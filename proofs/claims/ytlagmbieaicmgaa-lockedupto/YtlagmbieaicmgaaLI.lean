/- Tables of locks: the place for one who waits: slices.BinarySearchFunc over claims. -/
import Derived.Test.YtlagmbieaicmgaaLH
namespace Go.Proofs.Ytlagmbieaicmgaa
open Go.RowKit Lk

def Sorted (ws : List C) : Prop := ∀ i j (hi : i < ws.length) (hj : j < ws.length), i < j → ws[i].tx < ws[j].tx
def Small (ws : List C) : Prop := ∀ c ∈ ws, 0 ≤ c.tx ∧ c.tx ≤ 1000
/-- The first place whose transaction is not older. -/
def IsPos (ws : List C) (tx : Int) (p : Nat) : Prop := p ≤ ws.length ∧ (∀ t (h : t < ws.length), t < p → ws[t].tx < tx) ∧ ∀ t (h : t < ws.length), p ≤ t → tx ≤ ws[t].tx

theorem eg_await1 : ∀ args w, (callFunc 69 args).run Try.prog w = .ok (.enter 69 args) w := enters_of Try.func69 (by kernel_rfl) rfl

set_option maxHeartbeats 2000000 in
theorem bsearch_any (ao : Option Addr) (cap : Nat) (ws : List C) (tx : Int) (w : World) (hr : Rd cl 3 w ao ws) (hn : ws.length ≤ 1000) (hso : Sorted ws) (hsm : Small ws) (h0 : 0 ≤ tx) (h1 : tx ≤ 1000) :
    Calls Try.prog 70 #[.slice ao ws.length cap, .int .i64 tx, .func (.func 69) #[] #[]] w fun e w' => ∃ (p : Nat) (b : Bool), e = .returned (.tuple #[.int .i64 p, .bool b]) ∧ IsPos ws tx p ∧ Below w.heap.size w w' := by
  have HS : Hid (Sorted ws) := hso
  clear hso
  go_enter Try.func70, Try.ntmps70
  go_wp2
  go_loopw [9, 10, 11] (fun s9 s10 _ wr => ∃ i j : Nat, s9 = .int .i64 i ∧ s10 = .int .i64 j ∧ i ≤ j ∧ j ≤ ws.length ∧ Hid (Below w.heap.size w wr) ∧ Hid (∀ t (h : t < ws.length), t < i → ws[t].tx < tx) ∧ Hid (∀ t (h : t < ws.length), j ≤ t → tx ≤ ws[t].tx)) (fun s9 s10 _ _ => (intOf s10).toNat - (intOf s9).toNat)
  case atStart => exact ⟨0, ws.length, rfl, rfl, Nat.zero_le _, Nat.le_refl _, Below.refl _ _, fun _ _ h => absurd h (Nat.not_lt_zero _), fun t h h' => absurd h (by omega)⟩
  case round =>
    obtain ⟨i, j, rfl, rfl, hij, hjn, BW, A, Z⟩ := hrel
    by_cases hlt : i < j
    · have hltz : (i : Int) < (j : Int) := by omega
      obtain ⟨b, off, rfl, hb, hc⟩ := hr.resolve_left (by intro h; rw [h] at hjn; simp at hjn; omega)
      obtain ⟨m, hm⟩ : ∃ m, m = (i + j) / 2 := ⟨_, rfl⟩
      have hmn : m < ws.length := by omega
      have hc2 := hc.block (BW.out.block b hb)
      have q0 := hc2 m hmn 0 _ rfl
      have q1 := hc2 m hmn 1 _ rfl
      have q2 := hc2 m hmn 2 _ rfl
      rw [Nat.add_zero] at q0
      clear hc hc2
      have hs := hsm ws[m] (List.getElem_mem hmn)
      have hcall := await1_any ws[m] tx wr hs.1 hs.2 h0 h1
      have w1 : IntKind.i64.wrap ((i : Int) + (j : Int)) = (i : Int) + (j : Int) := by rw [IntKind.wrap_i64]; omega
      generalize hy : ws[m] = y at *
      rw [hm] at q0 q1 q2
      have Y : Hid (ws[m] = y) := hy
      have hM : Hid (m = (i + j) / 2) := hm
      clear hy hm hs
      by_cases hlow : y.tx < tx
      · have hlz : y.tx - tx < 0 := by omega
        go_wp2_with (go_at_call 69; refine hcall.mono ?_; rintro e w' ⟨rfl, hb'⟩)
        go_roundw
        case rel =>
          have := hM.out
          refine ⟨(i + j) / 2 + 1, j, by go_num, rfl, by omega, hjn, BW.out.trans (hb'.mono BW.out.size), (show Hid _ from fun t ht htm => ?_), Z⟩
          by_cases e : t = m
          · subst e; rw [Y.out]; exact hlow
          · have := HS.out t m ht hmn (by omega)
            rw [Y.out] at this; omega
        case measure => have := hM.out; simp [intOf]; omega
      · have hlz : ¬ (y.tx - tx < 0) := by omega
        go_wp2_with (go_at_call 69; refine hcall.mono ?_; rintro e w' ⟨rfl, hb'⟩)
        go_roundw
        case rel =>
          have := hM.out
          refine ⟨i, (i + j) / 2, rfl, by go_num, by omega, by omega, BW.out.trans (hb'.mono BW.out.size), A, (show Hid _ from fun t ht htm => ?_)⟩
          by_cases e : t = m
          · subst e; rw [Y.out]; omega
          · have := HS.out m t hmn ht (by omega)
            rw [Y.out] at this; omega
        case measure => have := hM.out; simp [intOf]; omega
    · obtain rfl : i = j := by omega
      have hltz : ¬ (i : Int) < (i : Int) := by omega
      have P : Hid (IsPos ws tx i) := ⟨hjn, A.out, Z.out⟩
      by_cases hin : i < ws.length
      · have hinz : (i : Int) < (ws.length : Int) := by omega
        obtain ⟨b, off, rfl, hb, hc⟩ := hr.resolve_left (by intro h; rw [h] at hin; simp at hin)
        have hc2 := hc.block (BW.out.block b hb)
        have q0 := hc2 i hin 0 _ rfl
        have q1 := hc2 i hin 1 _ rfl
        have q2 := hc2 i hin 2 _ rfl
        rw [Nat.add_zero] at q0
        have hs := hsm ws[i] (List.getElem_mem hin)
        have hcall := await1_any ws[i] tx wr hs.1 hs.2 h0 h1
        clear hc hc2
        go_wp2_with (go_at_call 69; refine hcall.mono ?_; rintro e w' ⟨rfl, hb'⟩)
        go_ret2
        exact ⟨i, _, rfl, P.out, BW.out.trans (hb'.mono BW.out.size)⟩
      · have hinz : ¬ (i : Int) < (ws.length : Int) := by omega
        go_wp2
        go_ret2
        first | exact ⟨i, by simp, P.out, BW.out⟩ | (trace_state; fail)
end Go.Proofs.Ytlagmbieaicmgaa
