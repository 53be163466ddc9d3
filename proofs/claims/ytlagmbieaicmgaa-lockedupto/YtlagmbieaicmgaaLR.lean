/- Tables of locks: slices.DeleteFunc over grants. -/
import Derived.Test.YtlagmbieaicmgaaLQ
namespace Go.Proofs.Ytlagmbieaicmgaa
open Go.RowKit Lk

/-- What a predicate on claims must do, from a world on: it answers, and lays but blocks of its own. -/
def PredG (g : Nat) (fa lb : Array Value) (p : G → Bool) (w : World) : Prop :=
  ∀ (W : World) (c : G), Below w.heap.size w W → Calls Try.prog g (fa ++ #[(.agg #[.int .i64 c.a, .int .i64 c.b])] ++ lb) W fun e w' => e = .returned (.bool (p c)) ∧ Below W.heap.size W w'

set_option maxHeartbeats 2000000 in
theorem indexG_any (g : Nat) (fa lb : Array Value) (p : G → Bool) (eg : ∀ args w, (callFunc g args).run Try.prog w = .ok (.enter g args) w) (ao : Option Addr) (cap : Nat) (cs : List G) (w : World) (hr : Rd gl 2 w ao cs) (hn : cs.length ≤ 1000) (hp : PredG g fa lb p w) :
    Calls Try.prog 74 #[.slice ao cs.length cap, .func (.func g) fa lb] w fun e w' => e = .returned (.int .i64 (ix p cs)) ∧ Below w.heap.size w w' := by
  go_enter Try.func74, Try.ntmps74
  go_wp2
  go_loopw [5, 8] (fun _ i wr => ∃ k : Nat, k ≤ cs.length ∧ i = .int .i64 k ∧ Hid (Below w.heap.size w wr) ∧ Hid (∀ j (h : j < cs.length), j < k → p cs[j] = false)) (fun _ i _ => cs.length - (intOf i).toNat)
  case atStart => exact ⟨0, Nat.zero_le _, rfl, Below.refl _ _, fun j _ h => absurd h (Nat.not_lt_zero _)⟩
  case round =>
    obtain ⟨k, hk, rfl, BW, A⟩ := hrel
    by_cases hlt : k < cs.length
    · obtain ⟨b, off, rfl, hb, hc⟩ := hr.resolve_left (by intro h; rw [h] at hlt; simp at hlt)
      have hc2 := hc.block (BW.out.block b hb)
      have q0 := hc2 k hlt 0 _ rfl
      have q1 := hc2 k hlt 1 _ rfl
      rw [Nat.add_zero] at q0
      clear hc hc2
      have hcall := hp wr cs[k] BW.out
      have HB : Hid (∃ x : Bool, p cs[k] = x) := ⟨_, rfl⟩
      generalize hy : cs[k] = y at *
      have Y : Hid (cs[k] = y) := hy
      clear hy hp HB
      cases hq : p y with
      | true =>
        rw [hq] at hcall
        go_wp2_with (go_at_fn g; refine hcall.mono ?_; rintro e w' ⟨rfl, hb'⟩)
        go_ret
        exact ⟨by rw [ix_hit p cs k hlt (by rw [Y.out]; exact hq) A.out]; rfl, BW.out.trans (hb'.mono BW.out.size)⟩
      | false =>
        rw [hq] at hcall
        go_wp2_with (go_at_fn g; refine hcall.mono ?_; rintro e w' ⟨rfl, hb'⟩)
        go_roundw
        case rel =>
          refine ⟨k + 1, by omega, by go_num, BW.out.trans (hb'.mono BW.out.size), (show Hid _ from fun j hj hjk => ?_)⟩
          by_cases e : j = k
          · subst e
            rw [Y.out]; exact hq
          · exact A.out j hj (by omega)
        case measure => simp [intOf]; omega
    · go_wp2
      go_ret
      exact ⟨by rw [ix_miss p cs (fun j hj => A.out j hj (by omega))]; rfl, BW.out⟩


theorem eg_take1 : ∀ args w, (callFunc 53 args).run Try.prog w = .ok (.enter 53 args) w := enters_of Try.func53 (by kernel_rfl) rfl
theorem pred_take {w : World} {b : Nat} {tx : Int} (h : w.cell? ⟨b, 0, none⟩ = some (.int .i64 tx)) : PredG 53 #[] #[.pointer (some ⟨b, 0, none⟩)] (fun c => decide (c.a = tx)) w :=
  fun W c hW => take1_any c b tx W ((hW.cell (p := ⟨b, 0, none⟩) (cell_lt h)).trans h)

theorem clear_grants (w : World) (ty : TypeId) (g i n c cap : Nat) (hs : Sh w g 102 (cap * 2)) (hi : i < n) (hn : n ≤ cap) :
    ∃ vs : List Value, (Builtin.clear_ #[83] ty #[.slice (some ⟨g, i * 2, none⟩) (n - i) c]).run Try.prog w = .ok (.tuple #[]) (w.setCells g (i * 2) vs) :=
  ⟨_, run_clear w 83 102 ty (.agg #[.int .i64 0, .int .i64 0]) Try.underlying83 (fun w => by kernel_rfl) g (i * 2) (n - i) c (by omega) (zeros_ones _ _ (by intro v hv; simp [Value.cells] at hv; rcases hv with rfl | rfl <;> rfl))
    (fun j hj => hs.some _ (by have : j < (n - i) * 2 := hj; omega)) (fun j hj => hs.free _)⟩

def notTxG (tx : Int) (c : G) : Bool := !decide (c.a = tx)

set_option maxHeartbeats 2000000 in
theorem deleteG_hit (tb : Nat) (tx : Int) (g cap : Nat) (cs : List G) (w : World) (hr : Rw gl 2 102 w g cap cs) (hn : cs.length ≤ 1000) (htb : w.cell? ⟨tb, 0, none⟩ = some (.int .i64 tx)) (hne : tb ≠ g)
    (k : Nat) (hk : k < cs.length) (e1 : ix (fun c : G => decide (c.a = tx)) cs = k) (h1 : decide (cs[k].a = tx) = true) (h0 : ∀ j (h : j < cs.length), j < k → decide (cs[j].a = tx) = false) :
    Calls Try.prog 54 #[.slice (some ⟨g, 0, none⟩) cs.length cap, .func (.func 53) #[] #[.pointer (some ⟨tb, 0, none⟩)]] w fun e w' =>
      e = .returned (.slice (some ⟨g, 0, none⟩) (cs.filter (notTxG tx)).length cap) ∧ Rw gl 2 102 w' g cap (cs.filter (notTxG tx)) ∧ Fr (fun b => b = g) w w' := by
  have hI := indexG_any _ _ _ _ eg_take1 (some ⟨g, 0, none⟩) cap cs w (.inr ⟨g, 0, rfl, hr.sh.lt, hr.at'⟩) hn (pred_take (tx := tx) htb)
  rw [e1] at hI
  have HS : Hid (Dl (fun c : G => decide (c.a = tx)) cs cs k (k + 1)) := Dl.start hk h1 h0
  have HR : Hid (Rw gl 2 102 w g cap cs) := hr
  have hkk : ((k : Int) == -1) = false := beq_eq_false_iff_ne.2 (by omega)
  have hlen := hr.len
  have hmax := hr.max
  clear hr h0 h1 e1
  go_enter Try.func54, Try.ntmps54
  go_wp2_with (go_at_call 74; refine hI.mono ?_; rintro e w1 ⟨rfl, hb1⟩)
  go_loopw [5, 6, 7] (fun s5 s6 _ wr => ∃ (i j : Nat) (ds : List G), s5 = .int .i64 i ∧ s6 = .int .i64 j ∧ Hid (Dl (fun c : G => decide (c.a = tx)) cs ds i j) ∧ Hid (Rw gl 2 102 wr g cap ds) ∧ Hid (Fr (fun b => b = g) w wr)) (fun _ s6 _ _ => cs.length - (intOf s6).toNat)
  case atStart => exact ⟨k, k + 1, cs, rfl, by go_num, HS, ⟨HR.out.sh.block (hb1.block g HR.out.sh.lt), HR.out.len, HR.out.max, HR.out.at'.block (hb1.block g HR.out.sh.lt)⟩, Fr.of_below hb1⟩
  case round =>
    obtain ⟨i, j, ds, rfl, rfl, HD, HW, HF⟩ := hrel
    obtain ⟨hdl, hij, hjn⟩ := HD.out.len
    have htw := HF.out.cell htb hne
    by_cases hlt : j < cs.length
    · have hat := HD.out.at hlt (by omega)
      have q0 := HW.out.at' j (by omega) 0 _ rfl
      have q1 := HW.out.at' j (by omega) 1 _ rfl
      rw [hat] at q0 q1
      simp only [Nat.zero_add, Nat.add_zero] at q0 q1
      have HP : Hid (∀ b, decide (cs[j].a = tx) = b → b = decide (cs[j].a = tx)) := fun b h => h.symm
      have hcall := take1_any cs[j] tb tx (wr.alloc (.cells #[.int .i64 cs[j].a, .int .i64 cs[j].b] 102)) (Lib.cell?_alloc_some _ htw)
      have hjs : (j : Int) < (cs.length : Int) := by omega
      have his : (i : Int) < (cs.length : Int) := by omega
      cases hq : decide (cs[j].a = tx) with
      | true =>
        rw [hq] at hcall
        go_wp2_with (go_at_call 53; refine hcall.mono ?_)
        rintro e w2 ⟨rfl, hb2⟩
        have hB := ((Below.refl wr.heap.size wr).alloc (Nat.le_refl _) (.cells #[.int .i64 cs[j].a, .int .i64 cs[j].b] 102)).trans (hb2.mono (by simp))
        go_wp2
        go_roundw
        case rel => exact ⟨i, j + 1, ds, rfl, by go_num, HD.out.skip hlt hq, ⟨HW.out.sh.block (hB.block g HW.out.sh.lt), HW.out.len, HW.out.max, HW.out.at'.block (hB.block g HW.out.sh.lt)⟩, HF.out.below hB⟩
        case measure => simp [intOf]; omega
      | false =>
        rw [hq] at hcall
        go_wp2_with (go_at_call 53; refine hcall.mono ?_)
        rintro e w2 ⟨rfl, hb2⟩
        have hB := ((Below.refl wr.heap.size wr).alloc (Nat.le_refl _) (.cells #[.int .i64 cs[j].a, .int .i64 cs[j].b] 102)).trans (hb2.mono (by simp))
        have hnew : ∀ r, w2.cell? ⟨wr.heap.size, r, none⟩ = (#[.int .i64 cs[j].a, .int .i64 cs[j].b] : Array Value)[r]? := fun r => (hb2.cell (p := ⟨wr.heap.size, r, none⟩) (by simp)).trans (cell_new _ _ _ _)
        have n0 := hnew 0
        have n1 := hnew 1
        simp at n0 n1
        have R2 : Hid (Rw gl 2 102 w2 g cap ds) := ⟨HW.out.sh.block (hB.block g HW.out.sh.lt), HW.out.len, HW.out.max, HW.out.at'.block (hB.block g HW.out.sh.lt)⟩
        have c0 := R2.out.at' i (by omega) 0 _ rfl
        have c1 := R2.out.at' i (by omega) 1 _ rfl
        simp only [Nat.zero_add, Nat.add_zero] at c0 c1
        have f0 := R2.out.sh.free (i * 2)
        have f1 := R2.out.sh.free (i * 2 + 1)
        have S2 : Hid (Ra gl 2 (w2.setCells g (0 + i * 2) (gl cs[j])) g 0 (ds.set i cs[j])) := R2.out.at'.set gl_len i cs[j] (fun r hr => R2.out.sh.some _ (by have := R2.out.len; omega))
        rw [Nat.zero_add] at S2
        have S3 : Hid (Fr (fun b => b = g) w (w2.setCells g (i * 2) (gl cs[j]))) := Fr.setCells (D := fun b => b = g) (.inl rfl) _ _ _ (HF.out.below hB)
        have S4 : Hid (Sh (w2.setCells g (i * 2) (gl cs[j])) g 102 (cap * 2)) := Sh.setCells _ _ _ R2.out.sh
        clear q0 q1 hcall hnew hb2 hB HW htw
        go_wp2
        go_roundw
        case rel => exact ⟨i + 1, j + 1, ds.set i cs[j], by go_num, by go_num, HD.out.keep hlt hq, ⟨S4.out, by simpa using R2.out.len, R2.out.max, S2.out⟩, S3.out⟩
        case measure => simp [intOf]; omega
    · have hjn' : j = cs.length := by omega
      subst hjn'
      have D2 : Hid (ds.take i = cs.filter (fun c => !decide (c.a = tx)) ∧ i = (cs.filter fun c => !decide (c.a = tx)).length) := HD.out.done
      have hcl : ∀ ty c, ∃ vs : List Value, (Builtin.clear_ #[83] ty #[.slice (some ⟨g, i * 2, none⟩) (cs.length - i) c]).run Try.prog wr = .ok (.tuple #[]) (wr.setCells g (i * 2) vs) := fun ty c => clear_grants wr ty g i cs.length c cap HW.out.sh hij hlen
      obtain ⟨vs, hvs⟩ := hcl 0 (cap - i)
      have hcl2 : ∀ ty, (Builtin.clear_ #[83] ty #[.slice (some ⟨g, i * 2, none⟩) (cs.length - i) (cap - i)]).run Try.prog wr = .ok (.tuple #[]) (wr.setCells g (i * 2) vs) := fun ty => hvs
      have his : (i : Int) ≤ (cs.length : Int) := by omega
      have hic : ¬ (cap = i) := by omega
      clear hcl hvs htw
      go_wp2
      go_ret
      obtain ⟨d1, d2⟩ := D2.out
      have A1 := (HW.out.at'.take i).ahead gl_len (i * 2) vs (by rw [List.length_take]; omega)
      rw [d1] at A1
      exact ⟨by rw [show cs.filter (notTxG tx) = cs.filter (fun c => !decide (c.a = tx)) from rfl, ← d2]; rfl, ⟨Sh.setCells _ _ _ HW.out.sh, by rw [show cs.filter (notTxG tx) = cs.filter (fun c => !decide (c.a = tx)) from rfl, ← d2]; omega, HW.out.max, A1⟩, Fr.setCells (D := fun b => b = g) (.inl rfl) _ _ _ HF.out⟩

set_option maxHeartbeats 1000000 in
theorem deleteG_miss (tb : Nat) (tx : Int) (ao : Option Addr) (cap : Nat) (cs : List G) (w : World) (hr : Rd gl 2 w ao cs) (hn : cs.length ≤ 1000) (htb : w.cell? ⟨tb, 0, none⟩ = some (.int .i64 tx)) (e1 : ix (fun c : G => decide (c.a = tx)) cs = -1) :
    Calls Try.prog 54 #[.slice ao cs.length cap, .func (.func 53) #[] #[.pointer (some ⟨tb, 0, none⟩)]] w fun e w' => e = .returned (.slice ao cs.length cap) ∧ Below w.heap.size w w' := by
  have hI := indexG_any _ _ _ _ eg_take1 ao cap cs w hr hn (pred_take (tx := tx) htb)
  rw [e1] at hI
  clear e1
  go_enter Try.func54, Try.ntmps54
  go_wp2_with (go_at_call 74; refine hI.mono ?_; rintro e w1 ⟨rfl, hb1⟩)
  go_ret
  exact ⟨rfl, hb1⟩

/-- Deleted from a row of one's own. -/
theorem deleteG_own (tb : Nat) (tx : Int) (v : Value) (cs : List G) (w : World) (h : Own gl 2 102 w v cs) (hn : cs.length ≤ 1000) (htb : w.cell? ⟨tb, 0, none⟩ = some (.int .i64 tx)) (hne : v.ownBlock ≠ some tb) :
    Calls Try.prog 54 #[v, .func (.func 53) #[] #[.pointer (some ⟨tb, 0, none⟩)]] w fun e w' =>
      ∃ v', e = .returned v' ∧ v'.ownBlock = v.ownBlock ∧ Own gl 2 102 w' v' (cs.filter (notTxG tx)) ∧ Fr (fun b => v.ownBlock = some b) w w' := by
  rcases ix_spec (fun c : G => decide (c.a = tx)) cs with ⟨e1, hall⟩ | ⟨k, hk, e1, ht, hall⟩
  · have hf : cs.filter (notTxG tx) = cs := List.filter_eq_self.2 fun c hc => by unfold notTxG; rw [hall c hc]; rfl
    obtain ⟨ao, cap, rfl, hr, _, _⟩ := h.rd gl_len
    refine (deleteG_miss tb tx ao cap cs w hr hn htb e1).mono ?_
    rintro e w' ⟨rfl, hb⟩
    exact ⟨_, rfl, rfl, by rw [hf]; exact h.block fun g hg => hb.block g (h.lt hg), Fr.of_below hb⟩
  · rcases h.cases gl_len with ⟨rfl, rfl⟩ | ⟨g, cap, rfl, hr⟩
    · simp at hk
    · refine (deleteG_hit tb tx g cap cs w hr hn htb (fun e => hne (by rw [e]; rfl)) k hk e1 ht hall).mono ?_
      rintro e w' ⟨rfl, hr', hf⟩
      exact ⟨_, rfl, rfl, hr'.own gl_len (by omega), hf.mono fun b _ e => by rw [e]; rfl⟩
end Go.Proofs.Ytlagmbieaicmgaa
