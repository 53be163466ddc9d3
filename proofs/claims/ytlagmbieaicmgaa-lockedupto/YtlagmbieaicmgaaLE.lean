/- Tables of locks: slices.DeleteFunc over claims; strip. -/
import Derived.Test.YtlagmbieaicmgaaLD
namespace Go.Proofs.Ytlagmbieaicmgaa
open Go.RowKit Lk

section
variable {α : Type}
/-- What is so far: the kept ones of the first j, some rest, what stands from j on. -/
def Dl (p : α → Bool) (cs ds : List α) (i j : Nat) : Prop :=
  ∃ B : List α, ds = (cs.take j).filter (fun c => !p c) ++ B ++ cs.drop j ∧ ((cs.take j).filter fun c => !p c).length = i ∧ i + B.length = j ∧ 0 < B.length ∧ j ≤ cs.length
theorem take_next {cs : List α} {j : Nat} (h : j < cs.length) : cs.take (j + 1) = cs.take j ++ [cs[j]] := by simp [List.take_append_getElem]
theorem Dl.start {p : α → Bool} {cs : List α} {k : Nat} (hk : k < cs.length) (h1 : p cs[k] = true) (h0 : ∀ j (h : j < cs.length), j < k → p cs[j] = false) : Dl p cs cs k (k + 1) := by
  have e : (cs.take (k + 1)).filter (fun c => !p c) = cs.take k := by
    rw [take_next hk, List.filter_append, List.filter_eq_self.2, List.filter_cons_of_neg (by simp [h1])]
    · simp
    · intro x hx
      obtain ⟨j, hj, rfl⟩ := List.getElem_of_mem hx
      rw [List.length_take] at hj
      rw [List.getElem_take, h0 j (by omega) (by omega)]; rfl
  refine ⟨[cs[k]], ?_, by rw [e]; simp; omega, by simp, by simp, hk⟩
  rw [e, ← take_next hk, List.take_append_drop]
theorem Dl.keep {p : α → Bool} {cs ds : List α} {i j : Nat} (h : Dl p cs ds i j) (hj : j < cs.length) (hp : p cs[j] = false) : Dl p cs (ds.set i cs[j]) (i + 1) (j + 1) := by
  obtain ⟨B, rfl, hl, hb, hB, _⟩ := h
  match B, hB, hb with
  | b :: B', _, hb =>
    have e : (cs.take (j + 1)).filter (fun c => !p c) = (cs.take j).filter (fun c => !p c) ++ [cs[j]] := by
      rw [take_next hj, List.filter_append, List.filter_cons_of_pos (by simp [hp])]; simp
    refine ⟨B' ++ [cs[j]], ?_, by rw [e]; simp [hl], by simp at hb ⊢; omega, by simp, hj⟩
    rw [e, List.drop_eq_getElem_cons hj, List.append_assoc, List.set_append_right _ _ (by omega), hl, Nat.sub_self]
    simp
theorem Dl.skip {p : α → Bool} {cs ds : List α} {i j : Nat} (h : Dl p cs ds i j) (hj : j < cs.length) (hp : p cs[j] = true) : Dl p cs ds i (j + 1) := by
  obtain ⟨B, rfl, hl, hb, hB, _⟩ := h
  have e : (cs.take (j + 1)).filter (fun c => !p c) = (cs.take j).filter (fun c => !p c) := by
    rw [take_next hj, List.filter_append, List.filter_cons_of_neg (by simp [hp])]; simp
  refine ⟨B ++ [cs[j]], ?_, by rw [e]; exact hl, by simp; omega, by simp, hj⟩
  rw [e, List.drop_eq_getElem_cons hj]; simp
theorem Dl.len {p : α → Bool} {cs ds : List α} {i j : Nat} (h : Dl p cs ds i j) : ds.length = cs.length ∧ i < j ∧ j ≤ cs.length := by
  obtain ⟨B, rfl, hl, hb, hB, hj⟩ := h
  refine ⟨?_, by omega, hj⟩
  rw [List.length_append, List.length_append, List.length_drop, hl]; omega
theorem Dl.at {p : α → Bool} {cs ds : List α} {i j : Nat} (h : Dl p cs ds i j) (hj : j < cs.length) (hj' : j < ds.length) : ds[j] = cs[j] := by
  obtain ⟨B, rfl, hl, hb, hB, _⟩ := h
  have : ((cs.take j).filter (fun c => !p c) ++ B).length = j := by rw [List.length_append, hl, hb]
  rw [List.getElem_append_right (by omega)]
  simp [this]
theorem Dl.done {p : α → Bool} {cs ds : List α} {i : Nat} (h : Dl p cs ds i cs.length) : ds.take i = cs.filter (fun c => !p c) ∧ i = (cs.filter fun c => !p c).length := by
  obtain ⟨B, rfl, hl, hb, hB, _⟩ := h
  rw [List.take_length] at hl ⊢
  exact ⟨by rw [List.append_assoc, ← hl, List.take_left], hl.symm⟩
end

theorem zeros_len (z : Array Value) (n : Nat) : (Builtin.zeroCells z n).toList.length = n * z.size := by simp [Builtin.zeroCells]

theorem run_clear {P : Program} (w : World) (t e ty : TypeId) (z : Value) (ht : P.underlying t = some (.slice e)) (hv : ∀ w, (zeroValue e).run P w = .ok z w) (b o n c : Nat) (hn : 0 < n) (hz1 : ∀ v ∈ (Builtin.zeroCells z.cells n).toList, v.oneCell' = true)
    (hc : ∀ j, j < n * z.cells.size → (w.cell? ⟨b, o + j, none⟩).isSome = true) (hf : ∀ j, j < n * z.cells.size → w.frozen? ⟨b, o + j, none⟩ = false) :
    (Builtin.clear_ #[t] ty #[.slice (some ⟨b, o, none⟩) n c]).run P w = .ok (.tuple #[]) (w.setCells b o (Builtin.zeroCells z.cells n).toList) := by
  have hl := zeros_len z.cells n
  have hst := run_storeCells_cells (P := P) b o (Builtin.zeroCells z.cells n).toList 0 w (by rw [hl]; simpa using hc) (by rw [hl]; simpa using hf) hz1
  simp only [Nat.add_zero] at hst
  obtain ⟨m, rfl⟩ : ∃ m, n = m + 1 := ⟨n - 1, by omega⟩
  simp [Builtin.clear_, run_underlying ht, hv, hst]

theorem zeros_ones (z : Array Value) (n : Nat) (h : ∀ v ∈ z.toList, v.oneCell' = true) : ∀ v ∈ (Builtin.zeroCells z n).toList, v.oneCell' = true := by
  intro v hv
  simp [Builtin.zeroCells] at hv
  obtain ⟨i, hi, rfl⟩ := hv
  have hp : 0 < z.size := by
    rcases Nat.eq_zero_or_pos z.size with h0 | h0
    · rw [h0] at hi; simp at hi
    · exact h0
  have hm := Nat.mod_lt i hp
  rw [getElem!_pos z _ hm]
  exact h _ (by simp)

theorem clear_claims (w : World) (ty : TypeId) (g i n c cap : Nat) (hs : Sh w g 97 (cap * 3)) (hi : i < n) (hn : n ≤ cap) :
    ∃ vs : List Value, (Builtin.clear_ #[63] ty #[.slice (some ⟨g, i * 3, none⟩) (n - i) c]).run Try.prog w = .ok (.tuple #[]) (w.setCells g (i * 3) vs) :=
  ⟨_, run_clear w 63 97 ty (.agg #[.int .i64 0, .int .i64 0, .bool false]) Try.underlying63 (fun w => by kernel_rfl) g (i * 3) (n - i) c (by omega) (zeros_ones _ _ (by intro v hv; simp [Value.cells] at hv; rcases hv with rfl | rfl | rfl <;> rfl))
    (fun j hj => hs.some _ (by have : j < (n - i) * 3 := hj; omega)) (fun j hj => hs.free _)⟩

def notTx (tx : Int) (c : C) : Bool := !decide (c.tx = tx)

set_option maxHeartbeats 2000000 in
theorem delete_hit (tb : Nat) (tx : Int) (g cap : Nat) (cs : List C) (w : World) (hr : Rw cl 3 97 w g cap cs) (hn : cs.length ≤ 1000) (htb : w.cell? ⟨tb, 0, none⟩ = some (.int .i64 tx)) (hne : tb ≠ g)
    (k : Nat) (hk : k < cs.length) (e1 : ix (fun c : C => decide (c.tx = tx)) cs = k) (h1 : decide (cs[k].tx = tx) = true) (h0 : ∀ j (h : j < cs.length), j < k → decide (cs[j].tx = tx) = false) :
    Calls Try.prog 80 #[.slice (some ⟨g, 0, none⟩) cs.length cap, .func (.func 79) #[] #[.pointer (some ⟨tb, 0, none⟩)]] w fun e w' =>
      e = .returned (.slice (some ⟨g, 0, none⟩) (cs.filter (notTx tx)).length cap) ∧ Rw cl 3 97 w' g cap (cs.filter (notTx tx)) ∧ Fr (fun b => b = g) w w' := by
  have hI := index_any _ _ _ _ eg_strip1 (some ⟨g, 0, none⟩) cap cs w (.inr ⟨g, 0, rfl, hr.sh.lt, hr.at'⟩) hn (pred_strip (tx := tx) htb)
  rw [e1] at hI
  have HS : Hid (Dl (fun c : C => decide (c.tx = tx)) cs cs k (k + 1)) := Dl.start hk h1 h0
  have HR : Hid (Rw cl 3 97 w g cap cs) := hr
  have hkk : ((k : Int) == -1) = false := beq_eq_false_iff_ne.2 (by omega)
  have hlen := hr.len
  have hmax := hr.max
  clear hr h0 h1 e1
  go_enter Try.func80, Try.ntmps80
  go_wp2_with (go_at_call 83; refine hI.mono ?_; rintro e w1 ⟨rfl, hb1⟩)
  go_loopw [5, 6, 7] (fun s5 s6 _ wr => ∃ (i j : Nat) (ds : List C), s5 = .int .i64 i ∧ s6 = .int .i64 j ∧ Hid (Dl (fun c : C => decide (c.tx = tx)) cs ds i j) ∧ Hid (Rw cl 3 97 wr g cap ds) ∧ Hid (Fr (fun b => b = g) w wr)) (fun _ s6 _ _ => cs.length - (intOf s6).toNat)
  case atStart => exact ⟨k, k + 1, cs, rfl, by go_num, HS, ⟨HR.out.sh.block (hb1.block g HR.out.sh.lt), HR.out.len, HR.out.max, HR.out.at'.block (hb1.block g HR.out.sh.lt)⟩, Fr.of_below hb1⟩
  case round =>
    obtain ⟨i, j, ds, rfl, rfl, HD, HW, HF⟩ := hrel
    obtain ⟨hdl, hij, hjn⟩ := HD.out.len
    have htw := HF.out.cell htb hne
    by_cases hlt : j < cs.length
    · have hat := HD.out.at hlt (by omega)
      have q0 := HW.out.at' j (by omega) 0 _ rfl
      have q1 := HW.out.at' j (by omega) 1 _ rfl
      have q2 := HW.out.at' j (by omega) 2 _ rfl
      rw [hat] at q0 q1 q2
      simp only [Nat.zero_add, Nat.add_zero] at q0 q1 q2
      have HP : Hid (∀ b, decide (cs[j].tx = tx) = b → b = decide (cs[j].tx = tx)) := fun b h => h.symm
      have hcall := strip1_any cs[j] tb tx (wr.alloc (.cells #[.int .i64 cs[j].tx, .int .i64 cs[j].key, .bool cs[j].wr] 97)) (Lib.cell?_alloc_some _ htw)
      have hjs : (j : Int) < (cs.length : Int) := by omega
      have his : (i : Int) < (cs.length : Int) := by omega
      cases hq : decide (cs[j].tx = tx) with
      | true =>
        rw [hq] at hcall
        go_wp2_with (go_at_call 79; refine hcall.mono ?_)
        rintro e w2 ⟨rfl, hb2⟩
        have hB := ((Below.refl wr.heap.size wr).alloc (Nat.le_refl _) (.cells #[.int .i64 cs[j].tx, .int .i64 cs[j].key, .bool cs[j].wr] 97)).trans (hb2.mono (by simp))
        go_wp2
        go_roundw
        case rel => exact ⟨i, j + 1, ds, rfl, by go_num, HD.out.skip hlt hq, ⟨HW.out.sh.block (hB.block g HW.out.sh.lt), HW.out.len, HW.out.max, HW.out.at'.block (hB.block g HW.out.sh.lt)⟩, HF.out.below hB⟩
        case measure => simp [intOf]; omega
      | false =>
        rw [hq] at hcall
        go_wp2_with (go_at_call 79; refine hcall.mono ?_)
        rintro e w2 ⟨rfl, hb2⟩
        have hB := ((Below.refl wr.heap.size wr).alloc (Nat.le_refl _) (.cells #[.int .i64 cs[j].tx, .int .i64 cs[j].key, .bool cs[j].wr] 97)).trans (hb2.mono (by simp))
        have hnew : ∀ r, w2.cell? ⟨wr.heap.size, r, none⟩ = (#[.int .i64 cs[j].tx, .int .i64 cs[j].key, .bool cs[j].wr] : Array Value)[r]? := fun r => (hb2.cell (p := ⟨wr.heap.size, r, none⟩) (by simp)).trans (cell_new _ _ _ _)
        have n0 := hnew 0
        have n1 := hnew 1
        have n2 := hnew 2
        simp at n0 n1 n2
        have R2 : Hid (Rw cl 3 97 w2 g cap ds) := ⟨HW.out.sh.block (hB.block g HW.out.sh.lt), HW.out.len, HW.out.max, HW.out.at'.block (hB.block g HW.out.sh.lt)⟩
        have c0 := R2.out.at' i (by omega) 0 _ rfl
        have c1 := R2.out.at' i (by omega) 1 _ rfl
        have c2 := R2.out.at' i (by omega) 2 _ rfl
        simp only [Nat.zero_add, Nat.add_zero] at c0 c1 c2
        have f0 := R2.out.sh.free (i * 3)
        have f1 := R2.out.sh.free (i * 3 + 1)
        have f2 := R2.out.sh.free (i * 3 + 2)
        have S2 : Hid (Ra cl 3 (w2.setCells g (0 + i * 3) (cl cs[j])) g 0 (ds.set i cs[j])) := R2.out.at'.set cl_len i cs[j] (fun r hr => R2.out.sh.some _ (by have := R2.out.len; omega))
        rw [Nat.zero_add] at S2
        have S3 : Hid (Fr (fun b => b = g) w (w2.setCells g (i * 3) (cl cs[j]))) := Fr.setCells (D := fun b => b = g) (.inl rfl) _ _ _ (HF.out.below hB)
        have S4 : Hid (Sh (w2.setCells g (i * 3) (cl cs[j])) g 97 (cap * 3)) := Sh.setCells _ _ _ R2.out.sh
        clear q0 q1 q2 hcall hnew hb2 hB HW htw
        go_wp2
        go_roundw
        case rel => exact ⟨i + 1, j + 1, ds.set i cs[j], by go_num, by go_num, HD.out.keep hlt hq, ⟨S4.out, by simpa using R2.out.len, R2.out.max, S2.out⟩, S3.out⟩
        case measure => simp [intOf]; omega
    · have hjn' : j = cs.length := by omega
      subst hjn'
      have D2 : Hid (ds.take i = cs.filter (fun c => !decide (c.tx = tx)) ∧ i = (cs.filter fun c => !decide (c.tx = tx)).length) := HD.out.done
      have hcl : ∀ ty c, ∃ vs : List Value, (Builtin.clear_ #[63] ty #[.slice (some ⟨g, i * 3, none⟩) (cs.length - i) c]).run Try.prog wr = .ok (.tuple #[]) (wr.setCells g (i * 3) vs) := fun ty c => clear_claims wr ty g i cs.length c cap HW.out.sh hij hlen
      obtain ⟨vs, hvs⟩ := hcl 0 (cap - i)
      have hcl2 : ∀ ty, (Builtin.clear_ #[63] ty #[.slice (some ⟨g, i * 3, none⟩) (cs.length - i) (cap - i)]).run Try.prog wr = .ok (.tuple #[]) (wr.setCells g (i * 3) vs) := fun ty => hvs
      have his : (i : Int) ≤ (cs.length : Int) := by omega
      have hic : ¬ (cap = i) := by omega
      clear hcl hvs htw
      go_wp2
      go_ret
      obtain ⟨d1, d2⟩ := D2.out
      have A1 := (HW.out.at'.take i).ahead cl_len (i * 3) vs (by rw [List.length_take]; omega)
      rw [d1] at A1
      exact ⟨by rw [show cs.filter (notTx tx) = cs.filter (fun c => !decide (c.tx = tx)) from rfl, ← d2]; rfl, ⟨Sh.setCells _ _ _ HW.out.sh, by rw [show cs.filter (notTx tx) = cs.filter (fun c => !decide (c.tx = tx)) from rfl, ← d2]; omega, HW.out.max, A1⟩, Fr.setCells (D := fun b => b = g) (.inl rfl) _ _ _ HF.out⟩

set_option maxHeartbeats 1000000 in
theorem delete_miss (tb : Nat) (tx : Int) (ao : Option Addr) (cap : Nat) (cs : List C) (w : World) (hr : Rd cl 3 w ao cs) (hn : cs.length ≤ 1000) (htb : w.cell? ⟨tb, 0, none⟩ = some (.int .i64 tx)) (e1 : ix (fun c : C => decide (c.tx = tx)) cs = -1) :
    Calls Try.prog 80 #[.slice ao cs.length cap, .func (.func 79) #[] #[.pointer (some ⟨tb, 0, none⟩)]] w fun e w' => e = .returned (.slice ao cs.length cap) ∧ Below w.heap.size w w' := by
  have hI := index_any _ _ _ _ eg_strip1 ao cap cs w hr hn (pred_strip (tx := tx) htb)
  rw [e1] at hI
  clear e1
  go_enter Try.func80, Try.ntmps80
  go_wp2_with (go_at_call 83; refine hI.mono ?_; rintro e w1 ⟨rfl, hb1⟩)
  go_ret
  exact ⟨rfl, hb1⟩

/-- Deleted from a row of one's own. -/
theorem delete_own (tb : Nat) (tx : Int) (v : Value) (cs : List C) (w : World) (h : Own cl 3 97 w v cs) (hn : cs.length ≤ 1000) (htb : w.cell? ⟨tb, 0, none⟩ = some (.int .i64 tx)) (hne : v.ownBlock ≠ some tb) :
    Calls Try.prog 80 #[v, .func (.func 79) #[] #[.pointer (some ⟨tb, 0, none⟩)]] w fun e w' =>
      ∃ v', e = .returned v' ∧ v'.ownBlock = v.ownBlock ∧ Own cl 3 97 w' v' (cs.filter (notTx tx)) ∧ Fr (fun b => v.ownBlock = some b) w w' := by
  rcases ix_spec (fun c : C => decide (c.tx = tx)) cs with ⟨e1, hall⟩ | ⟨k, hk, e1, ht, hall⟩
  · have hf : cs.filter (notTx tx) = cs := List.filter_eq_self.2 fun c hc => by unfold notTx; rw [hall c hc]; rfl
    obtain ⟨ao, cap, rfl, hr, _, _⟩ := h.rd cl_len
    refine (delete_miss tb tx ao cap cs w hr hn htb e1).mono ?_
    rintro e w' ⟨rfl, hb⟩
    exact ⟨_, rfl, rfl, by rw [hf]; exact h.block fun g hg => hb.block g (h.lt hg), Fr.of_below hb⟩
  · rcases h.cases cl_len with ⟨rfl, rfl⟩ | ⟨g, cap, rfl, hr⟩
    · simp at hk
    · refine (delete_hit tb tx g cap cs w hr hn htb (fun e => hne (by rw [e]; rfl)) k hk e1 ht hall).mono ?_
      rintro e w' ⟨rfl, hr', hf⟩
      exact ⟨_, rfl, rfl, hr'.own cl_len (by omega), hf.mono fun b _ e => by rw [e]; rfl⟩
end Go.Proofs.Ytlagmbieaicmgaa
