/- Tables of locks: slices.Grow and slices.Concat over claims. -/
import Derived.Test.YtlagmbieaicmgaaLS
import Derived.OwnWalk
namespace Go.Proofs.Ytlagmbieaicmgaa
open Go.RowKit Lk Go.Shelf

set_option maxHeartbeats 2000000 in
theorem grow_any (n : Nat) (w : World) (h0 : 0 < n) (hn : n ≤ 10000) :
    Calls Try.prog 91 #[.slice none 0 0, .int .i64 n] w fun e w' =>
      ∃ G, e = .returned (.slice (some ⟨w.heap.size, 0, none⟩) 0 G) ∧ n ≤ G ∧ Own cl 3 97 w' (.slice (some ⟨w.heap.size, 0, none⟩) 0 G) [] ∧ Below w.heap.size w w' := by
  obtain ⟨i0, hi0, hz0, hzs, hzb⟩ := claim_info
  have hold : (Builtin.firstCells i0.size 0 (.slice none 0 0)).run Try.prog w.drew = .ok ([] : List Value).toArray w.drew := by rw [hzs]; rfl
  obtain ⟨G, hG⟩ : ∃ G, G = grownCap w n 0 97 := ⟨_, rfl⟩
  obtain ⟨ROW, hROW⟩ : ∃ ROW : Array Value, ROW = ([] : List Value).toArray ++ Builtin.zeroCells (Value.agg #[.int .i64 0, .int .i64 0, .bool false]).cells n ++ Builtin.zeroCells (Value.agg #[.int .i64 0, .int .i64 0, .bool false]).cells (G - n) := ⟨_, rfl⟩
  have hrz : ∀ ty, (Builtin.append_ #[63, 3] ty #[.slice none 0 0, .int .i64 n]).run Try.prog w = .ok (.slice (some ⟨w.heap.size, 0, none⟩) n G) (w.drew.alloc (.cells ROW 97)) := fun ty => by
    have h := Lib.run_append_grow_zeros w 63 3 ty 97 i0 _ .i64 .i64 Try.underlying63 Try.underlying3 hi0 hz0 none 0 0 [] hold n (by omega) (by omega) (by omega) (by omega) (by rw [hzb]; omega) (by rw [hzb, Nat.zero_add]; exact growslice_fits (by omega) (by omega))
    rw [Nat.zero_add, ← hG, ← hROW] at h
    exact h
  have hGn : n ≤ G := by rw [hG]; exact grownCap_ge w _ _ _
  have hGm : G ≤ maxLen := by rw [hG]; exact grownCap_le_maxLen w n 0 97 (by unfold maxLen; omega)
  have hRs : ROW.size = G * 3 := by
    rw [hROW]
    have z3 : (Value.agg #[.int .i64 0, .int .i64 0, .bool false]).cells.size = 3 := rfl
    simp only [Array.size_append, List.size_toArray, List.length_nil, Builtin.zeroCells, Array.size_map, Array.size_range, z3]
    omega
  have FIN : Hid (Own cl 3 97 (w.drew.alloc (.cells ROW 97)) (.slice (some ⟨w.heap.size, 0, none⟩) 0 G) [] ∧ Below w.heap.size w (w.drew.alloc (.cells ROW 97))) := by
    refine ⟨Rw.own (xs := []) cl_len (by omega) ⟨⟨_, heap_new w.drew _, hRs⟩, Nat.zero_le _, hGm, Ra.nil⟩, ?_⟩
    exact ⟨rfl, rfl, rfl, by simp, fun k hk => Below.heap_alloc w.drew _ k hk⟩
  have hni : (0 : Int) < (n : Int) := by omega
  have hn0 : ¬ ((n : Int) < 0) := by omega
  have hGz : ¬ (G = 0) := by omega
  have hHG : Hid (n ≤ G) := hGn
  clear hold hROW hG hRs hzb hzs hz0 hi0 hGm
  go_enter Try.func91, Try.ntmps91
  go_wp2_with (at_builtin; refine Lib.wpList_append_run _ rfl _ _ _ _ rfl _ _ rfl rfl _ _ (hrz _) ?_)
  go_ret
  exact ⟨G, rfl, hHG.out, FIN.out⟩

/-- What Concat asks of a list. -/
structure Cat (w : World) (ao : Option Addr) (c : Nat) (xs : List C) : Prop where
  rd : Rd cl 3 w ao xs
  cap : ao = none → c = 0
theorem Cat.below {w w' : World} {ao : Option Addr} {c : Nat} {xs : List C} (h : Cat w ao c xs) (hb : Below w.heap.size w w') : Cat w' ao c xs := ⟨h.rd.below hb, h.cap⟩
theorem Cat.none' {w : World} {ao : Option Addr} {c : Nat} {xs : List C} (h : Cat w ao c xs) : ao = none → xs.length = 0 ∧ c = 0 := fun e => by
  refine ⟨?_, h.cap e⟩
  rcases h.rd with h | ⟨b, off, h1, _⟩
  · rw [h]; rfl
  · rw [e] at h1; cases h1
theorem Cat.cells {w : World} {ao : Option Addr} {c : Nat} {xs : List C} (h : Cat w ao c xs) : ∀ ad, ao = some ad → ∀ j u, (fl cl xs)[j]? = some u → w.cell? (ad.add j) = some u := fun ad e j u hu => by
  rcases h.rd with rfl | ⟨b, off, h1, _, h3⟩
  · simp [fl] at hu
  · rw [e] at h1; injection h1 with h1; subst h1
    rw [Addr.add_lit]; exact h3.fl cl_len (by omega) j u hu

/-- Appended onto a row with room. -/
theorem app_fits (w : World) {ops : Array Oper} {rest : List Oper} {o : Oper} {a : Act} {Q : Exit → Act → World → Prop} (hgd : o.guard = none) (s x : Operand) (ho : o.op = .call { callee := .builtin .append, args := #[s, x], argTypes := #[63, 63] })
    (g cap : Nat) (xs ys : List C) (k m : Nat) (hk : k = xs.length) (hm : m = ys.length) (hs : a.eval s = .slice (some ⟨g, 0, none⟩) k cap) (hown : Own cl 3 97 w (.slice (some ⟨g, 0, none⟩) k cap) xs) (ao : Option Addr) (c : Nat) (hx : a.eval x = .slice ao m c) (hc : Cat w ao c ys) (hroom : k + m ≤ cap)
    (h : ∀ w', Own cl 3 97 w' (.slice (some ⟨g, 0, none⟩) (k + m) cap) (xs ++ ys) → w.grownBy w' (some g) → wpList Try.prog ops Q rest (a.put o.dst (.slice (some ⟨g, 0, none⟩) (k + m) cap)) w') : wpList Try.prog ops Q (o :: rest) a w := by
  subst hk; subst hm
  obtain ⟨i0, hi0, hz0, hzs, hzb⟩ := claim_info
  refine wpList_append_fits_any w hgd s x 63 ho 0 97 i0 3 Try.underlying63 hi0 hzs g xs.length cap (fl cl xs) hs hown ao ys.length c (fl cl ys) hx (fl_length cl_len ys) hc.none' hc.cells (c_ones ys) hroom fun w' h1 h2 => h w' ?_ h2
  unfold Own
  rw [fl_append, List.length_append]; exact h1

set_option maxHeartbeats 4000000 in
theorem concat_some (B : Nat) (a1 a2 : Option Addr) (c1 c2 : Nat) (xs ys : List C) (w : World) (hB : w.heap[B]? = some (.cells #[.slice a1 xs.length c1, .slice a2 ys.length c2] 63 (0, 0))) (h1 : Cat w a1 c1 xs) (h2 : Cat w a2 c2 ys) (hn1 : xs.length ≤ 1000) (hn2 : ys.length ≤ 1000) (hpos : 0 < xs.length + ys.length) :
    Calls Try.prog 81 #[.slice (some ⟨B, 0, none⟩) 2 2] w fun e w' => ∃ v, e = .returned v ∧ Own cl 3 97 w' v (xs ++ ys) ∧ Below w.heap.size w w' := by
  have hBl : B < w.heap.size := (Array.getElem?_eq_some_iff.1 hB).1
  have p0 : w.cell? ⟨B, 0, none⟩ = some (.slice a1 xs.length c1) := by rw [cell_of_heap hB]; rfl
  have p1 : w.cell? ⟨B, 1, none⟩ = some (.slice a2 ys.length c2) := by rw [cell_of_heap hB]; rfl
  obtain ⟨n1, e1⟩ : ∃ n, n = xs.length := ⟨_, rfl⟩
  obtain ⟨n2, e2⟩ : ∃ n, n = ys.length := ⟨_, rfl⟩
  have N1 : Hid (n1 = xs.length) := e1
  have N2 : Hid (n2 = ys.length) := e2
  rw [← e1] at p0 hn1 hpos
  rw [← e2] at p1 hn2 hpos
  have C1 : Hid (Cat w a1 c1 xs) := h1
  have C2 : Hid (Cat w a2 c2 ys) := h2
  clear hB e1 e2 h1 h2
  have hw1 : IntKind.i64.wrap ((n1 : Int) + (n2 : Int)) = (n1 : Int) + (n2 : Int) := by rw [IntKind.wrap_i64]; omega
  have hneg : ¬ ((n1 : Int) + (n2 : Int) < 0) := by omega
  have hneg1 : ¬ ((n1 : Int) < 0) := by omega
  have hgr := grow_any (n1 + n2) w (by omega) (by omega)
  rw [show (((n1 + n2 : Nat) : Int)) = (n1 : Int) + (n2 : Int) by omega] at hgr
  go_enter Try.func81, Try.ntmps81
  go_wp2
  refine wp_loop_rounds 3 ?_
  rw [rounds_succ]
  go_wp2
  rw [rounds_succ]
  go_wp2
  rw [rounds_succ]
  go_wp2_with fail
  refine hgr.mono ?_
  rintro e w1 ⟨G, rfl, hG, own1, hb1⟩
  have BW1 : Hid (Below w.heap.size w w1) := hb1
  have OW1 : Hid (Own cl 3 97 w1 (.slice (some ⟨w.heap.size, 0, none⟩) 0 G) []) := own1
  have r0 : w1.cell? ⟨B, 0, none⟩ = some (.slice a1 n1 c1) := (hb1.cell (p := ⟨B, 0, none⟩) hBl).trans p0
  have r1 : w1.cell? ⟨B, 1, none⟩ = some (.slice a2 n2 c2) := (hb1.cell (p := ⟨B, 1, none⟩) hBl).trans p1
  clear hgr p0 p1 own1 hb1
  go_wp2
  refine wp_loop_rounds 3 ?_
  rw [rounds_succ]
  go_wp2_with (at_builtin; refine app_fits _ rfl _ _ rfl w.heap.size G [] xs 0 n1 rfl N1.out rfl OW1.out a1 c1 rfl (C1.out.below BW1.out) (by omega) ?_)
  intro w2 own2 hg2
  have BW2 : Hid (Below w.heap.size w w2) := by
    have b := BW1.out
    exact ⟨hg2.os.trans b.os, hg2.tape.trans b.tape, hg2.output.trans b.output, Nat.le_trans b.size hg2.size, fun k hk => (hg2.block k (Nat.lt_of_lt_of_le hk b.size) (by intro e; injection e with e; omega)).trans (b.block k hk)⟩
  have OW2 : Hid (Own cl 3 97 w2 (.slice (some ⟨w.heap.size, 0, none⟩) n1 G) xs) := own2
  have r2 : w2.cell? ⟨B, 1, none⟩ = some (.slice a2 n2 c2) := hg2.cell r1 (by intro e; injection e with e; have e' : B = w.heap.size := e; omega)
  clear own2 hg2 r0 r1
  go_wp2
  rw [rounds_succ]
  go_wp2_with (at_builtin; refine app_fits _ rfl _ _ rfl w.heap.size G xs ys n1 n2 N1.out N2.out rfl OW2.out a2 c2 rfl (C2.out.below BW2.out) (by omega) ?_)
  intro w3 own3 hg3
  have BW3 : Hid (Below w.heap.size w w3) := by
    have b := BW2.out
    exact ⟨hg3.os.trans b.os, hg3.tape.trans b.tape, hg3.output.trans b.output, Nat.le_trans b.size hg3.size, fun k hk => (hg3.block k (Nat.lt_of_lt_of_le hk b.size) (by intro e; injection e with e; omega)).trans (b.block k hk)⟩
  have OW3 : Hid (Own cl 3 97 w3 (.slice (some ⟨w.heap.size, 0, none⟩) (n1 + n2) G) (xs ++ ys)) := own3
  clear own3 hg3 r2
  go_wp2
  rw [rounds_succ]
  go_wp2
  go_ret
  exact ⟨_, rfl, OW3.out, BW3.out⟩

set_option maxHeartbeats 1000000 in
theorem grow_zero (w : World) : Calls Try.prog 91 #[.slice none 0 0, .int .i64 0] w fun e w' => e = .returned (.slice none 0 0) ∧ w' = w := by
  go_enter Try.func91, Try.ntmps91
  go_wp2
  go_ret
  exact ⟨rfl, rfl⟩

theorem app_zero (w : World) (ty : TypeId) (ao : Option Addr) (c : Nat) : (Builtin.append_ #[63, 63] ty #[.slice none 0 0, .slice ao 0 c]).run Try.prog w = .ok (.slice none 0 0) w := by
  obtain ⟨i0, hi0, hz0, hzs, hzb⟩ := claim_info
  have hl : ∀ (x : Addr), (loadCells x 0).run Try.prog w = .ok #[] w := fun x => by simpa using run_loadCells_list (P := Try.prog) w x [] (by simp)
  cases ao <;> simp [Builtin.append_, run_underlying Try.underlying63, Builtin.lenOf, Builtin.firstCells, sizeOf, typeInfo, hi0, hl]

set_option maxHeartbeats 4000000 in
theorem concat_none (B : Nat) (a1 a2 : Option Addr) (c1 c2 : Nat) (w : World) (hB : w.heap[B]? = some (.cells #[.slice a1 0 c1, .slice a2 0 c2] 63 (0, 0))) :
    Calls Try.prog 81 #[.slice (some ⟨B, 0, none⟩) 2 2] w fun e w' => e = .returned (.slice none 0 0) ∧ w' = w := by
  have p0 : w.cell? ⟨B, 0, none⟩ = some (.slice a1 0 c1) := by rw [cell_of_heap hB]; rfl
  have p1 : w.cell? ⟨B, 1, none⟩ = some (.slice a2 0 c2) := by rw [cell_of_heap hB]; rfl
  clear hB
  go_enter Try.func81, Try.ntmps81
  go_wp2
  refine wp_loop_rounds 3 ?_
  rw [rounds_succ]
  go_wp2
  rw [rounds_succ]
  go_wp2
  rw [rounds_succ]
  go_wp2_with (go_at_call 91; refine (grow_zero w).mono ?_; rintro e w1 ⟨rfl, rfl⟩)
  refine wp_loop_rounds 3 ?_
  rw [rounds_succ]
  go_wp2_with (at_builtin; refine Lib.wpList_append_run _ rfl _ _ _ _ rfl _ _ rfl rfl _ _ (app_zero _ _ _ _) ?_)
  rw [rounds_succ]
  go_wp2_with (at_builtin; refine Lib.wpList_append_run _ rfl _ _ _ _ rfl _ _ rfl rfl _ _ (app_zero _ _ _ _) ?_)
  rw [rounds_succ]
  go_wp2
  go_ret
  exact ⟨rfl, rfl⟩

theorem concat_any (B : Nat) (a1 a2 : Option Addr) (c1 c2 : Nat) (xs ys : List C) (w : World) (hB : w.heap[B]? = some (.cells #[.slice a1 xs.length c1, .slice a2 ys.length c2] 63 (0, 0))) (h1 : Cat w a1 c1 xs) (h2 : Cat w a2 c2 ys) (hn1 : xs.length ≤ 1000) (hn2 : ys.length ≤ 1000) :
    Calls Try.prog 81 #[.slice (some ⟨B, 0, none⟩) 2 2] w fun e w' => ∃ v, e = .returned v ∧ Own cl 3 97 w' v (xs ++ ys) ∧ Below w.heap.size w w' := by
  by_cases hp : 0 < xs.length + ys.length
  · exact concat_some B a1 a2 c1 c2 xs ys w hB h1 h2 hn1 hn2 hp
  · have e1 : xs = [] := List.length_eq_zero_iff.1 (by omega)
    have e2 : ys = [] := List.length_eq_zero_iff.1 (by omega)
    subst e1; subst e2
    refine (concat_none B a1 a2 c1 c2 w hB).mono ?_
    rintro e w' ⟨rfl, rfl⟩
    exact ⟨_, rfl, Own.nil _ _ _ _, Below.refl _ _⟩
end Go.Proofs.Ytlagmbieaicmgaa
