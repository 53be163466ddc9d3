/-
  For every two numbers and every script of asks of bulk at most 1048576: Locked returns true (two tables of locks of these sizes, and a nil one, asked by turns, answer each step as the document's own table does; the lists that come out stay their owner's), and its arguments read as they did.
  Conditions: the arguments together hold at most 1048576 values (the form's 'uptoBulk').
-/
import Derived.Test.YtlagmbieaicmgaaRows
import Derived.Test.YtlagmbieaicmgaaQW
import Derived.WalkKit
import Derived.ProofKit
import Derived.OpenShut
import Derived.SizedLaws
import Derived.JoinedCond
import Derived.Deep.Slices
namespace Go.Proofs.Ytlagmbieaicmgaa
open Go.ChangeShapes Go.WideShapes Go.ChangeAt Go.RowKit Go.Deep Lk
namespace lockedUp

theorem cellsI : Try.prog.cellsOf 3 = 1 := by kernel_rfl
theorem cellsB : Try.prog.cellsOf 4 = 1 := by kernel_rfl
theorem cellsA : Try.prog.cellsOf 39 = 5 := by kernel_rfl

theorem one_le {H : Type} (d : DataW H) : 1 ≤ Rows.uptoBulk d := by
  cases d with
  | lit l => cases l <;> simp [Rows.uptoBulk]
  | nil => simp [Rows.uptoBulk]
  | ptr d => simp [Rows.uptoBulk]
  | slice elems spare => simp [Rows.uptoBulk]
  | agg parts => simp [Rows.uptoBulk]
  | iface t d => simp [Rows.uptoBulk]
  | map entries => simp [Rows.uptoBulk]
  | held h => simp [Rows.uptoBulk]
theorem length_le {H : Type} (l : List (DataW H)) : l.length ≤ Rows.uptoBulkAll l := by
  induction l with
  | nil => simp [Rows.uptoBulkAll]
  | cons x r ih => have := one_le x; simp only [Rows.uptoBulkAll, List.length_cons]; omega

theorem list5 {l : List Value} (h : l.length = 5) : ∃ c0 c1 c2 c3 c4, l = [c0, c1, c2, c3, c4] := by
  match l, h with
  | [c0, c1, c2, c3, c4], _ => exact ⟨c0, c1, c2, c3, c4, rfl⟩
theorem add_addr (b off n : Nat) : (⟨b, off, none⟩ : Addr).add n = ⟨b, off + n, none⟩ := by
  unfold Addr.add
  split
  · rename_i h; subst h; rfl
  · rfl

def QIn (q : Q5) : Prop := -9223372036854775808 ≤ q.tb ∧ q.tb < 9223372036854775808

section
variable {H : Type} {enc : TypeId × Value → H} {w : World} {base : Nat} {sp : Nat → Bool} {held : Bool}

theorem open_ask {n : Nat} {cs : List Value} {x : DataW H × List MemPlace} (h : DataW.trod enc Try.prog w base sp held n 39 cs = some x) :
    ∃ q : Q5, cs = q5l q ∧ QIn q := by
  obtain ⟨xs, m, _, _, hl, hxl, hf⟩ := DataW.trod_struct Try.underlying39 h
  rw [cellsA] at hl
  obtain ⟨c0, c1, c2, c3, c4, rfl⟩ := list5 hl
  have hx : xs.length = 5 := hxl
  have f0 : DataW.trod enc Try.prog w base sp held m 3 (([c0, c1, c2, c3, c4].drop 0).take (Try.prog.cellsOf 3)) = xs[0]? := hf 0 _ rfl
  have f1 : DataW.trod enc Try.prog w base sp held m 3 (([c0, c1, c2, c3, c4].drop 1).take (Try.prog.cellsOf 3)) = xs[1]? := hf 1 _ rfl
  have f2 : DataW.trod enc Try.prog w base sp held m 3 (([c0, c1, c2, c3, c4].drop 2).take (Try.prog.cellsOf 3)) = xs[2]? := hf 2 _ rfl
  have f3 : DataW.trod enc Try.prog w base sp held m 3 (([c0, c1, c2, c3, c4].drop 3).take (Try.prog.cellsOf 3)) = xs[3]? := hf 3 _ rfl
  have f4 : DataW.trod enc Try.prog w base sp held m 4 (([c0, c1, c2, c3, c4].drop 4).take (Try.prog.cellsOf 4)) = xs[4]? := hf 4 _ rfl
  rw [cellsI] at f0 f1 f2 f3
  rw [cellsB] at f4
  rw [List.getElem?_eq_getElem (by omega)] at f0 f1 f2 f3 f4
  obtain ⟨a, e0, _, _⟩ := DataW.trod_int Try.underlying3 f0
  obtain ⟨b, e1, _, w1⟩ := DataW.trod_int Try.underlying3 f1
  obtain ⟨c, e2, _, _⟩ := DataW.trod_int Try.underlying3 f2
  obtain ⟨d, e3, _, _⟩ := DataW.trod_int Try.underlying3 f3
  obtain ⟨z, e4, _⟩ := DataW.trod_bool Try.underlying4 f4
  simp at e0 e1 e2 e3 e4
  subst e0 e1 e2 e3 e4
  have b1 := bounds_i64 w1
  exact ⟨⟨a, b, c, d, z⟩, rfl, b1.1, by have := b1.2; show b < _; omega⟩

theorem cells_five {a : Addr} {c0 c1 c2 c3 c4 : Value} (h : w.cells? base a 5 = some [c0, c1, c2, c3, c4]) : w.cell? (a.add 0) = some c0 ∧ w.cell? (a.add 1) = some c1 ∧ w.cell? (a.add 2) = some c2 ∧ w.cell? (a.add 3) = some c3 ∧ w.cell? (a.add 4) = some c4 := by
  unfold World.cells? at h
  split at h
  · simp [List.range_succ, List.mapM_cons, List.range_zero] at h
    simp only [Option.bind_eq_some_iff] at h
    obtain ⟨x0, h0, l1, ⟨x1, h1, l2, ⟨x2, h2, l3, ⟨x3, h3, l4, ⟨x4, h4, h5⟩, h6⟩, h7⟩, h8⟩, h9⟩ := h
    simp at h5 h6 h7 h8 h9
    subst h5 h6 h7 h8
    simp at h9
    obtain ⟨rfl, rfl, rfl, rfl, rfl⟩ := h9
    exact ⟨h0, h1, h2, h3, h4⟩
  · cases h

set_option maxRecDepth 100000 in
/-- A script that came in. -/
theorem open_asks {r : Reach} {b0 : Nat} {v : Value} {d : DataW H} {p : List MemPlace} (hv : Value.okWide Try.prog w r b0 22 v) (h : DataW.Trod enc Try.prog w base sp held 22 v d p) :
    ∃ (qs : List Q5) (ao : Option Addr) (cap : Nat), v = .slice ao qs.length cap ∧ Rd q5l 5 w ao qs ∧ (∀ q ∈ qs, QIn q) ∧ qs.length ≤ Rows.uptoBulk d := by
  obtain ⟨ao, n, cap, rfl⟩ : ∃ ao n cap, v = .slice ao n cap := okWide_slice Try.underlying22 hv
  obtain ⟨fuel, hf⟩ := h
  rcases open_slice Try.underlying22 hf with ⟨hc, _⟩ | ⟨a, len, cp, m, k, D, Pl, hc, _, hlc, _, hm, hx, hel⟩
  · have hc' : Value.slice ao n cap = .slice none 0 0 := List.head_eq_of_cons_eq (show [Value.slice ao n cap] = [.slice none 0 0] from hc)
    exact ⟨[], none, 0, hc', .inl rfl, fun q hq => by simp at hq, Nat.zero_le _⟩
  · have hc' : Value.slice ao n cap = .slice (some a) len cp := List.head_eq_of_cons_eq (show [Value.slice ao n cap] = [.slice (some a) len cp] from hc)
    rw [hc']
    have hlm : len ≤ m := by rw [hm]; split <;> omega
    have each : ∀ i, ∃ q : Q5, QIn q ∧ (i < len → w.cell? ((a.add (i * 5)).add 0) = some (.int .i64 q.kd) ∧ w.cell? ((a.add (i * 5)).add 1) = some (.int .i64 q.tb) ∧ w.cell? ((a.add (i * 5)).add 2) = some (.int .i64 q.tx) ∧ w.cell? ((a.add (i * 5)).add 3) = some (.int .i64 q.key) ∧ w.cell? ((a.add (i * 5)).add 4) = some (.bool q.wr)) := by
      intro i
      by_cases hi : i < len
      · obtain ⟨cs', h1, h2⟩ := hel i (by omega)
        rw [cellsA] at h1
        obtain ⟨q, rfl, hq⟩ := open_ask h2
        exact ⟨q, hq, fun _ => cells_five h1⟩
      · exact ⟨⟨0, 0, 0, 0, false⟩, ⟨by decide, by decide⟩, fun h => absurd h hi⟩
    obtain ⟨f, hf2⟩ : ∃ f : Nat → Q5, ∀ i, QIn (f i) ∧ (i < len → w.cell? ((a.add (i * 5)).add 0) = some (.int .i64 (f i).kd) ∧ w.cell? ((a.add (i * 5)).add 1) = some (.int .i64 (f i).tb) ∧ w.cell? ((a.add (i * 5)).add 2) = some (.int .i64 (f i).tx) ∧ w.cell? ((a.add (i * 5)).add 3) = some (.int .i64 (f i).key) ∧ w.cell? ((a.add (i * 5)).add 4) = some (.bool (f i).wr)) :=
      ⟨fun i => (each i).choose, fun i => (each i).choose_spec⟩
    have hlen : ((List.range len).map f).length = len := by simp
    injection hx with hx _
    refine ⟨(List.range len).map f, some a, cp, by rw [hlen], ?_, fun q hq => ?_, ?_⟩
    · by_cases h0 : len = 0
      · left; subst h0; rfl
      · right
        obtain ⟨b, off, spot⟩ := a
        have hs0 := ((hf2 0).2 (by omega)).1
        have hspot : spot = none := by simpa [Addr.add] using World.cell?_spot hs0
        subst hspot
        rw [add_addr, add_addr] at hs0
        refine ⟨b, off, rfl, cell_lt hs0, fun i hi j u hj => ?_⟩
        rw [hlen] at hi
        obtain ⟨g0, g1, g2, g3, g4⟩ := (hf2 i).2 hi
        rw [add_addr, add_addr] at g0 g1 g2 g3 g4
        have hget : ((List.range len).map f)[i]'(by rw [hlen]; exact hi) = f i := by simp
        rw [hget] at hj
        match j, hj with
        | 0, hj => have e : Value.int .i64 (f i).kd = u := by simpa [q5l] using hj
                   rw [← e]; exact g0
        | 1, hj => have e : Value.int .i64 (f i).tb = u := by simpa [q5l] using hj
                   rw [← e]; exact g1
        | 2, hj => have e : Value.int .i64 (f i).tx = u := by simpa [q5l] using hj
                   rw [← e]; exact g2
        | 3, hj => have e : Value.int .i64 (f i).key = u := by simpa [q5l] using hj
                   rw [← e]; exact g3
        | 4, hj => have e : Value.bool (f i).wr = u := by simpa [q5l] using hj
                   rw [← e]; exact g4
        | j + 5, hj => simp [q5l] at hj
    · obtain ⟨i, _, rfl⟩ := List.mem_map.1 hq
      exact (hf2 i).1
    · rw [hlen, hx]
      simp only [Rows.uptoBulk]
      refine Nat.le_trans ?_ (Nat.le_trans (Nat.le_add_right _ _) (Nat.le_add_right _ _))
      refine Nat.le_trans ?_ (length_le _)
      simp
end

theorem ownK : ownKnob Try.prog.godebug = none := by kernel_rfl
theorem laidOutA : laidOutB Try.prog = true := by kernel_rfl

set_option maxRecDepth 100000 in
theorem contract (H : Type) (enc : TypeId × Value → H) (W : World) (base : Nat) (args : Array Value) (ds gs : List (DataW H)) (before : List MemPlace)
    (hval : ∀ (j : Nat) t v, Try.f3.params[j]? = some t → args[j]? = some v → Value.okWide Try.prog W .any base t v)
    (hW : DataW.Whole enc Try.prog Try.f3.params.toList Rows.lockedSpec.vars false W args.toList ds gs before) (hk : Rows.uptoSmall H (ds ++ gs) = true) :
    Calls Try.prog 3 args W fun e W' => ∃ v, e = .returned v ∧ Rows.lockedSpec.post enc Try.prog Try.f3 false true false false W args v W' := by
  have hW' := hW
  obtain ⟨p, q, hA0, hV, rfl, hfz, hnd⟩ := hW
  have hA : DataW.TrodAll enc Try.prog W 0 (fun _ => true) true Try.f3.params.toList args.toList ds p := hA0
  rw [Try.params3] at hA hval
  obtain ⟨v0, vs0, d0, ds0, p0, q0, hargs, rfl, rfl, h0, r0⟩ := trodAll_cons hA
  obtain ⟨v1, vs1, d1, ds1, p1, q1, rfl, rfl, rfl, h1, r1⟩ := trodAll_cons r0
  obtain ⟨v2, vs2, d2, ds2, p2, q2, rfl, rfl, rfl, h2, r2⟩ := trodAll_cons r1
  obtain ⟨rfl, rfl, rfl⟩ := trodAll_nil r2
  obtain rfl : args = #[v0, v1, v2] := by cases args; simp_all
  obtain ⟨rfl, rfl⟩ := trodVars_none hV
  have hbulk : Rows.uptoBulk d2 ≤ 1048576 := by
    have h9 := of_decide_eq_true hk
    simp only [List.append_nil, Rows.uptoBulkAll] at h9
    omega
  have k2 := h2
  have lt2 : ∀ x ∈ p2, x.block < W.heap.size := by obtain ⟨m, hm⟩ := k2; exact DataW.trod_lt m _ _ _ hm
  obtain ⟨a0, rfl, rfl, rfl, w0⟩ := open_int Try.underlying3 (hval 0 3 v0 rfl rfl) h0
  obtain ⟨a1, rfl, rfl, rfl, w1⟩ := open_int Try.underlying3 (hval 1 3 v1 rfl rfl) h1
  obtain ⟨qs, ao, cap, rfl, hr, hq, hd⟩ := open_asks (hval 2 22 v2 rfl rfl) h2
  clear hA0
  refine (locked_any W a0 a1 ao cap qs hr (by omega) hq).mono fun e W' ⟨he, bel⟩ => ?_
  subst he
  exact ⟨_, rfl, _, _, _, [], _, [], hW', trodAll_mk1 (shut_bool Try.underlying4 _), (trodAll_cons_mk (shut_int Try.underlying3 w0) (trodAll_cons_mk (shut_int Try.underlying3 w1) (trodAll_cons_mk (Below.trod laidOutA (by kernel_rfl) (of_decide_eq_true (by kernel_rfl)) k2 bel lt2) trodAll_mk0))), rfl, bel.frame _, fun h => by cases h⟩

set_option maxRecDepth 100000 in
theorem lifted (os : Os) (started : os.Started) (H : Type) (enc : TypeId × Value → H) (F : Stop.Interp) :
    ReturnsInHanded {} Try.checked os 3 .any ((Rows.OpenSpec.upto Rows.lockedSpec).pre6 enc Try.prog Try.f3 Rows.lockedUptoRow.domain false) (((Rows.OpenSpec.upto Rows.lockedSpec).at F).post enc Try.prog Try.f3 false true false false) := by
  refine returnsInHanded_of_cond (C := Try.checked) (s := Rows.OpenSpec.upto Rows.lockedSpec) (k := Rows.uptoSmall) rfl ownK started (by kernel_rfl) Try.func3
    (OpenSpec.witness (enc := enc) (C := Try.checked) (s := Rows.OpenSpec.upto Rows.lockedSpec) (k := Rows.uptoSmall) rfl false ⟨#[], #[.int .i64 0, .int .i64 0, .slice none 0 0], []⟩ 8 (by kernel_rfl) (by kernel_rfl) (by kernel_rfl)
      (x := ([.lit (.int .i64 0), .lit (.int .i64 0), .nil], [], [])) (by kernel_rfl) rfl (by kernel_rfl)) ?_
  intro W base args ds gs before hval hW _ hk _
  exact contract H enc W base args ds gs before hval hW hk
end lockedUp

theorem locked_upto : Rows.LockedUptoSaid :=
  OpenClaim.holds_of_cond 3 Try.f3 rfl rfl rfl rfl rfl rfl rfl ⟨rfl, rfl, rfl, rfl, rfl⟩ rfl rfl rfl rfl rfl (by kernel_rfl) Try.func3 (by kernel_rfl)
    (of_decide_eq_true (by kernel_rfl)) (by unfold Func.isWrapper; first | (rw [if_pos (by decide +kernel)]; kernel_rfl) | (rw [if_neg (by decide +kernel)]; exact ⟨rfl, rfl⟩))
    (fun os started H enc _ F => lockedUp.lifted os started H enc F)
#print axioms locked_upto
end Go.Proofs.Ytlagmbieaicmgaa
