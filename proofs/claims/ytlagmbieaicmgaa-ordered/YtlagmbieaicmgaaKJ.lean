/-
  For every number and every script of asks: Ordered returns true (whatever is asked of the lock table, its answers tell of one owner of a written place at a time, of nobody who waits for a younger one that was not held firm, of no grant that was not asked for), and its arguments read as they did.
  Conditions: none beyond the form's own reach (at most 2^47 - 4096 bytes a list).
-/
import Derived.Test.YtlagmbieaicmgaaRows
import Derived.Test.YtlagmbieaicmgaaKI
import Derived.WalkKit
import Derived.ProofKit
import Derived.OpenShut
import Derived.SizedLaws
import Derived.Deep.Slices
namespace Go.Proofs.Ytlagmbieaicmgaa
open Go.ChangeShapes Go.WideShapes Go.ChangeAt Go.RowKit Go.Deep Lk

theorem cellsI : Try.prog.cellsOf 3 = 1 := by kernel_rfl
theorem cellsB : Try.prog.cellsOf 4 = 1 := by kernel_rfl
theorem cellsA : Try.prog.cellsOf 53 = 4 := by kernel_rfl
theorem bytesA : Try.prog.bytesOf 53 = 32 := by kernel_rfl

theorem list4 {l : List Value} (h : l.length = 4) : ∃ c0 c1 c2 c3, l = [c0, c1, c2, c3] := by
  match l, h with
  | [c0, c1, c2, c3], _ => exact ⟨c0, c1, c2, c3, rfl⟩

theorem add_addr (b off n : Nat) : (⟨b, off, none⟩ : Addr).add n = ⟨b, off + n, none⟩ := by
  unfold Addr.add
  split
  · rename_i h; subst h; rfl
  · rfl

def QIn (q : Q4) : Prop := (-9223372036854775808 ≤ q.tx ∧ q.tx < 9223372036854775808) ∧ -9223372036854775808 ≤ q.key ∧ q.key < 9223372036854775808

section
variable {H : Type} {enc : TypeId × Value → H} {w : World} {base : Nat} {sp : Nat → Bool} {held : Bool}

theorem open_ask {n : Nat} {cs : List Value} {x : DataW H × List MemPlace} (h : DataW.trod enc Try.prog w base sp held n 53 cs = some x) :
    ∃ q : Q4, cs = ql q ∧ QIn q := by
  obtain ⟨xs, m, _, _, hl, hxl, hf⟩ := DataW.trod_struct Try.underlying53 h
  rw [cellsA] at hl
  obtain ⟨c0, c1, c2, c3, rfl⟩ := list4 hl
  have hx : xs.length = 4 := hxl
  have f0 : DataW.trod enc Try.prog w base sp held m 3 (([c0, c1, c2, c3].drop 0).take (Try.prog.cellsOf 3)) = xs[0]? := hf 0 _ rfl
  have f1 : DataW.trod enc Try.prog w base sp held m 3 (([c0, c1, c2, c3].drop 1).take (Try.prog.cellsOf 3)) = xs[1]? := hf 1 _ rfl
  have f2 : DataW.trod enc Try.prog w base sp held m 3 (([c0, c1, c2, c3].drop 2).take (Try.prog.cellsOf 3)) = xs[2]? := hf 2 _ rfl
  have f3 : DataW.trod enc Try.prog w base sp held m 4 (([c0, c1, c2, c3].drop 3).take (Try.prog.cellsOf 4)) = xs[3]? := hf 3 _ rfl
  rw [cellsI] at f0 f1 f2
  rw [cellsB] at f3
  rw [List.getElem?_eq_getElem (by omega)] at f0 f1 f2 f3
  obtain ⟨a, e0, _, _⟩ := DataW.trod_int Try.underlying3 f0
  obtain ⟨b, e1, _, w1⟩ := DataW.trod_int Try.underlying3 f1
  obtain ⟨c, e2, _, w2⟩ := DataW.trod_int Try.underlying3 f2
  obtain ⟨d, e3, _⟩ := DataW.trod_bool Try.underlying4 f3
  simp at e0 e1 e2 e3
  subst e0 e1 e2 e3
  have b1 := bounds_i64 w1
  have b2 := bounds_i64 w2
  exact ⟨⟨a, b, c, d⟩, rfl, ⟨b1.1, by have := b1.2; show b < _; omega⟩, b2.1, by have := b2.2; show c < _; omega⟩

theorem cells_four {a : Addr} {c0 c1 c2 c3 : Value} (h : w.cells? base a 4 = some [c0, c1, c2, c3]) : w.cell? (a.add 0) = some c0 ∧ w.cell? (a.add 1) = some c1 ∧ w.cell? (a.add 2) = some c2 ∧ w.cell? (a.add 3) = some c3 := by
  unfold World.cells? at h
  split at h
  · simp [List.range_succ, List.mapM_cons, List.range_zero] at h
    simp only [Option.bind_eq_some_iff] at h
    obtain ⟨x0, h0, l1, ⟨x1, h1, l2, ⟨x2, h2, l3, ⟨x3, h3, h4⟩, h5⟩, h6⟩, h7⟩ := h
    simp at h4 h5 h6 h7
    subst h4 h5 h6
    simp at h7
    obtain ⟨rfl, rfl, rfl, rfl⟩ := h7
    exact ⟨h0, h1, h2, h3⟩
  · cases h

set_option maxRecDepth 100000 in
/-- A script that came in. -/
theorem open_asks {r : Reach} {b0 : Nat} {v : Value} {d : DataW H} {p : List MemPlace} (hv : Value.okWide Try.prog w r b0 47 v) (h : DataW.Trod enc Try.prog w base sp held 47 v d p) :
    ∃ (qs : List Q4) (ao : Option Addr) (cap : Nat), v = .slice ao qs.length cap ∧ Rd ql 4 w ao qs ∧ (∀ q ∈ qs, QIn q) ∧ (qs = [] ∨ ∃ es sp, d = .slice es sp ∧ es.length = qs.length) := by
  obtain ⟨ao, n, cap, rfl⟩ : ∃ ao n cap, v = .slice ao n cap := okWide_slice Try.underlying47 hv
  obtain ⟨fuel, hf⟩ := h
  rcases open_slice Try.underlying47 hf with ⟨hc, _⟩ | ⟨a, len, cp, m, k, D, Pl, hc, _, hlc, _, hm, hx, hel⟩
  · have hc' : Value.slice ao n cap = .slice none 0 0 := List.head_eq_of_cons_eq (show [Value.slice ao n cap] = [.slice none 0 0] from hc)
    exact ⟨[], none, 0, hc', .inl rfl, fun q hq => by simp at hq, .inl rfl⟩
  · have hc' : Value.slice ao n cap = .slice (some a) len cp := List.head_eq_of_cons_eq (show [Value.slice ao n cap] = [.slice (some a) len cp] from hc)
    rw [hc']
    have hlm : len ≤ m := by rw [hm]; split <;> omega
    have each : ∀ i, ∃ q : Q4, QIn q ∧ (i < len → w.cell? ((a.add (i * 4)).add 0) = some (.int .i64 q.kd) ∧ w.cell? ((a.add (i * 4)).add 1) = some (.int .i64 q.tx) ∧ w.cell? ((a.add (i * 4)).add 2) = some (.int .i64 q.key) ∧ w.cell? ((a.add (i * 4)).add 3) = some (.bool q.wr)) := by
      intro i
      by_cases hi : i < len
      · obtain ⟨cs', h1, h2⟩ := hel i (by omega)
        rw [cellsA] at h1
        obtain ⟨q, rfl, hq⟩ := open_ask h2
        exact ⟨q, hq, fun _ => cells_four h1⟩
      · exact ⟨⟨0, 0, 0, false⟩, ⟨⟨by decide, by decide⟩, by decide, by decide⟩, fun h => absurd h hi⟩
    obtain ⟨f, hf2⟩ : ∃ f : Nat → Q4, ∀ i, QIn (f i) ∧ (i < len → w.cell? ((a.add (i * 4)).add 0) = some (.int .i64 (f i).kd) ∧ w.cell? ((a.add (i * 4)).add 1) = some (.int .i64 (f i).tx) ∧ w.cell? ((a.add (i * 4)).add 2) = some (.int .i64 (f i).key) ∧ w.cell? ((a.add (i * 4)).add 3) = some (.bool (f i).wr)) :=
      ⟨fun i => (each i).choose, fun i => (each i).choose_spec⟩
    have hlen : ((List.range len).map f).length = len := by simp
    injection hx with hx _
    refine ⟨(List.range len).map f, some a, cp, by rw [hlen], ?_, fun q hq => ?_, .inr ⟨_, _, hx, by rw [hlen]; simp⟩⟩
    · by_cases h0 : len = 0
      · left; subst h0; rfl
      · right
        obtain ⟨b, off, spot⟩ := a
        have hs0 := ((hf2 0).2 (by omega)).1
        have hspot : spot = none := by simpa [Addr.add] using World.cell?_spot hs0
        subst hspot
        rw [add_addr, add_addr] at hs0
        refine ⟨b, off, rfl, cell_lt hs0, fun i hi j u hj => ?_⟩
        rw [hlen] at hi
        obtain ⟨g0, g1, g2, g3⟩ := (hf2 i).2 hi
        rw [add_addr, add_addr] at g0 g1 g2 g3
        have hget : ((List.range len).map f)[i]'(by rw [hlen]; exact hi) = f i := by simp
        rw [hget] at hj
        match j, hj with
        | 0, hj => have e : Value.int .i64 (f i).kd = u := by simpa [ql] using hj
                   rw [← e]; exact g0
        | 1, hj => have e : Value.int .i64 (f i).tx = u := by simpa [ql] using hj
                   rw [← e]; exact g1
        | 2, hj => have e : Value.int .i64 (f i).key = u := by simpa [ql] using hj
                   rw [← e]; exact g2
        | 3, hj => have e : Value.bool (f i).wr = u := by simpa [ql] using hj
                   rw [← e]; exact g3
        | j + 4, hj => simp [ql] at hj
    · obtain ⟨i, _, rfl⟩ := List.mem_map.1 hq
      exact (hf2 i).1
end

theorem ownK : ownKnob Try.prog.godebug = none := by kernel_rfl
theorem laidOutA : laidOutB Try.prog = true := by kernel_rfl

set_option maxRecDepth 100000 in
theorem lifted (os : Os) (started : os.Started) (H : Type) (enc : TypeId × Value → H) :
    ReturnsInHanded {} Try.checked os 4 .any (Rows.orderedSpec.pre6 enc Try.prog Try.f4 Rows.orderedRow.domain false) (Rows.orderedSpec.post enc Try.prog Try.f4 false true false false) := by
  refine returnsInHanded_of_change_sized (C := Try.checked) ownK started (by kernel_rfl) Try.func4
    (ChangeSpec.witness6 (enc := enc) (C := Try.checked) false ⟨#[], #[.int .i64 0, .slice none 0 0], []⟩ 8 (by kernel_rfl) (by kernel_rfl) (by kernel_rfl) (by kernel_rfl)) ?_
  intro W base args ds gs before hval0 hW _ hsz _
  have hval : ∀ (j : Nat) t v, Try.f4.params[j]? = some t → args[j]? = some v → Value.okWide Try.prog W .any base t v := hval0
  have hsz0 : (DataW.weightsEach Try.prog (Try.f4.params.toList ++ Rows.orderedSpec.plain.varTypes Try.prog) (ds ++ gs)).all (· ≤ reachBytes) = true := hsz
  have hW' := hW
  obtain ⟨p, q, hA0, hV, rfl, hfz, hnd⟩ := hW
  have hA : DataW.TrodAll enc Try.prog W 0 (fun _ => true) true Try.f4.params.toList args.toList ds p := hA0
  rw [Try.params4] at hA hval hsz0
  obtain ⟨v0, vs0, d0, ds0, p0, q0, hargs, rfl, rfl, h0, r0⟩ := trodAll_cons hA
  obtain ⟨v1, vs1, d1, ds1, p1, q1, rfl, rfl, rfl, h1, r1⟩ := trodAll_cons r0
  obtain ⟨rfl, rfl, rfl⟩ := trodAll_nil r1
  obtain rfl : args = #[v0, v1] := by cases args; simp_all
  obtain ⟨rfl, rfl⟩ := trodVars_none hV
  have k1 := h1
  have lt1 : ∀ x ∈ p1, x.block < W.heap.size := by obtain ⟨m, hm⟩ := k1; exact DataW.trod_lt m _ _ _ hm
  obtain ⟨a0, rfl, rfl, rfl, w0⟩ := open_int Try.underlying3 (hval 0 3 v0 rfl rfl) h0
  obtain ⟨qs, ao, cap, rfl, hr, hq, hd⟩ := open_asks (hval 1 47 v1 rfl rfl) h1
  have hn : qs.length ≤ 4398046511104 := by
    rcases hd with e | ⟨es, sp, e, el⟩
    · rw [e]; simp
    · have h9 := sized_slice hsz0 (j := 1) (t := 47) (elems := es) (spare := sp) rfl (by rw [e]; rfl) Try.underlying47
      rw [bytesA] at h9
      simp only [reachBytes] at h9
      omega
  clear hA0 hsz0
  have b0 := bounds_i64 w0
  refine (ordered_any W a0 ao cap qs hr hn hq b0.1 (by have := b0.2; omega)).mono fun e W' ⟨he, bel⟩ => ?_
  subst he
  exact ⟨_, rfl, _, _, _, [], _, [], hW', trodAll_mk1 (shut_bool Try.underlying4 _), (trodAll_cons_mk (shut_int Try.underlying3 w0) (trodAll_cons_mk (Below.trod laidOutA (by kernel_rfl) (of_decide_eq_true (by kernel_rfl)) k1 bel lt1) trodAll_mk0)), rfl, bel.frame _, fun h => by cases h⟩

theorem ordered_said : Rows.OrderedSaid :=
  OpenClaim.holds_of_wide 4 Try.f4 rfl rfl rfl rfl rfl rfl rfl ⟨rfl, rfl, rfl, rfl, rfl⟩ rfl rfl rfl rfl rfl (by kernel_rfl) Try.func4 (by kernel_rfl)
    (of_decide_eq_true (by kernel_rfl)) (by unfold Func.isWrapper; first | (rw [if_pos (by decide +kernel)]; kernel_rfl) | (rw [if_neg (by decide +kernel)]; exact ⟨rfl, rfl⟩))
    (fun os started H enc _ => lifted os started H enc)
#print axioms ordered_said
end Go.Proofs.Ytlagmbieaicmgaa
