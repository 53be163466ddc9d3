/- A message that came in: its value, and its list's cells. -/
import Derived.Test.YtlagmbieaicmgaaDoorChecked
import Derived.Test.YtlagmbieaicmgaaDoorPure
import Derived.WalkKit
import Derived.ProofKit
import Derived.OpenShut
import Derived.Deep.Slices
namespace Go.Proofs.YtlagmbieaicmgaaDoor
open Go.ChangeShapes Go.WideShapes Go.ChangeAt Go.RowKit Go.Deep Pact

theorem cells3 : Tryd.prog.cellsOf 3 = 1 := by kernel_rfl
theorem cells9 : Tryd.prog.cellsOf 9 = 1 := by kernel_rfl
theorem cellsS : Tryd.prog.cellsOf 22 = 1 := by kernel_rfl
theorem cellsE : Tryd.prog.cellsOf 53 = 3 := by kernel_rfl
theorem cellsM : Tryd.prog.cellsOf 24 = 8 := by kernel_rfl

theorem array8 {a : Array Value} (h : a.size = 8) : ∃ c0 c1 c2 c3 c4 c5 c6 c7, a = #[c0, c1, c2, c3, c4, c5, c6, c7] := by
  obtain ⟨l⟩ := a
  match l, h with
  | [c0, c1, c2, c3, c4, c5, c6, c7], _ => exact ⟨c0, c1, c2, c3, c4, c5, c6, c7, rfl⟩

theorem list3 {l : List Value} (h : l.length = 3) : ∃ c0 c1 c2, l = [c0, c1, c2] := by
  match l, h with
  | [c0, c1, c2], _ => exact ⟨c0, c1, c2, rfl⟩

theorem addr_add (b off n : Nat) : (⟨b, off, none⟩ : Addr).add n = ⟨b, off + n, none⟩ := by
  unfold Addr.add
  split
  · rename_i h; subst h; rfl
  · rfl

section
variable {H : Type} {enc : TypeId × Value → H} {w : World} {base : Nat} {sp : Nat → Bool} {held : Bool}

theorem open_ent {n : Nat} {cs : List Value} {x : DataW H × List MemPlace} (h : DataW.trod enc Tryd.prog w base sp held n 53 cs = some x) :
    ∃ e : Ent, cs = [.int .i64 e.slot, .int .i64 e.ballot, .string e.value] := by
  obtain ⟨xs, m, _, _, hl, hxl, hf⟩ := DataW.trod_struct Tryd.underlying53 h
  rw [cellsE] at hl
  obtain ⟨c0, c1, c2, rfl⟩ := list3 hl
  have hx : xs.length = 3 := hxl
  have f0 : DataW.trod enc Tryd.prog w base sp held m 3 (([c0, c1, c2].drop 0).take (Tryd.prog.cellsOf 3)) = xs[0]? := hf 0 _ rfl
  have f1 : DataW.trod enc Tryd.prog w base sp held m 3 (([c0, c1, c2].drop 1).take (Tryd.prog.cellsOf 3)) = xs[1]? := hf 1 _ rfl
  have f2 : DataW.trod enc Tryd.prog w base sp held m 9 (([c0, c1, c2].drop 2).take (Tryd.prog.cellsOf 9)) = xs[2]? := hf 2 _ rfl
  rw [cells3] at f0 f1
  rw [cells9] at f2
  rw [List.getElem?_eq_getElem (by omega)] at f0 f1 f2
  obtain ⟨a, e0, _, _⟩ := DataW.trod_int Tryd.underlying3 f0
  obtain ⟨b, e1, _, _⟩ := DataW.trod_int Tryd.underlying3 f1
  obtain ⟨c, e2, _, _⟩ := DataW.trod_string Tryd.underlying9 f2
  simp at e0 e1 e2
  subst e0 e1 e2
  exact ⟨⟨a, b, c⟩, rfl⟩

theorem cells_three {a : Addr} {c0 c1 c2 : Value} (h : w.cells? base a 3 = some [c0, c1, c2]) : w.cell? (a.add 0) = some c0 ∧ w.cell? (a.add 1) = some c1 ∧ w.cell? (a.add 2) = some c2 := by
  unfold World.cells? at h
  split at h
  · simp [List.range_succ, List.mapM_cons, List.range_zero] at h
    simp only [Option.bind_eq_some_iff] at h
    obtain ⟨x0, h0, l1, ⟨x1, h1, l2, ⟨x2, h2, h3⟩, h4⟩, h5⟩ := h
    simp at h3 h4 h5
    subst h3 h4
    simp at h5
    obtain ⟨rfl, rfl, rfl⟩ := h5
    exact ⟨h0, h1, h2⟩
  · cases h

/-- A slice of entries that came in. -/
theorem open_entries {fuel : Nat} {c : Value} {x : DataW H × List MemPlace} (h : DataW.trod enc Tryd.prog w base sp held fuel 22 [c] = some x) :
    ∃ (es : List Ent) (ao : Option Addr) (cap : Nat), c = .slice ao es.length cap ∧ es.length ≤ maxLen ∧ EntsIn w ao es := by
  rcases open_slice Tryd.underlying22 h with ⟨hc, _⟩ | ⟨a, len, cap, m, n, D, Pl, hc, _, hlc, hcm, hm, _, hel⟩
  · simp at hc
    exact ⟨[], none, 0, by simpa using hc, by decide, .inl rfl⟩
  · simp at hc
    subst hc
    have hlm : len ≤ m := by rw [hm]; split <;> omega
    have each : ∀ i, ∃ e : Ent, i < len → w.cell? ((a.add (i * 3)).add 0) = some (.int .i64 e.slot) ∧ w.cell? ((a.add (i * 3)).add 1) = some (.int .i64 e.ballot) ∧ w.cell? ((a.add (i * 3)).add 2) = some (.string e.value) := by
      intro i
      by_cases hi : i < len
      · obtain ⟨cs', h1, h2⟩ := hel i (by omega)
        rw [cellsE] at h1
        obtain ⟨e, rfl⟩ := open_ent h2
        exact ⟨e, fun _ => cells_three h1⟩
      · exact ⟨⟨0, 0, .empty⟩, fun h => absurd h hi⟩
    obtain ⟨f, hf⟩ : ∃ f : Nat → Ent, ∀ i, i < len → w.cell? ((a.add (i * 3)).add 0) = some (.int .i64 (f i).slot) ∧ w.cell? ((a.add (i * 3)).add 1) = some (.int .i64 (f i).ballot) ∧ w.cell? ((a.add (i * 3)).add 2) = some (.string (f i).value) :=
      ⟨fun i => (each i).choose, fun i => (each i).choose_spec⟩
    have hlen : ((List.range len).map f).length = len := by simp
    refine ⟨(List.range len).map f, some a, cap, by rw [hlen], by rw [hlen]; omega, ?_⟩
    by_cases h0 : len = 0
    · left; subst h0; rfl
    · right
      obtain ⟨b, off, spot⟩ := a
      have hs0 := (hf 0 (by omega)).1
      have hspot : spot = none := by simpa [Addr.add] using World.cell?_spot hs0
      subst hspot
      refine ⟨b, off, rfl, fun i hi => ?_⟩
      rw [hlen] at hi
      obtain ⟨g0, g1, g2⟩ := hf i hi
      rw [addr_add, addr_add] at g0 g1 g2
      have hget : ((List.range len).map f)[i]'(by rw [hlen]; exact hi) = f i := by simp
      rw [hget]
      exact ⟨g0, g1, g2⟩

/-- A message that came in. -/
theorem open_msg {r : Reach} {b0 : Nat} {v : Value} {d : DataW H} {p : List MemPlace} (hv : Value.okWide Tryd.prog w r b0 24 v) (h : DataW.Trod enc Tryd.prog w base sp held 24 v d p) :
    ∃ (m : Msg) (ao : Option Addr) (cap : Nat), v = msgV m ao cap ∧ m.ents.length ≤ maxLen ∧ EntsIn w ao m.ents := by
  obtain ⟨cs, rfl, hsz⟩ := okWide_struct Tryd.underlying24 hv
  obtain ⟨c0, c1, c2, c3, c4, c5, c6, c7, rfl⟩ := array8 (hsz.trans cellsM)
  obtain ⟨fuel, hf⟩ := h
  obtain ⟨xs, m, _, _, hl, hxl, hf⟩ := DataW.trod_struct Tryd.underlying24 hf
  have hx : xs.length = 8 := hxl
  have f0 : DataW.trod enc Tryd.prog w base sp held m 3 (([c0, c1, c2, c3, c4, c5, c6, c7].drop 0).take (Tryd.prog.cellsOf 3)) = xs[0]? := hf 0 _ rfl
  have f1 : DataW.trod enc Tryd.prog w base sp held m 3 (([c0, c1, c2, c3, c4, c5, c6, c7].drop 1).take (Tryd.prog.cellsOf 3)) = xs[1]? := hf 1 _ rfl
  have f2 : DataW.trod enc Tryd.prog w base sp held m 3 (([c0, c1, c2, c3, c4, c5, c6, c7].drop 2).take (Tryd.prog.cellsOf 3)) = xs[2]? := hf 2 _ rfl
  have f3 : DataW.trod enc Tryd.prog w base sp held m 9 (([c0, c1, c2, c3, c4, c5, c6, c7].drop 3).take (Tryd.prog.cellsOf 9)) = xs[3]? := hf 3 _ rfl
  have f4 : DataW.trod enc Tryd.prog w base sp held m 3 (([c0, c1, c2, c3, c4, c5, c6, c7].drop 4).take (Tryd.prog.cellsOf 3)) = xs[4]? := hf 4 _ rfl
  have f5 : DataW.trod enc Tryd.prog w base sp held m 3 (([c0, c1, c2, c3, c4, c5, c6, c7].drop 5).take (Tryd.prog.cellsOf 3)) = xs[5]? := hf 5 _ rfl
  have f6 : DataW.trod enc Tryd.prog w base sp held m 9 (([c0, c1, c2, c3, c4, c5, c6, c7].drop 6).take (Tryd.prog.cellsOf 9)) = xs[6]? := hf 6 _ rfl
  have f7 : DataW.trod enc Tryd.prog w base sp held m 22 (([c0, c1, c2, c3, c4, c5, c6, c7].drop 7).take (Tryd.prog.cellsOf 22)) = xs[7]? := hf 7 _ rfl
  rw [cells3] at f0 f1 f2 f4 f5
  rw [cells9] at f3 f6
  rw [cellsS] at f7
  rw [List.getElem?_eq_getElem (by omega)] at f0 f1 f2 f3 f4 f5 f6 f7
  obtain ⟨a0, e0, _, _⟩ := DataW.trod_int Tryd.underlying3 f0
  obtain ⟨a1, e1, _, _⟩ := DataW.trod_int Tryd.underlying3 f1
  obtain ⟨a2, e2, _, _⟩ := DataW.trod_int Tryd.underlying3 f2
  obtain ⟨a3, e3, _, _⟩ := DataW.trod_string Tryd.underlying9 f3
  obtain ⟨a4, e4, _, _⟩ := DataW.trod_int Tryd.underlying3 f4
  obtain ⟨a5, e5, _, _⟩ := DataW.trod_int Tryd.underlying3 f5
  obtain ⟨a6, e6, _, _⟩ := DataW.trod_string Tryd.underlying9 f6
  obtain ⟨es, ao, cap, e7, hn, hin⟩ := open_entries (c := c7) f7
  simp at e0 e1 e2 e3 e4 e5 e6
  subst e0 e1 e2 e3 e4 e5 e6 e7
  exact ⟨⟨a0, a1, a2, a3, a4, a5, a6, es⟩, ao, cap, rfl, hn, hin⟩

end
end Go.Proofs.YtlagmbieaicmgaaDoor
