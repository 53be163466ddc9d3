/- Decode: what Read tells, its panic caught. -/
import Derived.Test.YtlagmbieaicmgaaDoorWalkI
import Derived.Defers
import Derived.Recover
namespace Go.Proofs.YtlagmbieaicmgaaDoor
open Go.RowKit Pact

theorem assert_fault (n : Int) (w : World) : (Instr.typeAssert (.iface 62 (.agg #[.int .i64 n])) 20 62 true).run Tryd.prog w = .ok (.tuple #[.agg #[.int .i64 n], .bool true]) w := by kernel_rfl
theorem neq_fault (n : Int) (w : World) : (binOp .neq 20 (.iface 62 (.agg #[.int .i64 n])) .nilIface).run Tryd.prog w = .ok (.bool true) w := by kernel_rfl
theorem neq_nil (w : World) : (binOp .neq 20 .nilIface .nilIface).run Tryd.prog w = .ok (.bool false) w := by kernel_rfl

set_option maxHeartbeats 400000 in
theorem reason_any (n : Int) (w : World) :
    Calls Tryd.prog 22 #[.iface 62 (.agg #[.int .i64 n])] w fun e w' => e = .returned (.int .i64 n) ∧ Below w.heap.size w w' := by
  have hta := assert_fault n
  go_enter Tryd.func22, Tryd.ntmps22
  go_wp2
  go_ret
  exact ⟨rfl, (Below.refl _ _).alloc (Nat.le_refl _) _⟩

theorem set_heap {w : World} {k : Nat} {cur : Array Value} {T : TypeId} {fr : Nat × Nat} (h : w.heap[k]? = some (.cells cur T fr)) (j : Nat) (x : Value) : (w.setCell ⟨k, j, none⟩ x).heap[k]? = some (.cells (cur.setIfInBounds j x) T fr) := by
  simp only [World.setCell, Array.getElem?_modify]
  simp [h]

def errO (n : Int) : Obj := .cells #[.int .i64 n] 33 (0, 0)

set_option maxHeartbeats 400000 in
theorem catch_panicking (B : Nat) (n : Int) (w : World) (hm : w.heap[B]? = some zeroMsg) (he : w.heap[B + 1]? = some (errO 0)) :
    CallsD Tryd.prog 21 #[.pointer (some ⟨B, 0, none⟩), .pointer (some ⟨B + 1, 0, none⟩)] (.panicking (fault n)) w fun e u' w' =>
      e = .returned (.tuple #[]) ∧ u' = .panicking [{ v := .iface 62 (.agg #[.int .i64 n]), recovered := true }] ∧ w'.heap[B]? = some zeroMsg ∧ w'.heap[B + 1]? = some (errO n) ∧ Below B w w' := by
  unfold fault
  refine callsD_of_wpS Tryd.func21 rfl fun c₀ cs hu => ?_
  apply wpS_seq
  apply wpS_region
  simp [wpOpsS, go_sem, recoverD, hu, Tryd.ntmps21, Exit.thenS]
  refine wpS_of_wp ?_
  have hneq := neq_fault n
  have hB := (Array.getElem?_eq_some_iff.1 he).1
  go_wp2_with fail
  refine (reason_any n _).mono ?_
  rintro e w1 ⟨rfl, hb1⟩
  have hm1 := (hb1.block _ (by omega)).trans hm
  have he1 := (hb1.block _ hB).trans he
  have hb2 : Below B w w1 := hb1.mono (by omega)
  clear hm he hb1 hneq
  have c0 := cell_of_heap hm1 0
  have c1 := cell_of_heap hm1 1
  have c2 := cell_of_heap hm1 2
  have c3 := cell_of_heap hm1 3
  have c4 := cell_of_heap hm1 4
  have c5 := cell_of_heap hm1 5
  have c6 := cell_of_heap hm1 6
  have c7 := cell_of_heap hm1 7
  have c8 := cell_of_heap he1 0
  simp at c0 c1 c2 c3 c4 c5 c6 c7 c8
  have fz := free_of_heap hm1
  have fe := free_of_heap he1
  go_wp2
  refine ⟨rfl, _, rfl, .tuple #[], by simp [results, Tryd.results21], rfl, rfl, ?_, ?_, ?_⟩
  · refine (Below.heap_setCell _ _ _ B (show B ≠ B + 1 by omega)).trans ?_
    exact set_heap (set_heap (set_heap (set_heap (set_heap (set_heap (set_heap (set_heap hm1 0 _) 1 _) 2 _) 3 _) 4 _) 5 _) 6 _) 7 _
  · refine set_heap (cur := #[.int .i64 0]) ?_ 0 _
    have hne : B + 1 ≠ B := by omega
    iterate 8 refine (Below.heap_setCell _ _ _ (B + 1) hne).trans ?_
    exact he1
  · exact ((((((((hb2.setCell (Nat.le_refl _) _).setCell (Nat.le_refl _) _).setCell (Nat.le_refl _) _).setCell (Nat.le_refl _) _).setCell (Nat.le_refl _) _).setCell (Nat.le_refl _) _).setCell (Nat.le_refl _) _).setCell (Nat.le_refl _) _).setCell (show B ≤ B + 1 by omega) _

set_option maxHeartbeats 400000 in
theorem catch_idle (p q : Addr) (w : World) :
    CallsD Tryd.prog 21 #[.pointer (some p), .pointer (some q)] .returning w fun e u' w' => e = .returned (.tuple #[]) ∧ u' = .returning ∧ w' = w := by
  refine callsD_of_wpS Tryd.func21 rfl fun c₀ cs hu => ?_
  apply wpS_seq
  apply wpS_region
  simp [wpOpsS, go_sem, recoverD, hu, Tryd.ntmps21, Exit.thenS]
  refine wpS_of_wp ?_
  have hneq := neq_nil
  go_wp2
  cases c₀
  simp_all [bodyPostS, results, Tryd.results21]

/-- The empty message's value. -/
def zeroV : Value := .agg #[.int .i64 0, .int .i64 0, .int .i64 0, .string ⟨#[]⟩, .int .i64 0, .int .i64 0, .string ⟨#[]⟩, .slice none 0 0]

set_option maxHeartbeats 1000000 in
theorem decode_any (s : ByteArray) (w : World) (hs : s.size ≤ maxLen) (hT : TabAt w) :
    Calls Tryd.prog 8 #[.string s] w fun e w' =>
      (∃ m ao cap, decR s = .inr m ∧ e = .returned (.tuple #[msgV m ao cap, .int .i64 0]) ∧ Below w.heap.size w w' ∧ w'.ownsRow w.heap.size 53 3 (.slice ao m.ents.length cap) m.ents.length (ecs m.ents)) ∨
      (∃ n, decR s = .inl n ∧ e = .returned (.tuple #[zeroV, .int .i64 n]) ∧ Below w.heap.size w w') := by
  have hb0 : 0 < w.heap.size := cell_lt (hT 0 (by omega))
  have hmf : ∀ (fn : Fn) (first cap : Array Value) (w : World), (Instr.makeFunc fn first cap).run Tryd.prog w = .ok (.func fn first cap) w := fun _ _ _ _ => rfl
  go_enter_defers Tryd.func8, Tryd.ntmps8
  go_wp2_with fail
  refine (read_any s _ hs (hT.below (below2 _ _ _) hb0)).mono ?_
  rintro e w1 (⟨m, ao, cap, q, rfl, hb1, o1⟩ | ⟨n, q, rfl, hb1⟩)
  · have hb2 : Below w.heap.size w w1 := (below2 _ _ _).trans (hb1.mono (by simp; omega))
    have hm1 : w1.heap[w.heap.size]? = some zeroMsg := (hb1.block _ (by simp; omega)).trans (heap2 _ _ _)
    have he1 : w1.heap[w.heap.size + 1]? = some (errO 0) := (hb1.block _ (by simp)).trans (heap2b _ _ _)
    have o2 : w1.ownsRow (w.heap.size + 2) 53 3 (.slice ao m.ents.length cap) m.ents.length (ecs m.ents) := by simpa using o1
    have Q : Hid (decR s = .inr m) := q
    clear hb1 o1 q hT
    have c0 := cell_of_heap hm1 0
    have c1 := cell_of_heap hm1 1
    have c2 := cell_of_heap hm1 2
    have c3 := cell_of_heap hm1 3
    have c4 := cell_of_heap hm1 4
    have c5 := cell_of_heap hm1 5
    have c6 := cell_of_heap hm1 6
    have c7 := cell_of_heap hm1 7
    have c8 := cell_of_heap he1 0
    simp at c0 c1 c2 c3 c4 c5 c6 c7 c8
    have fz := free_of_heap hm1
    have fe := free_of_heap he1
    go_wp2
    refine leaves_cons (f := 21) (args := #[.pointer (some ⟨w.heap.size, 0, none⟩), .pointer (some ⟨w.heap.size + 1, 0, none⟩)]) (by simp) (by simp [go_sem]) ?_
    refine (catch_idle _ _ _).mono ?_
    rintro e u' w'' ⟨rfl, rfl, rfl⟩
    refine ⟨.tuple #[msgV m ao cap, .int .i64 0], by simp [results, Tryd.results8, go_sem, c0, c1, c2, c3, c4, c5, c6, c7, c8], .inl ⟨m, ao, cap, Q.out, rfl, ?_, ?_⟩⟩
    · exact ((((((((hb2.setCell (Nat.le_refl _) _).setCell (Nat.le_refl _) _).setCell (Nat.le_refl _) _).setCell (Nat.le_refl _) _).setCell (Nat.le_refl _) _).setCell (Nat.le_refl _) _).setCell (Nat.le_refl _) _).setCell (Nat.le_refl _) _).setCell (show w.heap.size ≤ w.heap.size + 1 by omega) _
    · refine owns_mono (base := w.heap.size + 2) ?_ (by omega)
      have hz7 : w.heap.size < w.heap.size + 2 := by omega
      exact ownsRow_setCell_below (ownsRow_setCell_below (ownsRow_setCell_below (ownsRow_setCell_below (ownsRow_setCell_below (ownsRow_setCell_below (ownsRow_setCell_below (ownsRow_setCell_below (ownsRow_setCell_below o2 hz7 _) hz7 _) hz7 _) hz7 _) hz7 _) hz7 _) hz7 _) hz7 _) (show w.heap.size + 1 < w.heap.size + 2 by omega) _
  · have hb2 : Below w.heap.size w w1 := (below2 _ _ _).trans (hb1.mono (by simp; omega))
    have hm1 : w1.heap[w.heap.size]? = some zeroMsg := (hb1.block _ (by simp; omega)).trans (heap2 _ _ _)
    have he1 : w1.heap[w.heap.size + 1]? = some (errO 0) := (hb1.block _ (by simp)).trans (heap2b _ _ _)
    refine leaves_cons (f := 21) (args := #[.pointer (some ⟨w.heap.size, 0, none⟩), .pointer (some ⟨w.heap.size + 1, 0, none⟩)]) (by simp) (by simp [go_sem]) ?_
    refine (catch_panicking w.heap.size n _ hm1 he1).mono ?_
    rintro e u' w'' ⟨rfl, rfl, hm2, he2, hb3⟩
    have c0 := cell_of_heap hm2 0
    have c1 := cell_of_heap hm2 1
    have c2 := cell_of_heap hm2 2
    have c3 := cell_of_heap hm2 3
    have c4 := cell_of_heap hm2 4
    have c5 := cell_of_heap hm2 5
    have c6 := cell_of_heap hm2 6
    have c7 := cell_of_heap hm2 7
    have c8 := cell_of_heap he2 0
    simp at c0 c1 c2 c3 c4 c5 c6 c7 c8
    refine ⟨.tuple #[zeroV, .int .i64 n], by simp [results, Tryd.results8, go_sem, c0, c1, c2, c3, c4, c5, c6, c7, c8, zeroV], .inr ⟨n, q, rfl, hb2.trans hb3⟩⟩
end Go.Proofs.YtlagmbieaicmgaaDoor
