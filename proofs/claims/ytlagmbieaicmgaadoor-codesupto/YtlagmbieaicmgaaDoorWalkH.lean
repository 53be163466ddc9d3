/- The reader's message. -/
import Derived.Test.YtlagmbieaicmgaaDoorWalkG
namespace Go.Proofs.YtlagmbieaicmgaaDoor
open Go.RowKit Pact

theorem number_any (s : ByteArray) (b i n : Nat) (w : World) (hs : s.size ≤ maxLen) (h : w.heap[b]? = some (rdO s i)) (hi : i ≤ s.size) (h3 : n ≤ 3) :
    Calls Tryd.prog 33 #[.pointer (some ⟨b, 0, none⟩), .int .i64 n] w fun e w' =>
      (i + n ≤ s.size ∧ e = .returned (.int .i64 (be (s.extract i (i + n)).data.toList : Nat)) ∧ w'.heap[b]? = some (rdO s (i + n)) ∧ Step b w w') ∨ (s.size < i + n ∧ e = .panicked (fault 2) ∧ Step b w w') := by
  by_cases hn : i + n ≤ s.size
  · exact (number_yes s b i n w hs h hn h3).mono fun e w' h => .inl ⟨hn, h⟩
  · exact (number_no s b i n w hs h hi (by omega)).mono fun e w' h => .inr ⟨by omega, h⟩

theorem text_any (s : ByteArray) (b i : Nat) (w : World) (hs : s.size ≤ maxLen) (h : w.heap[b]? = some (rdO s i)) (hi : i ≤ s.size) :
    Calls Tryd.prog 49 #[.pointer (some ⟨b, 0, none⟩)] w fun e w' =>
      (∃ t j, pText s i = some (t, j) ∧ j ≤ s.size ∧ e = .returned (.string t) ∧ w'.heap[b]? = some (rdO s j) ∧ Step b w w') ∨ (pText s i = none ∧ e = .panicked (fault 2) ∧ Step b w w') := by
  cases hp : pText s i with
  | none => exact (text_no s b i w hs h hi hp).mono fun e w' h => .inr ⟨rfl, h⟩
  | some r => exact (text_yes s b i r.1 r.2 w hs h hp).mono fun e w' h => .inl ⟨r.1, r.2, rfl, (pText_le (t := r.1) (j := r.2) hp).1, h⟩

/-- A message's fields from a place on, and where they end. -/
def pMsg (s : ByteArray) (i : Nat) : Option (Msg × Nat) :=
  if i + 1 + 1 + 1 ≤ s.size then
    match pText s (i + 1 + 1 + 1) with
    | none => none
    | some (g, a) =>
      if a + 3 + 2 ≤ s.size then
        match pText s (a + 3 + 2) with
        | none => none
        | some (v, c) =>
          match pList s c with
          | none => none
          | some (es, d) =>
            some (⟨(be (s.extract i (i + 1)).data.toList : Nat), (be (s.extract (i + 1) (i + 1 + 1)).data.toList : Nat), (be (s.extract (i + 1 + 1) (i + 1 + 1 + 1)).data.toList : Nat), g,
              (be (s.extract a (a + 3)).data.toList : Nat), (be (s.extract (a + 3) (a + 3 + 2)).data.toList : Nat), v, es⟩, d)
      else none
  else none

def zeroMsg : Obj := .cells #[.int .i64 0, .int .i64 0, .int .i64 0, .string ⟨#[]⟩, .int .i64 0, .int .i64 0, .string ⟨#[]⟩, .slice none 0 0] 24 (0, 0)

set_option maxHeartbeats 1000000 in
theorem message_any (s : ByteArray) (b i : Nat) (w : World) (hs : s.size ≤ maxLen) (h : w.heap[b]? = some (rdO s i)) (hi : i ≤ s.size) :
    Calls Tryd.prog 34 #[.pointer (some ⟨b, 0, none⟩)] w fun e w' =>
      (∃ m j ao cap, pMsg s i = some (m, j) ∧ e = .returned (msgV m ao cap) ∧ w'.heap[b]? = some (rdO s j) ∧ j ≤ s.size ∧ Step b w w' ∧ w'.ownsRow w.heap.size 53 3 (.slice ao m.ents.length cap) m.ents.length (ecs m.ents)) ∨
      (pMsg s i = none ∧ e = .panicked (fault 2) ∧ Step b w w') := by
  have hbw : b < w.heap.size := (Array.getElem?_eq_some_iff.1 h).1
  go_enter Tryd.func34, Tryd.ntmps34
  go_wp2_with fail
  refine (number_any s b i 1 _ hs (rd_alloc h _) hi (by omega)).mono ?_
  rintro e w1 (⟨p1, rfl, g1, st1⟩ | ⟨p1, rfl, st1⟩)
  rotate_left
  · exact ⟨rfl, .inr ⟨by unfold pMsg; rw [if_neg (by omega)], rfl, ((Step.refl _ _).alloc _).trans st1⟩⟩
  have z1 : w1.heap[w.heap.size]? = some zeroMsg := (st1.block _ (by simp) (by omega)).trans (heap_new _ _)
  replace st1 : Step b w w1 := ((Step.refl _ _).alloc _).trans st1
  generalize hx1 : be (s.extract i (i + 1)).data.toList = x1
  have X1 : Hid (be (s.extract i (i + 1)).data.toList = x1) := hx1
  clear hx1
  go_wp2_with fail
  refine (number_any s b (i + 1) 1 _ hs g1 p1 (by omega)).mono ?_
  rintro e w2 (⟨p2, rfl, g2, st2⟩ | ⟨p2, rfl, st2⟩)
  rotate_left
  · exact ⟨rfl, .inr ⟨by unfold pMsg; rw [if_neg (by omega)], rfl, st1.trans st2⟩⟩
  have z2 : w2.heap[w.heap.size]? = some zeroMsg := (st2.block _ (Array.getElem?_eq_some_iff.1 z1).1 (by omega)).trans z1
  replace st2 := st1.trans st2
  clear z1 st1 g1
  generalize hx2 : be (s.extract (i + 1) (i + 1 + 1)).data.toList = x2
  have X2 : Hid (be (s.extract (i + 1) (i + 1 + 1)).data.toList = x2) := hx2
  clear hx2
  go_wp2_with fail
  refine (number_any s b (i + 1 + 1) 1 _ hs g2 p2 (by omega)).mono ?_
  rintro e w3 (⟨p3, rfl, g3, st3⟩ | ⟨p3, rfl, st3⟩)
  rotate_left
  · exact ⟨rfl, .inr ⟨by unfold pMsg; rw [if_neg (by omega)], rfl, st2.trans st3⟩⟩
  have z3 : w3.heap[w.heap.size]? = some zeroMsg := (st3.block _ (Array.getElem?_eq_some_iff.1 z2).1 (by omega)).trans z2
  replace st3 := st2.trans st3
  clear z2 st2 g2
  generalize hx3 : be (s.extract (i + 1 + 1) (i + 1 + 1 + 1)).data.toList = x3
  have X3 : Hid (be (s.extract (i + 1 + 1) (i + 1 + 1 + 1)).data.toList = x3) := hx3
  clear hx3
  go_wp2_with fail
  refine (text_any s b (i + 1 + 1 + 1) _ hs g3 p3).mono ?_
  rintro e w4 (⟨g, a, q4, p4, rfl, g4, st4⟩ | ⟨q4, rfl, st4⟩)
  rotate_left
  · exact ⟨rfl, .inr ⟨by unfold pMsg; rw [if_pos p3, q4], rfl, st3.trans st4⟩⟩
  have z4 : w4.heap[w.heap.size]? = some zeroMsg := (st4.block _ (Array.getElem?_eq_some_iff.1 z3).1 (by omega)).trans z3
  replace st4 := st3.trans st4
  have P4 : Hid (pText s (i + 1 + 1 + 1) = some (g, a)) := q4
  clear z3 st3 g3 q4
  go_wp2_with fail
  refine (number_any s b a 3 _ hs g4 p4 (by omega)).mono ?_
  rintro e w5 (⟨p5, rfl, g5, st5⟩ | ⟨p5, rfl, st5⟩)
  rotate_left
  · exact ⟨rfl, .inr ⟨by unfold pMsg; rw [if_pos p3, P4.out]; simp only; rw [if_neg (by omega)], rfl, st4.trans st5⟩⟩
  have z5 : w5.heap[w.heap.size]? = some zeroMsg := (st5.block _ (Array.getElem?_eq_some_iff.1 z4).1 (by omega)).trans z4
  replace st5 := st4.trans st5
  clear z4 st4 g4
  generalize hx5 : be (s.extract a (a + 3)).data.toList = x5
  have X5 : Hid (be (s.extract a (a + 3)).data.toList = x5) := hx5
  clear hx5
  go_wp2_with fail
  refine (number_any s b (a + 3) 2 _ hs g5 p5 (by omega)).mono ?_
  rintro e w6 (⟨p6, rfl, g6, st6⟩ | ⟨p6, rfl, st6⟩)
  rotate_left
  · exact ⟨rfl, .inr ⟨by unfold pMsg; rw [if_pos p3, P4.out]; simp only; rw [if_neg (by omega)], rfl, st5.trans st6⟩⟩
  have z6 : w6.heap[w.heap.size]? = some zeroMsg := (st6.block _ (Array.getElem?_eq_some_iff.1 z5).1 (by omega)).trans z5
  replace st6 := st5.trans st6
  clear z5 st5 g5
  generalize hx6 : be (s.extract (a + 3) (a + 3 + 2)).data.toList = x6
  have X6 : Hid (be (s.extract (a + 3) (a + 3 + 2)).data.toList = x6) := hx6
  clear hx6
  go_wp2_with fail
  refine (text_any s b (a + 3 + 2) _ hs g6 p6).mono ?_
  rintro e w7 (⟨v, c, q7, p7, rfl, g7, st7⟩ | ⟨q7, rfl, st7⟩)
  rotate_left
  · exact ⟨rfl, .inr ⟨by unfold pMsg; rw [if_pos p3, P4.out]; simp only; rw [if_pos p6, q7], rfl, st6.trans st7⟩⟩
  have z7 : w7.heap[w.heap.size]? = some zeroMsg := (st7.block _ (Array.getElem?_eq_some_iff.1 z6).1 (by omega)).trans z6
  replace st7 := st6.trans st7
  have P7 : Hid (pText s (a + 3 + 2) = some (v, c)) := q7
  clear z6 st6 g6 q7
  have hz7 := (Array.getElem?_eq_some_iff.1 z7).1
  go_wp2_with fail
  refine (entries_any s b c _ hs g7 p7).mono ?_
  rintro e w8 (⟨es, j, ao, cap, q8, rfl, g8, p8, st8, o8⟩ | ⟨q8, rfl, st8⟩)
  rotate_left
  · exact ⟨rfl, .inr ⟨by unfold pMsg; rw [if_pos p3, P4.out]; simp only; rw [if_pos p6, P7.out]; simp only; rw [q8], rfl, st7.trans st8⟩⟩
  have z8 : w8.heap[w.heap.size]? = some zeroMsg := (st8.block _ hz7 (by omega)).trans z7
  replace st8 := st7.trans st8
  have HM : Hid (pMsg s i = some (⟨(x1 : Nat), (x2 : Nat), (x3 : Nat), g, (x5 : Nat), (x6 : Nat), v, es⟩, j)) := by
    show _ = _
    unfold pMsg
    rw [if_pos p3, P4.out]; simp only
    rw [if_pos p6, P7.out]; simp only
    rw [q8, X1.out, X2.out, X3.out, X5.out, X6.out]
  clear z7 st7 g7 q8 P4 P7 X1 X2 X3 X5 X6 p1 p2 p3 p4 p5 p6 p7
  have c0 := cell_of_heap z8 0
  have c1 := cell_of_heap z8 1
  have c2 := cell_of_heap z8 2
  have c3 := cell_of_heap z8 3
  have c4 := cell_of_heap z8 4
  have c5 := cell_of_heap z8 5
  have c6 := cell_of_heap z8 6
  have c7 := cell_of_heap z8 7
  simp at c0 c1 c2 c3 c4 c5 c6 c7
  have fz := free_of_heap z8
  go_wp2
  refine bodyPost_ret (v := msgV ⟨(x1 : Nat), (x2 : Nat), (x3 : Nat), g, (x5 : Nat), (x6 : Nat), v, es⟩ ao cap) (by simp [results, Tryd.results34, go_sem, c0, c1, c2, c3, c4, c5, c6, c7]) rfl (.inl ⟨_, j, ao, cap, HM.out, rfl, ?_, p8, ?_, ?_⟩)
  · have hne : b ≠ w.heap.size := by omega
    iterate 8 refine (Below.heap_setCell _ _ _ b hne).trans ?_
    exact g8
  · exact ((((((((st8.setNew (Nat.le_refl _) _).setNew (Nat.le_refl _) _).setNew (Nat.le_refl _) _).setNew (Nat.le_refl _) _).setNew (Nat.le_refl _) _).setNew (Nat.le_refl _) _).setNew (Nat.le_refl _) _).setNew (Nat.le_refl _) _)
  · refine owns_mono (base := w7.heap.size) ?_ (by omega)
    exact ownsRow_setCell_below (ownsRow_setCell_below (ownsRow_setCell_below (ownsRow_setCell_below (ownsRow_setCell_below (ownsRow_setCell_below (ownsRow_setCell_below (ownsRow_setCell_below o8 hz7 _) hz7 _) hz7 _) hz7 _) hz7 _) hz7 _) hz7 _) hz7 _
end Go.Proofs.YtlagmbieaicmgaaDoor
