/- Read: the message that bytes are, or why they are none. -/
import Derived.Test.YtlagmbieaicmgaaDoorWalkH
import Derived.Test.YtlagmbieaicmgaaDoorWalkA
import Derived.Test.YtlagmbieaicmgaaDoorWalkB
namespace Go.Proofs.YtlagmbieaicmgaaDoor
open Go.RowKit Pact

theorem ecs_at : ∀ (es : List Ent) (i : Nat) (h : i < es.length), (ecs es)[i * 3]? = some (.int .i64 es[i].slot) ∧ (ecs es)[i * 3 + 1]? = some (.int .i64 es[i].ballot) ∧ (ecs es)[i * 3 + 2]? = some (.string es[i].value)
  | e :: es, 0, _ => ⟨rfl, rfl, rfl⟩
  | e :: es, i + 1, h => by
    have ih := ecs_at es i (by simpa using h)
    have e1 : ecs (e :: es) = .int .i64 e.slot :: .int .i64 e.ballot :: .string e.value :: ecs es := rfl
    rw [e1, show (i + 1) * 3 = i * 3 + 3 from by omega]
    exact ih

theorem ents_of_owns {w : World} {base : Nat} {ao : Option Addr} {cap : Nat} {es : List Ent} (h : w.ownsRow base 53 3 (.slice ao es.length cap) es.length (ecs es)) : EntsIn w ao es := by
  rcases h.2 with ⟨_, hn⟩ | ⟨g, cp, cur, hv, _, hh, _, _, _, htake⟩
  · exact .inl (List.eq_nil_of_length_eq_zero hn)
  · injection hv with h1 h2 h3
    refine .inr ⟨g, 0, h1, fun i hi => ?_⟩
    obtain ⟨a0, a1, a2⟩ := ecs_at es i hi
    rw [← htake] at a0 a1 a2
    rw [List.getElem?_take_of_lt (by omega)] at a0 a1 a2
    rw [cell_of_heap hh, cell_of_heap hh, cell_of_heap hh, Nat.zero_add]
    exact ⟨by simpa using a0, by simpa using a1, by simpa using a2⟩

theorem pMsg_len {s : ByteArray} {i : Nat} {m : Msg} {j : Nat} (h : pMsg s i = some (m, j)) : m.ents.length ≤ 255 := by
  unfold pMsg at h
  split at h
  · split at h
    · cases h
    · split at h
      · split at h
        · cases h
        · split at h
          · cases h
          · rename_i es d hl
            injection h with h
            injection h with h1 h2
            rw [← h1]
            unfold pList at hl
            split at hl
            · rename_i hle
              have := be1_lt s _ hle
              rw [pEnts_length hl]; omega
            · cases hl
      · cases h
  · cases h

theorem take_any (s : ByteArray) (b i n : Nat) (w : World) (hs : s.size ≤ maxLen) (h : w.heap[b]? = some (rdO s i)) (hi : i ≤ s.size) :
    Calls Tryd.prog 35 #[.pointer (some ⟨b, 0, none⟩), .int .i64 n] w fun e w' =>
      (i + n ≤ s.size ∧ e = .returned (.string (s.extract i (i + n))) ∧ w'.heap[b]? = some (rdO s (i + n)) ∧ Step b w w') ∨ (s.size < i + n ∧ e = .panicked (fault 2) ∧ Step b w w') := by
  by_cases hn : i + n ≤ s.size
  · exact (take_yes s b i n w hs h hn).mono fun e w' h => .inl ⟨hn, h⟩
  · exact (take_no s b i n w hs h hi (by omega)).mono fun e w' h => .inr ⟨by omega, h⟩

/-- The message that bytes are, or why they are none. -/
def decR (s : ByteArray) : Sum Int Msg :=
  if s.size < 1 then .inl 2 else
  match pMsg s 1 with
  | none => .inl 2
  | some (m, j) =>
    if s.size < j + 4 then .inl 2 else
    if ((s.extract j (j + 4)).data.toList == sumOf (s.extract 0 j).data.toList) = false then .inl 3 else
    if (be (s.extract 0 1).data.toList = 77 ∧ j + 4 = s.size) ∧ sendB m = true then .inr m else .inl 4

theorem decR_sum {s : ByteArray} {m : Msg} {j : Nat} (h1 : 0 + 1 ≤ s.size) (hp : pMsg s 1 = some (m, j)) (h4 : j + 4 ≤ s.size) (hh : (!(s.extract j (j + 4)).toList == sumOf (List.take j s.data.toList)) = true) : decR s = .inl 3 := by
  have e : (s.extract 0 j).data.toList = s.data.toList.take j := by simp
  have e2 : ((s.extract j (j + 4)).data.toList == sumOf (s.extract 0 j).data.toList) = false := by rw [e, ← ByteArray.toList_eq]; simpa using hh
  unfold decR
  rw [if_neg (by omega), hp]; simp only
  rw [if_neg (by omega), if_pos e2]

theorem decR_rest {s : ByteArray} {m : Msg} {j : Nat} (h1 : 0 + 1 ≤ s.size) (hp : pMsg s 1 = some (m, j)) (h4 : j + 4 ≤ s.size) (hh : (!(s.extract j (j + 4)).toList == sumOf (List.take j s.data.toList)) = false) :
    decR s = if (be (s.extract 0 1).data.toList = 77 ∧ j + 4 = s.size) ∧ sendB m = true then .inr m else .inl 4 := by
  have e : (s.extract 0 j).data.toList = s.data.toList.take j := by simp
  have e2 : ¬ ((s.extract j (j + 4)).data.toList == sumOf (s.extract 0 j).data.toList) = false := by rw [e, ← ByteArray.toList_eq]; simpa using hh
  conv => lhs; unfold decR
  rw [if_neg (by omega), hp]; simp only
  rw [if_neg (by omega), if_neg e2]

set_option maxHeartbeats 1000000 in
theorem read_any (s : ByteArray) (w : World) (hs : s.size ≤ maxLen) (hT : TabAt w) :
    Calls Tryd.prog 23 #[.string s] w fun e w' =>
      (∃ m ao cap, decR s = .inr m ∧ e = .returned (msgV m ao cap) ∧ Below w.heap.size w w' ∧ w'.ownsRow w.heap.size 53 3 (.slice ao m.ents.length cap) m.ents.length (ecs m.ents)) ∨
      (∃ n, decR s = .inl n ∧ e = .panicked (fault n) ∧ Below w.heap.size w w') := by
  have hb0 : 0 < w.heap.size := cell_lt (hT 0 (by omega))
  go_enter Tryd.func23, Tryd.ntmps23
  go_wp2_with fail
  refine (number_any s (w.heap.size + 1) 0 1 _ hs (heap2b _ _ (rdO s 0)) (by omega) (by omega)).mono ?_
  rintro e w1 (⟨p1, rfl, g1, st1⟩ | ⟨p1, rfl, st1⟩)
  rotate_left
  · exact ⟨rfl, .inr ⟨2, by unfold decR; rw [if_pos (by omega)], rfl, (below2 _ _ _).trans ((st1.below (by simp)).mono (by omega))⟩⟩
  have hb1 : Below w.heap.size w w1 := (below2 _ _ _).trans ((st1.below (by simp)).mono (by omega))
  have z1 : w1.heap[w.heap.size]? = some zeroMsg := (st1.block _ (by simp; omega) (by omega)).trans (heap2 _ _ _)
  clear st1
  generalize hx1 : be (s.extract 0 (0 + 1)).data.toList = x1
  have X1 : Hid (be (s.extract 0 1).data.toList = x1) := hx1
  clear hx1
  go_wp2_with fail
  refine (message_any s (w.heap.size + 1) 1 _ hs g1 p1).mono ?_
  rintro e w2 (⟨m, j, ao, cap, q2, rfl, g2, p2, st2, o2⟩ | ⟨q2, rfl, st2⟩)
  rotate_left
  · exact ⟨rfl, .inr ⟨2, by unfold decR; rw [if_neg (by omega), q2], rfl, hb1.trans ((st2.below (by have := (Array.getElem?_eq_some_iff.1 g1).1; omega)).mono (by omega))⟩⟩
  have hg1 := (Array.getElem?_eq_some_iff.1 g1).1
  have hb2 : Below w.heap.size w w2 := hb1.trans ((st2.below (by omega)).mono (by omega))
  have z2 : w2.heap[w.heap.size]? = some zeroMsg := (st2.block _ (Array.getElem?_eq_some_iff.1 z1).1 (by omega)).trans z1
  have o2' := owns_mono o2 (show w.heap.size + 2 ≤ w1.heap.size by omega)
  have hs2 : w.heap.size + 1 < w2.heap.size := by have := st2.size; omega
  have P2 : Hid (pMsg s 1 = some (m, j)) := q2
  clear o2 st2 z1 hb1 g1 q2
  obtain ⟨c0, c1, c2⟩ := rd_cells g2
  go_wp2_with fail
  refine (take_any s (w.heap.size + 1) j 4 _ hs (rd_alloc g2 _) p2).mono ?_
  rintro e w3 (⟨p3, rfl, g3, st3⟩ | ⟨p3, rfl, st3⟩)
  rotate_left
  · exact ⟨rfl, .inr ⟨2, by unfold decR; rw [if_neg (by omega), P2.out]; simp only; rw [if_pos (by omega)], rfl, (hb2.alloc hb2.size _).trans ((st3.below (by simp; omega)).mono (by omega))⟩⟩
  have hb3 : Below w.heap.size w w3 := (hb2.alloc hb2.size _).trans ((st3.below (by simp; omega)).mono (by omega))
  have bx3 : w3.heap[w2.heap.size]? = some (boxO 24 m ao cap) := (st3.block _ (by simp) (by omega)).trans (heap_new _ _)
  have z3 : w3.heap[w.heap.size]? = some zeroMsg := (st3.block _ (by simp; omega) (by omega)).trans ((Below.heap_alloc _ _ _ (by omega)).trans z2)
  have o3 := owns_step (o2'.alloc _) st3 (by omega)
  have hs3 : w2.heap.size < w3.heap.size := (Array.getElem?_eq_some_iff.1 bx3).1
  clear st3 o2' z2 hb2 g2 c0 c1 c2
  go_wp2_with fail
  refine (sumText_any (s.extract 0 j) _ (by simp; omega) (hT.below hb3 hb0)).mono ?_
  rintro e w4 ⟨rfl, hb4⟩
  have bx4 := (hb4.block _ hs3).trans bx3
  have z4 := (hb4.block _ (by omega)).trans z3
  have g4 := (hb4.block _ (by omega)).trans g3
  have hb5 : Below w.heap.size w w4 := hb3.trans (hb4.mono (by omega))
  have o4 := owns_step (b := w.heap.size + 1) o3 (Step.of_below hb4) (by omega)
  have hs4 : w2.heap.size < w4.heap.size := (Array.getElem?_eq_some_iff.1 bx4).1
  clear hb4 hb3 bx3 z3 g3 o3 hs3
  obtain ⟨c0, c1, c2⟩ := rd_cells g4
  obtain ⟨d0, d1, d2, d3, d4, d5, d6, d7⟩ := box_cells bx4
  have hne : m.ents.length ≤ maxLen := by have := pMsg_len P2.out; unfold maxLen; omega
  go_wp2_with fail
  · have hh : (!(s.extract j (j + 4)).toList == sumOf (List.take j s.data.toList)) = true := by assumption
    have HD : Hid (decR s = .inl 3) := decR_sum p1 P2.out p3 hh
    refine (giveUp_any 3 _).mono ?_
    rintro e w5 ⟨rfl, rfl⟩
    exact ⟨rfl, .inr ⟨3, HD.out, rfl, hb5⟩⟩
  · have hh : (!(s.extract j (j + 4)).toList == sumOf (List.take j s.data.toList)) = false := by assumption
    have hx : (x1 : Int) = 77 := by assumption
    have hj : (j : Int) + 4 = s.size := by assumption
    have HD := decR_rest p1 P2.out p3 hh
    rw [X1.out] at HD
    refine (sendable_any m ao cap _ hne (ents_of_owns o4)).mono ?_
    rintro e w5 ⟨rfl, hb6⟩
    have bx5 := (hb6.block _ hs4).trans bx4
    have z5 := (hb6.block _ (by omega)).trans z4
    have hb7 : Below w.heap.size w w5 := hb5.trans (hb6.mono (by omega))
    have o5 := owns_step (b := w.heap.size + 1) o4 (Step.of_below hb6) (by omega)
    clear hb6 hb5 bx4 z4 g4 o4 c0 c1 c2 d0 d1 d2 d3 d4 d5 d6 d7
    cases hS : sendB m with
    | false =>
      rw [if_neg (by rw [hS]; simp)] at HD
      have HD' : Hid (decR s = .inl 4) := HD
      clear HD bx5 z5 o5
      go_wp2_with fail
      refine (giveUp_any 4 _).mono ?_
      rintro e w6 ⟨rfl, rfl⟩
      exact ⟨rfl, .inr ⟨4, HD'.out, rfl, hb7⟩⟩
    | true =>
      rw [if_pos ⟨⟨by omega, by omega⟩, hS⟩] at HD
      have HD' : Hid (decR s = .inr m) := HD
      clear HD
      obtain ⟨d0, d1, d2, d3, d4, d5, d6, d7⟩ := box_cells bx5
      have c0 := cell_of_heap z5 0
      have c1 := cell_of_heap z5 1
      have c2 := cell_of_heap z5 2
      have c3 := cell_of_heap z5 3
      have c4 := cell_of_heap z5 4
      have c5 := cell_of_heap z5 5
      have c6 := cell_of_heap z5 6
      have c7 := cell_of_heap z5 7
      simp at c0 c1 c2 c3 c4 c5 c6 c7
      have fz := free_of_heap z5
      go_wp2
      refine bodyPost_ret (v := msgV m ao cap) (by simp [results, Tryd.results23, go_sem, c0, c1, c2, c3, c4, c5, c6, c7]) rfl (.inl ⟨m, ao, cap, HD'.out, rfl, ?_, ?_⟩)
      · exact ((((((((hb7.setCell (Nat.le_refl _) _).setCell (Nat.le_refl _) _).setCell (Nat.le_refl _) _).setCell (Nat.le_refl _) _).setCell (Nat.le_refl _) _).setCell (Nat.le_refl _) _).setCell (Nat.le_refl _) _).setCell (Nat.le_refl _) _)
      · refine owns_mono (base := w.heap.size + 2) ?_ (by omega)
        have hz7 : w.heap.size < w.heap.size + 2 := by omega
        exact ownsRow_setCell_below (ownsRow_setCell_below (ownsRow_setCell_below (ownsRow_setCell_below (ownsRow_setCell_below (ownsRow_setCell_below (ownsRow_setCell_below (ownsRow_setCell_below o5 hz7 _) hz7 _) hz7 _) hz7 _) hz7 _) hz7 _) hz7 _) hz7 _
  · have hh : (!(s.extract j (j + 4)).toList == sumOf (List.take j s.data.toList)) = false := by assumption
    have hj : ¬ (j : Int) + 4 = s.size := by assumption
    have HD : Hid (decR s = .inl 4) := by
      have := decR_rest p1 P2.out p3 hh
      rw [if_neg (fun h => hj (by omega))] at this
      exact this
    refine (giveUp_any 4 _).mono ?_
    rintro e w5 ⟨rfl, rfl⟩
    exact ⟨rfl, .inr ⟨4, HD.out, rfl, hb5⟩⟩
  · have hh : (!(s.extract j (j + 4)).toList == sumOf (List.take j s.data.toList)) = false := by assumption
    have hj : ¬ (x1 : Int) = 77 := by assumption
    have HD : Hid (decR s = .inl 4) := by
      have := decR_rest p1 P2.out p3 hh
      rw [X1.out, if_neg (fun h => hj (by omega))] at this
      exact this
    refine (giveUp_any 4 _).mono ?_
    rintro e w5 ⟨rfl, rfl⟩
    exact ⟨rfl, .inr ⟨4, HD.out, rfl, hb5⟩⟩
end Go.Proofs.YtlagmbieaicmgaaDoor
