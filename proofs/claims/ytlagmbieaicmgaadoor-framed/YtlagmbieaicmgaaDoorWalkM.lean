/- Framed answers true, whatever it is given (the message that cannot be sent; both together). -/
import Derived.Test.YtlagmbieaicmgaaDoorWalkL
namespace Go.Proofs.YtlagmbieaicmgaaDoor
open Go.RowKit Pact

set_option maxHeartbeats 2000000 in
theorem framed_no (m : Msg) (ao : Option Addr) (cap : Nat) (at0 mask n : Int) (tail : ByteArray) (w : World) (hs : sendB m = false) (hn : m.ents.length ≤ maxLen) (hents : EntsIn w ao m.ents) (hT : TabAt w)
    (ha1 : -9223372036854775808 ≤ at0) (ha2 : at0 < 9223372036854775808) (hn1 : -9223372036854775808 ≤ n) (hn2 : n < 9223372036854775808) (ht : tail.size ≤ 140737488355328) :
    Calls Tryd.prog 4 #[msgV m ao cap, .int .i64 at0, .int .i64 mask, .int .i64 n, .string tail] w fun e w' => e = .returned (.bool true) ∧ Below w.heap.size w w' := by
  have hb0 : 0 < w.heap.size := cell_lt (hT 0 (by omega))
  have h18 := fixed_size
  have hle := encB_le fixedM fixed_send
  have trp := trip fixedM fixed_send
  go_enter Tryd.func4, Tryd.ntmps4
  go_wp2_with fail
  have hB0 : ∀ o, Below w.heap.size w (w.alloc o) := fun o => (Below.refl _ _).alloc (Nat.le_refl _) _
  refine (encode_yes fixedM none 0 _ fixed_send (by decide) (.inl rfl) (hT.below (hB0 _) hb0)).mono ?_
  rintro e w1 ⟨rfl, hb1⟩
  have x1 : w1.heap[w.heap.size]? = some (boxO 24 m ao cap) := (hb1.block _ (by simp)).trans (heap_new _ _)
  have hb2 : Below w.heap.size w w1 := (hB0 _).trans (hb1.mono (by simp))
  have hs1 : w.heap.size < w1.heap.size := (Array.getElem?_eq_some_iff.1 x1).1
  obtain ⟨c0, c1, c2, c3, c4, c5, c6, c7⟩ := box_cells x1
  clear hb1 hB0
  go_wp2_with fail
  refine (encode_no m ao cap _ hs hn (hents.below hb2)).mono ?_
  rintro e w2 ⟨rfl, hb3⟩
  have x2 := (hb3.block _ hs1).trans x1
  have hb4 : Below w.heap.size w w2 := hb2.trans (hb3.mono (by omega))
  have hs2 : w.heap.size < w2.heap.size := (Array.getElem?_eq_some_iff.1 x2).1
  clear hb3 hb2 x1 hs1 c0 c1 c2 c3 c4 c5 c6 c7 hents hn
  obtain ⟨c0, c1, c2, c3, c4, c5, c6, c7⟩ := box_cells x2
  have fz := free_of_heap x2
  clear h18
  generalize encB fixedM = S at *
  have TR : Hid (decR S = .inr fixedM) := trp
  clear trp
  obtain ⟨hS1, hS2⟩ := hle
  go_wp2_with fail
  generalize hW : ((((((((w2.setCell ⟨w.heap.size, 0, none⟩ (.int .i64 7)).setCell ⟨w.heap.size, 1, none⟩ (.int .i64 3)).setCell ⟨w.heap.size, 2, none⟩ (.int .i64 4)).setCell ⟨w.heap.size, 3, none⟩ (.string ⟨#[115, 48]⟩)).setCell ⟨w.heap.size, 4, none⟩ (.int .i64 67)).setCell ⟨w.heap.size, 5, none⟩ (.int .i64 5)).setCell ⟨w.heap.size, 6, none⟩ (.string ⟨#[]⟩)).setCell ⟨w.heap.size, 7, none⟩ (.slice none 0 0)) = W2
  have x2' : W2.heap[w.heap.size]? = some (boxO 24 fixedM none 0) := by
    rw [← hW]
    exact set_heap (set_heap (set_heap (set_heap (set_heap (set_heap (set_heap (set_heap x2 0 _) 1 _) 2 _) 3 _) 4 _) 5 _) 6 _) 7 _
  have hb4' : Below w.heap.size w W2 := by
    rw [← hW]
    exact ((((((((hb4.setCell (Nat.le_refl _) _).setCell (Nat.le_refl _) _).setCell (Nat.le_refl _) _).setCell (Nat.le_refl _) _).setCell (Nat.le_refl _) _).setCell (Nat.le_refl _) _).setCell (Nat.le_refl _) _).setCell (Nat.le_refl _) _)
  clear hW x2 hb4 hs2 c0 c1 c2 c3 c4 c5 c6 c7 fz
  have hs2 : w.heap.size < W2.heap.size := (Array.getElem?_eq_some_iff.1 x2').1
  refine (decode_any S _ (by unfold maxLen; omega) (hT.below hb4' hb0)).mono ?_
  rintro e w3 (⟨m', ao', cap', q, rfl, hb5, o5⟩ | ⟨n', q, _⟩)
  rotate_left
  · rw [TR.out] at q; cases q
  obtain rfl : fixedM = m' := by
    rw [TR.out] at q
    injection q
  clear q
  have x3 := (hb5.block _ hs2).trans x2'
  have hb6 : Below w.heap.size w w3 := hb4'.trans (hb5.mono (by omega))
  have hs3 : w.heap.size < w3.heap.size := (Array.getElem?_eq_some_iff.1 x3).1
  have en3 := ents_of_owns o5
  clear hb5 hb4' x2' hs2 o5
  obtain ⟨c0, c1, c2, c3, c4, c5, c6, c7⟩ := box_cells x3
  go_wp2_with fail
  have hA3 : ∀ o, Below w3.heap.size w3 (w3.alloc o) := fun o => (Below.refl _ _).alloc (Nat.le_refl _) _
  refine (same_eq fixedM ao' none cap' 0 _ (by decide) (en3.below (hA3 _)) (.inl rfl)).mono ?_
  rintro e w4 ⟨rfl, hb7⟩
  have hb8 : Below w.heap.size w w4 := hb6.trans (((hA3 _).mono (by omega)).trans (hb7.mono (by simp; omega)))
  clear hb7 hb6 x3 hs3 hA3 c0 c1 c2 c3 c4 c5 c6 c7 en3
  have hT4 := hT.below hb8 hb0
  have hs4 := hb8.size
  have hemp : S.toList.isEmpty = false := not_empty S hS2
  go_wp2_with fail
  refine (pick_int at0 (8 * S.size) _ ha1 ha2 (by omega) (by omega)).mono ?_
  rintro e w5 ⟨⟨p, hp, rfl⟩, rfl⟩
  go_wp2_with fail
  refine (turned_any S p mask _ (by omega) (by omega)).mono ?_
  rintro e w6 ⟨⟨t, rfl, htS, x, hx, hnum⟩, hb9⟩
  have hb10 : Below w.heap.size w w6 := hb8.trans (hb9.mono hs4)
  have hT6 := hT.below hb10 hb0
  have hs6 := hb10.size
  clear hb9 hb8 hT4 hs4
  have hsp : t = S ∨ ∃ n', decR t = .inl n' := by
    cases hdt : decR t with
    | inl n' => exact .inr ⟨n', rfl⟩
    | inr m' => exact .inl (burst_no TR.out hdt htS.symm p x hx (by omega) hnum).symm
  have hts : t.size ≤ maxLen := by unfold maxLen; omega
  have HQ : Hid (t.size = S.size) := htS
  clear hnum hx htS
  have hlong : tail.toList.isEmpty = false → ∃ n', decR (S ++ tail) = .inl n' := fun he => long_no TR.out he
  have hshort := fun p2 h => short_no TR.out p2 h
  have hadd : ∀ W, (Op.stringOp .add S tail).run Tryd.prog W = .ok (.string (S ++ tail)) W := fun W => run_string_add_sum (P := Tryd.prog) (w := W) S tail (by omega)
  have hsz : (S ++ tail).size ≤ maxLen := by rw [ByteArray.size_append]; unfold maxLen; omega
  rcases hsp with rfl | ⟨n', hdt⟩
  · go_wp2_with fail
    refine (pick_int n t.size _ hn1 hn2 (by omega) (by omega)).mono ?_
    rintro e w7 ⟨⟨p2, hp2, rfl⟩, rfl⟩
    obtain ⟨n2, hn2'⟩ := hshort p2 (by omega)
    clear hshort
    go_wp2_with fail
    refine (none_yes (t.extract 0 p2) _ n2 (by simp; unfold maxLen; omega) hT6 hn2').mono ?_
    rintro e w8 ⟨rfl, hb11⟩
    have hb12 : Below w.heap.size w w8 := hb10.trans (hb11.mono hs6)
    have hT8 := hT.below hb12 hb0
    have hs8 := hb12.size
    clear hb11 hb10 hT6 hs6 hn2'
    cases he : tail.toList.isEmpty with
    | true =>
      clear hlong
      go_wp2
      go_ret
      exact ⟨rfl, hb12⟩
    | false =>
      obtain ⟨n3, hn3⟩ := hlong he
      clear hlong
      go_wp2_with fail
      refine (none_yes (t ++ tail) _ n3 hsz hT8 hn3).mono ?_
      rintro e w9 ⟨rfl, hb13⟩
      have hb14 : Below w.heap.size w w9 := hb12.trans (hb13.mono hs8)
      clear hb13 hb12 hT8 hn3
      go_wp2
      go_ret
      exact ⟨rfl, hb14⟩
  · have hneq := not_same TR.out hdt
    go_wp2_with fail
    refine (none_yes t _ n' hts hT6 hdt).mono ?_
    rintro e w6' ⟨rfl, hb9⟩
    have hb10' : Below w.heap.size w w6' := hb10.trans (hb9.mono hs6)
    have hT6' := hT.below hb10' hb0
    have hs6' := hb10'.size
    clear hb9 hb10 hT6 hs6 hdt hneq
    go_wp2_with fail
    refine (pick_int n S.size _ hn1 hn2 (by omega) (by omega)).mono ?_
    rintro e w7 ⟨⟨p2, hp2, rfl⟩, rfl⟩
    obtain ⟨n2, hn2'⟩ := hshort p2 (by omega)
    clear hshort
    go_wp2_with fail
    refine (none_yes (S.extract 0 p2) _ n2 (by simp; unfold maxLen; omega) hT6' hn2').mono ?_
    rintro e w8 ⟨rfl, hb11⟩
    have hb12 : Below w.heap.size w w8 := hb10'.trans (hb11.mono hs6')
    have hT8 := hT.below hb12 hb0
    have hs8 := hb12.size
    clear hb11 hb10' hT6' hs6' hn2'
    cases he : tail.toList.isEmpty with
    | true =>
      clear hlong
      go_wp2
      go_ret
      exact ⟨rfl, hb12⟩
    | false =>
      obtain ⟨n3, hn3⟩ := hlong he
      clear hlong
      go_wp2_with fail
      refine (none_yes (S ++ tail) _ n3 hsz hT8 hn3).mono ?_
      rintro e w9 ⟨rfl, hb13⟩
      have hb14 : Below w.heap.size w w9 := hb12.trans (hb13.mono hs8)
      clear hb13 hb12 hT8 hn3
      go_wp2
      go_ret
      exact ⟨rfl, hb14⟩

theorem framed_any (m : Msg) (ao : Option Addr) (cap : Nat) (at0 mask n : Int) (tail : ByteArray) (w : World) (hn : m.ents.length ≤ maxLen) (hents : EntsIn w ao m.ents) (hT : TabAt w)
    (ha1 : -9223372036854775808 ≤ at0) (ha2 : at0 < 9223372036854775808) (hn1 : -9223372036854775808 ≤ n) (hn2 : n < 9223372036854775808) (ht : tail.size ≤ 140737488355328) :
    Calls Tryd.prog 4 #[msgV m ao cap, .int .i64 at0, .int .i64 mask, .int .i64 n, .string tail] w fun e w' => e = .returned (.bool true) ∧ Below w.heap.size w w' := by
  cases hs : sendB m with
  | true => exact framed_yes m ao cap at0 mask n tail w hs hn hents hT ha1 ha2 hn1 hn2 ht
  | false => exact framed_no m ao cap at0 mask n tail w hs hn hents hT ha1 ha2 hn1 hn2 ht
end Go.Proofs.YtlagmbieaicmgaaDoor
