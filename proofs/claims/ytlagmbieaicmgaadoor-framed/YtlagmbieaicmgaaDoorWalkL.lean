/- Framed answers true, whatever it is given. -/
import Derived.Test.YtlagmbieaicmgaaDoorWalkK
namespace Go.Proofs.YtlagmbieaicmgaaDoor
open Go.RowKit Pact

/-- The message that can be sent in any case. -/
def fixedM : Msg := ⟨7, 3, 4, ⟨#[115, 48]⟩, 67, 5, ⟨#[]⟩, []⟩

theorem fixed_send : sendB fixedM = true := by decide +kernel
theorem fixed_size : (encB fixedM).size = 18 := by decide +kernel

theorem encB_le (m : Msg) (h : sendB m = true) : (encB m).size ≤ 100000 ∧ 0 < (encB m).size := by
  have hf := sendB_fit h
  have h1 := encB_size m
  have h2 := entsB_le m.ents hf.ents
  have h3 := hf.group
  have h4 := hf.value
  have h5 := hf.len
  have h6 : (bodyB m).length ≤ 1000 + (entsB m.ents).length := by simp [bodyB, headB, textB, numB_length]; omega
  omega

theorem pick_int (c n : Int) (w : World) (h1 : -9223372036854775808 ≤ c) (h2 : c < 9223372036854775808) (hn : 0 < n) (hn2 : n < 1000000000) :
    Calls Tryd.prog 12 #[.int .i64 c, .int .i64 n] w fun e w' => (∃ p : Nat, (p : Int) < n ∧ e = .returned (.int .i64 p)) ∧ w' = w := by
  obtain ⟨k, rfl⟩ := Int.eq_ofNat_of_zero_le (show 0 ≤ n by omega)
  refine (pick_any c k w h1 h2 (by omega) (by omega)).mono ?_
  rintro e w' ⟨⟨p, hp, he⟩, hw⟩
  exact ⟨⟨p, by omega, he⟩, hw⟩

theorem not_empty (S : ByteArray) (h : 0 < S.size) : S.toList.isEmpty = false := by
  rw [ByteArray.toList_eq, List.isEmpty_eq_false_iff]
  intro e
  have hl : S.data.toList.length = S.size := by simp
  rw [e] at hl
  simp only [List.length_nil] at hl
  omega

theorem not_same {t S : ByteArray} {m : Msg} {n : Int} (h : decR S = .inr m) (k : decR t = .inl n) : (t.toList == S.toList) = false := by
  rw [beq_eq_false_iff_ne]
  intro e
  rw [ByteArray.toList_eq, ByteArray.toList_eq] at e
  have : t = S := ByteArray.ext (Array.toList_inj.1 e)
  rw [this, h] at k
  cases k

theorem short_no {S : ByteArray} {m : Msg} (h : decR S = .inr m) (p : Nat) (hp : p < S.size) : ∃ n', decR (S.extract 0 p) = .inl n' := by
  cases hd : decR (S.extract 0 p) with
  | inl n' => exact ⟨n', rfl⟩
  | inr m' =>
    have hz : (S.extract 0 p).size = p := by simp; omega
    have := ext_size hd h (by omega) (by rw [hz]; simp)
    omega

theorem long_no {S tail : ByteArray} {m : Msg} (h : decR S = .inr m) (ht : tail.toList.isEmpty = false) : ∃ n', decR (S ++ tail) = .inl n' := by
  cases hd : decR (S ++ tail) with
  | inl n' => exact ⟨n', rfl⟩
  | inr m' =>
    have h1 : 0 < tail.size := by
      rw [ByteArray.toList_eq, List.isEmpty_eq_false_iff] at ht
      have := List.length_pos_iff.2 ht
      simpa using this
    have hz : (S ++ tail).size = S.size + tail.size := ByteArray.size_append
    have hl : S.data.toList.length = S.size := by simp
    have := ext_size h hd (by omega) (by rw [ByteArray.data_append, Array.toList_append, ← hl, List.take_left])
    omega

set_option maxHeartbeats 2000000 in
theorem framed_yes (m : Msg) (ao : Option Addr) (cap : Nat) (at0 mask n : Int) (tail : ByteArray) (w : World) (hs : sendB m = true) (hn : m.ents.length ≤ maxLen) (hents : EntsIn w ao m.ents) (hT : TabAt w)
    (ha1 : -9223372036854775808 ≤ at0) (ha2 : at0 < 9223372036854775808) (hn1 : -9223372036854775808 ≤ n) (hn2 : n < 9223372036854775808) (ht : tail.size ≤ 140737488355328) :
    Calls Tryd.prog 4 #[msgV m ao cap, .int .i64 at0, .int .i64 mask, .int .i64 n, .string tail] w fun e w' => e = .returned (.bool true) ∧ Below w.heap.size w w' := by
  have hb0 : 0 < w.heap.size := cell_lt (hT 0 (by omega))
  have h18 := fixed_size
  have hle := encB_le m hs
  have trp := trip m hs
  go_enter Tryd.func4, Tryd.ntmps4
  go_wp2_with fail
  have hB0 : ∀ o, Below w.heap.size w (w.alloc o) := fun o => (Below.refl _ _).alloc (Nat.le_refl _) _
  refine (encode_yes fixedM none 0 _ fixed_send (by decide) (.inl rfl) (hT.below (hB0 _) hb0)).mono ?_
  rintro e w1 ⟨rfl, hb1⟩
  have x1 : w1.heap[w.heap.size]? = some (boxO 24 m ao cap) := (hb1.block _ (by simp)).trans (heap_new _ _)
  have hb2 : Below w.heap.size w w1 := (hB0 _).trans (hb1.mono (by simp))
  have hs1 : w.heap.size < w1.heap.size := (Array.getElem?_eq_some_iff.1 x1).1
  obtain ⟨c0, c1, c2, c3, c4, c5, c6, c7⟩ := box_cells x1
  clear hb1 hB0
  go_wp2_with fail
  refine (encode_yes m ao cap _ hs hn (hents.below hb2) (hT.below hb2 hb0)).mono ?_
  rintro e w2 ⟨rfl, hb3⟩
  have x2 := (hb3.block _ hs1).trans x1
  have hb4 : Below w.heap.size w w2 := hb2.trans (hb3.mono (by omega))
  have hs2 : w.heap.size < w2.heap.size := (Array.getElem?_eq_some_iff.1 x2).1
  clear hb3 hb2 x1 hs1 c0 c1 c2 c3 c4 c5 c6 c7
  generalize encB m = S at *
  have TR : Hid (decR S = .inr m) := trp
  clear trp
  obtain ⟨hS1, hS2⟩ := hle
  go_wp2_with fail
  refine (decode_any S _ (by unfold maxLen; omega) (hT.below hb4 hb0)).mono ?_
  rintro e w3 (⟨m', ao', cap', q, rfl, hb5, o5⟩ | ⟨n', q, _⟩)
  rotate_left
  · rw [TR.out] at q; cases q
  obtain rfl : m = m' := by
    rw [TR.out] at q
    injection q
  clear q
  have x3 := (hb5.block _ hs2).trans x2
  have hb6 : Below w.heap.size w w3 := hb4.trans (hb5.mono (by omega))
  have hs3 : w.heap.size < w3.heap.size := (Array.getElem?_eq_some_iff.1 x3).1
  have en3 := ents_of_owns o5
  clear hb5 hb4 x2 hs2 o5
  obtain ⟨c0, c1, c2, c3, c4, c5, c6, c7⟩ := box_cells x3
  go_wp2_with fail
  have hA3 : ∀ o, Below w3.heap.size w3 (w3.alloc o) := fun o => (Below.refl _ _).alloc (Nat.le_refl _) _
  refine (same_eq m ao' ao cap' cap _ hn (en3.below (hA3 _)) (hents.below (hb6.trans ((hA3 _).mono (by omega))))).mono ?_
  rintro e w4 ⟨rfl, hb7⟩
  have hb8 : Below w.heap.size w w4 := hb6.trans (((hA3 _).mono (by omega)).trans (hb7.mono (by simp; omega)))
  clear hb7 hb6 x3 hs3 hA3 c0 c1 c2 c3 c4 c5 c6 c7 en3 hents
  have hT4 := hT.below hb8 hb0
  have hs4 := hb8.size
  have hemp : S.toList.isEmpty = false := not_empty S hS2
  go_wp2_with fail
  refine (pick_int at0 (8 * S.size) _ ha1 ha2 (by omega) (by omega)).mono ?_
  rintro e w5 ⟨⟨p, hp, rfl⟩, rfl⟩
  go_wp2_with fail
  refine (turned_any S p mask _ (by omega) (by omega)).mono ?_
  rintro e w6 ⟨⟨t, rfl, htS, x, hx, hnum⟩, hb9⟩
  have hb10 : Below w.heap.size w w6 := hb8.trans (hb9.mono hs4)
  have hT6 := hT.below hb10 hb0
  have hs6 := hb10.size
  clear hb9 hb8 hT4 hs4
  have hsp : t = S ∨ ∃ n', decR t = .inl n' := by
    cases hdt : decR t with
    | inl n' => exact .inr ⟨n', rfl⟩
    | inr m' => exact .inl (burst_no TR.out hdt htS.symm p x hx (by omega) hnum).symm
  have hts : t.size ≤ maxLen := by unfold maxLen; omega
  have HQ : Hid (t.size = S.size) := htS
  clear hnum hx htS
  have hlong : tail.toList.isEmpty = false → ∃ n', decR (S ++ tail) = .inl n' := fun he => long_no TR.out he
  have hshort := fun p2 h => short_no TR.out p2 h
  have hadd : ∀ W, (Op.stringOp .add S tail).run Tryd.prog W = .ok (.string (S ++ tail)) W := fun W => run_string_add_sum (P := Tryd.prog) (w := W) S tail (by omega)
  have hsz : (S ++ tail).size ≤ maxLen := by rw [ByteArray.size_append]; unfold maxLen; omega
  rcases hsp with rfl | ⟨n', hdt⟩
  · go_wp2_with fail
    refine (pick_int n t.size _ hn1 hn2 (by omega) (by omega)).mono ?_
    rintro e w7 ⟨⟨p2, hp2, rfl⟩, rfl⟩
    obtain ⟨n2, hn2'⟩ := hshort p2 (by omega)
    clear hshort
    go_wp2_with fail
    refine (none_yes (t.extract 0 p2) _ n2 (by simp; unfold maxLen; omega) hT6 hn2').mono ?_
    rintro e w8 ⟨rfl, hb11⟩
    have hb12 : Below w.heap.size w w8 := hb10.trans (hb11.mono hs6)
    have hT8 := hT.below hb12 hb0
    have hs8 := hb12.size
    clear hb11 hb10 hT6 hs6 hn2'
    cases he : tail.toList.isEmpty with
    | true =>
      clear hlong
      go_wp2
      go_ret
      exact ⟨rfl, hb12⟩
    | false =>
      obtain ⟨n3, hn3⟩ := hlong he
      clear hlong
      go_wp2_with fail
      refine (none_yes (t ++ tail) _ n3 hsz hT8 hn3).mono ?_
      rintro e w9 ⟨rfl, hb13⟩
      have hb14 : Below w.heap.size w w9 := hb12.trans (hb13.mono hs8)
      clear hb13 hb12 hT8 hn3
      go_wp2
      go_ret
      exact ⟨rfl, hb14⟩
  · have hneq := not_same TR.out hdt
    go_wp2_with fail
    refine (none_yes t _ n' hts hT6 hdt).mono ?_
    rintro e w6' ⟨rfl, hb9⟩
    have hb10' : Below w.heap.size w w6' := hb10.trans (hb9.mono hs6)
    have hT6' := hT.below hb10' hb0
    have hs6' := hb10'.size
    clear hb9 hb10 hT6 hs6 hdt hneq
    go_wp2_with fail
    refine (pick_int n S.size _ hn1 hn2 (by omega) (by omega)).mono ?_
    rintro e w7 ⟨⟨p2, hp2, rfl⟩, rfl⟩
    obtain ⟨n2, hn2'⟩ := hshort p2 (by omega)
    clear hshort
    go_wp2_with fail
    refine (none_yes (S.extract 0 p2) _ n2 (by simp; unfold maxLen; omega) hT6' hn2').mono ?_
    rintro e w8 ⟨rfl, hb11⟩
    have hb12 : Below w.heap.size w w8 := hb10'.trans (hb11.mono hs6')
    have hT8 := hT.below hb12 hb0
    have hs8 := hb12.size
    clear hb11 hb10' hT6' hs6' hn2'
    cases he : tail.toList.isEmpty with
    | true =>
      clear hlong
      go_wp2
      go_ret
      exact ⟨rfl, hb12⟩
    | false =>
      obtain ⟨n3, hn3⟩ := hlong he
      clear hlong
      go_wp2_with fail
      refine (none_yes (S ++ tail) _ n3 hsz hT8 hn3).mono ?_
      rintro e w9 ⟨rfl, hb13⟩
      have hb14 : Below w.heap.size w w9 := hb12.trans (hb13.mono hs8)
      clear hb13 hb12 hT8 hn3
      go_wp2
      go_ret
      exact ⟨rfl, hb14⟩
end Go.Proofs.YtlagmbieaicmgaaDoor
