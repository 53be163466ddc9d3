/- appendText and appendNumber: bytes behind a row of bytes of the call's own. -/
import Derived.Test.YtlagmbieaicmgaaDoorProg
import Derived.Test.YtlagmbieaicmgaaDoorPure
import Derived.WalkKit
import Derived.WalkSpells
import Derived.WalkLawsBesides
import Derived.Lib.AppendStr
namespace Go.Proofs.YtlagmbieaicmgaaDoor
open Go.RowKit Pact

theorem Tryd.info_u8 : (Tryd.prog.info? 5).map (fun i => (i.zero, i.size, i.bytes)) = some (some (.int .u8 0), 1, 1) := by kernel_rfl

set_option maxHeartbeats 400000 in
theorem appendText_any (v : Value) (l : List UInt8) (s : ByteArray) (base : Nat) (w : World) (hown : w.ownsRow base 5 1 v l.length (bc l)) (hs : s.size < 256) (hl : l.length ≤ 1000000) (hbase : base ≤ w.heap.size) :
    Calls Tryd.prog 42 #[v, .string s] w fun e w' => ∃ v', e = .returned v' ∧ w'.ownsRow base 5 1 v' (l ++ textB s).length (bc (l ++ textB s)) ∧ Keep 5 base w w' := by
  obtain ⟨i0, hi, hz0, hz1, hz2⟩ := info_parts Tryd.info_u8
  go_enter Tryd.func42, Tryd.ntmps42
  go_wp2_with (at_builtin; refine wpList_append_own _ rfl _ _ 51 rfl base 5 i0 (.int .u8 0) 1 1 Tryd.underlying51 hi hz0 hz1 hz2 rfl (by decide) v l.length (bc l) rfl (hown.alloc _) ⟨w.heap.size, 0, none⟩ 1 1 [.int .u8 s.size] rfl rfl (cell_one_new _ _ _) (by simp [Value.oneCell']) (by unfold maxLen; omega) (by omega) (by simp; omega) ?_)
  intro v1 w1 hown1 hg1 _
  have k1 : Keep 5 base w w1 := ((Keep.refl _ _ _).alloc _).grown hg1 (hown.alloc _)
  have o1 := owns_snoc (x := s.size) hown1 (by omega)
  have hb1 := k1.size
  clear hown1 hg1 hown
  go_wp2_with (at_builtin; refine Lib.wpList_append_own_string _ rfl _ _ 51 9 rfl base 5 i0 Tryd.underlying51 Tryd.underlying9 hi hz0 hz1 hz2 v1 _ _ rfl o1 s rfl (by simp; unfold maxLen; omega) (by simp; omega) (by omega) ?_)
  intro v2 w2 hown2 hg2 _
  have k2 := k1.grown hg2 o1
  have o2 := owns_text (l := l ++ [UInt8.ofNat s.size]) (s := s) (by rw [List.length_append]; exact hown2)
  rw [List.append_assoc] at o2
  clear hown2 hg2 o1 k1
  go_wp2
  go_ret
  exact ⟨v2, rfl, o2, k2⟩

set_option maxHeartbeats 400000 in
theorem appendNumber_any (v : Value) (l : List UInt8) (x width : Nat) (base : Nat) (w : World) (hown : w.ownsRow base 5 1 v l.length (bc l)) (hw : width ≤ 3) (hl : l.length ≤ 1000000) (hbase : base ≤ w.heap.size) :
    Calls Tryd.prog 43 #[v, .int .i64 x, .int .i64 width] w fun e w' => ∃ v', e = .returned v' ∧ w'.ownsRow base 5 1 v' (l ++ numB x width).length (bc (l ++ numB x width)) ∧ Keep 5 base w w' := by
  obtain ⟨i0, hi, hz0, hz1, hz2⟩ := info_parts Tryd.info_u8
  go_enter Tryd.func43, Tryd.ntmps43
  go_wp2
  go_loopw [0, 7] (fun u i wr => ∃ k : Nat, k ≤ width ∧ i = .int .i64 ((k : Int) - 1) ∧ wr.ownsRow base 5 1 u (l ++ (numB x width).take (width - k)).length (bc (l ++ (numB x width).take (width - k))) ∧ Keep 5 base w wr) (fun _ i _ => (intOf i + 1).toNat)
  case atStart => exact ⟨width, Nat.le_refl _, rfl, by simpa using hown, Keep.refl _ _ _⟩
  case round =>
    obtain ⟨k, hk, rfl, ho, hkp⟩ := hrel
    have hsz := hkp.size
    by_cases h0 : k = 0
    · subst h0
      have ho' : Hid (wr.ownsRow base 5 1 u0 (l ++ numB x width).length (bc (l ++ numB x width))) := by
        have e : (numB x width).take (width - 0) = numB x width := List.take_of_length_le (by simp [numB])
        rw [e] at ho; exact ho
      go_wp2
      go_ret
      exact ⟨_, rfl, ho'.out, hkp⟩
    · have h1 : 1 ≤ k := by omega
      have hln : (l ++ (numB x width).take (width - k)).length ≤ 1000003 := by simp [numB]; omega
      have hT := numB_take x width k h1 hk
      generalize hq : l ++ (numB x width).take (width - k) = q at *
      have hT' : Hid (l ++ (numB x width).take (width - (k - 1)) = q ++ [UInt8.ofNat (x / 2 ^ (8 * (k - 1)))]) := by
        show _ = _
        rw [hT, ← hq, List.append_assoc]
      clear hT hq
      go_wp2_with (at_builtin; refine wpList_append_own _ rfl _ _ 51 rfl base 5 i0 (.int .u8 0) 1 1 Tryd.underlying51 hi hz0 hz1 hz2 rfl (by decide) u0 q.length (bc q) rfl (ho.alloc _) ⟨wr.heap.size, 0, none⟩ 1 1 [.int .u8 ((x : Int) / 2 ^ (8 * (k - 1)) % 256)] rfl rfl (cell_one_new _ _ _) (by simp [Value.oneCell']) (by unfold maxLen; omega) (by omega) (by simp; omega) ?_)
      intro v1 w1 hown1 hg1 _
      have k1 : Keep 5 base w w1 := (hkp.alloc _).grown hg1 (ho.alloc _)
      have o1 := owns_snoc (x := x / 2 ^ (8 * (k - 1))) hown1 (by simp)
      rw [← hT'.out] at o1
      clear hown1 hg1 ho hkp
      go_wp2
      go_roundw
      case rel => exact ⟨k - 1, by omega, by go_num, o1, k1⟩
      case measure => simp [intOf]; omega

theorem appendNumber_int (v : Value) (l : List UInt8) (x : Int) (width : Nat) (base : Nat) (w : World) (hown : w.ownsRow base 5 1 v l.length (bc l)) (hx : 0 ≤ x) (hw : width ≤ 3) (hl : l.length ≤ 1000000) (hbase : base ≤ w.heap.size) :
    Calls Tryd.prog 43 #[v, .int .i64 x, .int .i64 width] w fun e w' => ∃ v', e = .returned v' ∧ w'.ownsRow base 5 1 v' (l ++ numB x.toNat width).length (bc (l ++ numB x.toNat width)) ∧ Keep 5 base w w' := by
  obtain ⟨n, rfl⟩ := Int.eq_ofNat_of_zero_le hx
  exact appendNumber_any v l n width base w hown hw hl hbase
end Go.Proofs.YtlagmbieaicmgaaDoor
