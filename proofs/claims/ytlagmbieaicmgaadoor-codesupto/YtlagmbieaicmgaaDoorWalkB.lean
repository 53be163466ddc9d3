/- checkSum and sumText: the check sum of a text, as plain mathematics has it. -/
import Derived.Test.YtlagmbieaicmgaaDoorProg
import Derived.Test.YtlagmbieaicmgaaDoorPure
import Derived.Test.YtlagmbieaicmgaaDoorCrc
import Derived.WalkKit
import Derived.WalkSpells
import Derived.WalkLawsBesides
namespace Go.Proofs.YtlagmbieaicmgaaDoor
open Go.RowKit Pact

/-- The table's numbers, by their places. -/
def tabF (i : Nat) : Nat := tab.getD i 0

/-- The table lies in its variable. -/
def TabAt (w : World) : Prop := ∀ i : Nat, i < 16 → w.cell? ⟨0, i, none⟩ = some (.int .u32 (tabF i : Nat))

theorem TabAt.below {w w' : World} {B : Nat} (h : TabAt w) (hb : Below B w w') (hB : 0 < B) : TabAt w' :=
  fun i hi => (hb.cell (p := ⟨0, i, none⟩) hB).trans (h i hi)

theorem and15 (x : Int) : 0 ≤ bits .and .u32 x 15 ∧ bits .and .u32 x 15 < 16 := by
  have h := Nat.and_lt_two_pow (BitVec.ofInt 32 x).toNat (y := 15) (n := 4) (by omega)
  have e : (BitVec.ofInt 32 x &&& BitVec.ofInt 32 15).toNat = (BitVec.ofInt 32 x).toNat &&& 15 := by simp [BitVec.toNat_and]
  have e2 : bits .and .u32 x 15 = IntKind.u32.wrap (((BitVec.ofInt 32 x &&& BitVec.ofInt 32 15).toNat : Nat) : Int) := rfl
  rw [e2, e, IntKind.wrap_u32]
  generalize (BitVec.ofInt 32 x).toNat &&& 15 = z at *
  omega

theorem tab_lt (i : Nat) : tabF i < 4294967296 := by
  unfold tabF
  by_cases h : i < 16
  · have : ∀ x : Fin 16, tab.getD x.val 0 < 4294967296 := by decide +kernel
    exact this ⟨i, h⟩
  · rw [List.getD_eq_getElem?_getD, List.getElem?_eq_none (by simp [tab]; omega)]; decide

theorem half_walk (x : Nat) (hx : x < 4294967296) : bits .xor .u32 ((x : Int) / 16) ((tabF (bits .and .u32 (x : Int) 15).toNat : Nat) : Int) = ((x / 16 ^^^ tab.getD (x % 16) 0 : Nat) : Int) := by
  have h15 : bits .and .u32 (x : Int) 15 = ((x % 16 : Nat) : Int) := by
    have := u32_and_nat x 15 hx (by omega)
    rw [nat_mask4] at this
    exact this
  rw [h15, Int.toNat_natCast, show (x : Int) / 16 = ((x / 16 : Nat) : Int) from by omega]
  exact u32_xor_nat _ _ (by omega) (tab_lt _)

theorem crc_walk (c : Nat) (b : UInt8) (hc : c < 4294967296) :
    bits .xor .u32 (bits .xor .u32 (bits .xor .u32 (c : Int) ((b.toNat : Int) % 4294967296) / 16) ((tabF (bits .and .u32 (bits .xor .u32 (c : Int) ((b.toNat : Int) % 4294967296)) 15).toNat : Nat) : Int) / 16)
      ((tabF (bits .and .u32 (bits .xor .u32 (bits .xor .u32 (c : Int) ((b.toNat : Int) % 4294967296) / 16) ((tabF (bits .and .u32 (bits .xor .u32 (c : Int) ((b.toNat : Int) % 4294967296)) 15).toNat : Nat) : Int)) 15).toNat : Nat) : Int) = ((crcStep c b.toNat : Nat) : Int) := by
  have hb := b.toNat_lt
  have e0 : bits .xor .u32 (c : Int) ((b.toNat : Int) % 4294967296) = ((c ^^^ b.toNat : Nat) : Int) := by
    rw [show (b.toNat : Int) % 4294967296 = (b.toNat : Int) from by omega]
    exact u32_xor_nat _ _ hc (by omega)
  have h0 : c ^^^ b.toNat < 2 ^ 32 := Nat.xor_lt_two_pow (by omega) (by omega)
  rw [e0, half_walk _ (by omega)]
  have h1 : (c ^^^ b.toNat) / 16 ^^^ tab.getD ((c ^^^ b.toNat) % 16) 0 < 2 ^ 32 := Nat.xor_lt_two_pow (by omega) (tab_lt _)
  rw [half_walk _ (by omega)]
  rfl

theorem ret_int {k : IntKind} {a b : Int} (h : a = b) : Ending.returned (.int k a) = .returned (.int k b) := by rw [h]
theorem val_int' {k : IntKind} {a b : Int} (h : a = b) : Value.int k a = .int k b := by rw [h]

set_option maxHeartbeats 400000 in
theorem checkSum_any (s : ByteArray) (w : World) (hs : s.size ≤ maxLen) (hT : TabAt w) :
    Calls Tryd.prog 51 #[.string s] w fun e w' => e = .returned (.int .u32 ((4294967295 - crc 4294967295 s.data.toList : Nat) : Int)) ∧ w' = w := by
  unfold maxLen at hs
  have hand := and15
  have hT' : ∀ i : Nat, i < 16 → w.cell? ⟨0, i, none⟩ = some (.int .u32 (tabF i : Nat)) := hT
  clear hT
  go_enter Tryd.func51, Tryd.ntmps51
  go_wp2
  go_loop [3, 4, 7] (fun n _ i => ∃ k : Nat, k ≤ s.size ∧ i = .int .i64 k ∧ n = .int .u32 (crc 4294967295 (s.data.toList.take k) : Nat)) (fun _ _ i => s.size - (intOf i).toNat)
  case atStart => exact ⟨0, Nat.zero_le _, rfl, rfl⟩
  case round =>
    obtain ⟨k, hk, rfl, rfl⟩ := hrel
    have hlt32 := crc_lt (s.data.toList.take k) 4294967295 (by omega)
    by_cases hlt : k < s.size
    · have HS : Hid (crc 4294967295 (s.data.toList.take (k + 1)) = crcStep (crc 4294967295 (s.data.toList.take k)) s[k].toNat) := by
        show _ = _
        rw [List.take_succ_eq_append_getElem (by simpa using hlt), crc_append]; rfl
      generalize crc 4294967295 (s.data.toList.take k) = c at *
      go_wp2
      go_round
      case rel => exact ⟨k + 1, by omega, by go_num, val_int' (by rw [HS.out]; exact crc_walk c s[k] (by omega))⟩
      case measure => simp [intOf]; omega
    · have ht : s.data.toList.take k = s.data.toList := List.take_of_length_le (by simp; omega)
      rw [ht] at *
      clear ht
      go_wp2
      go_ret
      have h32 := crc_lt s.data.toList 4294967295 (by omega)
      exact ⟨ret_int (by rw [compl32 _ h32]; exact u32_xor_nat 4294967295 _ (by omega) (by omega)), rfl⟩

theorem conv4 (x : Nat) (w : World) (hx : x < 4294967296) :
    (convert 51 9 (.slice (some ⟨w.heap.size, 0, none⟩) 4 4)).run Tryd.prog (w.alloc (.cells #[.int .u8 ((x : Int) % 256), .int .u8 ((x : Int) / 256 % 256), .int .u8 ((x : Int) / 65536 % 256), .int .u8 ((x : Int) / 16777216)] 5)) =
      .ok (.string ⟨(low4 x).toArray⟩) (w.alloc (.cells #[.int .u8 ((x : Int) % 256), .int .u8 ((x : Int) / 256 % 256), .int .u8 ((x : Int) / 65536 % 256), .int .u8 ((x : Int) / 16777216)] 5)) := by
  refine run_convert_bytes_back _ 51 9 5 ⟨w.heap.size, 0, none⟩ 4 (low4 x) Tryd.underlying51 Tryd.underlying5 Tryd.underlying9 ?_
  intro j hj
  have hj4 : j < 4 := hj
  have e : (⟨w.heap.size, 0, none⟩ : Addr).add j = ⟨w.heap.size, j, none⟩ := by simp [Addr.add]; omega
  rw [e, World.cell?_alloc_mark]
  rcases (show j = 0 ∨ j = 1 ∨ j = 2 ∨ j = 3 from by omega) with rfl | rfl | rfl | rfl <;> simp [low4] <;> omega

set_option maxHeartbeats 400000 in
theorem sumText_any (s : ByteArray) (w : World) (hs : s.size ≤ maxLen) (hT : TabAt w) :
    Calls Tryd.prog 36 #[.string s] w fun e w' => e = .returned (.string ⟨(sumOf s.data.toList).toArray⟩) ∧ Below w.heap.size w w' := by
  unfold sumOf
  go_enter Tryd.func36, Tryd.ntmps36
  go_wp2_with fail
  refine (checkSum_any s _ hs hT).mono ?_
  rintro e w' ⟨rfl, rfl⟩
  have hx : 4294967295 - crc 4294967295 s.data.toList < 4294967296 := by omega
  generalize hX : 4294967295 - crc 4294967295 s.data.toList = x at *
  have HX : Hid (4294967295 - crc 4294967295 s.data.toList = x) := hX
  clear hX
  have hc := conv4 x w' hx
  go_wp2
  go_ret
  exact ⟨congrArg (fun x => Ending.returned (.string ⟨(low4 x).toArray⟩)) HX.out.symm, (Below.refl _ _).alloc (Nat.le_refl _) _⟩
end Go.Proofs.YtlagmbieaicmgaaDoor
