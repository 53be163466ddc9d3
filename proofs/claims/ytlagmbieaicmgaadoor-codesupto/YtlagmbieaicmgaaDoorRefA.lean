/- The document's own answer, its small parts: word, has, Needs, high, low, sum. -/
import Derived.Test.YtlagmbieaicmgaaDoorWalkE
import Derived.Test.YtlagmbieaicmgaaDoorWalkB
namespace Go.Proofs.YtlagmbieaicmgaaDoor
open Go.RowKit Pact

theorem ret_b {a b : Bool} (h : a = b) : Ending.returned (.bool a) = .returned (.bool b) := by rw [h]
theorem ret_str {a b : List UInt8} (h : a = b) : Ending.returned (.string ⟨a.toArray⟩) = .returned (.string ⟨b.toArray⟩) := by rw [h]
theorem val_str {a b : List UInt8} (h : a = b) : Value.string ⟨a.toArray⟩ = .string ⟨b.toArray⟩ := by rw [h]

set_option maxHeartbeats 400000 in
theorem word_any (n most : Int) (w : World) :
    Calls Tryd.prog 46 #[.int .i64 n, .int .i64 most] w fun e w' => e = .returned (.bool (upToB n most)) ∧ w' = w := by
  by_cases h : 0 ≤ n
  all_goals
    go_enter Tryd.func46, Tryd.ntmps46
    go_wp2
    go_ret
    exact ⟨ret_b (by simp [upToB]; omega), rfl⟩

/-- Has the text the letter? -/
def hasB (s : ByteArray) (c : Int) : Bool := s.data.toList.any fun b => (b.toNat : Int) == c

set_option maxHeartbeats 400000 in
theorem has_any (s : ByteArray) (c : Int) (w : World) (hs : s.size ≤ 1000) :
    Calls Tryd.prog 45 #[.string s, .int .u8 c] w fun e w' => e = .returned (.bool (hasB s c)) ∧ w' = w := by
  go_enter Tryd.func45, Tryd.ntmps45
  go_wp2
  go_loop [5] (fun i => ∃ k : Nat, k ≤ s.size ∧ i = .int .i64 k ∧ Hid (hasB s c = (s.data.toList.drop k).any fun b => (b.toNat : Int) == c)) (fun i => s.size - (intOf i).toNat)
  case atStart => exact ⟨0, Nat.zero_le _, rfl, rfl⟩
  case round =>
    obtain ⟨k, hk, rfl, hE⟩ := hrel
    by_cases hlt : k < s.size
    · have hD : Hid (hasB s c = (((s[k].toNat : Int) == c) || (s.data.toList.drop (k + 1)).any fun b => (b.toNat : Int) == c)) := by
        have := hE.out
        rw [List.drop_eq_getElem_cons (by simpa using hlt), List.any_cons] at this
        exact this
      clear hE
      cases hc : ((s[k].toNat : Int) == c) with
      | true =>
        have hF : Hid (hasB s c = true) := by have := hD.out; rw [hc] at this; exact this
        clear hD
        go_wp2
        go_ret
        exact ⟨ret_b hF.out.symm, rfl⟩
      | false =>
        have hF : Hid (hasB s c = (s.data.toList.drop (k + 1)).any fun b => (b.toNat : Int) == c) := by have := hD.out; rw [hc] at this; exact this
        clear hD
        go_wp2
        go_round
        case rel => exact ⟨k + 1, by omega, by go_num, hF⟩
        case measure => simp [intOf]; omega
    · have hF : Hid (hasB s c = false) := by
        have := hE.out
        rw [List.drop_of_length_le (by simp; omega)] at this
        exact this
      clear hE
      go_wp2
      go_ret
      exact ⟨ret_b hF.out.symm, rfl⟩

/-- What a kind uses. -/
def needs (k : Int) : ByteArray :=
  if k = 1 ∨ k = 5 then ⟨#[103, 98]⟩ else if k = 2 then ⟨#[103, 98, 108]⟩ else if k = 3 ∨ k = 4 then ⟨#[103, 98, 115, 118]⟩ else
  if k = 6 then ⟨#[103, 115, 118]⟩ else if k = 7 then ⟨#[103, 98, 115]⟩ else if k = 8 ∨ k = 9 then ⟨#[115, 118]⟩ else ⟨#[]⟩

set_option maxHeartbeats 1000000 in
theorem needs_any (k : Int) (w : World) :
    Calls Tryd.prog 44 #[.int .i64 k] w fun e w' => e = .returned (.string (needs k)) ∧ w' = w := by
  have hk : k = 1 ∨ k = 5 ∨ k = 2 ∨ k = 3 ∨ k = 4 ∨ k = 6 ∨ k = 7 ∨ k = 8 ∨ k = 9 ∨ (¬ k = 1 ∧ ¬ k = 5 ∧ ¬ k = 2 ∧ ¬ k = 3 ∧ ¬ k = 4 ∧ ¬ k = 6 ∧ ¬ k = 7 ∧ ¬ k = 8 ∧ ¬ k = 9) := by omega
  rcases hk with rfl | rfl | rfl | rfl | rfl | rfl | rfl | rfl | rfl | ⟨h1, h5, h2, h3, h4, h6, h7, h8, h9⟩
  all_goals
    simp [needs, *]
    go_enter Tryd.func44, Tryd.ntmps44
    go_wp2
    go_ret
    exact ⟨rfl, rfl⟩

theorem i64_xor_nat (a b : Nat) (ha : a < 4294967296) (hb : b < 4294967296) : bits .xor .i64 (a : Int) (b : Int) = ((a ^^^ b : Nat) : Int) := by
  have hx : a ^^^ b < 2 ^ 32 := Nat.xor_lt_two_pow (by omega) (by omega)
  have e : bits .xor .i64 (a : Int) (b : Int) = IntKind.i64.wrap (((BitVec.ofInt 64 (a : Int) ^^^ BitVec.ofInt 64 (b : Int)).toNat : Nat) : Int) := rfl
  have e2 : (BitVec.ofInt 64 (a : Int) ^^^ BitVec.ofInt 64 (b : Int)).toNat = a ^^^ b := by
    simp only [BitVec.ofInt_natCast, BitVec.toNat_xor, BitVec.toNat_ofNat]
    rw [Nat.mod_eq_of_lt (by omega), Nat.mod_eq_of_lt (by omega)]
  rw [e, e2, IntKind.wrap_i64]
  omega

theorem sts_succ (n c : Nat) : sts (n + 1) c = st (sts n c) := by rw [sts_add]; rfl

theorem st_odd (c : Nat) (h : c % 2 = 1) : st c = c / 2 ^^^ 3988292384 := by unfold st; rw [if_pos h]; simp [Nat.shiftRight_succ]
theorem st_even (c : Nat) (h : ¬ c % 2 = 1) : st c = c / 2 := by unfold st; rw [if_neg h]; simp [Nat.shiftRight_succ]

set_option maxHeartbeats 1000000 in
theorem sum_any (s : ByteArray) (w : World) (hs : s.size ≤ maxLen) :
    Calls Tryd.prog 29 #[.string s] w fun e w' => e = .returned (.int .i64 ((4294967295 - crc 4294967295 s.data.toList : Nat) : Int)) ∧ w' = w := by
  unfold maxLen at hs
  go_enter Tryd.func29, Tryd.ntmps29
  go_wp2
  go_loop [3, 4, 5] (fun n i _ => ∃ k : Nat, k ≤ s.size ∧ i = .int .i64 k ∧ n = .int .i64 (crc 4294967295 (s.data.toList.take k) : Nat)) (fun _ i _ => s.size - (intOf i).toNat)
  case atStart => exact ⟨0, Nat.zero_le _, rfl, rfl⟩
  case round =>
    obtain ⟨k, hk, rfl, rfl⟩ := hrel
    have hlt32 := crc_lt (s.data.toList.take k) 4294967295 (by omega)
    by_cases hlt : k < s.size
    · have HS : Hid (crc 4294967295 (s.data.toList.take (k + 1)) = sts 8 (crc 4294967295 (s.data.toList.take k) ^^^ s[k].toNat)) := by
        show _ = _
        rw [List.take_succ_eq_append_getElem (by simpa using hlt), crc_append, ← crcStep_eq]; rfl
      have hb := s[k].toNat_lt
      generalize crc 4294967295 (s.data.toList.take k) = c at *
      have hx := i64_xor_nat c s[k].toNat (by omega) (by omega)
      have hx32 : c ^^^ s[k].toNat < 2 ^ 32 := Nat.xor_lt_two_pow hlt32 (by omega)
      generalize c ^^^ s[k].toNat = z at *
      go_wp2
      go_loop [3, 5] (fun n i => ∃ j : Nat, j ≤ 8 ∧ i = .int .i64 j ∧ n = .int .i64 (sts j z : Nat)) (fun _ i => 8 - (intOf i).toNat)
      case atStart => exact ⟨0, by omega, rfl, rfl⟩
      case round =>
        obtain ⟨j, hj, rfl, rfl⟩ := hrel
        have hy := sts_lt j z hx32
        by_cases hj8 : j < 8
        · have HN : Hid (sts (j + 1) z = st (sts j z)) := sts_succ j z
          generalize sts j z = y at *
          by_cases hodd : y % 2 = 1
          · have HO : Hid (st y = y / 2 ^^^ 3988292384) := st_odd y hodd
            have HX : Hid (bits .xor .i64 ((y : Int) / 2) 3988292384 = ((y / 2 ^^^ 3988292384 : Nat) : Int)) := by
              have h1 := i64_xor_nat (y / 2) 3988292384 (by omega) (by omega)
              show _ = _
              simpa using h1
            go_wp2
            go_round
            case rel => exact ⟨j + 1, by omega, by go_num, val_int (by rw [HX.out, HN.out, HO.out])⟩
            case measure => simp [intOf]; omega
          · have HO : Hid (st y = y / 2) := st_even y hodd
            go_wp2
            go_round
            case rel => exact ⟨j + 1, by omega, by go_num, val_int (by rw [HN.out, HO.out]; omega)⟩
            case measure => simp [intOf]; omega
        · have hj8' : j = 8 := by omega
          subst hj8'
          go_wp2
          go_round
          case rel => exact ⟨k + 1, by omega, by go_num, val_int (by rw [HS.out])⟩
          case measure => simp [intOf]; omega
    · have ht : s.data.toList.take k = s.data.toList := List.take_of_length_le (by simp; omega)
      have h32 := crc_lt s.data.toList 4294967295 (by omega)
      rw [ht] at *
      clear ht
      go_wp2
      go_ret
      exact ⟨ret_int' (by omega), rfl⟩

theorem conv1 (v : Int) (w : World) (h0 : 0 ≤ v) (h1 : v < 256) :
    (convert 51 9 (.slice (some ⟨w.heap.size, 0, none⟩) 1 1)).run Tryd.prog (w.alloc (.cells #[.int .u8 v] 5)) = .ok (.string ⟨[UInt8.ofNat v.toNat].toArray⟩) (w.alloc (.cells #[.int .u8 v] 5)) := by
  refine run_convert_bytes_back _ 51 9 5 ⟨w.heap.size, 0, none⟩ 1 [UInt8.ofNat v.toNat] Tryd.underlying51 Tryd.underlying5 Tryd.underlying9 ?_
  intro j hj
  have hj0 : j = 0 := by simpa using hj
  subst hj0
  have e : (⟨w.heap.size, 0, none⟩ : Addr).add 0 = ⟨w.heap.size, 0, none⟩ := rfl
  rw [e, World.cell?_alloc_mark]
  simp
  omega

theorem str_add (a b : List UInt8) (W : World) (h : a.length + b.length ≤ 1000000000) : (Op.stringOp .add ⟨a.toArray⟩ ⟨b.toArray⟩).run Tryd.prog W = .ok (.string ⟨(a ++ b).toArray⟩) W := by
  rw [run_string_add_sum, mk_append]
  show a.toArray.size + b.toArray.size ≤ _
  simp; omega

theorem numB_drop (x k i : Nat) (h : i < k) : (numB x k).drop (k - (i + 1)) = UInt8.ofNat (x / 2 ^ (8 * i)) :: (numB x k).drop (k - i) := by
  rw [List.drop_eq_getElem_cons (by rw [numB_length]; omega), show k - (i + 1) + 1 = k - i from by omega]
  congr 1
  simp only [numB, List.getElem_map, List.getElem_range]
  rw [show k - 1 - (k - (i + 1)) = i from by omega]

theorem ofNat_mod (y : Nat) : UInt8.ofNat (y % 256) = UInt8.ofNat y := by
  apply UInt8.toNat_inj.1
  simp

theorem div_step (x i : Nat) : x / 2 ^ (8 * i) / 256 = x / 2 ^ (8 * (i + 1)) := by
  rw [Nat.div_div_eq_div_mul, show 8 * (i + 1) = 8 * i + 8 from by omega, Nat.pow_add]

set_option maxHeartbeats 1000000 in
theorem high_any (x k : Nat) (w : World) (hk : k ≤ 3) (hx : x < 16777216) :
    Calls Tryd.prog 48 #[.int .i64 x, .int .i64 k] w fun e w' => e = .returned (.string ⟨(numB x k).toArray⟩) ∧ Below w.heap.size w w' := by
  go_enter Tryd.func48, Tryd.ntmps48
  go_wp2
  go_loopw [0, 5, 6] (fun n s i wr => ∃ j : Nat, j ≤ k ∧ i = .int .i64 j ∧ n = .int .i64 (x / 2 ^ (8 * j) : Nat) ∧ s = .string ⟨((numB x k).drop (k - j)).toArray⟩ ∧ Below w.heap.size w wr) (fun _ _ i _ => k - (intOf i).toNat)
  case atStart => exact ⟨0, Nat.zero_le _, rfl, by simp, by rw [List.drop_of_length_le (by rw [numB_length]; omega)], Below.refl _ _⟩
  case round =>
    obtain ⟨j, hj, rfl, rfl, rfl, hb⟩ := hrel
    have hsz := hb.size
    by_cases hlt : j < k
    · have HD : Hid ((numB x k).drop (k - (j + 1)) = UInt8.ofNat (x / 2 ^ (8 * j)) :: (numB x k).drop (k - j)) := numB_drop x k j hlt
      have HV : Hid (x / 2 ^ (8 * j) / 256 = x / 2 ^ (8 * (j + 1))) := div_step x j
      have hl : ((numB x k).drop (k - j)).length ≤ 3 := by rw [List.length_drop, numB_length]; omega
      generalize (numB x k).drop (k - j) = l at *
      have hy : x / 2 ^ (8 * j) ≤ x := Nat.div_le_self _ _
      generalize x / 2 ^ (8 * j) = y at *
      have hc := conv1 ((y : Int) % 256) wr (by omega) (by omega)
      have e1 : ((y : Int) % 256).toNat = y % 256 := by omega
      rw [e1, ofNat_mod] at hc
      have ha := fun W => str_add [UInt8.ofNat y] l W (by simp; omega)
      clear e1
      go_wp2
      go_roundw
      case rel => exact ⟨j + 1, by omega, by go_num, val_int (by rw [← HV.out]; omega), val_str (by rw [HD.out]), hb.alloc hsz _⟩
      case measure => simp [intOf]; omega
    · have hjk : j = k := by omega
      subst hjk
      have e0 : (numB x j).drop (j - j) = numB x j := by rw [Nat.sub_self]; rfl
      rw [e0]
      go_wp2
      go_ret
      exact ⟨rfl, hb⟩

theorem low4_take (x i : Nat) (h : i < 4) : (low4 x).take (i + 1) = (low4 x).take i ++ [UInt8.ofNat (x / 2 ^ (8 * i))] := by
  rcases (show i = 0 ∨ i = 1 ∨ i = 2 ∨ i = 3 from by omega) with rfl | rfl | rfl | rfl <;> simp [low4]

set_option maxHeartbeats 1000000 in
theorem low_any (x : Nat) (w : World) (hx : x < 4294967296) :
    Calls Tryd.prog 30 #[.int .i64 x] w fun e w' => e = .returned (.string ⟨(low4 x).toArray⟩) ∧ Below w.heap.size w w' := by
  go_enter Tryd.func30, Tryd.ntmps30
  go_wp2
  go_loopw [0, 3, 4] (fun n s i wr => ∃ j : Nat, j ≤ 4 ∧ i = .int .i64 j ∧ n = .int .i64 (x / 2 ^ (8 * j) : Nat) ∧ s = .string ⟨((low4 x).take j).toArray⟩ ∧ Below w.heap.size w wr) (fun _ _ i _ => 4 - (intOf i).toNat)
  case atStart => exact ⟨0, Nat.zero_le _, rfl, by simp, rfl, Below.refl _ _⟩
  case round =>
    obtain ⟨j, hj, rfl, rfl, rfl, hb⟩ := hrel
    have hsz := hb.size
    by_cases hlt : j < 4
    · have HD : Hid ((low4 x).take (j + 1) = (low4 x).take j ++ [UInt8.ofNat (x / 2 ^ (8 * j))]) := low4_take x j hlt
      have HV : Hid (x / 2 ^ (8 * j) / 256 = x / 2 ^ (8 * (j + 1))) := div_step x j
      have hl : ((low4 x).take j).length ≤ 4 := by rw [List.length_take]; omega
      generalize (low4 x).take j = l at *
      have hy : x / 2 ^ (8 * j) ≤ x := Nat.div_le_self _ _
      generalize x / 2 ^ (8 * j) = y at *
      have hc := conv1 ((y : Int) % 256) wr (by omega) (by omega)
      have e1 : ((y : Int) % 256).toNat = y % 256 := by omega
      rw [e1, ofNat_mod] at hc
      have ha := fun W => str_add l [UInt8.ofNat y] W (by simp; omega)
      clear e1
      go_wp2
      go_roundw
      case rel => exact ⟨j + 1, by omega, by go_num, val_int (by rw [← HV.out]; omega), val_str (by rw [HD.out]), hb.alloc hsz _⟩
      case measure => simp [intOf]; omega
    · have hjk : j = 4 := by omega
      subst hjk
      have e0 : (low4 x).take 4 = low4 x := rfl
      rw [e0]
      go_wp2
      go_ret
      exact ⟨rfl, hb⟩
end Go.Proofs.YtlagmbieaicmgaaDoor
