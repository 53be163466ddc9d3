/- The document's own reader: number and part. -/
import Derived.Test.YtlagmbieaicmgaaDoorWalkH
import Derived.Test.YtlagmbieaicmgaaDoorRefA
import Derived.Deep.QuietTactic
import Derived.BigQuiet
namespace Go.Proofs.YtlagmbieaicmgaaDoor
open Go.RowKit Pact

/-- The document's reader in memory. -/
def txO (s : ByteArray) (i : Nat) (sh : Bool) : Obj := .cells #[.string s, .int .i64 i, .bool sh] 58 (0, 0)

theorem tx_cells {w : World} {b i : Nat} {s : ByteArray} {sh : Bool} (h : w.heap[b]? = some (txO s i sh)) : w.cell? ⟨b, 0, none⟩ = some (.string s) ∧ w.cell? ⟨b, 1, none⟩ = some (.int .i64 i) ∧ w.cell? ⟨b, 2, none⟩ = some (.bool sh) ∧ w.frozen? ⟨b, 1, none⟩ = false ∧ w.frozen? ⟨b, 2, none⟩ = false := by
  refine ⟨?_, ?_, ?_, ?_, ?_⟩
  · rw [cell_of_heap h]; rfl
  · rw [cell_of_heap h]; rfl
  · rw [cell_of_heap h]; rfl
  · exact free_of_heap h 1
  · exact free_of_heap h 2

theorem tx_set {w : World} {b i j : Nat} {s : ByteArray} {sh : Bool} (h : w.heap[b]? = some (txO s i sh)) (x : Int) (hx : x = j) : (w.setCell ⟨b, 1, none⟩ (.int .i64 x)).heap[b]? = some (txO s j sh) := by
  subst hx
  simp only [World.setCell, Array.getElem?_modify]
  simp [h, txO]
theorem tx_short {w : World} {b i : Nat} {s : ByteArray} {sh : Bool} (h : w.heap[b]? = some (txO s i sh)) : (w.setCell ⟨b, 2, none⟩ (.bool true)).heap[b]? = some (txO s i true) := by
  simp only [World.setCell, Array.getElem?_modify]
  simp [h, txO]

/-- What number leaves. -/
def NumT (s : ByteArray) (b i k : Nat) (sh : Bool) (w : World) (e : Ending) (w' : World) : Prop :=
  ∃ (v j : Nat) (sh' : Bool), e = .returned (.int .i64 v) ∧ w'.heap[b]? = some (txO s j sh') ∧ j ≤ s.size ∧ v < 256 ^ k ∧ Step b w w' ∧
    (i + k ≤ s.size → v = be (s.extract i (i + k)).data.toList ∧ j = i + k ∧ sh' = sh) ∧ (s.size < i + k → sh' = true) ∧ (sh = true → sh' = true)

theorem ext_snoc (s : ByteArray) (i r : Nat) (h : i + r < s.size) : (s.extract i (i + (r + 1))).data.toList = (s.extract i (i + r)).data.toList ++ [s[i + r]] := by
  have e1 : ∀ n, (s.extract i (i + n)).data.toList = (s.data.toList.drop i).take n := fun n => by simp
  rw [e1, e1, List.take_succ_eq_append_getElem (by simp; omega)]
  congr 2
  simp
  rfl

set_option maxHeartbeats 1600000 in
theorem tnumber_any (s : ByteArray) (b i k : Nat) (sh : Bool) (w : World) (hs : s.size ≤ maxLen) (h : w.heap[b]? = some (txO s i sh)) (hi : i ≤ s.size) (hk : k ≤ 4) :
    Calls Tryd.prog 31 #[.pointer (some ⟨b, 0, none⟩), .int .i64 k] w (NumT s b i k sh w) := by
  unfold maxLen at hs
  go_enter Tryd.func31, Tryd.ntmps31
  go_wp2
  go_loopw [5, 6] (fun n j wr => ∃ r : Nat, r ≤ k ∧ i + r ≤ s.size ∧ j = .int .i64 r ∧ n = .int .i64 (be (s.extract i (i + r)).data.toList : Nat) ∧ wr.heap[b]? = some (txO s (i + r) sh) ∧ Step b w wr) (fun _ j _ => k - (intOf j).toNat)
  case atStart => exact ⟨0, Nat.zero_le _, by omega, rfl, by simp [be], h, Step.refl _ _⟩
  case round =>
    obtain ⟨r, hr, hir, rfl, rfl, hx, hst⟩ := hrel
    obtain ⟨c0, c1, c2, z1, z2⟩ := tx_cells hx
    have hvl : (s.extract i (i + r)).data.toList.length = r := by simp; omega
    have hv := be_lt (s.extract i (i + r)).data.toList
    rw [hvl] at hv
    by_cases hrk : r < k
    · by_cases hin : i + r < s.size
      · have HS : Hid (be (s.extract i (i + (r + 1))).data.toList = be (s.extract i (i + r)).data.toList * 256 + s[i + r].toNat) := by
          show _ = _
          rw [ext_snoc s i r hin, be_snoc]
        have h3 : 256 ^ r ≤ 256 ^ 3 := Nat.pow_le_pow_right (by omega) (by omega)
        have hc : be (s.extract i (i + r)).data.toList < 16777216 := by omega
        have hb := s[i + r].toNat_lt
        clear hv hvl h3
        generalize be (s.extract i (i + r)).data.toList = c at *
        generalize hpp : i + r = p at *
        have HP : Hid (i + r = p) := hpp
        have hpI : (p : Int) < (s.size : Int) := by omega
        clear hpp hi hir
        have hd : decide ((s.size : Int) ≤ (p : Int)) = false := by simp; omega
        go_wp2
        go_quiet (fail)
        go_wp2
        go_quiet (fail)
        go_wp2
        go_roundw
        case rel => exact ⟨r + 1, by omega, by have := HP.out; omega, by go_num, val_int (by rw [HS.out]; omega), tx_set (w := wr.drewN _) hx _ (by have := HP.out; omega), (step_drewN hst _).setCell _ _⟩
        case measure => simp [intOf]; omega
      · have hd : decide ((s.size : Int) ≤ (i : Int) + r) = true := by simp; omega
        have hd2 : decide ((s.size : Int) ≤ ((i + r : Nat) : Int)) = true := by simp; omega
        have hlt : s.size < i + k := by omega
        have hp : 0 < 256 ^ k := Nat.pow_pos (by omega)
        clear hv hvl
        go_wp2
        go_quiet (fail)
        go_wp2
        go_ret
        exact ⟨0, i + r, true, rfl, tx_short (w := wr.drewN _) hx, by omega, hp, (step_drewN hst _).setCell _ _, fun h => by omega, fun _ => rfl, fun _ => rfl⟩
    · have hrk' : r = k := by omega
      subst hrk'
      clear hvl
      go_wp2
      go_ret
      exact ⟨_, i + r, sh, rfl, hx, by omega, hv, hst, fun _ => ⟨rfl, rfl, rfl⟩, fun h => by omega, fun h => h⟩

/-- What part leaves. -/
def PartT (s : ByteArray) (b i : Nat) (sh : Bool) (w : World) (e : Ending) (w' : World) : Prop :=
  ∃ (t : ByteArray) (j : Nat) (sh' : Bool), e = .returned (.string t) ∧ w'.heap[b]? = some (txO s j sh') ∧ j ≤ s.size ∧ Step b w w' ∧
    (∀ t0 j0, sh = false → pText s i = some (t0, j0) → t = t0 ∧ j = j0 ∧ sh' = false) ∧ ((sh = true ∨ pText s i = none) → sh' = true)

set_option maxRecDepth 100000 in
set_option maxHeartbeats 1600000 in
theorem tpart_any (s : ByteArray) (b i : Nat) (sh : Bool) (w : World) (hs : s.size ≤ 1048576) (h : w.heap[b]? = some (txO s i sh)) (hi : i ≤ s.size) :
    Calls Tryd.prog 32 #[.pointer (some ⟨b, 0, none⟩)] w (PartT s b i sh w) := by
  go_enter Tryd.func32, Tryd.ntmps32
  go_wp2_with fail
  refine (tnumber_any s b i 1 sh _ (by unfold maxLen; omega) h hi (by omega)).mono ?_
  rintro e w1 ⟨v, j, sh1, rfl, hx, hj, hv, hst, hy, hn, hsh⟩
  obtain ⟨c0, c1, c2, z1, z2⟩ := tx_cells hx
  cases sh1 with
  | true =>
    have HN : Hid (∀ t0 j0, sh = false → pText s i = some (t0, j0) → (⟨#[]⟩ : ByteArray) = t0 ∧ j = j0 ∧ true = false) := by
      intro t0 j0 h1 h2
      have h3 := (pText_yes h2).1
      have h4 := (hy h3).2.2
      rw [h1] at h4
      cases h4
    clear hy hn hsh
    go_wp2
    go_quiet (fail)
    go_wp2
    go_ret
    exact ⟨_, j, true, rfl, tx_short (w := w1.drewN _) hx, hj, (step_drewN hst _).setCell _ _, HN.out, fun _ => rfl⟩
  | false =>
    have hle : i + 1 ≤ s.size := by
      by_cases hc : i + 1 ≤ s.size
      · exact hc
      · have := hn (by omega); cases this
    have hshf : sh = false := by
      cases hq : sh with
      | true => have := hsh hq; cases this
      | false => rfl
    obtain ⟨hv1, hj1, hfs⟩ := hy hle
    clear hfs
    have HV : Hid (v = be (s.extract i (i + 1)).data.toList) := hv1
    have HJ : Hid (j = i + 1) := hj1
    have HF : Hid (sh = false) := hshf
    have hv9 : v < 256 := by simpa using hv
    clear hy hn hsh hv1 hj1 hshf hv hi
    by_cases hin : j + v ≤ s.size
    · have HP : Hid (pText s i = some (s.extract j (j + v), j + v)) := by
        show _ = _
        unfold pText
        rw [← HV.out, ← HJ.out, if_pos (by omega), if_pos hin]
      have hd : decide ((s.size : Int) < (j : Int) + v) = false := by simp; omega
      have hjI : (j : Int) + v ≤ s.size := by omega
      clear HV HJ hle hin
      go_wp2
      go_quiet (fail)
      go_wp2
      go_quiet (fail)
      go_wp2
      go_ret
      refine ⟨_, j + v, false, rfl, tx_set (w := w1.drewN _) hx _ (by omega), by omega, step_drewN ((step_drewN hst _).setCell _ _) _, ?_, ?_⟩
      · intro t0 j0 _ h2
        rw [HP.out] at h2
        injection h2 with h2
        injection h2 with h2 h3
        exact ⟨h2, h3, rfl⟩
      · rintro (h1 | h1)
        · rw [HF.out] at h1; cases h1
        · rw [HP.out] at h1; cases h1
    · have HP : Hid (pText s i = none) := by
        show _ = _
        unfold pText
        rw [← HV.out, ← HJ.out, if_pos (by omega), if_neg hin]
      have hd : decide ((s.size : Int) < (j : Int) + v) = true := by simp; omega
      have hup : (j : Int) + v ≤ 9223372036854775807 := by omega
      have hI : (s.size : Int) < (j : Int) + (v : Int) := by omega
      clear HV HJ hle hin
      go_wp2
      go_quiet (fail)
      go_wp2
      go_ret
      refine ⟨_, j, true, rfl, tx_short (w := w1.drewN _) hx, hj, (step_drewN hst _).setCell _ _, ?_, fun _ => rfl⟩
      intro t0 j0 _ h2
      rw [HP.out] at h2
      cases h2
end Go.Proofs.YtlagmbieaicmgaaDoor
