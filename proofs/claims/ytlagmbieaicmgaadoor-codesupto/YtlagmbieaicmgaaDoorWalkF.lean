/- A text's copy (the library's Clone, by its contract), and the reader's text. -/
import Derived.Test.YtlagmbieaicmgaaDoorWalkE
import Derived.Shelf.Strconv.Clone
namespace Go.Proofs.YtlagmbieaicmgaaDoor
open Go.RowKit Pact Go.Shelf

/-- The numbers of this program where the contract's own stand. -/
def cloneRen : Ren := ⟨fun _ => 53, fun x => if x = 0 then 0 else if x = 3 then 3 else if x = 4 then 4 else if x = 5 then 5 else if x = 9 then 9 else if x = 37 then 51 else 86, fun x => x⟩

theorem cloneLays : LaysM.n316 Tryd.prog cloneRen where
  mixed := by kernel_rfl
  f316 := by kernel_rfl
  t0 := by kernel_rfl
  a0 := fun _ => by kernel_rfl
  z0 := fun _ => by kernel_rfl
  v0 := fun _ => by kernel_rfl
  t3 := by kernel_rfl
  a3 := fun _ => by kernel_rfl
  z3 := fun _ => by kernel_rfl
  v3 := fun _ => by kernel_rfl
  t4 := by kernel_rfl
  a4 := fun _ => by kernel_rfl
  z4 := fun _ => by kernel_rfl
  v4 := fun _ => by kernel_rfl
  t9 := by kernel_rfl
  a9 := fun _ => by kernel_rfl
  z9 := fun _ => by kernel_rfl
  v9 := fun _ => by kernel_rfl
  t37 := by kernel_rfl
  a37 := fun _ => by kernel_rfl
  z37 := fun _ => by kernel_rfl
  v37 := fun _ => by kernel_rfl
  t127 := by kernel_rfl
  a127 := fun _ => by kernel_rfl
  z127 := fun _ => by kernel_rfl
  v127 := fun _ => by kernel_rfl
  t5 := by kernel_rfl
  a5 := fun _ => by kernel_rfl
  z5 := fun _ => by kernel_rfl
  v5 := fun _ => by kernel_rfl
  i0 := by kernel_rfl
  i3 := by kernel_rfl
  i4 := by kernel_rfl
  i5 := by kernel_rfl
  i9 := by kernel_rfl
  i37 := by kernel_rfl
  i127 := by kernel_rfl

theorem lite_any (s : ByteArray) (w : World) (hs : s.size ≤ 1000) :
    Calls Tryd.prog 53 #[.string s] w fun e w' => e = .returned (.string s) ∧ Below w.heap.size w w' :=
  Any.stringslite_Clone cloneLays s w (by omega)

set_option maxHeartbeats 400000 in
theorem clone_any (s : ByteArray) (w : World) (hs : s.size ≤ 1000) :
    Calls Tryd.prog 52 #[.string s] w fun e w' => e = .returned (.string s) ∧ Below w.heap.size w w' := by
  go_enter Tryd.func52, Tryd.ntmps52
  go_wp2_with fail
  refine (lite_any s _ hs).mono ?_
  rintro e w1 ⟨rfl, hb⟩
  go_wp2
  go_ret
  exact ⟨rfl, hb⟩

/-- A text at a place: its bytes, and where it ends; none, if the bytes end too early. -/
def pText (s : ByteArray) (i : Nat) : Option (ByteArray × Nat) :=
  if i + 1 ≤ s.size then
    (if i + 1 + be (s.extract i (i + 1)).data.toList ≤ s.size then some (s.extract (i + 1) (i + 1 + be (s.extract i (i + 1)).data.toList), i + 1 + be (s.extract i (i + 1)).data.toList) else none)
  else none

theorem pText_yes {s : ByteArray} {i : Nat} {r : ByteArray × Nat} (h : pText s i = some r) :
    i + 1 ≤ s.size ∧ i + 1 + be (s.extract i (i + 1)).data.toList ≤ s.size ∧ r = (s.extract (i + 1) (i + 1 + be (s.extract i (i + 1)).data.toList), i + 1 + be (s.extract i (i + 1)).data.toList) := by
  unfold pText at h
  split at h
  · split at h
    · rename_i h1 h2
      exact ⟨h1, h2, by injection h with h; exact h.symm⟩
    · cases h
  · cases h

theorem pText_no {s : ByteArray} {i : Nat} (h : pText s i = none) : s.size < i + 1 ∨ (i + 1 ≤ s.size ∧ s.size < i + 1 + be (s.extract i (i + 1)).data.toList) := by
  unfold pText at h
  split at h
  · split at h
    · cases h
    · rename_i h1 h2
      exact .inr ⟨h1, by omega⟩
  · exact .inl (by omega)

theorem be1_lt (s : ByteArray) (i : Nat) (h : i + 1 ≤ s.size) : be (s.extract i (i + 1)).data.toList < 256 := by
  have h1 := be_lt (s.extract i (i + 1)).data.toList
  have h2 : (s.extract i (i + 1)).data.toList.length = 1 := by simp; omega
  rw [h2] at h1
  omega

set_option maxHeartbeats 400000 in
theorem text_yes (s : ByteArray) (b i : Nat) (t : ByteArray) (j : Nat) (w : World) (hs : s.size ≤ maxLen) (h : w.heap[b]? = some (rdO s i)) (hp : pText s i = some (t, j)) :
    Calls Tryd.prog 49 #[.pointer (some ⟨b, 0, none⟩)] w fun e w' => e = .returned (.string t) ∧ w'.heap[b]? = some (rdO s j) ∧ Step b w w' := by
  obtain ⟨h1, h2, h3⟩ := pText_yes hp
  have hlt := be1_lt s i h1
  have n1 := number_yes s b i 1 w hs h h1 (by omega)
  generalize be (s.extract i (i + 1)).data.toList = n at *
  injection h3 with h3 h4
  have HT : Hid (t = s.extract (i + 1) (i + 1 + n)) := h3
  have HJ : Hid (j = i + 1 + n) := h4
  have hts : (s.extract (i + 1) (i + 1 + n)).size ≤ 1000 := by simp; omega
  clear h3 h4 hp
  go_enter Tryd.func49, Tryd.ntmps49
  go_wp2_with fail
  refine n1.mono ?_
  rintro e w1 ⟨rfl, g1, st1⟩
  clear n1
  go_wp2_with fail
  refine (take_yes s b (i + 1) n _ hs g1 h2).mono ?_
  rintro e w2 ⟨rfl, g2, st2⟩
  generalize s.extract (i + 1) (i + 1 + n) = t2 at *
  go_wp2_with fail
  refine (clone_any t2 _ hts).mono ?_
  rintro e w3 ⟨rfl, hb3⟩
  have g3 := (hb3.block b (Array.getElem?_eq_some_iff.1 g2).1).trans g2
  have st3 : Step b w w3 := (st1.trans st2).trans (Step.of_below hb3)
  clear st1 st2 g1 g2 hb3
  go_wp2
  go_ret
  exact ⟨by rw [HT.out]; rfl, by rw [HJ.out]; exact g3, st3⟩

set_option maxHeartbeats 400000 in
theorem text_no (s : ByteArray) (b i : Nat) (w : World) (hs : s.size ≤ maxLen) (h : w.heap[b]? = some (rdO s i)) (hi : i ≤ s.size) (hp : pText s i = none) :
    Calls Tryd.prog 49 #[.pointer (some ⟨b, 0, none⟩)] w fun e w' => e = .panicked (fault 2) ∧ Step b w w' := by
  rcases pText_no hp with h1 | ⟨h1, h2⟩
  · go_enter Tryd.func49, Tryd.ntmps49
    go_wp2_with fail
    refine (number_no s b i 1 _ hs h hi h1).mono ?_
    rintro e w1 ⟨rfl, st1⟩
    exact ⟨rfl, rfl, st1⟩
  · have n1 := number_yes s b i 1 w hs h h1 (by omega)
    generalize be (s.extract i (i + 1)).data.toList = n at *
    clear hp
    go_enter Tryd.func49, Tryd.ntmps49
    go_wp2_with fail
    refine n1.mono ?_
    rintro e w1 ⟨rfl, g1, st1⟩
    clear n1
    go_wp2_with fail
    refine (take_no s b (i + 1) n _ hs g1 h1 h2).mono ?_
    rintro e w2 ⟨rfl, st2⟩
    exact ⟨rfl, rfl, st1.trans st2⟩
end Go.Proofs.YtlagmbieaicmgaaDoor
