/- The reader's steps: take, number, text. -/
import Derived.Test.YtlagmbieaicmgaaDoorProg
import Derived.Test.YtlagmbieaicmgaaDoorPure
import Derived.WalkKit
import Derived.WalkSpells
import Derived.WalkLawsBesides
import Derived.Deep.QuietTactic
import Derived.BigQuiet
import Derived.Laws.IdiomStrings
namespace Go.Proofs.YtlagmbieaicmgaaDoor
open Go.RowKit Pact

theorem val_int {k : IntKind} {a b : Int} (h : a = b) : Value.int k a = .int k b := by rw [h]

theorem ret_int' {k : IntKind} {a b : Int} (h : a = b) : Ending.returned (.int k a) = .returned (.int k b) := by rw [h]

/-- A reader in memory: its bytes, and where it stands. -/
def rdO (s : ByteArray) (i : Nat) : Obj := .cells #[.string s, .int .i64 i] 66 (0, 0)

/-- What is panicked with. -/
def fault (n : Int) : List PanicEntry := [{ v := .iface 62 (.agg #[.int .i64 n]), recovered := false }]

theorem rd_cells {w : World} {b i : Nat} {s : ByteArray} (h : w.heap[b]? = some (rdO s i)) : w.cell? ⟨b, 0, none⟩ = some (.string s) ∧ w.cell? ⟨b, 1, none⟩ = some (.int .i64 i) ∧ w.frozen? ⟨b, 1, none⟩ = false := by
  refine ⟨?_, ?_, ?_⟩
  · rw [cell_of_heap h]; rfl
  · rw [cell_of_heap h]; rfl
  · unfold World.frozen?; rw [h]; rfl

theorem rd_set {w : World} {b i j : Nat} {s : ByteArray} (h : w.heap[b]? = some (rdO s i)) (x : Int) (hx : x = j) : (w.setCell ⟨b, 1, none⟩ (.int .i64 x)).heap[b]? = some (rdO s j) := by
  subst hx
  simp only [World.setCell, Array.getElem?_modify]
  simp [h, rdO]

theorem rd_alloc {w : World} {b i : Nat} {s : ByteArray} (h : w.heap[b]? = some (rdO s i)) (o : Obj) : (w.alloc o).heap[b]? = some (rdO s i) := by
  rw [Below.heap_alloc _ _ _ (Array.getElem?_eq_some_iff.1 h).1]; exact h

theorem step_drewN {b : Nat} {u w : World} (h : Step b u w) (n : Nat) : Step b u (w.drewN n) := ⟨h.os, h.tape, h.output, h.size, h.block⟩

theorem i64_or8 (x y : Int) (hx : 0 ≤ x) (hx1 : x < 16777216) (hy : 0 ≤ y) (hy1 : y < 256) : bits .or .i64 (x * 256) y = x * 256 + y := by
  exact bits_join .i64 62 (by decide) (fun n h0 h1 => by rw [IntKind.wrap_i64]; omega) 8 (x * 256) y (by omega) (by omega) (by omega) hy (by omega) (by omega)

/-- A number of bytes, the high byte first. -/
def be (l : List UInt8) : Nat := l.foldl (fun a b => a * 256 + b.toNat) 0
theorem be_snoc (l : List UInt8) (b : UInt8) : be (l ++ [b]) = be l * 256 + b.toNat := by simp [be, List.foldl_append]
theorem be_from (l : List UInt8) (a : Nat) : l.foldl (fun a b => a * 256 + b.toNat) a < (a + 1) * 256 ^ l.length := by
  induction l generalizing a with
  | nil => simp
  | cons b l ih =>
    have h1 := ih (a * 256 + b.toNat)
    have h2 := b.toNat_lt
    simp only [List.foldl_cons, List.length_cons, Nat.pow_succ]
    have h3 : (a * 256 + b.toNat + 1) * 256 ^ l.length ≤ ((a + 1) * 256) * 256 ^ l.length := Nat.mul_le_mul_right _ (by omega)
    have h4 : ((a + 1) * 256) * 256 ^ l.length = (a + 1) * (256 ^ l.length * 256) := by rw [Nat.mul_assoc, Nat.mul_comm 256]
    omega
theorem be_lt (l : List UInt8) : be l < 256 ^ l.length := by
  have := be_from l 0
  simpa [be] using this

set_option maxHeartbeats 400000 in
theorem giveUp_any (n : Int) (w : World) : Calls Tryd.prog 37 #[.int .i64 n] w fun e w' => e = .panicked (fault n) ∧ w' = w := by
  go_enter Tryd.func37, Tryd.ntmps37
  go_wp2
  exact ⟨rfl, rfl, rfl⟩

set_option maxHeartbeats 400000 in
theorem take_yes (s : ByteArray) (b i n : Nat) (w : World) (hs : s.size ≤ maxLen) (h : w.heap[b]? = some (rdO s i)) (hn : i + n ≤ s.size) :
    Calls Tryd.prog 35 #[.pointer (some ⟨b, 0, none⟩), .int .i64 n] w fun e w' => e = .returned (.string (s.extract i (i + n))) ∧ w'.heap[b]? = some (rdO s (i + n)) ∧ Step b w w' := by
  unfold maxLen at hs
  obtain ⟨c0, c1, c2⟩ := rd_cells h
  have hd : decide ((s.size : Int) - i < n) = false := by simp; omega
  go_enter Tryd.func35, Tryd.ntmps35
  go_wp2
  go_quiet (fail)
  go_wp2
  go_quiet (fail)
  go_wp2
  go_ret
  exact ⟨rfl, rd_set (w := w.drewN _) h _ (by omega), (step_drewN (Step.refl _ _) _).setCell _ _⟩

set_option maxHeartbeats 400000 in
theorem take_no (s : ByteArray) (b i n : Nat) (w : World) (hs : s.size ≤ maxLen) (h : w.heap[b]? = some (rdO s i)) (hi : i ≤ s.size) (hn : s.size < i + n) :
    Calls Tryd.prog 35 #[.pointer (some ⟨b, 0, none⟩), .int .i64 n] w fun e w' => e = .panicked (fault 2) ∧ Step b w w' := by
  unfold maxLen at hs
  obtain ⟨c0, c1, c2⟩ := rd_cells h
  have hd : decide ((s.size : Int) - i < n) = true := by simp; omega
  go_enter Tryd.func35, Tryd.ntmps35
  go_wp2
  go_quiet (fail)
  go_wp2_with (go_at_call 37; refine (giveUp_any _ _).mono ?_; rintro e w' ⟨rfl, rfl⟩)
  exact ⟨rfl, rfl, step_drewN (Step.refl _ _) _⟩

set_option maxHeartbeats 400000 in
theorem number_yes (s : ByteArray) (b i n : Nat) (w : World) (hs : s.size ≤ maxLen) (h : w.heap[b]? = some (rdO s i)) (hn : i + n ≤ s.size) (h3 : n ≤ 3) :
    Calls Tryd.prog 33 #[.pointer (some ⟨b, 0, none⟩), .int .i64 n] w fun e w' => e = .returned (.int .i64 (be (s.extract i (i + n)).data.toList : Nat)) ∧ w'.heap[b]? = some (rdO s (i + n)) ∧ Step b w w' := by
  have hbs := fun (w : World) (s : ByteArray) => run_bytes_of_string (P := Tryd.prog) w 9 51 5 s Tryd.underlying9 Tryd.underlying51 Tryd.underlying5
  go_enter Tryd.func33, Tryd.ntmps33
  go_wp2_with fail
  refine (take_yes s b i n _ hs h hn).mono ?_
  rintro e w1 ⟨rfl, h1, st1⟩
  have hsz : (s.extract i (i + n)).size = n := by simp; omega
  generalize hT0 : s.extract i (i + n) = t at *
  have HT0 : Hid (s.extract i (i + n) = t) := hT0
  clear hT0
  have ht3 : t.size ≤ 3 := by omega
  have hcm := fun C T fr j => World.cell?_alloc_mark w1 C T fr j
  have hbr : ∀ (cap k : Nat) (hk : k < t.size), (bytesRow t cap)[k]? = some (.int .u8 (t[k].toNat : Int)) := fun cap k hk => bytesRow_at t cap k hk
  clear hsz
  go_wp2
  go_loop [5, 7, 13] (fun n _ i => ∃ k : Nat, k ≤ t.size ∧ i = .int .i64 k ∧ n = .int .i64 (be (t.data.toList.take k) : Nat)) (fun _ _ i => t.size - (intOf i).toNat)
  case atStart => exact ⟨0, Nat.zero_le _, rfl, rfl⟩
  case round =>
    obtain ⟨k, hk, rfl, rfl⟩ := hrel
    by_cases hlt : k < t.size
    · have HS : Hid (be (t.data.toList.take (k + 1)) = be (t.data.toList.take k) * 256 + t[k].toNat) := by
        show _ = _
        rw [List.take_succ_eq_append_getElem (by simpa using hlt), be_snoc]; rfl
      have hc : be (t.data.toList.take k) < 65536 := by
        have h1 := be_lt (t.data.toList.take k)
        have h2 : (t.data.toList.take k).length ≤ 2 := by simp; omega
        have h3 : 256 ^ (t.data.toList.take k).length ≤ 256 ^ 2 := Nat.pow_le_pow_right (by omega) h2
        omega
      have hb := t[k].toNat_lt
      generalize be (t.data.toList.take k) = c at *
      go_wp2
      go_round
      case rel => exact ⟨k + 1, by omega, by go_num, val_int (by rw [HS.out]; have := i64_or8 c t[k].toNat (by omega) (by omega) (by omega) (by omega); simpa using this)⟩
      case measure => simp [intOf]; omega
    · have hT : t.data.toList.take k = t.data.toList := List.take_of_length_le (by simp; omega)
      have hb := be_lt t.data.toList
      rw [hT] at *
      clear hT
      go_wp2
      go_ret
      exact ⟨ret_int' (by rw [← HT0.out]; simp), rd_alloc h1 _, (st1.alloc _).drew⟩

set_option maxHeartbeats 400000 in
theorem number_no (s : ByteArray) (b i n : Nat) (w : World) (hs : s.size ≤ maxLen) (h : w.heap[b]? = some (rdO s i)) (hi : i ≤ s.size) (hn : s.size < i + n) :
    Calls Tryd.prog 33 #[.pointer (some ⟨b, 0, none⟩), .int .i64 n] w fun e w' => e = .panicked (fault 2) ∧ Step b w w' := by
  go_enter Tryd.func33, Tryd.ntmps33
  go_wp2_with fail
  refine (take_no s b i n _ hs h hi hn).mono ?_
  rintro e w1 ⟨rfl, st1⟩
  exact ⟨rfl, rfl, st1⟩

end Go.Proofs.YtlagmbieaicmgaaDoor
