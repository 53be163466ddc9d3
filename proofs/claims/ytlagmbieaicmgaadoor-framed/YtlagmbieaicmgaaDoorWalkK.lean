/- The statement's own helpers: pick, turned, sameEntries, same, none. -/
import Derived.Test.YtlagmbieaicmgaaDoorWalkJ
import Derived.Test.YtlagmbieaicmgaaDoorTrip
import Derived.Laws.StructEq
namespace Go.Proofs.YtlagmbieaicmgaaDoor
open Go.RowKit Pact

set_option maxHeartbeats 400000 in
theorem pick_any (c : Int) (n : Nat) (w : World) (h1 : -9223372036854775808 ≤ c) (h2 : c < 9223372036854775808) (hn : 0 < n) (hn2 : n < 1000000000) :
    Calls Tryd.prog 12 #[.int .i64 c, .int .i64 n] w fun e w' => (∃ p : Nat, p < n ∧ e = .returned (.int .i64 p)) ∧ w' = w := by
  by_cases hc : c < 0
  · go_enter Tryd.func12, Tryd.ntmps12
    have e : -(c + 1).tmod (n : Int) = (-(c + 1)) % (n : Int) := by rw [← Int.neg_tmod, Int.tmod_eq_emod_of_nonneg (by omega)]
    have e0 := Int.emod_nonneg (-(c + 1)) (show (n : Int) ≠ 0 by omega)
    have e1 := Int.emod_lt_of_pos (-(c + 1)) (show (0 : Int) < n by omega)
    have HE : Hid (-(c + 1).tmod (n : Int) = (((-(c + 1)) % (n : Int)).toNat : Int)) := by show _ = _; rw [Int.toNat_of_nonneg e0]; exact e
    have HL : Hid (((-(c + 1)) % (n : Int)).toNat < n) := by show _ < _; omega
    clear e e0 e1
    go_wp2
    go_ret
    exact ⟨⟨_, HL.out, ret_int' HE.out⟩, rfl⟩
  · have e0 := Int.emod_nonneg c (show (n : Int) ≠ 0 by omega)
    have e1 := Int.emod_lt_of_pos c (show (0 : Int) < n by omega)
    have HE : Hid (c % (n : Int) = ((c % (n : Int)).toNat : Int)) := by show _ = _; rw [Int.toNat_of_nonneg e0]
    have HL : Hid ((c % (n : Int)).toNat < n) := by show _ < _; omega
    clear e0 e1
    go_enter Tryd.func12, Tryd.ntmps12
    go_wp2
    go_ret
    exact ⟨⟨_, HL.out, ret_int' HE.out⟩, rfl⟩

set_option maxHeartbeats 400000 in
theorem sameEntries_eq (es : List Ent) (b off cap b' off' cap' : Nat) (w : World) (hn : es.length ≤ maxLen) (hc : EntCells w b off es) (hc' : EntCells w b' off' es) :
    Calls Tryd.prog 26 #[.slice (some ⟨b, off, none⟩) es.length cap, .slice (some ⟨b', off', none⟩) es.length cap'] w fun e w' => e = .returned (.bool true) ∧ Below w.heap.size w w' := by
  unfold maxLen at hn
  go_enter Tryd.func26, Tryd.ntmps26
  go_wp2
  go_loopw [5] (fun i wr => ∃ k : Nat, k ≤ es.length ∧ i = .int .i64 k ∧ ∃ q, wr = w.drewN q) (fun i _ => es.length - (intOf i).toNat)
  case atStart => exact ⟨0, Nat.zero_le _, rfl, 0, rfl⟩
  case round =>
    obtain ⟨k, hk, rfl, q, rfl⟩ := hrel
    by_cases hlt : k < es.length
    · obtain ⟨q0, q1, q2⟩ := hc k hlt
      obtain ⟨r0, r1, r2⟩ := hc' k hlt
      generalize es[k] = e at *
      go_wp2
      go_quiet (fail)
      go_wp2
      go_roundw
      case rel => exact ⟨k + 1, by omega, by go_num, q + _, rfl⟩
      case measure => simp [intOf]; omega
    · go_wp2
      go_ret
      exact ⟨rfl, below_drewN (Below.refl _ _) _⟩

set_option maxHeartbeats 400000 in
theorem sameEntries_none (ao ao' : Option Addr) (cap cap' : Nat) (w : World) :
    Calls Tryd.prog 26 #[.slice ao 0 cap, .slice ao' 0 cap'] w fun e w' => e = .returned (.bool true) ∧ Below w.heap.size w w' := by
  go_enter Tryd.func26, Tryd.ntmps26
  go_wp2
  refine wp_loop_rounds 1 ?_
  rw [rounds_succ]
  go_wp2
  go_ret
  exact ⟨rfl, Below.refl _ _⟩

theorem sameEntries_any (es : List Ent) (ao ao' : Option Addr) (cap cap' : Nat) (w : World) (hn : es.length ≤ maxLen) (h : EntsIn w ao es) (h' : EntsIn w ao' es) :
    Calls Tryd.prog 26 #[.slice ao es.length cap, .slice ao' es.length cap'] w fun e w' => e = .returned (.bool true) ∧ Below w.heap.size w w' := by
  by_cases he : es = []
  · subst he; exact sameEntries_none ao ao' cap cap' w
  · obtain ⟨b, off, rfl, hc⟩ := h.resolve_left he
    obtain ⟨b', off', rfl, hc'⟩ := h'.resolve_left he
    exact sameEntries_eq es b off cap b' off' cap' w hn hc hc'

set_option maxHeartbeats 1000000 in
theorem same_eq (m : Msg) (ao ao' : Option Addr) (cap cap' : Nat) (w : World) (hn : m.ents.length ≤ maxLen) (h : EntsIn w ao m.ents) (h' : EntsIn w ao' m.ents) :
    Calls Tryd.prog 10 #[msgV m ao cap, msgV m ao' cap'] w fun e w' => e = .returned (.bool true) ∧ Below w.heap.size w w' := by
  go_enter Tryd.func10, Tryd.ntmps10
  go_wp2_with fail
  refine (sameEntries_any m.ents ao ao' cap cap' _ hn (h.below (below2 _ _ _)) (h'.below (below2 _ _ _))).mono ?_
  rintro e w1 ⟨rfl, hb1⟩
  have x1 : w1.heap[w.heap.size]? = some (boxO 24 m ao cap) := (hb1.block _ (by simp; omega)).trans (heap2 _ _ _)
  have x2 : w1.heap[w.heap.size + 1]? = some (boxO 24 m ao' cap') := (hb1.block _ (by simp)).trans (heap2b _ _ _)
  have hb2 : Below w.heap.size w w1 := (below2 _ _ _).trans (hb1.mono (by simp; omega))
  obtain ⟨c0, c1, c2, c3, c4, c5, c6, c7⟩ := box_cells x1
  obtain ⟨d0, d1, d2, d3, d4, d5, d6, d7⟩ := box_cells x2
  clear hb1 x1 x2
  go_wp2
  go_ret
  exact ⟨rfl, hb2⟩

/-- The empty message. -/
def zeroM : Msg := ⟨0, 0, 0, ⟨#[]⟩, 0, 0, ⟨#[]⟩, []⟩

set_option maxHeartbeats 1000000 in
theorem none_yes (s : ByteArray) (w : World) (n : Int) (hs : s.size ≤ maxLen) (hT : TabAt w) (hd : decR s = .inl n) :
    Calls Tryd.prog 13 #[.string s] w fun e w' => e = .returned (.bool true) ∧ Below w.heap.size w w' := by
  have D := decode_any s w hs hT
  rw [hd] at D
  have hn := decR_no hd
  clear hd
  rcases hn with rfl | rfl | rfl
  all_goals
    go_enter Tryd.func13, Tryd.ntmps13
    go_wp2_with fail
    refine D.mono ?_
    rintro e w1 (⟨m, ao, cap, q, _⟩ | ⟨n, q, rfl, hb1⟩)
    · cases q
    injection q with q
    subst q
    clear D
    have hs1 := hb1.size
    unfold zeroV
    go_wp2_with fail
    refine (same_eq zeroM none none 0 0 _ (by decide) (.inl rfl) (.inl rfl)).mono ?_
    rintro e w2 ⟨rfl, hb2⟩
    have hb3 : Below w.heap.size w w2 := (hb1.alloc (by omega) _).trans (hb2.mono (by simp; omega))
    clear hb2 hb1
    go_wp2
    go_ret
    exact ⟨rfl, hb3⟩

theorem xor_swap (a n y : Nat) : (a ^^^ n) ^^^ (a ^^^ y) = y ^^^ n := by
  rw [Nat.xor_comm a n, Nat.xor_assoc, ← Nat.xor_assoc a, Nat.xor_self, Nat.zero_xor, Nat.xor_comm]

theorem num_set : ∀ (l : List UInt8) (i : Nat) (h : i < l.length) (y : UInt8), num (l.set i y) = num l ^^^ ((l[i].toNat ^^^ y.toNat) <<< (8 * i))
  | a :: l, 0, _, y => by
    simp only [List.set_cons_zero, num, List.getElem_cons_zero, Nat.mul_zero, Nat.shiftLeft_zero]
    exact (xor_swap _ _ _).symm
  | a :: l, i + 1, h, y => by
    have ih := num_set l i (by simpa using h) y
    simp only [List.set_cons_succ, num, List.getElem_cons_succ]
    rw [ih, Nat.shiftLeft_xor_distrib, Nat.xor_assoc, ← Nat.shiftLeft_add, show 8 * (i + 1) = 8 * i + 8 from by omega]

theorem bit_step (l : List UInt8) (n0 at0 k x : Nat) (hx : x < 2 ^ k) (hi : (at0 + k) / 8 < l.length) (hn : num l = n0 ^^^ (x <<< at0)) (y : UInt8) (hy : y.toNat = l[(at0 + k) / 8].toNat ^^^ 2 ^ ((at0 + k) % 8)) :
    num (l.set ((at0 + k) / 8) y) = n0 ^^^ ((x ^^^ 2 ^ k) <<< at0) ∧ x ^^^ 2 ^ k < 2 ^ (k + 1) := by
  refine ⟨?_, Nat.xor_lt_two_pow (Nat.lt_of_lt_of_le hx (Nat.pow_le_pow_right (by omega) (by omega))) (Nat.pow_lt_pow_right (by omega) (by omega))⟩
  rw [num_set l _ hi, hn, hy, ← Nat.xor_assoc (l[(at0 + k) / 8].toNat), Nat.xor_self, Nat.zero_xor, Nat.shiftLeft_xor_distrib, Nat.xor_assoc]
  congr 2
  rw [Nat.shiftLeft_eq, Nat.shiftLeft_eq, ← Nat.pow_add, ← Nat.pow_add]
  congr 1
  omega

/-- A row of bytes of the call's own, made of a text. -/
def RowB (w : World) (g : Nat) (l : List UInt8) : Prop := ∃ cur K, w.heap[g]? = some (.cells cur 5 (K, K + 1)) ∧ l.length ≤ K ∧ ∀ (j : Nat) (h : j < l.length), cur[j]? = some (.int .u8 (l[j].toNat : Int))

theorem RowB.made (w : World) (s : ByteArray) (cap : Nat) : RowB (w.alloc (.cells (bytesRow s cap) 5 ((bytesRow s cap).size, (bytesRow s cap).size + 1))).drew w.heap.size s.data.toList :=
  ⟨_, _, heap_new _ _, by simp [bytesRow], fun j h => bytesRow_at s cap j (by simpa using h)⟩

theorem RowB.cell {w : World} {g : Nat} {l : List UInt8} (h : RowB w g l) (j : Nat) (hj : j < l.length) : w.cell? ⟨g, j, none⟩ = some (.int .u8 (l[j].toNat : Int)) ∧ w.frozen? ⟨g, j, none⟩ = false := by
  obtain ⟨cur, K, h1, h2, h3⟩ := h
  refine ⟨by rw [cell_of_heap h1]; exact h3 j hj, ?_⟩
  unfold World.frozen?
  rw [h1]
  simp
  omega

theorem RowB.drewN {w : World} {g : Nat} {l : List UInt8} (h : RowB w g l) (n : Nat) : RowB (w.drewN n) g l := h

theorem RowB.set {w : World} {g : Nat} {l : List UInt8} (h : RowB w g l) (i : Nat) (y : UInt8) (v : Int) (hv : v = y.toNat) : RowB (w.setCell ⟨g, i, none⟩ (.int .u8 v)) g (l.set i y) := by
  obtain ⟨cur, K, h1, h2, h3⟩ := h
  subst hv
  refine ⟨_, K, set_heap h1 i _, by simpa using h2, fun j hj => ?_⟩
  have hj' : j < l.length := by simpa using hj
  have h4 := h3 j hj'
  rw [Array.getElem?_setIfInBounds]
  by_cases hij : i = j
  · subst hij
    have hlt : i < cur.size := (Array.getElem?_eq_some_iff.1 h4).1
    simp [hlt]
  · rw [if_neg hij, h4, List.getElem_set_ne hij]

theorem conv_row {w : World} {g : Nat} {l : List UInt8} {n : Nat} (h : RowB w g l) (hl : l.length = n) (cap : Nat) :
    (convert 51 9 (.slice (some ⟨g, 0, none⟩) n cap)).run Tryd.prog w = .ok (.string ⟨l.toArray⟩) w := by
  subst hl
  refine run_convert_bytes_back _ 51 9 5 ⟨g, 0, none⟩ cap l Tryd.underlying51 Tryd.underlying5 Tryd.underlying9 ?_
  intro j hj
  have e : (⟨g, 0, none⟩ : Addr).add j = ⟨g, j, none⟩ := by simp [Addr.add]; omega
  rw [e]
  exact (h.cell j hj).1

theorem xor_byte (b : UInt8) (r : Nat) (hr : r < 8) : ∃ y : UInt8, y.toNat = b.toNat ^^^ 2 ^ r ∧ bits .xor .u8 (b.toNat : Int) ((2 : Int) ^ r % 256) = (y.toNat : Int) := by
  have hb := b.toNat_lt
  have h2 : 2 ^ r < 2 ^ 8 := Nat.pow_lt_pow_right (by omega) hr
  have hx : b.toNat ^^^ 2 ^ r < 2 ^ 8 := Nat.xor_lt_two_pow hb h2
  refine ⟨UInt8.ofNat (b.toNat ^^^ 2 ^ r), ?_, ?_⟩
  · rw [UInt8.toNat_ofNat']; omega
  · have e : (2 : Int) ^ r % 256 = ((2 ^ r : Nat) : Int) := by
      have e2 : ((2 ^ r : Nat) : Int) = (2 : Int) ^ r := by simp
      rw [← e2]
      clear e2 hx
      generalize 2 ^ r = z at h2 ⊢
      omega
    rw [e, u8_xor_nat _ _ (by omega) (by omega), UInt8.toNat_ofNat']
    congr 1; omega

set_option maxHeartbeats 1000000 in
theorem turned_any (s : ByteArray) (at0 : Nat) (mask : Int) (w : World) (hs : s.size ≤ 1000000) (ha : at0 < 8 * s.size) :
    Calls Tryd.prog 11 #[.string s, .int .i64 at0, .int .i64 mask] w fun e w' =>
      (∃ t : ByteArray, e = .returned (.string t) ∧ t.size = s.size ∧ ∃ x, x < 2 ^ 32 ∧ num t.data.toList = num s.data.toList ^^^ (x <<< at0)) ∧ Below w.heap.size w w' := by
  have hbs := fun (w : World) (s : ByteArray) => run_bytes_of_string (P := Tryd.prog) w 9 51 5 s Tryd.underlying9 Tryd.underlying51 Tryd.underlying5
  go_enter Tryd.func11, Tryd.ntmps11
  go_wp2
  go_loopw [8, 9] (fun i _ wr => ∃ (k : Nat) (l : List UInt8) (x : Nat), k ≤ 32 ∧ i = .int .i64 k ∧ l.length = s.size ∧ x < 2 ^ k ∧ Hid (num l = num s.data.toList ^^^ (x <<< at0)) ∧ RowB wr w.heap.size l ∧ Below w.heap.size w wr) (fun i _ _ => 32 - (intOf i).toNat)
  case atStart => exact ⟨0, s.data.toList, 0, by omega, rfl, by simp, by omega, by show _ = _; simp, RowB.made _ _ _, ((Below.refl _ _).alloc (Nat.le_refl _) _).drew⟩
  case round =>
    obtain ⟨k, l, x, hk, rfl, hl, hx, hn, hrow, hb⟩ := hrel
    clear hbs
    by_cases hlt : k < 32
    · by_cases hin : (at0 + k) / 8 < s.size
      · obtain ⟨q0, q1⟩ := hrow.cell ((at0 + k) / 8) (by omega)
        have HI : Hid ((at0 + k) / 8 < l.length) := by show _ < _; omega
        have hxl := xor_byte l[(at0 + k) / 8] ((at0 + k) % 8) (Nat.mod_lt _ (by omega))
        have hx2 : x < 2 ^ (k + 1) := Nat.lt_of_lt_of_le hx (Nat.pow_le_pow_right (by omega) (by omega))
        go_wp2
        · go_region
          go_wp2
          obtain ⟨y, hy1, hy2⟩ := hxl
          obtain ⟨e1, e2⟩ := bit_step l _ at0 k x hx HI.out hn.out y hy1
          go_roundw
          case rel => exact ⟨k + 1, l.set ((at0 + k) / 8) y, x ^^^ 2 ^ k, by omega, by go_num, by simpa using hl, e2, e1, hrow.set _ y _ hy2, (hb.setCell (Nat.le_refl _) _).drew⟩
          case measure => simp [intOf]; omega
        · go_roundw
          case rel => exact ⟨k + 1, l, x, by omega, by go_num, hl, hx2, hn, hrow, hb⟩
          case measure => simp [intOf]; omega
      · have hx2 : x < 2 ^ (k + 1) := Nat.lt_of_lt_of_le hx (Nat.pow_le_pow_right (by omega) (by omega))
        go_wp2
        all_goals
          go_roundw
          case rel => exact ⟨k + 1, l, x, by omega, by go_num, hl, hx2, hn, hrow, hb⟩
          case measure => simp [intOf]; omega
    · have hcv := conv_row hrow hl
      have hk32 : k = 32 := by omega
      subst hk32
      go_wp2
      go_ret
      exact ⟨⟨_, rfl, by show l.toArray.size = _; simpa using hl, x, hx, by simpa using hn.out⟩, hb⟩
end Go.Proofs.YtlagmbieaicmgaaDoor
