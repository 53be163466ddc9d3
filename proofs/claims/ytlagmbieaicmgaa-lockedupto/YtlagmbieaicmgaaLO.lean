/- Tables of locks: the library's Sort, Compact, BinarySearch, Delete and Insert of numbers, over rows of one's own. -/
import Derived.Test.YtlagmbieaicmgaaLSh
import Derived.Test.YtlagmbieaicmgaaLK
import Derived.Lib.RowBridge
namespace Go.Proofs.Ytlagmbieaicmgaa
open Go.RowKit Lk Go.Shelf Go.Sort

theorem fl_il (xs : List Int) : fl il xs = xs.map (Value.int .i64) := by
  induction xs with
  | nil => rfl
  | cons x r ih => rw [show fl il (x :: r) = il x ++ fl il r from rfl, ih]; rfl

theorem ra_ints {w : World} {b off : Nat} {xs : List Int} (h : Ra il 1 w b off xs) : ∀ j, j < xs.length → w.cell? ⟨b, off + j, none⟩ = some (.int .i64 (xs.getD j 0)) := by
  intro j hj
  have := h j hj 0 _ rfl
  rw [Nat.mul_one, Nat.add_zero] at this
  rw [this]; simp [List.getD, List.getElem?_eq_getElem hj]
theorem ra_cells {w : World} {b off : Nat} {xs : List Int} (h : Ra il 1 w b off xs) : ∀ j v, (xs.map (Value.int .i64))[j]? = some v → w.cell? ⟨b, off + j, none⟩ = some v := by
  have := h.fl il_len (by omega)
  rwa [fl_il] at this
theorem ones_ints (xs : List Int) : ∀ v ∈ xs.map (Value.int .i64), v.oneCell' = true := by
  intro v hv
  obtain ⟨x, _, rfl⟩ := List.mem_map.1 hv
  rfl
/-- Cells written over the head of a row. -/
theorem rw_over {w : World} {g cap : Nat} {xs ys : List Int} (h : Rw il 1 3 w g cap xs) (zs : List Int) (hl : (ys ++ zs).length ≤ cap) (q : Nat) : Rw il 1 3 ((w.drewN q).setCells g 0 ((ys ++ zs).map (Value.int .i64))) g cap ys ∧ Fr (fun b => b = g) w ((w.drewN q).setCells g 0 ((ys ++ zs).map (Value.int .i64))) := by
  have shq : Sh (w.drewN q) g 3 (cap * 1) := h.sh.block (by simp [World.drewN])
  have frq : Fr (fun b => b = g) w (w.drewN q) := ⟨rfl, rfl, rfl, Nat.le_refl _, fun _ _ _ => rfl⟩
  refine ⟨⟨Sh.setCells _ _ _ shq, by rw [List.length_append] at hl; omega, h.max, Ra.of_fl il_len fun j u hj => ?_⟩, Fr.setCells (D := fun b => b = g) (.inl rfl) _ _ _ frq⟩
  rw [fl_il] at hj
  have hlt := (List.getElem?_eq_some_iff.1 hj).1
  rw [List.length_map] at hlt
  have hlt2 : j < ((ys ++ zs).map (Value.int .i64)).length := by rw [List.length_map, List.length_append]; omega
  rw [World.cell?_setCells_in g _ 0 _ (fun t ht => by rw [Nat.zero_add]; exact shq.some t (by rw [List.length_map] at ht; omega)) j hlt2]
  rw [← hj, List.getElem?_map, List.getElem_map, List.getElem_append_left hlt, List.getElem?_eq_getElem hlt]; rfl

theorem rw_holds {w : World} {g cap : Nat} {xs : List Int} (h : Rw il 1 3 w g cap xs) : Holds (Value.int .i64) w g 0 xs.toArray := by
  intro j hj
  have hj' : j < xs.length := by simpa using hj
  refine ⟨?_, h.sh.free _⟩
  rw [ra_ints h.at' j hj']
  simp [List.getD, hj']

theorem below_dN (w : World) (q : Nat) : Below w.heap.size w (w.drewN q) := ⟨rfl, rfl, rfl, Nat.le_refl _, fun _ _ => rfl⟩

theorem bin_any (ao : Option Addr) (cap : Nat) (xs : List Int) (x : Int) (w : World) (hr : Rd il 1 w ao xs) (hn : xs.length ≤ 1000000) (hs : xs.Pairwise (· ≤ ·)) :
    Calls Try.prog 55 #[.slice ao xs.length cap, .int .i64 x] w fun e w' => e = .returned (.tuple #[.int .i64 (xs.countP (· < x) : Nat), .bool (xs.contains x)]) ∧ Below w.heap.size w w' := by
  rcases hr with rfl | ⟨b, off, rfl, hb, hra⟩
  · refine (Any.slices_BinarySearch_int_empty (P := Try.prog) shNm225 ao cap x w).mono ?_
    rintro e w' ⟨rfl, h⟩
    exact ⟨rfl, by rw [h]; exact Below.refl _ _⟩
  · refine (Any.slices_BinarySearch_int (P := Try.prog) shNm225 b off xs.length cap xs x w (Nat.le_refl _) (by omega) (ra_ints hra) (by rw [List.take_length]; exact hs)).mono ?_
    rintro e w' ⟨rfl, q, rfl⟩
    rw [List.take_length]
    exact ⟨rfl, below_dN _ _⟩

/-- Sorted in its place. -/
theorem sort_any (v : Value) (xs : List Int) (w : World) (h : Own il 1 3 w v xs) (hn : xs.length ≤ 1000000) :
    Calls Try.prog 68 #[v] w fun e w' => e = .returned (.tuple #[]) ∧ Own il 1 3 w' v (xs.mergeSort fun x y => decide (x ≤ y)) ∧ Fr (fun b => v.ownBlock = some b) w w' := by
  rcases h.cases il_len with ⟨rfl, rfl⟩ | ⟨g, cap, rfl, hr⟩
  · refine (Any.slices_Sort_int_none (P := Try.prog) sh189 none 0 w).mono ?_
    rintro e w' ⟨rfl, rfl⟩
    exact ⟨rfl, by simpa using h, Fr.refl _ _⟩
  · refine (Any.slices_Sort_int (P := Try.prog) sh189 g 0 cap xs w (rw_holds hr) hr.sh.lt (by omega)).mono ?_
    rintro e w' ⟨rfl, n, os, rfl⟩
    have hl : (xs.mergeSort fun x y => decide (x ≤ y)).length = xs.length := List.length_mergeSort _
    rw [Lib.putRow_eq_setCells (Value.int .i64) w g 0 xs.toArray _ n (rw_holds hr) (by rw [hl]; simp)]
    obtain ⟨r1, f1⟩ := rw_over (ys := xs.mergeSort fun x y => decide (x ≤ y)) hr [] (by rw [List.append_nil, hl]; exact hr.len) n
    rw [List.append_nil] at r1 f1
    have ow := r1.own il_len (by omega)
    rw [hl] at ow
    have fg : Fr (fun _ => False) ((w.drewN n).setCells g 0 ((xs.mergeSort fun x y => decide (x ≤ y)).map (Value.int .i64))) (grow ((w.drewN n).setCells g 0 ((xs.mergeSort fun x y => decide (x ≤ y)).map (Value.int .i64))) os) :=
      ⟨rfl, rfl, rfl, by simp [grow], fun k hk _ => by simp [grow, Array.getElem?_append_left hk]⟩
    exact ⟨rfl, ow.fr fg fun _ _ e => e, (f1.mono fun b _ e => by rw [e]; rfl).trans fg fun _ _ e => e.elim⟩

/-- Runs of equal ones become one, in its place. -/
theorem compact_any (v : Value) (xs : List Int) (w : World) (h : Own il 1 3 w v xs) (hn : xs.length ≤ 1000000) :
    Calls Try.prog 82 #[v] w fun e w' => ∃ v', e = .returned v' ∧ v'.ownBlock = v.ownBlock ∧ Own il 1 3 w' v' (Lib.compact xs) ∧ Fr (fun b => v.ownBlock = some b) w w' := by
  rcases h.cases il_len with ⟨rfl, rfl⟩ | ⟨g, cap, rfl, hr⟩
  · refine (Any.slices_Compact_int_empty (P := Try.prog) shNm220 none 0 w).mono ?_
    rintro e w' ⟨rfl, rfl⟩
    exact ⟨_, rfl, rfl, h, Fr.refl _ _⟩
  · refine (Any.slices_Compact_int_cells (P := Try.prog) shNm220 g 0 xs.length cap xs w (Nat.le_refl _) (by omega) hr.len (ra_ints hr.at') (fun j _ => hr.sh.free _)).mono ?_
    rintro e w' ⟨rfl, q, rfl⟩
    rw [List.take_length]
    have hc := Lib.compact_length_le xs
    obtain ⟨r1, f1⟩ := rw_over (ys := Lib.compact xs) hr (List.replicate (xs.length - (Lib.compact xs).length) 0) (by have := hr.len; simp; omega) q
    exact ⟨_, rfl, rfl, r1.own il_len (by omega), f1.mono fun b _ e => by rw [e]; rfl⟩

/-- One struck out. -/
theorem del_any (v : Value) (xs : List Int) (w : World) (i : Nat) (h : Own il 1 3 w v xs) (hn : xs.length ≤ 1000000) (hi : i < xs.length) :
    Calls Try.prog 58 #[v, .int .i64 i, .int .i64 ((i + 1 : Nat) : Int)] w fun e w' => ∃ v', e = .returned v' ∧ v'.ownBlock = v.ownBlock ∧ Own il 1 3 w' v' (xs.take i ++ xs.drop (i + 1)) ∧ Fr (fun b => v.ownBlock = some b) w w' := by
  rcases h.cases il_len with ⟨rfl, rfl⟩ | ⟨g, cap, rfl, hr⟩
  · simp at hi
  · have hm := hr.max
    unfold maxLen at hm
    refine (Any.slices_Delete_int_cells (P := Try.prog) shNm223 g 0 xs.length cap i (i + 1) xs w (Nat.le_refl _) hr.len (by omega) (by omega) (by omega) (ra_ints hr.at') (fun j _ => hr.sh.free _)).mono ?_
    rintro e w' ⟨rfl, q, rfl⟩
    rw [List.take_length]
    have hl : (xs.take i ++ xs.drop (i + 1)).length = xs.length - (i + 1 - i) := by simp; omega
    obtain ⟨r1, f1⟩ := rw_over (ys := xs.take i ++ xs.drop (i + 1)) hr (List.replicate (i + 1 - i) 0) (by have := hr.len; rw [List.length_append, hl]; simp; omega) q
    have ow := r1.own il_len (by omega)
    rw [hl] at ow
    exact ⟨_, rfl, rfl, ow, f1.mono fun b _ e => by rw [e]; rfl⟩

def insI (xs : List Int) (i : Nat) (x : Int) : List Int := xs.take i ++ x :: xs.drop i
theorem insI_map (xs : List Int) (i : Nat) (x : Int) : fl il (insI xs i x) = (xs.take i).map (Value.int .i64) ++ [Value.int .i64 x] ++ (xs.drop i).map (Value.int .i64) := by rw [fl_il]; simp [insI]
theorem insI_len (xs : List Int) (i : Nat) (x : Int) (h : i ≤ xs.length) : (insI xs i x).length = xs.length + 1 := by unfold insI; simp; omega

set_option maxHeartbeats 1000000 in
theorem ins_end (vb : Nat) (xs : List Int) (v : Value) (x : Int) (w : World) (h : Own il 1 3 w v xs) (hn : xs.length ≤ 1000000) (hv : w.heap[vb]? = some (.cells #[.int .i64 x] 3 (0, 0))) :
    Calls Try.prog 56 #[v, .int .i64 xs.length, .slice (some ⟨vb, 0, none⟩) 1 1] w fun e w' =>
      ∃ v', e = .returned v' ∧ Own il 1 3 w' v' (xs ++ [x]) ∧ Fr (fun b => v.ownBlock = some b) w w' ∧ ∀ g, v'.ownBlock = some g → v.ownBlock = some g ∨ w.heap.size ≤ g := by
  obtain ⟨ao, cap, rfl, -, hlc, hm⟩ := h.rd il_len
  unfold maxLen at hm
  obtain ⟨n, hN⟩ : ∃ n, n = xs.length := ⟨_, rfl⟩
  have H : Hid (Own il 1 3 w (.slice ao xs.length cap) xs) := h
  have HN : Hid (n = xs.length) := hN
  rw [← hN] at H hn hlc ⊢
  have hnn : n - n = 0 := Nat.sub_self n
  have hnc : (n : Int) ≤ (cap : Int) := by omega
  clear h hN
  go_enter Try.func56, Try.ntmps56
  go_wp2_with (at_builtin; refine app_list el_int _ rfl _ _ rfl (.slice ao n cap) xs rfl H.out vb x #[.int .i64 x] 3 rfl hv rfl (by rw [← HN.out]; omega) ?_)
  all_goals
    intro g cap' w' ho hf hat hgl
    go_wp2
    go_ret
    rw [ownB] at hat ⊢
    simp only [ownB] at hf
    refine ⟨_, rfl, ho, hf, fun b hb => ?_⟩
    have e : g = b := by simpa [Value.ownBlock] using hb
    subst e
    exact hat

/-- One put in at its place. -/
theorem ins_any (i vb : Nat) (xs : List Int) (v : Value) (x : Int) (w : World) (h : Own il 1 3 w v xs) (hi : i ≤ xs.length) (hn : xs.length ≤ 1000000) (hvb : v.ownBlock ≠ some vb) (hv : w.heap[vb]? = some (.cells #[.int .i64 x] 3 (0, 0))) :
    Calls Try.prog 56 #[v, .int .i64 i, .slice (some ⟨vb, 0, none⟩) 1 1] w fun e w' =>
      ∃ v', e = .returned v' ∧ Own il 1 3 w' v' (insI xs i x) ∧ Fr (fun b => v.ownBlock = some b) w w' ∧ ∀ g, v'.ownBlock = some g → v.ownBlock = some g ∨ w.heap.size ≤ g := by
  have hvs : ∀ (j : Nat) (u : Value), ([Value.int .i64 x] : List Value)[j]? = some u → w.cell? ⟨vb, 0 + j, none⟩ = some u := fun j u hu => by
    rw [Nat.zero_add, cell_of_heap hv]; simpa using hu
  have h1v : ∀ v ∈ ([Value.int .i64 x] : List Value), v.oneCell' = true := fun v hv => by simp at hv; subst hv; rfl
  have shv : Sh w vb 3 1 := ⟨_, hv, rfl⟩
  by_cases he : i = xs.length
  · subst he
    refine (ins_end vb xs v x w h hn hv).mono ?_
    rintro e w' ⟨v', rfl, h1, h2, h3⟩
    exact ⟨v', rfl, by unfold insI; simpa using h1, h2, h3⟩
  · rcases h.cases il_len with ⟨_, rfl⟩ | ⟨g, cap, rfl, hr⟩
    · simp at hi; simp [hi] at he
    · have hm := hr.max
      unfold maxLen at hm
      have hlen := hr.len
      have hcs : ∀ j v, (xs.map (Value.int .i64))[j]? = some v → w.cell? ⟨g, 0 + j, none⟩ = some v := ra_cells hr.at'
      have lt : ((xs.take i).map (Value.int .i64)).length = i := by rw [List.length_map, List.length_take]; omega
      have ld : ((xs.drop i).map (Value.int .i64)).length = xs.length - i := by rw [List.length_map, List.length_drop]
      have hgv : g ≠ vb := fun e => hvb (by rw [e]; rfl)
      by_cases hroom : xs.length + 1 ≤ cap
      · have hsa : w.shape? vb = some (3, 1) := by unfold World.shape?; rw [hv]; rfl
        have hsb : w.shape? g = some (3, cap * 1) := by
          obtain ⟨cur, h1, h2⟩ := hr.sh
          unfold World.shape?; rw [h1, ← h2]
        have hsp : ∀ j, j < cap * 1 → (w.cell? ⟨g, j, none⟩).isSome = true := hr.sh.some
        refine (Any2.slices_Insert_int_shift (P := Try.prog) shNm221 g 0 xs.length cap i vb 0 1 1 (xs.map (Value.int .i64)) [Value.int .i64 x] w (by omega) (by omega) hroom (by omega) (Ne.symm hgv) (by simp) rfl hcs (fun j hj => by rw [Nat.zero_add]; exact hsp j (by omega)) (fun j _ => hr.sh.free _) hvs (ones_ints _) h1v _ _ _ _ hsa hsb (by omega) (shv.free _) (shv.free _)).mono ?_
        rintro e w' ⟨rfl, rfl⟩
        have RW : Rw il 1 3 ((w.drew.setCells g (0 + (i + 1)) ((xs.map (Value.int .i64)).drop i)).setCells g (0 + i) [Value.int .i64 x]) g cap (insI xs i x) := by
          refine ⟨Sh.setCells _ _ _ (Sh.setCells _ _ _ (hr.sh.block rfl)), by rw [insI_len _ _ _ hi]; exact hroom, hr.max, Ra.of_fl il_len fun j u hj => ?_⟩
          rw [insI_map] at hj
          have := (paste w.drew g _ _ _ (fun j u h => by have := ra_cells (hr.at'.take i) j u h; rw [Nat.zero_add] at this; exact this) (fun j hj => hsp j (by rw [lt, ld] at hj; simp at hj; omega)) j u hj).1
          rw [lt] at this
          rw [Nat.zero_add, Nat.zero_add, Nat.zero_add, ← List.map_drop]
          exact this
        have ow := RW.own il_len (by omega)
        rw [insI_len _ _ _ hi] at ow
        exact ⟨_, rfl, ow, (Fr.setCells (D := fun b => b = g) (.inl rfl) _ _ _ (Fr.setCells (D := fun b => b = g) (.inl rfl) _ _ _ (Fr.refl (fun b => b = g) w).drew)).mono fun b _ e => by rw [e]; rfl, fun b hb => .inl hb⟩
      · refine (Any2.slices_Insert_int_grow (P := Try.prog) shNm221 g 0 xs.length cap i vb 0 1 1 (xs.map (Value.int .i64)) [Value.int .i64 x] w (by omega) (by omega) hlen (by omega) (by omega) (by simp) rfl hcs hvs (ones_ints _) h1v).mono ?_
        rintro e w' ⟨rfl, rfl⟩
        obtain ⟨G, hG⟩ : ∃ G, G = grownCap w (xs.length + 1) cap (shNm221_ren.t 3) := ⟨_, rfl⟩
        have hGn : xs.length + 1 ≤ G := by rw [hG]; exact grownCap_ge w _ _ _
        have hGm : G ≤ maxLen := by rw [hG]; exact grownCap_le_maxLen w (xs.length + 1) cap _ (by unfold maxLen; omega)
        rw [← hG]
        obtain ⟨ROW, hROW⟩ : ∃ ROW : Array Value, ROW = ((xs.map (Value.int .i64)).take i).toArray ++ Builtin.zeroCells (Value.int .i64 0).cells (xs.length + 1 - i) ++ Builtin.zeroCells (Value.int .i64 0).cells (G - (xs.length + 1)) := ⟨_, rfl⟩
        rw [← hROW]
        have hRs : ROW.size = G * 1 := by
          rw [hROW]
          have z1 : (Value.int .i64 0).cells.size = 1 := rfl
          simp only [Array.size_append, List.size_toArray, ← List.map_take, lt, Builtin.zeroCells, Array.size_map, Array.size_range, z1]
          omega
        have hR1 : ∀ j v, ((xs.take i).map (Value.int .i64))[j]? = some v → ROW[j]? = some v := fun j v hj => by
          have hl := (List.getElem?_eq_some_iff.1 hj).1
          rw [hROW, Array.getElem?_append_left (by simp only [Array.size_append, List.size_toArray, ← List.map_take]; omega), Array.getElem?_append_left (by rw [← List.map_take]; simpa using hl), ← List.map_take]
          simpa using hj
        obtain ⟨W1, hW1⟩ : ∃ W1, W1 = (w.alloc (.cells ROW (shNm221_ren.t 3))).drew := ⟨_, rfl⟩
        have hh1 : W1.heap[w.heap.size]? = some (.cells ROW 3 (0, 0)) := by rw [hW1]; exact heap_new w _
        have sh1 : Sh W1 w.heap.size 3 (G * 1) := ⟨_, hh1, hRs⟩
        have fr1 : Fr (fun _ => False) w W1 := by rw [hW1]; exact ((Fr.refl (fun _ => False) w).alloc _).drew
        rw [← hW1, ← drew_setCells, ← List.map_drop]
        have RW : Rw il 1 3 (((W1.setCells w.heap.size i [Value.int .i64 x]).setCells w.heap.size (i + 1) ((xs.drop i).map (Value.int .i64))).drew) w.heap.size G (insI xs i x) := by
          refine ⟨Sh.block (Sh.setCells _ _ _ (Sh.setCells _ _ _ sh1)) rfl, by rw [insI_len _ _ _ hi]; exact hGn, hGm, Ra.of_fl il_len fun j u hj => ?_⟩
          rw [insI_map] at hj
          have := (paste W1 w.heap.size _ _ _ (fun j u h => by rw [cell_of_heap hh1]; exact hR1 j u h) (fun j hj => sh1.some j (by rw [lt, ld] at hj; simp at hj; omega)) j u hj).2
          rw [lt] at this
          rw [Nat.zero_add]
          exact this
        have ow := RW.own il_len (by omega)
        rw [insI_len _ _ _ hi] at ow
        refine ⟨_, rfl, ow, ((Fr.setCells (D := fun b => w.heap.size ≤ b) (.inr (Nat.le_refl _)) _ _ _ (Fr.setCells (D := fun b => w.heap.size ≤ b) (.inr (Nat.le_refl _)) _ _ _ (fr1.mono fun _ _ e => e.elim))).drew).mono fun b hb e => absurd e (Nat.not_le.2 hb), fun b hb => .inr ?_⟩
        have e : w.heap.size = b := by simpa [Value.ownBlock] using hb
        omega
end Go.Proofs.Ytlagmbieaicmgaa
