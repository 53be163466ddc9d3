/- Tables of locks: slices.Insert of one claim. -/
import Derived.Test.YtlagmbieaicmgaaLI
import Derived.Shelf.Spec.SlicesInsertGrow
namespace Go.Proofs.Ytlagmbieaicmgaa
open Go.RowKit Lk Go.Shelf

theorem paste (W : World) (g : Nat) (A B E : List Value) (hA : ∀ j u, A[j]? = some u → W.cell? ⟨g, j, none⟩ = some u) (hs : ∀ j, j < A.length + B.length + E.length → (W.cell? ⟨g, j, none⟩).isSome = true) :
    ∀ j u, (A ++ B ++ E)[j]? = some u → ((W.setCells g (A.length + B.length) E).setCells g A.length B).cell? ⟨g, j, none⟩ = some u ∧ ((W.setCells g A.length B).setCells g (A.length + B.length) E).cell? ⟨g, j, none⟩ = some u := by
  intro j u hj
  have hl := (List.getElem?_eq_some_iff.1 hj).1
  rw [List.length_append, List.length_append] at hl
  have i1 : ∀ (X : World) (o : Nat) (vs : List Value), (∀ j, j < A.length + B.length + E.length → (X.cell? ⟨g, j, none⟩).isSome = true) → o + vs.length ≤ A.length + B.length + E.length → ∀ t u, vs[t]? = some u → (X.setCells g o vs).cell? ⟨g, o + t, none⟩ = some u := by
    intro X o vs hX ho t u hu
    have ht := (List.getElem?_eq_some_iff.1 hu).1
    rw [World.cell?_setCells_in g vs o X (fun r hr => hX _ (by omega)) t ht]
    rw [List.getElem?_eq_getElem ht] at hu; exact hu
  have i2 : ∀ (X : World) (o : Nat) (vs : List Value), (∀ j, j < A.length + B.length + E.length → (X.cell? ⟨g, j, none⟩).isSome = true) → ∀ j, j < A.length + B.length + E.length → ((X.setCells g o vs).cell? ⟨g, j, none⟩).isSome = true := fun X o vs hX j hj => World.isSome_setCells g vs o X _ (hX j hj)
  have out : ∀ (X : World) (o : Nat) (vs : List Value) (p : Nat), (p < o ∨ o + vs.length ≤ p) → (X.setCells g o vs).cell? ⟨g, p, none⟩ = X.cell? ⟨g, p, none⟩ := fun X o vs p hp => World.cell?_setCells_out g vs o X _ (fun _ _ => hp)
  rcases Nat.lt_or_ge j A.length with h1 | h1
  · rw [List.append_assoc, List.getElem?_append_left h1] at hj
    constructor
    · rw [out _ _ _ _ (.inl h1), out _ _ _ _ (.inl (by omega))]; exact hA j u hj
    · rw [out _ _ _ _ (.inl (by omega)), out _ _ _ _ (.inl h1)]; exact hA j u hj
  · rcases Nat.lt_or_ge j (A.length + B.length) with h2 | h2
    · rw [List.getElem?_append_left (by rw [List.length_append]; omega), List.getElem?_append_right h1] at hj
      have e : A.length + (j - A.length) = j := by omega
      constructor
      · have := i1 (W.setCells g (A.length + B.length) E) A.length B (i2 _ _ _ hs) (by omega) _ u hj
        rw [e] at this; exact this
      · rw [out _ _ _ _ (.inl h2)]
        have := i1 W A.length B hs (by omega) _ u hj
        rw [e] at this; exact this
    · rw [List.getElem?_append_right (by rw [List.length_append]; omega), List.length_append] at hj
      have e : A.length + B.length + (j - (A.length + B.length)) = j := by omega
      constructor
      · rw [out _ _ _ _ (.inr h2)]
        have := i1 W (A.length + B.length) E hs (by omega) _ u hj
        rw [e] at this; exact this
      · have := i1 (W.setCells g A.length B) (A.length + B.length) E (i2 _ _ _ hs) (by omega) _ u hj
        rw [e] at this; exact this

theorem run_copy3 {P : Program} (w : World) (dT sT ty elem : TypeId) (b o dLen dCap : Nat) (a : Addr) (sLen sCap : Nat) (cs : List Value)
    (hu : P.underlying dT = some (.slice elem)) (hs : (P.info? elem).map (·.size) = some 3) (hn : cs.length = Nat.min sLen dLen * 3)
    (hsrc : ∀ j v, cs[j]? = some v → w.cell? (a.add j) = some v) (hc : ∀ j, j < cs.length → (w.cell? ⟨b, o + j, none⟩).isSome = true) (hf : ∀ j, j < cs.length → w.frozen? ⟨b, o + j, none⟩ = false) (h1 : ∀ v ∈ cs, v.oneCell' = true) :
    (Builtin.copy_ #[dT, sT] ty #[.slice (some ⟨b, o, none⟩) dLen dCap, .slice (some a) sLen sCap]).run P w = .ok (goInt (Nat.min sLen dLen)) (w.setCells b o cs) := by
  have hl := run_loadCells_list (P := P) w a cs hsrc
  have hst := run_storeCells_cells (P := P) b o cs 0 w (by simpa using hc) (by simpa using hf) h1
  cases hq : P.info? elem with
  | none => simp [hq] at hs
  | some i =>
    have hi : i.size = 3 := by simpa [hq] using hs
    simp [Builtin.copy_, run_underlying hu, Builtin.lenOf, Builtin.firstCells, sizeOf, typeInfo, hq, hi, ← hn, hl, hst]

theorem size3 : (Try.prog.info? 97).map (·.size) = some 3 := by kernel_rfl
theorem c_ones (xs : List C) : ∀ v ∈ fl cl xs, v.oneCell' = true := fl_ones el_claim.ones xs

/-- The list with one put in at a place. -/
def insL (ws : List C) (i : Nat) (c : C) : List C := ws.take i ++ c :: ws.drop i
theorem insL_fl (ws : List C) (i : Nat) (c : C) : fl cl (insL ws i c) = fl cl (ws.take i) ++ cl c ++ fl cl (ws.drop i) := by
  unfold insL
  rw [fl_append, show c :: ws.drop i = [c] ++ ws.drop i from rfl, fl_append, fl_one, List.append_assoc]
theorem insL_len (ws : List C) (i : Nat) (c : C) (h : i ≤ ws.length) : (insL ws i c).length = ws.length + 1 := by
  unfold insL; simp; omega

set_option maxHeartbeats 4000000 in
theorem insert_shift (g cap i vb : Nat) (ws : List C) (c : C) (w : World) (hr : Rw cl 3 97 w g cap ws) (hi : i < ws.length) (hroom : ws.length + 1 ≤ cap) (hn : ws.length ≤ 1000) (hvb : vb ≠ g) (hv : w.heap[vb]? = some (.cells #[.int .i64 c.tx, .int .i64 c.key, .bool c.wr] 97 (0, 0))) :
    Calls Try.prog 71 #[.slice (some ⟨g, 0, none⟩) ws.length cap, .int .i64 i, .slice (some ⟨vb, 0, none⟩) 1 1] w fun e w' =>
      e = .returned (.slice (some ⟨g, 0, none⟩) (ws.length + 1) cap) ∧ Rw cl 3 97 w' g cap (insL ws i c) ∧ Fr (fun b => b = g) w w' := by
  obtain ⟨n, hN⟩ : ∃ n, n = ws.length := ⟨_, rfl⟩
  have hmax := hr.max
  unfold maxLen at hmax
  have hsp : ∀ j, j < (n + 1) * 3 → (w.cell? ⟨g, j, none⟩).isSome = true := fun j hj => hr.sh.some j (by have := Nat.mul_le_mul_right 3 hroom; omega)
  have hfz : ∀ j, w.frozen? ⟨g, j, none⟩ = false := fun j => hr.sh.free j
  have hA := hr.at'.fl cl_len (by omega)
  simp only [Nat.zero_add] at hA
  have hvs : ∀ j v, (cl c)[j]? = some v → w.cell? ⟨vb, j, none⟩ = some v := fun j v h => by rw [cell_of_heap hv]; simpa [cl] using h
  have hfree : ∀ j, w.frozen? ⟨vb, j, none⟩ = false := fun j => Sh.free (n := 3) ⟨_, hv, rfl⟩ j
  have hsa : w.shape? vb = some (97, 3) := by unfold World.shape?; rw [hv]; rfl
  have hsb : w.shape? g = some (97, cap * 3) := by
    obtain ⟨cur, h1, h2⟩ := hr.sh
    unfold World.shape?; rw [h1, ← h2]
  have hov : ∀ lb cb, (callFunc 87 #[.slice (some ⟨vb, 0, none⟩) 1 1, .slice (some ⟨g, (i + 1) * 3, none⟩) lb cb]).run Try.prog w = .ok (.value (.bool false)) w := fun lb cb => by
    rw [run_callFunc_extern Try.func87 (by kernel_rfl) (by kernel_rfl) (by kernel_rfl) (e := Extern.SlicesOverlaps.overlaps #[63, 63] #[4]) (by kernel_rfl),
      Lib.run_overlaps_apart w 63 4 97 Try.underlying63 3 (fun w => by kernel_rfl) ⟨vb, 0, none⟩ ⟨g, (i + 1) * 3, none⟩ 1 1 lb cb hvb 97 97 3 (cap * 3) hsa hsb (by omega) (hfree _) (hfree _)]
    rfl
  have hdl : (fl cl (ws.drop i)).length = (n - i) * 3 := by rw [fl_length cl_len, List.length_drop, hN]
  have hdrop : ∀ j v, (fl cl (ws.drop i))[j]? = some v → w.cell? ⟨g, i * 3 + j, none⟩ = some v := fun j v hj => by
    refine hA (i * 3 + j) v ?_
    have e : fl cl ws = fl cl (ws.take i) ++ fl cl (ws.drop i) := by rw [← fl_append, List.take_append_drop]
    have l1 : (fl cl (ws.take i)).length = i * 3 := by rw [fl_length cl_len, List.length_take]; omega
    rw [e, List.getElem?_append_right (by omega), l1, Nat.add_sub_cancel_left]; exact hj
  have hcp1 : ∀ ty dc sc, (Builtin.copy_ #[63, 63] ty #[.slice (some ⟨g, (i + 1) * 3, none⟩) (n - i) dc, .slice (some ⟨g, i * 3, none⟩) (n + 1 - i) sc]).run Try.prog w.drew = .ok (goInt ((n - i : Nat) : Int)) (w.drew.setCells g ((i + 1) * 3) (fl cl (ws.drop i))) := fun ty dc sc => by
    have hmin : Nat.min (n + 1 - i) (n - i) = n - i := by show min _ _ = _; omega
    have := run_copy3 (P := Try.prog) w.drew 63 63 ty 97 g ((i + 1) * 3) (n - i) dc ⟨g, i * 3, none⟩ (n + 1 - i) sc (fl cl (ws.drop i)) Try.underlying63 size3 (by rw [hdl, hmin])
      (fun j v hj => by rw [Addr.add_lit]; exact hdrop j v hj) (fun j hj => hsp _ (by omega)) (fun j hj => hfz _) (c_ones _)
    rw [hmin] at this; exact this
  obtain ⟨W1, hW1⟩ : ∃ W1, W1 = w.drew.setCells g ((i + 1) * 3) (fl cl (ws.drop i)) := ⟨_, rfl⟩
  have hsp1 : ∀ j, j < (n + 1) * 3 → (W1.cell? ⟨g, j, none⟩).isSome = true := fun j hj => by rw [hW1]; exact World.isSome_setCells g _ _ _ _ (hsp j hj)
  have hcp2 : ∀ ty dc, (Builtin.copy_ #[63, 63] ty #[.slice (some ⟨g, i * 3, none⟩) (n + 1 - i) dc, .slice (some ⟨vb, 0, none⟩) 1 1]).run Try.prog W1 = .ok (goInt 1) (W1.setCells g (i * 3) (cl c)) := fun ty dc => by
    have hmin : Nat.min 1 (n + 1 - i) = 1 := by show min _ _ = _; omega
    have := run_copy3 (P := Try.prog) W1 63 63 ty 97 g (i * 3) (n + 1 - i) dc ⟨vb, 0, none⟩ 1 1 (cl c) Try.underlying63 size3 (by rw [hmin]; rfl)
      (fun j v hj => by
        rw [Addr.add_lit, hW1, World.cell?_setCells_out g _ _ _ _ (fun h _ => absurd h hvb), Nat.zero_add]
        exact hvs j v hj)
      (fun j hj => hsp1 _ (by have : j < 3 := hj; omega)) (fun j hj => by rw [hW1, World.frozen?_setCells]; exact hfz _) (el_claim.ones c)
    rw [hmin] at this; exact this
  have FIN : Hid (Rw cl 3 97 (W1.setCells g (i * 3) (cl c)) g cap (insL ws i c) ∧ Fr (fun b => b = g) w (W1.setCells g (i * 3) (cl c))) := by
    have l1 : (fl cl (ws.take i)).length = i * 3 := by rw [fl_length cl_len, List.length_take]; omega
    refine ⟨⟨?_, by rw [insL_len _ _ _ (by omega)]; exact hroom, hr.max, Ra.of_fl cl_len fun j u hj => ?_⟩, ?_⟩
    · rw [hW1]; exact Sh.setCells _ _ _ (Sh.setCells _ _ _ hr.sh)
    · rw [insL_fl] at hj
      have := (paste w.drew g (fl cl (ws.take i)) (cl c) (fl cl (ws.drop i)) (fun j u h => by have := (hr.at'.take i).fl cl_len (by omega) j u h; rw [Nat.zero_add] at this; exact this) (fun j hj => hsp j (by rw [l1, cl_len, hdl] at hj; omega)) j u hj).1
      rw [l1, cl_len, show i * 3 + 3 = (i + 1) * 3 by omega, ← hW1] at this
      rw [Nat.zero_add]; exact this
    · rw [hW1]; exact Fr.setCells (D := fun b => b = g) (.inl rfl) _ _ _ (Fr.setCells (D := fun b => b = g) (.inl rfl) _ _ _ (Fr.refl _ _).drew)
  rw [← hW1] at hcp1
  have hz2 : ¬ ((i : Int) = (n : Int)) := by omega
  have hw1 : IntKind.i64.wrap ((i : Int) + 1) = (i : Int) + 1 := by rw [IntKind.wrap_i64]; omega
  have hw2 : IntKind.i64.wrap ((n : Int) + 1) = (n : Int) + 1 := by rw [IntKind.wrap_i64]; omega
  have hb1 : (0 : Int) ≤ (i : Int) + 1 := by omega
  have hin : (i : Int) ≤ (n : Int) := by omega
  have htn : ((i : Int) + 1).toNat = i + 1 := by omega
  have htn2 : ((n : Int) + 1).toNat = n + 1 := by omega
  have hb2 : ¬ (cap = i + 1) := by omega
  have hb3 : (i : Int) ≤ (n : Int) + 1 := by omega
  have hb4 : ¬ (cap = i) := by omega
  have hb5 : ¬ ((cap : Int) < (n : Int) + 1) := by omega
  have hb6 : (n : Int) + 1 ≤ (cap : Int) := by omega
  rw [← hN] at hi hroom hn ⊢
  clear hdrop hdl hsp1 hsb hsa hfree hvs hA hfz hsp hr hv hW1 hN
  go_enter Try.func71, Try.ntmps71
  go_wp2_with (simp only [hov])
  go_region_law (refine step_copy_runI rfl (.tmp 73) (.tmp 76) 63 63 rfl (.slice (some ⟨g, (i + 1) * 3, none⟩) (n - i) (cap - (i + 1))) (.slice (some ⟨g, i * 3, none⟩) (n + 1 - i) (cap - i)) (by simp [Act.eval, Act.put]) (by simp [Act.eval, Act.put]) (hcp1 _ _ _) ?_)
  all_goals go_wp2_with (at_builtin; refine wpList_copy_runI _ rfl _ _ 63 63 rfl _ _ rfl rfl (hcp2 _ _) ?_)
  all_goals go_ret
  all_goals exact ⟨rfl, FIN.out⟩
end Go.Proofs.Ytlagmbieaicmgaa
