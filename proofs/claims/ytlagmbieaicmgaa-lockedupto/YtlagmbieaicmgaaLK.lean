/- Tables of locks: slices.Insert of one claim, where the row grows; at the end; await. -/
import Derived.Test.YtlagmbieaicmgaaLJ
namespace Go.Proofs.Ytlagmbieaicmgaa
open Go.RowKit Lk Go.Shelf

theorem claim_info : ∃ i0, Try.prog.info? 97 = some i0 ∧ i0.zero = some (.agg #[.int .i64 0, .int .i64 0, .bool false]) ∧ i0.size = 3 ∧ i0.bytes = 24 := info_parts (by kernel_rfl)

set_option maxHeartbeats 4000000 in
theorem insert_grow (g cap i vb : Nat) (ws : List C) (c : C) (w : World) (hr : Rw cl 3 97 w g cap ws) (hi : i < ws.length) (hroom : cap < ws.length + 1) (hn : ws.length ≤ 1000) (hv : w.heap[vb]? = some (.cells #[.int .i64 c.tx, .int .i64 c.key, .bool c.wr] 97 (0, 0))) :
    Calls Try.prog 71 #[.slice (some ⟨g, 0, none⟩) ws.length cap, .int .i64 i, .slice (some ⟨vb, 0, none⟩) 1 1] w fun e w' =>
      ∃ G, e = .returned (.slice (some ⟨w.heap.size, 0, none⟩) (ws.length + 1) G) ∧ Rw cl 3 97 w' w.heap.size G (insL ws i c) ∧ Fr (fun _ => False) w w' := by
  obtain ⟨n, hN⟩ : ∃ n, n = ws.length := ⟨_, rfl⟩
  have hmax := hr.max
  unfold maxLen at hmax
  have hgw := hr.sh.lt
  have hvw : vb < w.heap.size := (Array.getElem?_eq_some_iff.1 hv).1
  have hA := hr.at'.fl cl_len (by omega)
  simp only [Nat.zero_add] at hA
  have hvs : ∀ j v, (cl c)[j]? = some v → w.cell? ⟨vb, j, none⟩ = some v := fun j v h => by rw [cell_of_heap hv]; simpa [cl] using h
  have l1 : (fl cl (ws.take i)).length = i * 3 := by rw [fl_length cl_len, List.length_take]; omega
  have hdl : (fl cl (ws.drop i)).length = (n - i) * 3 := by rw [fl_length cl_len, List.length_drop, hN]
  have htake : ∀ j v, (fl cl (ws.take i))[j]? = some v → w.cell? ⟨g, j, none⟩ = some v := fun j v h => by have := (hr.at'.take i).fl cl_len (by omega) j v h; rw [Nat.zero_add] at this; exact this
  have hdrop : ∀ j v, (fl cl (ws.drop i))[j]? = some v → w.cell? ⟨g, i * 3 + j, none⟩ = some v := fun j v hj => by
    refine hA (i * 3 + j) v ?_
    have e : fl cl ws = fl cl (ws.take i) ++ fl cl (ws.drop i) := by rw [← fl_append, List.take_append_drop]
    rw [e, List.getElem?_append_right (by omega), l1, Nat.add_sub_cancel_left]; exact hj
  obtain ⟨i0, hi0, hz0, hzs, hzb⟩ := claim_info
  have hold : (Builtin.firstCells i0.size i (.slice (some ⟨g, 0, none⟩) i cap)).run Try.prog w.drew = .ok (fl cl (ws.take i)).toArray w.drew := by
    rw [hzs]
    exact run_firstCells_some w.drew 3 i ⟨g, 0, none⟩ i cap (fl cl (ws.take i)) l1 (fun j v hj => by rw [Addr.add_lit, Nat.zero_add]; exact htake j v hj)
  have hik : i + (n + 1 - i) = n + 1 := by omega
  obtain ⟨G, hG⟩ : ∃ G, G = grownCap w (n + 1) cap 97 := ⟨_, rfl⟩
  obtain ⟨ROW, hROW⟩ : ∃ ROW : Array Value, ROW = (fl cl (ws.take i)).toArray ++ Builtin.zeroCells (Value.agg #[.int .i64 0, .int .i64 0, .bool false]).cells (n + 1 - i) ++ Builtin.zeroCells (Value.agg #[.int .i64 0, .int .i64 0, .bool false]).cells (G - (n + 1)) := ⟨_, rfl⟩
  have hrz : ∀ ty, (Builtin.append_ #[63, 3] ty #[.slice (some ⟨g, 0, none⟩) i cap, .int .i64 ((n : Int) + 1 - (i : Int))]).run Try.prog w =
      .ok (.slice (some ⟨w.heap.size, 0, none⟩) (n + 1) G) (w.drew.alloc (.cells ROW 97)) := fun ty => by
    have h := Lib.run_append_grow_zeros w 63 3 ty 97 i0 _ .i64 .i64 Try.underlying63 Try.underlying3 hi0 hz0 (some ⟨g, 0, none⟩) i cap (fl cl (ws.take i)) hold (n + 1 - i) (by omega) (by omega) (by omega) (by omega) (by rw [hzb]; omega) (by rw [hzb, hik]; exact growslice_fits (by omega) (by omega))
    rw [hik, ← hG, ← hROW] at h
    rw [show (n : Int) + 1 - (i : Int) = ((n + 1 - i : Nat) : Int) by omega]
    exact h
  have hGn : n + 1 ≤ G := by rw [hG]; exact grownCap_ge w _ _ _
  have hGm : G ≤ maxLen := by rw [hG]; exact grownCap_le_maxLen w (n + 1) cap 97 (by unfold maxLen; omega)
  have hRs : ROW.size = G * 3 := by
    rw [hROW]
    have z3 : (Value.agg #[.int .i64 0, .int .i64 0, .bool false]).cells.size = 3 := rfl
    simp only [Array.size_append, List.size_toArray, l1, Builtin.zeroCells, Array.size_map, Array.size_range, z3]
    omega
  have hR1 : ∀ j v, (fl cl (ws.take i))[j]? = some v → ROW[j]? = some v := fun j v hj => by
    have hl := (List.getElem?_eq_some_iff.1 hj).1
    rw [hROW, Array.getElem?_append_left (by simp only [Array.size_append, List.size_toArray]; omega), Array.getElem?_append_left (by simpa using hl)]
    simpa using hj
  obtain ⟨W1, hW1⟩ : ∃ W1, W1 = w.drew.alloc (.cells ROW 97) := ⟨_, rfl⟩
  have hh1 : W1.heap[w.heap.size]? = some (.cells ROW 97 (0, 0)) := by rw [hW1]; exact heap_new w.drew _
  have sh1 : Sh W1 w.heap.size 97 (G * 3) := ⟨_, hh1, hRs⟩
  have fr1 : Fr (fun _ => False) w W1 := by rw [hW1]; exact (Fr.refl (fun _ => False) w).drew.alloc _
  have hOb : ∀ j v, w.cell? ⟨g, j, none⟩ = some v → W1.cell? ⟨g, j, none⟩ = some v := fun j v h => fr1.cell h id
  have hOv : ∀ j v, w.cell? ⟨vb, j, none⟩ = some v → W1.cell? ⟨vb, j, none⟩ = some v := fun j v h => fr1.cell h id
  have hne : ∀ b, b < w.heap.size → b ≠ w.heap.size := fun b h => Nat.ne_of_lt h
  have hcpA : ∀ (W : World), (∀ x, W.cell? x = W1.cell? x) → (∀ x, W.frozen? x = W1.frozen? x) → ∀ ty dc, (Builtin.copy_ #[63, 63] ty #[.slice (some ⟨w.heap.size, i * 3, none⟩) (n + 1 - i) dc, .slice (some ⟨vb, 0, none⟩) 1 1]).run Try.prog W = .ok (goInt 1) (W.setCells w.heap.size (i * 3) (cl c)) := fun W hWc hWf ty dc => by
    have hmin : Nat.min 1 (n + 1 - i) = 1 := by show min _ _ = _; omega
    have := run_copy3 (P := Try.prog) W 63 63 ty 97 w.heap.size (i * 3) (n + 1 - i) dc ⟨vb, 0, none⟩ 1 1 (cl c) Try.underlying63 size3 (by rw [hmin]; rfl)
      (fun j v hj => by rw [Addr.add_lit, hWc, Nat.zero_add]; exact hOv _ _ (hvs j v hj))
      (fun j hj => by rw [hWc]; exact sh1.some _ (by have : j < 3 := hj; omega)) (fun j hj => by rw [hWf]; exact sh1.free _) (el_claim.ones c)
    rw [hmin] at this; exact this
  have hcpB : ∀ (W : World), (∀ x, W.cell? x = (W1.setCells w.heap.size (i * 3) (cl c)).cell? x) → (∀ x, W.frozen? x = (W1.setCells w.heap.size (i * 3) (cl c)).frozen? x) → ∀ ty dc sc, (Builtin.copy_ #[63, 63] ty #[.slice (some ⟨w.heap.size, (i + 1) * 3, none⟩) (n - i) dc, .slice (some ⟨g, i * 3, none⟩) (n - i) sc]).run Try.prog W = .ok (goInt ((n - i : Nat) : Int)) (W.setCells w.heap.size ((i + 1) * 3) (fl cl (ws.drop i))) := fun W hWc hWf ty dc sc => by
    have hmin : Nat.min (n - i) (n - i) = n - i := by show min _ _ = _; omega
    have := run_copy3 (P := Try.prog) W 63 63 ty 97 w.heap.size ((i + 1) * 3) (n - i) dc ⟨g, i * 3, none⟩ (n - i) sc (fl cl (ws.drop i)) Try.underlying63 size3 (by rw [hdl, hmin])
      (fun j v hj => by
        rw [Addr.add_lit, hWc, World.cell?_setCells_out _ _ _ _ _ (fun h _ => absurd h (hne g hgw))]
        exact hOb _ _ (hdrop j v hj))
      (fun j hj => by rw [hWc]; exact World.isSome_setCells _ _ _ _ _ (sh1.some _ (by rw [hdl] at hj; omega)))
      (fun j hj => by rw [hWf, World.frozen?_setCells]; exact sh1.free _) (c_ones _)
    rw [hmin] at this; exact this
  have FIN : Hid (∀ W : World, W.heap = ((W1.setCells w.heap.size (i * 3) (cl c)).setCells w.heap.size ((i + 1) * 3) (fl cl (ws.drop i))).heap → W.os = w.os → W.tape = w.tape → W.output = w.output → Rw cl 3 97 W w.heap.size G (insL ws i c) ∧ Fr (fun _ => False) w W) := by
    intro W e1 e2 e3 e4
    have eb : ∀ b : Nat, W.heap[b]? = ((W1.setCells w.heap.size (i * 3) (cl c)).setCells w.heap.size ((i + 1) * 3) (fl cl (ws.drop i))).heap[b]? := fun b => by rw [e1]
    have frX : Fr (fun b => w.heap.size ≤ b) w ((W1.setCells w.heap.size (i * 3) (cl c)).setCells w.heap.size ((i + 1) * 3) (fl cl (ws.drop i))) := Fr.setCells (D := fun b => w.heap.size ≤ b) (.inr (Nat.le_refl _)) _ _ _ (Fr.setCells (D := fun b => w.heap.size ≤ b) (.inr (Nat.le_refl _)) _ _ _ (fr1.mono fun _ _ e => e.elim))
    refine ⟨⟨Sh.block (Sh.setCells _ _ _ (Sh.setCells _ _ _ sh1)) (eb _), by rw [insL_len _ _ _ (by omega), ← hN]; exact hGn, hGm, Ra.of_fl cl_len fun j u hj => ?_⟩, ⟨e2, e3, e4, ?_, fun b hb _ => ?_⟩⟩
    · rw [insL_fl] at hj
      have := (paste W1 w.heap.size (fl cl (ws.take i)) (cl c) (fl cl (ws.drop i)) (fun j u h => by rw [cell_of_heap hh1]; exact hR1 j u h) (fun j hj => sh1.some j (by rw [l1, cl_len, hdl] at hj; omega)) j u hj).2
      rw [l1, cl_len, show i * 3 + 3 = (i + 1) * 3 by omega] at this
      rw [Nat.zero_add]; exact (World.cell?_of_block (a := ⟨w.heap.size, j, none⟩) (eb _)).trans this
    · rw [e1]; exact frX.size
    · rw [eb b]; exact frX.block b hb (Nat.not_le.2 hb)
  have hz2 : ¬ ((i : Int) = (n : Int)) := by omega
  have hz3 : (cap : Int) < (n : Int) + 1 := by omega
  have hw1 : IntKind.i64.wrap ((i : Int) + 1) = (i : Int) + 1 := by rw [IntKind.wrap_i64]; omega
  have hw2 : IntKind.i64.wrap ((n : Int) + 1) = (n : Int) + 1 := by rw [IntKind.wrap_i64]; omega
  have hb1 : (0 : Int) ≤ (i : Int) + 1 := by omega
  have hin : (i : Int) ≤ (n : Int) := by omega
  have htn : ((i : Int) + 1).toNat = i + 1 := by omega
  have hb2 : ¬ (G = i + 1) := by omega
  have hb3 : (i : Int) ≤ (n : Int) + 1 := by omega
  have hb4 : ¬ (G = i) := by omega
  have hic : i ≤ cap := by have := hr.len; omega
  have hci : ¬ (cap = i) := by have := hr.len; omega
  have hG63 : G ≤ 9223372036854775807 := by unfold maxLen at hGm; omega
  rw [← hN] at hi hroom hn ⊢
  subst hW1
  have hE1 : ∀ x, ((w.alloc (.cells ROW 97)).drew).cell? x = (w.drew.alloc (.cells ROW 97)).cell? x := fun x => rfl
  have hE2 : ∀ x, ((w.alloc (.cells ROW 97)).drew).frozen? x = (w.drew.alloc (.cells ROW 97)).frozen? x := fun x => rfl
  have hF1 : ∀ x, (((w.alloc (.cells ROW 97)).drew.setCells w.heap.size (i * 3) (cl c)).drew).cell? x = ((w.drew.alloc (.cells ROW 97)).setCells w.heap.size (i * 3) (cl c)).cell? x := fun x => rfl
  have hF2 : ∀ x, (((w.alloc (.cells ROW 97)).drew.setCells w.heap.size (i * 3) (cl c)).drew).frozen? x = ((w.drew.alloc (.cells ROW 97)).setCells w.heap.size (i * 3) (cl c)).frozen? x := fun x => rfl
  clear hdrop hdl hvs hA hr hv hN hold hik hROW hG hRs hR1 hh1 sh1 fr1 hOb hOv hne htake l1 hzb hzs hz0 hi0
  go_enter Try.func71, Try.ntmps71
  go_wp2_with (first
    | (at_builtin; refine Lib.wpList_append_run _ rfl _ _ _ _ rfl _ _ rfl rfl _ _ (hrz _) ?_)
    | (at_builtin; refine wpList_copy_runI _ rfl _ _ 63 63 rfl _ _ rfl rfl (hcpA _ hE1 hE2 _ _) ?_))
  go_region_law (refine step_copy_runI rfl (.tmp 50) (.tmp 53) 63 63 rfl (.slice (some ⟨w.heap.size, (i + 1) * 3, none⟩) (n - i) (G - (i + 1))) (.slice (some ⟨g, i * 3, none⟩) (n - i) (cap - i)) (by simp [Act.eval, Act.put]) (by simp [Act.eval, Act.put]) (hcpB _ hF1 hF2 3 (G - (i + 1)) (cap - i)) ?_)
  all_goals go_wp2
  all_goals go_ret
  all_goals
    have FX := Fr.setCells (D := fun b => w.heap.size ≤ b) (.inr (Nat.le_refl _)) (fl cl (ws.drop i)) ((i + 1) * 3) _ (Fr.setCells (D := fun b => w.heap.size ≤ b) (u := w) (b := w.heap.size) (.inr (Nat.le_refl _)) (cl c) (i * 3) _ ((Fr.refl (fun b => w.heap.size ≤ b) w).alloc (.cells ROW 97)).drew).drew
    exact ⟨G, rfl, FIN.out _ (by rw [← drew_setCells]; rfl) FX.os FX.tape FX.output⟩

theorem ownB (ao : Option Addr) (n c : Nat) : (Value.slice ao n c).ownBlock = ao.map fun a => a.block := by cases ao <;> rfl

set_option maxHeartbeats 1000000 in
theorem insert_end (vb : Nat) (ws : List C) (v : Value) (c : C) (w : World) (h : Own cl 3 97 w v ws) (hn : ws.length ≤ 1000) (hv : w.heap[vb]? = some (.cells #[.int .i64 c.tx, .int .i64 c.key, .bool c.wr] 97 (0, 0))) :
    Calls Try.prog 71 #[v, .int .i64 ws.length, .slice (some ⟨vb, 0, none⟩) 1 1] w fun e w' =>
      ∃ v', e = .returned v' ∧ Own cl 3 97 w' v' (ws ++ [c]) ∧ Fr (fun b => v.ownBlock = some b) w w' ∧ ∀ g, v'.ownBlock = some g → v.ownBlock = some g ∨ w.heap.size ≤ g := by
  obtain ⟨ao, cap, rfl, -, hlc, hm⟩ := h.rd cl_len
  unfold maxLen at hm
  obtain ⟨n, hN⟩ : ∃ n, n = ws.length := ⟨_, rfl⟩
  have H : Hid (Own cl 3 97 w (.slice ao ws.length cap) ws) := h
  have HN : Hid (n = ws.length) := hN
  rw [← hN] at H hn hlc ⊢
  have hnn : n - n = 0 := Nat.sub_self n
  have hnc : (n : Int) ≤ (cap : Int) := by omega
  clear h hN
  go_enter Try.func71, Try.ntmps71
  go_wp2_with (at_builtin; refine app_list el_claim _ rfl _ _ rfl (.slice ao n cap) ws rfl H.out vb c #[.int .i64 c.tx, .int .i64 c.key, .bool c.wr] 97 rfl hv rfl (by rw [← HN.out]; omega) ?_)
  all_goals
    intro g cap' w' ho hf hat hgl
    go_wp2
    go_ret
    rw [ownB] at hat ⊢
    simp only [ownB] at hf
    refine ⟨_, rfl, ho, hf, fun b hb => ?_⟩
    have e : g = b := by simpa [Value.ownBlock] using hb
    subst e
    exact hat

/-- One claim put in at its place. -/
theorem insert_any (i vb : Nat) (ws : List C) (v : Value) (c : C) (w : World) (h : Own cl 3 97 w v ws) (hi : i ≤ ws.length) (hn : ws.length ≤ 1000) (hvb : v.ownBlock ≠ some vb) (hv : w.heap[vb]? = some (.cells #[.int .i64 c.tx, .int .i64 c.key, .bool c.wr] 97 (0, 0))) :
    Calls Try.prog 71 #[v, .int .i64 i, .slice (some ⟨vb, 0, none⟩) 1 1] w fun e w' =>
      ∃ v', e = .returned v' ∧ Own cl 3 97 w' v' (insL ws i c) ∧ Fr (fun b => v.ownBlock = some b) w w' ∧ ∀ g, v'.ownBlock = some g → v.ownBlock = some g ∨ w.heap.size ≤ g := by
  by_cases he : i = ws.length
  · subst he
    refine (insert_end vb ws v c w h hn hv).mono ?_
    rintro e w' ⟨v', rfl, h1, h2, h3⟩
    exact ⟨v', rfl, by unfold insL; simpa using h1, h2, h3⟩
  · rcases h.cases cl_len with ⟨_, rfl⟩ | ⟨g, cap, rfl, hr⟩
    · simp at hi; simp [hi] at he
    · by_cases hroom : ws.length + 1 ≤ cap
      · refine (insert_shift g cap i vb ws c w hr (by omega) hroom hn (fun e => hvb (by rw [e]; rfl)) hv).mono ?_
        rintro e w' ⟨rfl, h1, h2⟩
        have := h1.own cl_len (by omega)
        rw [insL_len _ _ _ hi] at this
        exact ⟨_, rfl, this, h2.mono fun b _ e => by rw [e]; rfl, fun b hb => .inl hb⟩
      · refine (insert_grow g cap i vb ws c w hr (by omega) (by omega) hn hv).mono ?_
        rintro e w' ⟨G, rfl, h1, h2⟩
        have := h1.own cl_len (by omega)
        rw [insL_len _ _ _ hi] at this
        refine ⟨_, rfl, this, h2.mono fun b _ e => e.elim, fun b hb => .inr ?_⟩
        have e : w.heap.size = b := by simpa [Value.ownBlock] using hb
        omega
end Go.Proofs.Ytlagmbieaicmgaa
