/- The statement's own helpers: roomy. -/
import Derived.Test.YtlagmbieaicmgaaDoorRefN
import Derived.Laws.CopyOwn
namespace Go.Proofs.YtlagmbieaicmgaaDoor
open Go.RowKit Pact

theorem run_copy3 {P : Program} (w : World) (dT sT ty elem : TypeId) (b o dLen dCap : Nat) (a : Addr) (sLen sCap : Nat) (cs : List Value)
    (hu : P.underlying dT = some (.slice elem)) (hs : (P.info? elem).map (·.size) = some 3) (hn : cs.length = Nat.min sLen dLen * 3)
    (hsrc : ∀ j v, cs[j]? = some v → w.cell? (a.add j) = some v) (hc : ∀ j, j < cs.length → (w.cell? ⟨b, o + j, none⟩).isSome = true) (hf : ∀ j, j < cs.length → w.frozen? ⟨b, o + j, none⟩ = false) (h1 : ∀ v ∈ cs, v.oneCell' = true) :
    (Builtin.copy_ #[dT, sT] ty #[.slice (some ⟨b, o, none⟩) dLen dCap, .slice (some a) sLen sCap]).run P w = .ok (goInt (Nat.min sLen dLen)) (w.setCells b o cs) := by
  have hl := run_loadCells_list (P := P) w a cs hsrc
  have hst := run_storeCells_cells (P := P) b o cs 0 w (by simpa using hc) (by simpa using hf) h1
  cases hq : P.info? elem with
  | none => simp [hq] at hs
  | some i =>
    have hi : i.size = 3 := by simpa [hq] using hs
    simp [Builtin.copy_, run_underlying hu, Builtin.lenOf, Builtin.firstCells, sizeOf, typeInfo, hq, hi, ← hn, hl, hst]

theorem run_copy3_none {P : Program} (w : World) (dT sT ty elem : TypeId) (d a : Option Addr) (dLen dCap sLen sCap : Nat) (hu : P.underlying dT = some (.slice elem)) (hs : (P.info? elem).map (·.size) = some 3) (hn : Nat.min sLen dLen = 0) :
    (Builtin.copy_ #[dT, sT] ty #[.slice d dLen dCap, .slice a sLen sCap]).run P w = .ok (goInt 0) w := by
  cases hq : P.info? elem with
  | none => simp [hq] at hs
  | some i =>
    have hl : ∀ (x : Addr), (loadCells x 0).run P w = .ok #[] w := fun x => by simpa using run_loadCells_list (P := P) w x [] (by simp)
    cases d <;> cases a <;> simp [Builtin.copy_, run_underlying hu, Builtin.lenOf, Builtin.firstCells, sizeOf, typeInfo, hq, hn, storeCells, hl]

theorem ecs_length : ∀ es : List Ent, (ecs es).length = es.length * 3
  | [] => rfl
  | e :: es => by
    have e1 : ecs (e :: es) = .int .i64 e.slot :: .int .i64 e.ballot :: .string e.value :: ecs es := rfl
    rw [e1]
    simp only [List.length_cons, ecs_length es]
    omega

/-- The row behind a roomy list: its entries, then eight places with the caller's own number. -/
def Roomy (w : World) (g : Nat) (es : List Ent) : Prop := EntCells w g 0 es ∧ ∀ i, i < 8 → w.cell? ⟨g, (es.length + i) * 3, none⟩ = some (.int .i64 (-77))

theorem Roomy.block {w w' : World} {g : Nat} {es : List Ent} (h : Roomy w g es) (hb : w'.heap[g]? = w.heap[g]?) : Roomy w' g es := by
  have e : ∀ p, w'.cell? ⟨g, p, none⟩ = w.cell? ⟨g, p, none⟩ := fun p => World.cell?_of_block (a := ⟨g, p, none⟩) hb
  refine ⟨fun i hi => ?_, fun i hi => (e _).trans (h.2 i hi)⟩
  obtain ⟨q0, q1, q2⟩ := h.1 i hi
  exact ⟨(e _).trans q0, (e _).trans q1, (e _).trans q2⟩

theorem copy_run (w : World) (ty : TypeId) (es : List Ent) (g cap cap' : Nat) (ao : Option Addr) (he : EntsIn w ao es) (hsp : Sp w g (es.length + 8)) :
    ∃ w', (Builtin.copy_ #[22, 22] ty #[.slice (some ⟨g, 0, none⟩) (es.length + 8) cap, .slice ao es.length cap']).run Tryd.prog w = .ok (goInt es.length) w' ∧ EntCells w' g 0 es ∧ Sp w' g (es.length + 8) ∧ (∀ b, b ≠ g → b < w.heap.size → w'.heap[b]? = w.heap[b]?) ∧ Below g w w' := by
  have hz : (Tryd.prog.info? 53).map (·.size) = some 3 := by kernel_rfl
  have hmin : Nat.min es.length (es.length + 8) = es.length := Nat.min_eq_left (by omega)
  by_cases h0 : es = []
  · subst h0
    have hrun := run_copy3_none (P := Tryd.prog) w 22 22 ty 53 (some ⟨g, 0, none⟩) ao 8 cap 0 cap' Tryd.underlying22 hz rfl
    exact ⟨w, hrun, fun i hi => by simp at hi, hsp, fun _ _ _ => rfl, Below.refl _ _⟩
  · obtain ⟨b, off, rfl, hc⟩ := he.resolve_left h0
    have hl := ecs_length es
    have hget : ∀ i r, i < es.length → r < 3 → ∃ v, (ecs es)[i * 3 + r]? = some v ∧ v.oneCell' = true ∧ w.cell? ⟨b, off + (i * 3 + r), none⟩ = some v := by
      intro i r hi hr
      obtain ⟨p0, p1, p2⟩ := ecs_at es i hi
      obtain ⟨q0, q1, q2⟩ := hc i hi
      rcases (show r = 0 ∨ r = 1 ∨ r = 2 by omega) with rfl | rfl | rfl
      · exact ⟨_, p0, rfl, q0⟩
      · exact ⟨_, p1, rfl, q1⟩
      · exact ⟨_, p2, rfl, q2⟩
    have hget' : ∀ j v, (ecs es)[j]? = some v → v.oneCell' = true ∧ w.cell? ⟨b, off + j, none⟩ = some v := by
      intro j v hj
      have hjl := (List.getElem?_eq_some_iff.1 hj).1
      obtain ⟨v', h1, h2, h3⟩ := hget (j / 3) (j % 3) (by omega) (Nat.mod_lt _ (by omega))
      rw [show j / 3 * 3 + j % 3 = j by omega] at h1 h3
      rw [h1] at hj
      injection hj with hj
      rw [← hj]
      exact ⟨h2, h3⟩
    have hone : ∀ v ∈ ecs es, v.oneCell' = true := by
      intro v hv
      obtain ⟨j, hj⟩ := List.getElem?_of_mem hv
      exact (hget' j v hj).1
    have hsome : ∀ j, j < (ecs es).length → (w.cell? ⟨g, 0 + j, none⟩).isSome = true := fun j hj => by rw [Nat.zero_add]; exact (hsp j (by omega)).1
    have hrun := run_copy3 (P := Tryd.prog) w 22 22 ty 53 g 0 (es.length + 8) cap ⟨b, off, none⟩ es.length cap' (ecs es) Tryd.underlying22 hz (by rw [hmin]; exact hl) (fun j v hj => by
      have h9 := (hget' j v hj).2
      by_cases h0 : j = 0
      · subst h0; simpa [Addr.add] using h9
      · simpa [Addr.add, h0] using h9) hsome (fun j hj => by rw [Nat.zero_add]; exact (hsp j (by omega)).2) hone
    rw [hmin] at hrun
    refine ⟨_, hrun, ?_, ?_, fun k hk hkw => World.heap_setCells_other w g _ _ hkw hk, Lib.below_setCells_w (Nat.le_refl g) _ _ _⟩
    · intro i hi
      obtain ⟨p0, p1, p2⟩ := ecs_at es i hi
      have hin : ∀ r v, r < 3 → (ecs es)[i * 3 + r]? = some v → (w.setCells g 0 (ecs es)).cell? ⟨g, 0 + (i * 3 + r), none⟩ = some v := by
        intro r v hr hv
        have hlt := (List.getElem?_eq_some_iff.1 hv).1
        rw [World.cell?_setCells_in g (ecs es) 0 w hsome (i * 3 + r) hlt]
        rw [List.getElem?_eq_getElem hlt] at hv
        exact hv
      exact ⟨hin 0 _ (by omega) p0, hin 1 _ (by omega) p1, hin 2 _ (by omega) p2⟩
    · intro j hj
      exact ⟨World.isSome_setCells g _ _ w _ (hsp j hj).1, by rw [World.frozen?_setCells]; exact (hsp j hj).2⟩

theorem set_out (w : World) (g o p : Nat) (x : Value) (h : p ≠ o) : (w.setCell ⟨g, o, none⟩ x).cell? ⟨g, p, none⟩ = w.cell? ⟨g, p, none⟩ :=
  World.cell?_setCells_out g [x] o w ⟨g, p, none⟩ (fun _ _ => by show p < o ∨ o + 1 ≤ p; omega)
theorem set_in (w : World) (g o : Nat) (x : Value) (h : (w.cell? ⟨g, o, none⟩).isSome = true) : (w.setCell ⟨g, o, none⟩ x).cell? ⟨g, o, none⟩ = some x :=
  World.cell?_setCells_in g [x] o w (fun j hj => by simp at hj; subst hj; exact h) 0 (by simp)

theorem sp_of_owns {w : World} {base g n : Nat} {xs : List Value} (h : w.ownsRow base 53 3 (.slice (some ⟨g, 0, none⟩) n n) n xs) : Sp w g n := by
  rcases h.2 with ⟨h1, _⟩ | ⟨g', cp, cur, hv, _, hh, _, _, hcs, _⟩
  · cases h1
  · injection hv with h1 h2 h3
    injection h1 with h1
    injection h1 with h1
    subst h1 h3
    intro j hj
    refine ⟨?_, free_of_heap hh j⟩
    rw [cell_of_heap hh]
    simp
    omega

set_option maxHeartbeats 1000000 in
theorem roomy_any (m : Msg) (ao : Option Addr) (cap : Nat) (w : World) (hn : m.ents.length ≤ 1048576) (he : EntsIn w ao m.ents) :
    Calls Tryd.prog 14 #[msgV m ao cap] w fun e w' => ∃ g, e = .returned (msgV m (some ⟨g, 0, none⟩) (m.ents.length + 8)) ∧ Roomy w' g m.ents ∧ Below w.heap.size w w' := by
  obtain ⟨i0, hinf, hz0, hz1, hz2⟩ := info_parts Tryd.info_ent
  unfold msgV
  go_enter Tryd.func14, Tryd.ntmps14
  go_wp2_with (first | (at_make; refine wpList_make_full _ rfl _ _ 22 rfl (w.heap.size + 1 + 1) 53 i0 (.agg #[.int .i64 0, .int .i64 0, .string ⟨#[]⟩]) 3 Tryd.underlying22 hinf hz0 hz1 .i64 .i64 _ _ (m.ents.length + 8) rfl rfl (by omega) (by omega) (by rw [hz2]; omega) (by unfold maxLen; omega) (by simp) ?_) | fail)
  intro w1 o1 hg1
  have b1 := below_of_grown hg1
  have x1 : w1.heap[w.heap.size]? = some (boxO 24 m ao cap) := (b1.block _ (by simp; omega)).trans (heap2 _ _ _)
  have z1 : w1.heap[w.heap.size + 1]? = some zeroMsg := (b1.block _ (by simp)).trans (heap2b _ _ _)
  have B1 : Below w.heap.size w w1 := (below2 _ _ _).trans (b1.mono (by simp; omega))
  have sp1 := sp_of_owns o1
  have he1 := he.below B1
  clear o1 hg1 b1
  obtain ⟨c0, c1, c2, c3, c4, c5, c6, c7⟩ := box_cells x1
  obtain ⟨w2, hrun, ec2, sp2, F2, B2⟩ := copy_run w1 3 m.ents (w.heap.size + 1 + 1) (m.ents.length + 8) cap ao he1 sp1
  have hx1 := (Array.getElem?_eq_some_iff.1 x1).1
  have hz1 := (Array.getElem?_eq_some_iff.1 z1).1
  have x2 : w2.heap[w.heap.size]? = some (boxO 24 m ao cap) := (F2 _ (by omega) hx1).trans x1
  have z2 : w2.heap[w.heap.size + 1]? = some zeroMsg := (F2 _ (by omega) hz1).trans z1
  have B3 : Below w.heap.size w w2 := B1.trans (B2.mono (by omega))
  clear x1 z1 B1 sp1 he1 F2 B2 hx1 hz1
  go_wp2_with fail
  clear hrun c0 c1 c2 c3 c4 c5 c6 c7
  go_loopw [5] (fun i wr => ∃ k : Nat, k ≤ 8 ∧ i = .int .i64 ((m.ents.length + k : Nat) : Int) ∧ EntCells wr (w.heap.size + 1 + 1) 0 m.ents ∧ Sp wr (w.heap.size + 1 + 1) (m.ents.length + 8) ∧ (∀ q, q < k → wr.cell? ⟨w.heap.size + 1 + 1, (m.ents.length + q) * 3, none⟩ = some (.int .i64 (-77))) ∧ wr.heap[w.heap.size]? = some (boxO 24 m ao cap) ∧ wr.heap[w.heap.size + 1]? = some zeroMsg ∧ Below w.heap.size w wr) (fun i _ => m.ents.length + 8 - (intOf i).toNat)
  case atStart => exact ⟨0, Nat.zero_le _, rfl, ec2, sp2, fun q hq => by omega, x2, z2, B3⟩
  case round =>
    clear ec2 sp2 x2 z2 B3
    obtain ⟨k, hk, rfl, ec, sp, ks, x, z, Bl⟩ := hrel
    by_cases hlt : k < 8
    · obtain ⟨s0, f0⟩ := sp ((m.ents.length + k) * 3) (by omega)
      obtain ⟨u0, v0⟩ := Option.isSome_iff_exists.1 s0
      go_wp2_with fail
      refine ⟨⟨k + 1, by omega, val_int (by omega), fun i hi => ?_, sp.set _ _ _, fun q hq => ?_, set_keep x (by omega), set_keep z (by omega), Bl.setCell (show w.heap.size ≤ w.heap.size + 1 + 1 by omega) _⟩, ?_⟩
      · obtain ⟨q0, q1, q2⟩ := ec i hi
        exact ⟨(set_out _ _ _ _ _ (by omega)).trans q0, (set_out _ _ _ _ _ (by omega)).trans q1, (set_out _ _ _ _ _ (by omega)).trans q2⟩
      · by_cases hqk : q = k
        · subst hqk
          exact set_in _ _ _ _ s0
        · exact (set_out _ _ _ _ _ (by omega)).trans (ks q (by omega))
      · simp [intOf]; omega
    · have hk8 : k = 8 := by omega
      subst hk8
      obtain ⟨c0, c1, c2, c3, c4, c5, c6, c7⟩ := box_cells x
      have fx := free_of_heap x
      have d0 := cell_of_heap z 0
      have d1 := cell_of_heap z 1
      have d2 := cell_of_heap z 2
      have d3 := cell_of_heap z 3
      have d4 := cell_of_heap z 4
      have d5 := cell_of_heap z 5
      have d6 := cell_of_heap z 6
      have d7 := cell_of_heap z 7
      simp at d0 d1 d2 d3 d4 d5 d6 d7
      have fz := free_of_heap z
      go_wp2_with fail
      have hr : Roomy wr (w.heap.size + 1 + 1) m.ents := ⟨ec, ks⟩
      refine bodyPost_ret (v := msgV m (some ⟨w.heap.size + 1 + 1, 0, none⟩) (m.ents.length + 8)) (by simp [results, Tryd.results14, go_sem, msgV, d0, d1, d2, d3, d4, d5, d6, d7]) rfl ⟨w.heap.size + 1 + 1, rfl, hr.block ?_, ?_⟩
      · rw [Below.heap_setCell _ _ _ _ (by show w.heap.size + 1 + 1 ≠ w.heap.size + 1; omega), Below.heap_setCell _ _ _ _ (by show w.heap.size + 1 + 1 ≠ w.heap.size + 1; omega), Below.heap_setCell _ _ _ _ (by show w.heap.size + 1 + 1 ≠ w.heap.size + 1; omega), Below.heap_setCell _ _ _ _ (by show w.heap.size + 1 + 1 ≠ w.heap.size + 1; omega), Below.heap_setCell _ _ _ _ (by show w.heap.size + 1 + 1 ≠ w.heap.size + 1; omega), Below.heap_setCell _ _ _ _ (by show w.heap.size + 1 + 1 ≠ w.heap.size + 1; omega), Below.heap_setCell _ _ _ _ (by show w.heap.size + 1 + 1 ≠ w.heap.size + 1; omega), Below.heap_setCell _ _ _ _ (by show w.heap.size + 1 + 1 ≠ w.heap.size + 1; omega), Below.heap_setCell _ _ _ _ (by show w.heap.size + 1 + 1 ≠ w.heap.size; omega)]
      · have h1 : w.heap.size ≤ w.heap.size + 1 := by omega
        exact (((((((((Bl.setCell (Nat.le_refl _) _).setCell h1 _).setCell h1 _).setCell h1 _).setCell h1 _).setCell h1 _).setCell h1 _).setCell h1 _).setCell h1 _)
end Go.Proofs.YtlagmbieaicmgaaDoor
