/- Tables of locks: who waits for whom. -/
import Derived.Test.YtlagmbieaicmgaaLU
namespace Go.Proofs.Ytlagmbieaicmgaa
open Go.RowKit Lk Go.Shelf

def pairL (t : T4) (i : Nat) : List G := match t.waits[i]? with
  | some c => (blockS c (t.held ++ t.waits.take i)).map fun o => ⟨c.tx, o⟩
  | none => []
def waitP (t : T4) (k : Nat) : List G := (List.range k).flatMap (pairL t)
theorem waitP_next (t : T4) (k : Nat) (hk : k < t.waits.length) : waitP t (k + 1) = waitP t k ++ (blockS t.waits[k] (t.held ++ t.waits.take k)).map fun o => ⟨t.waits[k].tx, o⟩ := by
  unfold waitP
  rw [List.range_succ, List.flatMap_append]
  simp [pairL, List.getElem?_eq_getElem hk]
theorem blockS_len (c : C) (l : List C) : (blockS c l).length ≤ l.length := by
  unfold blockS
  refine Nat.le_trans (Lib.compact_length_le _) ?_
  rw [List.length_mergeSort]; exact block_len c l
theorem waitP_len (t : T4) (N : Nat) (h : t.held.length + t.waits.length ≤ N) : ∀ k, (waitP t k).length ≤ k * N
  | 0 => by simp [waitP]
  | k + 1 => by
    have ih := waitP_len t N h k
    unfold waitP at ih ⊢
    rw [List.range_succ, List.flatMap_append, List.length_append]
    have : ([k].flatMap (pairL t)).length ≤ N := by
      simp only [List.flatMap_cons, List.flatMap_nil, List.append_nil, pairL]
      split
      · rw [List.length_map]
        refine Nat.le_trans (blockS_len _ _) ?_
        rw [List.length_append, List.length_take]; omega
      · simp
    rw [Nat.succ_mul]; omega

abbrev WaS (a B : Nat) (vw : Value) (c : C) (w' : World) : Prop :=
  w'.cell? ⟨a, 2, none⟩ = some vw ∧ w'.cell? ⟨B, 0, none⟩ = some (.int .i64 c.tx) ∧ w'.cell? ⟨B, 1, none⟩ = some (.int .i64 c.key) ∧ w'.cell? ⟨B, 2, none⟩ = some (.bool c.wr)
theorem WaS.below {a B : Nat} {vh : Value} {c : C} {w w' : World} (h : WaS a B vh c w) (hb : Below w.heap.size w w') : WaS a B vh c w' :=
  ⟨(hb.cell (p := ⟨a, 2, none⟩) (cell_lt h.1)).trans h.1, (hb.cell (p := ⟨B, 0, none⟩) (cell_lt h.2.1)).trans h.2.1, (hb.cell (p := ⟨B, 1, none⟩) (cell_lt h.2.1)).trans h.2.2.1, (hb.cell (p := ⟨B, 2, none⟩) (cell_lt h.2.1)).trans h.2.2.2⟩

set_option maxHeartbeats 8000000 in
theorem Waits_any (w : World) (a : Nat) (t : T4) (vh vw vp : Value) (h : Tab w a t vh vw vp) (hn : t.held.length + t.waits.length ≤ 800) :
    Calls Try.prog 40 #[.pointer (some ⟨a, 0, none⟩)] w fun e w' => ∃ v, e = .returned v ∧ Own gl 2 81 w' v (waitP t t.waits.length) ∧ Below w.heap.size w w' ∧ ∀ g, v.ownBlock = some g → w.heap.size ≤ g := by
  obtain ⟨ao, cap, hvw, hr, hlc, _⟩ := h.waits.rd cl_len
  have c2 := h.cells.2.2.1
  rw [hvw] at c2
  have H0 : Hid (Tab w a t vh vw vp) := h
  have HW : Hid (vw = .slice ao t.waits.length cap) := hvw
  have RW : Hid (Rd cl 3 w ao t.waits) := hr
  clear h hvw hr
  go_enter Try.func40, Try.ntmps40
  go_wp2
  go_loopw [3, 4, 5, 7, 13] (fun s3 _ _ _ s13 wr => ∃ k : Nat, s13 = .int .i64 k ∧ k ≤ t.waits.length ∧ Hid (Below w.heap.size w wr) ∧ Hid (Own gl 2 81 wr s3 (waitP t k) ∧ ∀ g, s3.ownBlock = some g → w.heap.size ≤ g)) (fun _ _ _ _ s13 _ => t.waits.length - (intOf s13).toNat)
  case atStart => exact ⟨0, rfl, Nat.zero_le _, Below.refl _ _, Own.nil _ _ _ _, fun g e => by simp [Value.ownBlock] at e⟩
  case round =>
    obtain ⟨k, rfl, hk, HF, HO⟩ := hrel
    by_cases hlt : k < t.waits.length
    · obtain ⟨b, off, rfl, hb, hc⟩ := RW.out.resolve_left (by intro e; rw [e] at hlt; simp at hlt)
      have hcr := hc.block (HF.out.block b hb)
      have q0 := hcr k hlt 0 _ rfl
      have q1 := hcr k hlt 1 _ rfl
      have q2 := hcr k hlt 2 _ rfl
      rw [Nat.add_zero] at q0
      clear hcr hc
      have hki : (k : Int) < (t.waits.length : Int) := by omega
      have NX : Hid (waitP t (k + 1) = waitP t k ++ (blockS t.waits[k] (t.held ++ t.waits.take k)).map fun o => ⟨t.waits[k].tx, o⟩) := waitP_next t k hlt
      have HLN : Hid ((waitP t k).length ≤ 800 * 800) := Nat.le_trans (waitP_len t 800 hn k) (Nat.mul_le_mul_right 800 (by omega))
      have HLB : Hid ((blockS t.waits[k] (t.held ++ t.waits.take k)).length ≤ 800) := by
        refine Nat.le_trans (blockS_len _ _) ?_
        rw [List.length_append, List.length_take]; omega
      generalize t.waits[k] = c at *
      obtain ⟨p, q, r⟩ := c
      obtain ⟨w1, hw1⟩ : ∃ w1, w1 = wr.alloc (.cells #[.int .i64 p, .int .i64 q, .bool r] 97) := ⟨_, rfl⟩
      have B1 : Hid (Below wr.heap.size wr w1) := by rw [hw1]; exact (Below.refl _ _).alloc (Nat.le_refl _) _
      have BW1 : Hid (Below w.heap.size w w1) := HF.out.trans (B1.out.mono HF.out.size)
      have s0 : WaS a wr.heap.size (.slice (some ⟨b, off, none⟩) t.waits.length cap) ⟨p, q, r⟩ w1 := by
        refine ⟨by rw [← HW.out]; exact (H0.out.below BW1.out).cells.2.2.1, ?_, ?_, ?_⟩ <;> (rw [hw1, cell_new]; rfl)
      have hbd : Below w1.heap.size w1 w1.drew := ⟨rfl, rfl, rfl, Nat.le_refl _, fun _ _ => rfl⟩
      have hbk := blockers_any w1.drew a t vh vw vp ⟨p, q, r⟩ (some ⟨b, off, none⟩) cap (t.waits.take k) ((H0.out.below BW1.out).below hbd) ⟨((RW.out.below BW1.out).below hbd).take k, fun e => by cases e⟩ (by omega) (by rw [List.length_take]; omega)
      rw [show (t.waits.take k).length = k by rw [List.length_take]; omega] at hbk
      have hkc : k ≤ cap := by omega
      generalize hbl : blockS ⟨p, q, r⟩ (t.held ++ t.waits.take k) = bl at *
      clear hbl
      go_wp2_with fail
      rw [← hw1]
      clear hw1
      go_region_held3 (fun w' => WaS a wr.heap.size (.slice (some ⟨b, off, none⟩) t.waits.length cap) ⟨p, q, r⟩ w') (first | exact s0 | (refine WaS.below ?_ (by assumption); assumption)) (first | (go_at_call 59; refine hbk.mono ?_; rintro e w2 ⟨v, rfl, ob, hb2, fb⟩; obtain ⟨ab, cb, rfl, hrb, hlb, -⟩ := ob.rd il_len))
      have hS2 : WaS a wr.heap.size (.slice (some ⟨b, off, none⟩) t.waits.length cap) ⟨p, q, r⟩ w2 := by assumption
      have X5 : Hid (w2.cell? ⟨wr.heap.size, 0, none⟩ = some (.int .i64 p)) := hS2.2.1
      have B2 : Hid (Below wr.heap.size wr w2) := B1.out.trans (Below.mono (show Below w1.heap.size w1 w2 from ⟨hb2.os, hb2.tape, hb2.output, hb2.size, hb2.block⟩) B1.out.size)
      have O2 : Hid (Own gl 2 81 w2 u3 (waitP t k)) := own_below HO.out.1 B2.out
      have RB : Hid (Rd il 1 w2 ab bl) := hrb
      have OB : Hid (Own il 1 3 w2 (.slice ab bl.length cb) bl ∧ ∀ g, (Value.slice ab bl.length cb).ownBlock = some g → wr.heap.size ≤ g) := ⟨ob, fun g e => Nat.le_trans B1.out.size (fb g e)⟩
      have nU : Hid (∀ g, u3.ownBlock = some g → g < wr.heap.size) := fun g e => HO.out.1.lt e
      have hs2 : Hid (wr.heap.size < w2.heap.size) := cell_lt X5.out
      have BW2 : Hid (Below w.heap.size w w2) := HF.out.trans (B2.out.mono HF.out.size)
      have hbl : bl.length ≤ 800 := HLB.out
      have P5 : Hid (∀ g, (Value.slice ab bl.length cb).ownBlock = some g → ¬ (u3.ownBlock = some g)) := fun g e1 e2 => absurd (nU.out g e2) (by have := OB.out.2 g e1; omega)
      clear hbk s0 hb2 hrb ob fb hS2 q0 q1 q2 c2
      generalize hwq : wr = wv at *
      generalize hv3 : u3 = v3 at *
      go_wp2
      go_loopw [3, 7, 28] (fun s3 _ s28 wq => ∃ j : Nat, s28 = .int .i64 j ∧ j ≤ bl.length ∧ Hid (Fr (fun b => v3.ownBlock = some b) w2 wq) ∧ Hid (Own gl 2 81 wq s3 (waitP t k ++ (bl.take j).map fun o => ⟨p, o⟩) ∧ ∀ g, s3.ownBlock = some g → v3.ownBlock = some g ∨ w2.heap.size ≤ g)) (fun _ _ s28 _ => bl.length - (intOf s28).toNat)
      case atStart => exact ⟨0, rfl, Nat.zero_le _, Fr.refl _ _, by simpa using O2.out, fun g e => .inl e⟩
      case round =>
        clear hwq hv3
        obtain ⟨j, rfl, hj, HFj, HOj⟩ := hrel
        by_cases hjl : j < bl.length
        · obtain ⟨b5, o5, rfl, hb5, hra5⟩ := RB.out.resolve_left (by intro e; rw [e] at hjl; simp at hjl)
          have hji : (j : Int) < (bl.length : Int) := by omega
          have qj := (hra5.fr HFj.out hb5 (P5.out b5 rfl)) j hjl 0 _ rfl
          rw [Nat.mul_one, Nat.add_zero] at qj
          have x5 := HFj.out.cell X5.out (fun e => absurd (nU.out _ e) (Nat.lt_irrefl _))
          clear hra5
          have TN : Hid (bl.take (j + 1) = bl.take j ++ [bl[j]]) := take_next hjl
          generalize bl[j] = o at *
          obtain ⟨pl, hpl⟩ : ∃ pl : List G, pl = waitP t k ++ (bl.take j).map fun o => ⟨p, o⟩ := ⟨_, rfl⟩
          rw [← hpl] at HOj
          have O3 : Hid (Own gl 2 81 (wr.alloc (.cells #[.int .i64 p, .int .i64 o] 81)) u3 pl) := own_below HOj.out.1 ((Below.refl _ _).alloc (Nat.le_refl _) _)
          have HLE : Hid (pl.length ≤ 1000000) := by
            show _ ≤ _
            rw [hpl, List.length_append, List.length_map, List.length_take]
            have := HLN.out
            omega
          have HPL : Hid (pl ++ [⟨p, o⟩] = waitP t k ++ (bl.take (j + 1)).map fun o => ⟨p, o⟩) := by show _ = _; rw [hpl, TN.out, List.map_append, List.append_assoc]; rfl
          clear hpl
          go_wp2_with (at_builtin; refine app_list el_wait _ rfl _ _ rfl u3 pl rfl O3.out wr.heap.size ⟨p, o⟩ #[.int .i64 p, .int .i64 o] 81 rfl (heap_new _ _) rfl (by have := HLE.out; omega) ?_)
          intro g cap' w4 ho hf hat hgl
          have Y1 : Hid (Fr (fun b => v3.ownBlock = some b) w2 w4) := (HFj.out.alloc _).trans hf fun g' hg e => (HOj.out.2 g' e).resolve_right (by omega)
          have Y2 : Hid (Own gl 2 81 w4 (.slice (some ⟨g, 0, none⟩) (pl.length + 1) cap') (waitP t k ++ (bl.take (j + 1)).map fun o => ⟨p, o⟩) ∧ ∀ g', (Value.slice (some ⟨g, 0, none⟩) (pl.length + 1) cap').ownBlock = some g' → v3.ownBlock = some g' ∨ w2.heap.size ≤ g') := by
            refine ⟨by rw [← HPL.out]; exact ho, fun g' e => ?_⟩
            have e' : g = g' := by simpa [Value.ownBlock] using e
            subst e'
            rcases hat with q' | q'
            · exact HOj.out.2 g q'
            · refine .inr ?_
              have := HFj.out.size
              have q2' : wr.heap.size + 1 ≤ g := by simpa using q'
              omega
          go_wp2
          go_roundw
          case rel => exact ⟨j + 1, by go_num, by omega, Y1, Y2⟩
          case measure => simp [intOf]; omega
        · have hji : ¬ (j : Int) < (bl.length : Int) := by omega
          have hjj : Hid (bl.take j = bl) := by show _ = _; rw [show j = bl.length by omega, List.take_length]
          rw [hjj.out, ← NX.out] at HOj
          have Z1 : Hid (Below w.heap.size w wr) := below_fr BW2.out (Nat.le_refl _) HFj.out HO.out.2
          have Z2 : Hid (Own gl 2 81 wr u3 (waitP t (k + 1)) ∧ ∀ g, u3.ownBlock = some g → w.heap.size ≤ g) := ⟨HOj.out.1, fun g e => (HOj.out.2 g e).elim (HO.out.2 g) (fun q => by have := BW2.out.size; omega)⟩
          clear hjj
          go_wp2
          go_roundw
          case rel => exact ⟨k + 1, by go_num, by omega, Z1, Z2⟩
          case measure => simp [intOf]; omega
    · have hki : ¬ (k : Int) < (t.waits.length : Int) := by omega
      have hkk : Hid (k = t.waits.length) := by show _ = _; omega
      go_wp2
      go_ret
      rw [← hkk.out]
      exact ⟨_, rfl, HO.out.1, HF.out, HO.out.2⟩
end Go.Proofs.Ytlagmbieaicmgaa
