/- Tables of locks: blockers. -/
import Derived.Test.YtlagmbieaicmgaaLT
namespace Go.Proofs.Ytlagmbieaicmgaa
open Go.RowKit Lk Go.Shelf

def blockL (c : C) (l : List C) : List Int := (l.filter (ag c)).map C.tx
def blockS (c : C) (l : List C) : List Int := Lib.compact ((blockL c l).mergeSort fun x y => decide (x ≤ y))
theorem block_next {c : C} {l : List C} {k : Nat} (hk : k < l.length) (h : ag c l[k] = true) : blockL c (l.take (k + 1)) = blockL c (l.take k) ++ [l[k].tx] := by
  unfold blockL
  rw [take_next hk, List.filter_append, List.filter_cons_of_pos h]; simp
theorem block_skip {c : C} {l : List C} {k : Nat} (hk : k < l.length) (h : ag c l[k] = false) : blockL c (l.take (k + 1)) = blockL c (l.take k) := by
  unfold blockL
  rw [take_next hk, List.filter_append, List.filter_cons_of_neg (by simp [h])]; simp
theorem block_len (c : C) (l : List C) : (blockL c l).length ≤ l.length := by unfold blockL; rw [List.length_map]; exact List.length_filter_le _ _

theorem own_below {α : Type} {enc : α → List Value} {k : Nat} {T : TypeId} {w w' : World} {v : Value} {xs : List α} (h : Own enc k T w v xs) (hb : Below w.heap.size w w') : Own enc k T w' v xs := h.block fun g e => hb.block g (h.lt e)
/-- What turns blocks from B on alone leaves what lies below. -/
theorem below_fr {D : Nat → Prop} {B : Nat} {u v w : World} (h : Below B u v) (hB : B ≤ u.heap.size) (hf : Fr D v w) (hD : ∀ g, D g → B ≤ g) : Below B u w :=
  ⟨hf.os.trans h.os, hf.tape.trans h.tape, hf.output.trans h.output, Nat.le_trans h.size hf.size, fun k hk => (hf.block k (by have := h.size; omega) (fun e => absurd (hD k e) (by omega))).trans (h.block k hk)⟩

set_option maxHeartbeats 8000000 in
theorem blockers_any (w : World) (a : Nat) (t : T4) (vh vw vp : Value) (c : C) (ao : Option Addr) (cap : Nat) (older : List C) (h : Tab w a t vh vw vp) (ho : Cat w ao cap older) (hn : t.held.length ≤ 900) (hn2 : older.length ≤ 900) :
    Calls Try.prog 59 #[.pointer (some ⟨a, 0, none⟩), clV c, .slice ao older.length cap] w fun e w' => ∃ v, e = .returned v ∧ Own il 1 3 w' v (blockS c (t.held ++ older)) ∧ Below w.heap.size w w' ∧ ∀ g, v.ownBlock = some g → w.heap.size ≤ g := by
  obtain ⟨x, y, z⟩ := c
  obtain ⟨ah, ch, hvh, hrh, hlh, _⟩ := h.held.rd cl_len
  have hcat : Cat w ah ch t.held := ⟨hrh, fun e => by
    rcases h.held.cases cl_len with ⟨e1, _⟩ | ⟨g, cap, e1, _⟩
    · rw [hvh] at e1; injection e1
    · rw [hvh, e] at e1; injection e1 with e2; cases e2⟩
  have b0 : ∀ o : Obj, Below w.heap.size w (w.alloc o) := fun o => (Below.refl _ _).alloc (Nat.le_refl _) o
  have c1 := fun o => (h.below (b0 o)).cells.2.1
  rw [hvh] at c1
  obtain ⟨w0, hw0⟩ : ∃ w0, w0 = (w.alloc (.cells #[.int .i64 x, .int .i64 y, .bool z] 97)).alloc (.cells #[.slice ah t.held.length ch, .slice ao older.length cap] 63) := ⟨_, rfl⟩
  have B0 : Below w.heap.size w w0 := by rw [hw0]; exact ((Below.refl _ _).alloc (Nat.le_refl _) _).alloc (by simp) _
  have A0 : Hid (w0.cell? ⟨w.heap.size, 0, none⟩ = some (.int .i64 x) ∧ w0.cell? ⟨w.heap.size, 1, none⟩ = some (.int .i64 y) ∧ w0.cell? ⟨w.heap.size, 2, none⟩ = some (.bool z)) := by
    rw [hw0]; exact ⟨Lib.cell?_alloc_some _ (by rw [cell_new]; rfl), Lib.cell?_alloc_some _ (by rw [cell_new]; rfl), Lib.cell?_alloc_some _ (by rw [cell_new]; rfl)⟩
  have hcc := concat_any (w.heap.size + 1) ah ao ch cap t.held older w0 (by rw [hw0]; have := heap_new (w.alloc (.cells #[.int .i64 x, .int .i64 y, .bool z] 97)) (.cells #[.slice ah t.held.length ch, .slice ao older.length cap] 63); simpa using this) (hcat.below B0) (ho.below B0) (by omega) (by omega)
  have HB0 : Hid (Below w.heap.size w w0) := B0
  clear h ho hvh hrh hcat B0 b0
  go_enter Try.func59, Try.ntmps59
  go_wp2_with fail
  rw [← hw0]
  clear hw0 c1
  refine hcc.mono ?_
  rintro e w1 ⟨vc, rfl, oc, hb1⟩
  obtain ⟨ac, cc, hvc, hrc, hlc, _⟩ := oc.rd cl_len
  subst hvc
  have RC : Hid (Rd cl 3 w1 ac (t.held ++ older)) := hrc
  have B1 : Hid (Below w.heap.size w w1) := HB0.out.trans (hb1.mono HB0.out.size)
  have A1 : Hid (w1.cell? ⟨w.heap.size, 0, none⟩ = some (.int .i64 x) ∧ w1.cell? ⟨w.heap.size, 1, none⟩ = some (.int .i64 y) ∧ w1.cell? ⟨w.heap.size, 2, none⟩ = some (.bool z)) := by
    obtain ⟨a0, a1, a2⟩ := A0.out
    exact ⟨(hb1.cell (p := ⟨_, _, none⟩) (cell_lt a0)).trans a0, (hb1.cell (p := ⟨_, _, none⟩) (cell_lt a0)).trans a1, (hb1.cell (p := ⟨_, _, none⟩) (cell_lt a0)).trans a2⟩
  have hll : (t.held ++ older).length ≤ 1800 := by rw [List.length_append]; omega
  clear hcc hrc hb1 oc A0
  have HL : Hid ((t.held ++ older).length ≤ 1800) := hll
  generalize hls : t.held ++ older = ls at *
  have HLS : Hid (t.held ++ older = ls) := hls
  clear hls
  go_wp2
  go_loopw [7, 9, 18] (fun s7 _ s18 wr => ∃ k : Nat, s18 = .int .i64 k ∧ k ≤ ls.length ∧ Hid (Below w1.heap.size w1 wr) ∧ Hid (Own il 1 3 wr s7 (blockL ⟨x, y, z⟩ (ls.take k)) ∧ ∀ g, s7.ownBlock = some g → w1.heap.size ≤ g)) (fun _ _ s18 _ => ls.length - (intOf s18).toNat)
  case atStart => exact ⟨0, rfl, Nat.zero_le _, Below.refl _ _, Own.nil _ _ _ _, fun g e => by simp [Value.ownBlock] at e⟩
  case round =>
    obtain ⟨k, rfl, hk, HF, HO⟩ := hrel
    by_cases hlt : k < ls.length
    · obtain ⟨b, off, rfl, hb, hc⟩ := RC.out.resolve_left (by intro e; rw [e] at hlt; simp at hlt)
      have hcr := hc.block (HF.out.block b hb)
      have q0 := hcr k hlt 0 _ rfl
      have q1 := hcr k hlt 1 _ rfl
      have q2 := hcr k hlt 2 _ rfl
      rw [Nat.add_zero] at q0
      clear hcr hc
      have hki : (k : Int) < (ls.length : Int) := by omega
      have NX : Hid (ag ⟨x, y, z⟩ ls[k] = true → blockL ⟨x, y, z⟩ (ls.take (k + 1)) = blockL ⟨x, y, z⟩ (ls.take k) ++ [ls[k].tx]) := block_next hlt
      have SK : Hid (ag ⟨x, y, z⟩ ls[k] = false → blockL ⟨x, y, z⟩ (ls.take (k + 1)) = blockL ⟨x, y, z⟩ (ls.take k)) := block_skip hlt
      have HLN : Hid ((blockL ⟨x, y, z⟩ (ls.take k)).length ≤ 1800) := Nat.le_trans (block_len _ _) (by rw [List.length_take]; omega)
      generalize ls[k] = d at *
      obtain ⟨p, q, r⟩ := d
      obtain ⟨a0, a1, a2⟩ := A1.out
      have e0 : ∀ o v, w1.cell? ⟨w.heap.size, o, none⟩ = some v → ∀ ob : Obj, (wr.alloc ob).cell? ⟨w.heap.size, o, none⟩ = some v := fun o v hv ob => Lib.cell?_alloc_some ob ((HF.out.cell (p := ⟨w.heap.size, o, none⟩) (cell_lt hv)).trans hv)
      have f0 := e0 _ _ a0
      have f1 := e0 _ _ a1
      have f2 := e0 _ _ a2
      obtain ⟨w2, hw2⟩ : ∃ w2, w2 = wr.alloc (.cells #[.int .i64 p, .int .i64 q, .bool r] 97) := ⟨_, rfl⟩
      have B2 : Hid (Below wr.heap.size wr w2) := by rw [hw2]; exact (Below.refl _ _).alloc (Nat.le_refl _) _
      have g0 : Hid (w2.cell? ⟨wr.heap.size, 0, none⟩ = some (.int .i64 p)) := by rw [hw2]; show _ = _; rw [cell_new]; rfl
      have hcal := against_any ⟨x, y, z⟩ ⟨p, q, r⟩ w2
      clear e0 a0 a1 a2
      cases hag : ag ⟨x, y, z⟩ ⟨p, q, r⟩ with
      | false =>
        rw [hag] at hcal
        go_wp2_with fail
        rw [← hw2]
        clear hw2
        refine hcal.mono ?_
        rintro e w3 ⟨rfl, hb3⟩
        have X1 : Hid (Below w1.heap.size w1 w3) := (HF.out.trans (B2.out.mono HF.out.size)).trans (hb3.mono (HF.out.trans (B2.out.mono HF.out.size)).size)
        have X2 : Hid (Own il 1 3 w3 u7 (blockL ⟨x, y, z⟩ (ls.take (k + 1))) ∧ ∀ g, u7.ownBlock = some g → w1.heap.size ≤ g) := ⟨by rw [SK.out hag]; exact own_below (own_below HO.out.1 B2.out) hb3, HO.out.2⟩
        clear hcal
        go_wp2
        go_roundw
        case rel => exact ⟨k + 1, by go_num, by omega, X1, X2⟩
        case measure => simp [intOf]; omega
      | true =>
        rw [hag] at hcal
        go_wp2_with fail
        rw [← hw2]
        clear hw2
        refine hcal.mono ?_
        rintro e w3 ⟨rfl, hb3⟩
        have X0 : Hid (Below w1.heap.size w1 w3) := (HF.out.trans (B2.out.mono HF.out.size)).trans (hb3.mono (HF.out.trans (B2.out.mono HF.out.size)).size)
        have g3 : w3.cell? ⟨wr.heap.size, 0, none⟩ = some (.int .i64 p) := (hb3.cell (p := ⟨wr.heap.size, 0, none⟩) (cell_lt g0.out)).trans g0.out
        have O3 : Hid (Own il 1 3 (w3.alloc (.cells #[.int .i64 p] 3)) u7 (blockL ⟨x, y, z⟩ (ls.take k))) := own_below (own_below (own_below HO.out.1 B2.out) hb3) ((Below.refl _ _).alloc (Nat.le_refl _) _)
        have HG : Hid (ag ⟨x, y, z⟩ ⟨p, q, r⟩ = true) := hag
        clear hcal hag
        go_wp2_with (at_builtin; refine app_list el_int _ rfl _ _ rfl u7 (blockL ⟨x, y, z⟩ (ls.take k)) rfl O3.out w3.heap.size p #[.int .i64 p] 3 rfl (heap_new _ _) rfl (by have := HLN.out; omega) ?_)
        intro g cap' w4 ho hf hat hgl
        have X1 : Hid (Below w1.heap.size w1 w4) := below_fr (X0.out.trans (((Below.refl w3.heap.size w3).alloc (Nat.le_refl _) (.cells #[.int .i64 p] 3)).mono X0.out.size)) (Nat.le_refl _) hf HO.out.2
        have X2 : Hid (Own il 1 3 w4 (.slice (some ⟨g, 0, none⟩) ((blockL ⟨x, y, z⟩ (ls.take k)).length + 1) cap') (blockL ⟨x, y, z⟩ (ls.take (k + 1))) ∧ ∀ g', (Value.slice (some ⟨g, 0, none⟩) ((blockL ⟨x, y, z⟩ (ls.take k)).length + 1) cap').ownBlock = some g' → w1.heap.size ≤ g') := by
          refine ⟨by rw [NX.out HG.out]; exact ho, fun g' e => ?_⟩
          have e' : g = g' := by simpa [Value.ownBlock] using e
          subst e'
          rcases hat with q' | q'
          · exact HO.out.2 g q'
          · have := X0.out.size
            have q2' : w3.heap.size + 1 ≤ g := by simpa using q'
            omega
        go_wp2
        go_roundw
        case rel => exact ⟨k + 1, by go_num, by omega, X1, X2⟩
        case measure => simp [intOf]; omega
    · have hki : ¬ (k : Int) < (ls.length : Int) := by omega
      have hkk : Hid (ls.take k = ls) := by show _ = _; rw [show k = ls.length by omega, List.take_length]
      rw [hkk.out] at HO
      have HLN : Hid ((blockL ⟨x, y, z⟩ ls).length ≤ 1800) := Nat.le_trans (block_len _ _) HL.out
      have hso := sort_any u7 (blockL ⟨x, y, z⟩ ls) wr HO.out.1 (by have := HLN.out; omega)
      clear hkk
      go_wp2_with fail
      refine hso.mono ?_
      rintro e w3 ⟨rfl, ho3, hf3⟩
      have hco := compact_any u7 _ w3 ho3 (by rw [List.length_mergeSort]; have := HLN.out; omega)
      clear hso
      go_wp2_with fail
      refine hco.mono ?_
      rintro e w4 ⟨v4, rfl, ob4, ho4, hf4⟩
      clear hco
      go_wp2
      go_ret
      have hg4 : ∀ g, u7.ownBlock = some g → w1.heap.size ≤ g := HO.out.2
      refine ⟨v4, rfl, by rw [HLS.out]; exact ho4, ?_, fun g e => Nat.le_trans B1.out.size (hg4 g (by rw [← ob4]; exact e))⟩
      have f1 := below_fr (below_fr HF.out (Nat.le_refl _) hf3 hg4) (Nat.le_refl _) hf4 hg4
      exact B1.out.trans (f1.mono B1.out.size)
end Go.Proofs.Ytlagmbieaicmgaa
