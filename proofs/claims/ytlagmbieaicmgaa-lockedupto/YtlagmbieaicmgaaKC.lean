/- The ledger: drop, all. -/
import Derived.Test.YtlagmbieaicmgaaKB
namespace Go.Proofs.Ytlagmbieaicmgaa
open Go.RowKit Lk Go.Shelf

def dropB (tx : Int) (l : L4) : Bool := !decide (l.tx = tx)
def dropI (tx : Int) (x : Int) : Bool := !decide (x = tx)
theorem filter_next {α : Type} {p : α → Bool} {l : List α} {k : Nat} (hk : k < l.length) (h : p l[k] = true) : (l.take (k + 1)).filter p = (l.take k).filter p ++ [l[k]] := by
  rw [take_next hk, List.filter_append, List.filter_cons_of_pos h]; simp
theorem filter_skip {α : Type} {p : α → Bool} {l : List α} {k : Nat} (hk : k < l.length) (h : p l[k] = false) : (l.take (k + 1)).filter p = (l.take k).filter p := by
  rw [take_next hk, List.filter_append, List.filter_cons_of_neg (by simp [h])]; simp

/-- What drop leaves. -/
def Dropped (w : World) (d : Nat) (L : List L4) (F : List Int) (w' : World) : Prop :=
  ∃ vl vf, Led w' d L F vl vf ∧ Fr (fun b => b = d) w w' ∧ ∀ g, vl.ownBlock = some g ∨ vf.ownBlock = some g → w.heap.size ≤ g

set_option maxHeartbeats 8000000 in
theorem drop_any (w : World) (d : Nat) (L : List L4) (F : List Int) (vl vf : Value) (tx : Int) (h : Led w d L F vl vf) (hn : L.length ≤ 4398046511104) (hm : F.length ≤ 4398046511104) :
    Calls Try.prog 15 #[.pointer (some ⟨d, 0, none⟩), .int .i64 tx] w fun e w' => e = .returned (.tuple #[]) ∧ Dropped w d (L.filter (dropB tx)) (F.filter (dropI tx)) w' := by
  obtain ⟨ao, cap, hv, hr, _, _⟩ := h.l.rd ll_len
  obtain ⟨af, cf, hvf, hrf, _, _⟩ := h.f.rd il_len
  have HC : Hid (∀ W, Below w.heap.size w W → W.cell? ⟨d, 0, none⟩ = some (.slice ao L.length cap) ∧ W.cell? ⟨d, 1, none⟩ = some (.slice af F.length cf)) := fun W hW => ⟨by rw [← hv]; exact (h.below hW).cells.1, by rw [← hvf]; exact (h.below hW).cells.2⟩
  have RL : Hid (Rd ll 4 w ao L) := hr
  have RF : Hid (Rd il 1 w af F) := hrf
  have H0 : Hid (Led w d L F vl vf) := h
  clear h hv hr hvf hrf
  go_enter Try.func15, Try.ntmps15
  go_wp2
  go_loopw [4, 5] (fun s4 s5 wr => ∃ i : Nat, i ≤ L.length ∧ s5 = .int .i64 i ∧ Hid (Below w.heap.size w wr) ∧ Hid (Own ll 4 88 wr s4 ((L.take i).filter (dropB tx)) ∧ ∀ g, s4.ownBlock = some g → w.heap.size ≤ g)) (fun _ s5 _ => L.length - (intOf s5).toNat)
  case atStart => exact ⟨0, Nat.zero_le _, rfl, Below.refl _ _, Own.nil _ _ _ _, fun g e => by simp [Value.ownBlock] at e⟩
  case round =>
    obtain ⟨i, hi, rfl, BW, HO⟩ := hrel
    obtain ⟨c0, -⟩ := HC.out wr BW.out
    by_cases hlt : i < L.length
    · obtain ⟨b, off, rfl, hb, hc⟩ := RL.out.resolve_left (by intro e; rw [e] at hlt; simp at hlt)
      have hcr := hc.block (BW.out.block b hb)
      have q0 := hcr i hlt 0 _ rfl
      have q1 := hcr i hlt 1 _ rfl
      have q2 := hcr i hlt 2 _ rfl
      have q3 := hcr i hlt 3 _ rfl
      rw [Nat.add_zero] at q0
      have hii : (i : Int) < (L.length : Int) := by omega
      have NX : Hid (dropB tx L[i] = true → (L.take (i + 1)).filter (dropB tx) = (L.take i).filter (dropB tx) ++ [L[i]]) := filter_next hlt
      have SK : Hid (dropB tx L[i] = false → (L.take (i + 1)).filter (dropB tx) = (L.take i).filter (dropB tx)) := filter_skip hlt
      have HLN : Hid (((L.take i).filter (dropB tx)).length ≤ 4398046511104) := Nat.le_trans (List.length_filter_le _ _) (by rw [List.length_take]; omega)
      obtain ⟨pl, hpl⟩ : ∃ pl, pl = (L.take i).filter (dropB tx) := ⟨_, rfl⟩
      rw [← hpl] at HO NX SK HLN
      clear hcr hc hpl
      generalize L[i] = l at *
      obtain ⟨x, y, r, z⟩ := l
      by_cases hx : x = tx
      · have X2 : Hid (Own ll 4 88 wr u4 ((L.take (i + 1)).filter (dropB tx)) ∧ ∀ g, u4.ownBlock = some g → w.heap.size ≤ g) := ⟨by rw [SK.out (by simp [dropB, hx])]; exact HO.out.1, HO.out.2⟩
        go_wp2
        go_roundw
        case rel => exact ⟨i + 1, by omega, by go_num, BW, X2⟩
        case measure => simp [intOf]; omega
      · have O3 : Hid (Own ll 4 88 (wr.alloc (.cells #[.int .i64 x, .int .i64 y, .bool r, .bool z] 88)) u4 pl) := own_below HO.out.1 ((Below.refl _ _).alloc (Nat.le_refl _) _)
        go_wp2_with (at_builtin; refine app_big el_lock _ rfl _ _ rfl u4 pl rfl O3.out wr.heap.size ⟨x, y, r, z⟩ #[.int .i64 x, .int .i64 y, .bool r, .bool z] 88 rfl (heap_new _ _) rfl HLN.out (by omega) ?_)
        intro g cap' w4 ho hf hat hgl
        have X1 : Hid (Below w.heap.size w w4) := below_fr (BW.out.trans (((Below.refl wr.heap.size wr).alloc (Nat.le_refl _) (.cells #[.int .i64 x, .int .i64 y, .bool r, .bool z] 88)).mono BW.out.size)) (Nat.le_refl _) hf HO.out.2
        have X2 : Hid (Own ll 4 88 w4 (.slice (some ⟨g, 0, none⟩) (pl.length + 1) cap') ((L.take (i + 1)).filter (dropB tx)) ∧ ∀ g', (Value.slice (some ⟨g, 0, none⟩) (pl.length + 1) cap').ownBlock = some g' → w.heap.size ≤ g') := by
          refine ⟨by rw [NX.out (by simp [dropB, hx])]; exact ho, fun g' e => ?_⟩
          have e' : g = g' := by simpa [Value.ownBlock] using e
          subst e'
          rcases hat with q' | q'
          · exact HO.out.2 g q'
          · have := BW.out.size
            have q2' : wr.heap.size + 1 ≤ g := by simpa using q'
            omega
        go_wp2
        go_roundw
        case rel => exact ⟨i + 1, by omega, by go_num, X1, X2⟩
        case measure => simp [intOf]; omega
    · have hii : ¬ (i : Int) < (L.length : Int) := by omega
      have hkk : Hid (L.take i = L) := by show _ = _; rw [show i = L.length by omega, List.take_length]
      rw [hkk.out] at HO
      clear hkk
      generalize wr = wv at *
      go_wp2
      go_loopw [6, 7] (fun s6 s7 wr => ∃ j : Nat, j ≤ F.length ∧ s7 = .int .i64 j ∧ Hid (Below w.heap.size w wr ∧ Below wv.heap.size wv wr) ∧ Hid (Own il 1 3 wr s6 ((F.take j).filter (dropI tx)) ∧ ∀ g, s6.ownBlock = some g → wv.heap.size ≤ g)) (fun _ s7 _ => F.length - (intOf s7).toNat)
      case atStart => exact ⟨0, Nat.zero_le _, rfl, ⟨BW.out, Below.refl _ _⟩, Own.nil _ _ _ _, fun g e => by simp [Value.ownBlock] at e⟩
      case round =>
        clear c0
        obtain ⟨j, hj, rfl, BB, HF⟩ := hrel
        obtain ⟨c0, c1⟩ := HC.out wr BB.out.1
        by_cases hjl : j < F.length
        · obtain ⟨b, off, rfl, hb, hc⟩ := RF.out.resolve_left (by intro e; rw [e] at hjl; simp at hjl)
          have q0 := (hc.block (BB.out.1.block b hb)) j hjl 0 _ rfl
          rw [Nat.mul_one, Nat.add_zero] at q0
          have hji : (j : Int) < (F.length : Int) := by omega
          have NX : Hid (dropI tx F[j] = true → (F.take (j + 1)).filter (dropI tx) = (F.take j).filter (dropI tx) ++ [F[j]]) := filter_next hjl
          have SK : Hid (dropI tx F[j] = false → (F.take (j + 1)).filter (dropI tx) = (F.take j).filter (dropI tx)) := filter_skip hjl
          have HLN : Hid (((F.take j).filter (dropI tx)).length ≤ 4398046511104) := Nat.le_trans (List.length_filter_le _ _) (by rw [List.length_take]; omega)
          obtain ⟨pl, hpl⟩ : ∃ pl, pl = (F.take j).filter (dropI tx) := ⟨_, rfl⟩
          rw [← hpl] at HF NX SK HLN
          clear hc hpl
          generalize F[j] = x at *
          by_cases hx : x = tx
          · have X2 : Hid (Own il 1 3 wr u6 ((F.take (j + 1)).filter (dropI tx)) ∧ ∀ g, u6.ownBlock = some g → wv.heap.size ≤ g) := ⟨by rw [SK.out (by simp [dropI, hx])]; exact HF.out.1, HF.out.2⟩
            go_wp2
            go_roundw
            case rel => exact ⟨j + 1, by omega, by go_num, BB, X2⟩
            case measure => simp [intOf]; omega
          · have O3 : Hid (Own il 1 3 (wr.alloc (.cells #[.int .i64 x] 3)) u6 pl) := own_below HF.out.1 ((Below.refl _ _).alloc (Nat.le_refl _) _)
            go_wp2_with (at_builtin; refine app_big el_int _ rfl _ _ rfl u6 pl rfl O3.out wr.heap.size x #[.int .i64 x] 3 rfl (heap_new _ _) rfl HLN.out (by omega) ?_)
            intro g cap' w4 ho hf hat hgl
            have X1 : Hid (Below w.heap.size w w4 ∧ Below wv.heap.size wv w4) := by
              have ba := ((Below.refl wr.heap.size wr).alloc (Nat.le_refl _) (.cells #[.int .i64 x] 3))
              exact ⟨below_fr (BB.out.1.trans (ba.mono BB.out.1.size)) (Nat.le_refl _) hf fun g e => Nat.le_trans BW.out.size (HF.out.2 g e), below_fr (BB.out.2.trans (ba.mono BB.out.2.size)) (Nat.le_refl _) hf HF.out.2⟩
            have X2 : Hid (Own il 1 3 w4 (.slice (some ⟨g, 0, none⟩) (pl.length + 1) cap') ((F.take (j + 1)).filter (dropI tx)) ∧ ∀ g', (Value.slice (some ⟨g, 0, none⟩) (pl.length + 1) cap').ownBlock = some g' → wv.heap.size ≤ g') := by
              refine ⟨by rw [NX.out (by simp [dropI, hx])]; exact ho, fun g' e => ?_⟩
              have e' : g = g' := by simpa [Value.ownBlock] using e
              subst e'
              rcases hat with q' | q'
              · exact HF.out.2 g q'
              · have := BB.out.2.size
                have q2' : wr.heap.size + 1 ≤ g := by simpa using q'
                omega
            go_wp2
            go_roundw
            case rel => exact ⟨j + 1, by omega, by go_num, X1, X2⟩
            case measure => simp [intOf]; omega
        · have hji : ¬ (j : Int) < (F.length : Int) := by omega
          have hkk : Hid (F.take j = F) := by show _ = _; rw [show j = F.length by omega, List.take_length]
          rw [hkk.out] at HF
          clear hkk
          have OL : Hid (Own ll 4 88 wr u4 (L.filter (dropB tx))) := own_below HO.out.1 BB.out.2
          obtain ⟨a4, c4, hv4, -, -, -⟩ := OL.out.rd ll_len
          obtain ⟨a6, c6, hv6, -, -, -⟩ := HF.out.1.rd il_len
          generalize hL4 : (L.filter (dropB tx)).length = n4 at hv4
          generalize hL6 : (F.filter (dropI tx)).length = n6 at hv6
          subst hv4
          subst hv6
          have hbx : wr.heap[d]? = some (.cells #[vl, vf] 51 (0, 0)) := (H0.out.below BB.out.1).box
          have HBX : Hid (wr.heap[d]? = some (.cells #[vl, vf] 51 (0, 0))) := hbx
          have g0 := Sh.free (n := 2) ⟨_, hbx, rfl⟩ 0
          have g1 := Sh.free (n := 2) ⟨_, hbx, rfl⟩ 1
          clear hbx hL4 hL6
          go_wp2
          go_end0
          have f1 := fr_set wr d 0 (.slice a4 n4 c4)
          have f2 := fr_set (wr.setCell ⟨d, 0, none⟩ (.slice a4 n4 c4)) d 1 (.slice a6 n6 c6)
          have hd := H0.out.lt
          have n4' : ∀ g, (Value.slice a4 n4 c4).ownBlock = some g → w.heap.size ≤ g := HO.out.2
          have n6' : ∀ g, (Value.slice a6 n6 c6).ownBlock = some g → wv.heap.size ≤ g := HF.out.2
          have sv := BW.out.size
          refine ⟨rfl, .slice a4 n4 c4, .slice a6 n6 c6, ⟨?_, ?_, ?_, fun e => absurd hd (by have := n4' d e; omega), fun e => absurd hd (by have := n6' d e; omega), fun g e1 e2 => ?_⟩, ?_, fun g e => e.elim (n4' g) (fun q => Nat.le_trans sv (n6' g q))⟩
          · simp [World.setCell, Array.getElem?_modify, HBX.out]
          · exact (OL.out.fr f1 fun g e q => absurd hd (by have := n4' g e; omega)).fr f2 fun g e q => absurd hd (by have := n4' g e; omega)
          · exact (HF.out.1.fr f1 fun g e q => absurd hd (by have := n6' g e; omega)).fr f2 fun g e q => absurd hd (by have := n6' g e; omega)
          · have := HO.out.1.lt e1
            have := n6' g e2
            omega
          · exact ((Fr.of_below (D := fun b => b = d) BB.out.1).trans f1 fun g _ e => e).trans f2 fun g _ e => e
end Go.Proofs.Ytlagmbieaicmgaa
