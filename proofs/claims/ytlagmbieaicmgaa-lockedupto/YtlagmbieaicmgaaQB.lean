/- The document's own table: its memory; firm, waits, without. -/
import Derived.Test.YtlagmbieaicmgaaKC
import Derived.Test.YtlagmbieaicmgaaQA
namespace Go.Proofs.Ytlagmbieaicmgaa
open Go.RowKit Lk Go.Shelf

theorem el_rlock : El ll 4 24 69 92 := El.mk' (z := .agg #[.int .i64 0, .int .i64 0, .bool false, .bool false]) ll_len (by intro x v hv; simp [ll] at hv; rcases hv with rfl | rfl | rfl | rfl <;> rfl) (by decide) (by decide) Try.underlying69 (by kernel_rfl) rfl

/-- The document's table in memory. -/
structure RLd (w : World) (d : Nat) (m : Int) (L : List L4) (F : List Int) (vl vf : Value) : Prop where
  box : w.heap[d]? = some (.cells #[.int .i64 m, vl, vf] 71 (0, 0))
  l : Own ll 4 92 w vl L
  f : Own il 1 3 w vf F
  ld : vl.ownBlock ≠ some d
  fd : vf.ownBlock ≠ some d
  lf : ∀ g, vl.ownBlock = some g → vf.ownBlock ≠ some g
def RDl4 (d : Nat) (vl vf : Value) (g : Nat) : Prop := g = d ∨ vl.ownBlock = some g ∨ vf.ownBlock = some g
theorem RLd.cells {w : World} {d : Nat} {m : Int} {L : List L4} {F : List Int} {vl vf : Value} (h : RLd w d m L F vl vf) : w.cell? ⟨d, 1, none⟩ = some vl ∧ w.cell? ⟨d, 2, none⟩ = some vf := by
  refine ⟨?_, ?_⟩ <;> rw [cell_of_heap h.box] <;> rfl
theorem RLd.lt {w : World} {d : Nat} {m : Int} {L : List L4} {F : List Int} {vl vf : Value} (h : RLd w d m L F vl vf) : d < w.heap.size := (Array.getElem?_eq_some_iff.1 h.box).1
theorem RLd.fr {D : Nat → Prop} {w w' : World} {d : Nat} {m : Int} {L : List L4} {F : List Int} {vl vf : Value} (h : RLd w d m L F vl vf) (hf : Fr D w w') (hD : ∀ g, RDl4 d vl vf g → ¬ D g) : RLd w' d m L F vl vf :=
  ⟨by rw [hf.block d h.lt (hD d (.inl rfl))]; exact h.box, h.l.fr hf fun g e => hD g (.inr (.inl e)), h.f.fr hf fun g e => hD g (.inr (.inr e)), h.ld, h.fd, h.lf⟩
theorem RLd.below {w w' : World} {d : Nat} {m : Int} {L : List L4} {F : List Int} {vl vf : Value} (h : RLd w d m L F vl vf) (hb : Below w.heap.size w w') : RLd w' d m L F vl vf := h.fr (D := fun _ => False) (Fr.of_below hb) fun _ _ e => e
theorem RLd.dlt {w : World} {d : Nat} {m : Int} {L : List L4} {F : List Int} {vl vf : Value} (h : RLd w d m L F vl vf) {g : Nat} (hg : RDl4 d vl vf g) : g < w.heap.size := by
  rcases hg with rfl | e | e
  · exact h.lt
  · exact h.l.lt e
  · exact h.f.lt e

set_option maxHeartbeats 2000000 in
theorem rwaits_any (w : World) (d : Nat) (m : Int) (L : List L4) (F : List Int) (vl vf : Value) (tx : Int) (h : RLd w d m L F vl vf) (hn : L.length ≤ 4398046511104) :
    Calls Try.prog 42 #[.pointer (some ⟨d, 0, none⟩), .int .i64 tx] w fun e w' => e = .returned (.bool (busyB L tx)) ∧ Below w.heap.size w w' := by
  obtain ⟨ao, cap, hv, hr, _, _⟩ := h.l.rd ll_len
  have c0 := h.cells.1
  rw [hv] at c0
  clear h hv
  go_enter Try.func42, Try.ntmps42
  go_wp2
  go_loopw [5] (fun i wr => ∃ k : Nat, k ≤ L.length ∧ i = .int .i64 k ∧ Hid (wr = w) ∧ Hid (∀ j (hj : j < L.length), j < k → (decide (L[j].tx = tx) && L[j].wt) = false)) (fun i _ => L.length - (intOf i).toNat)
  case atStart => exact ⟨0, Nat.zero_le _, rfl, rfl, fun j _ h => absurd h (Nat.not_lt_zero _)⟩
  case round =>
    obtain ⟨k, hk, rfl, HWR, A⟩ := hrel
    have hwr : wr = w := HWR.out
    clear HWR
    subst wr
    by_cases hlt : k < L.length
    · obtain ⟨b, off, rfl, hb, hc⟩ := hr.resolve_left (by intro e; rw [e] at hlt; simp at hlt)
      have q0 := hc k hlt 0 _ rfl
      have q3 := hc k hlt 3 _ rfl
      rw [Nat.add_zero] at q0
      have hki : (k : Int) < (L.length : Int) := by omega
      have HK : Hid (∀ b, (decide (L[k].tx = tx) && L[k].wt) = b → (b = true → busyB L tx = true) ∧ (b = false → ∀ j (hj : j < L.length), j < k + 1 → (decide (L[j].tx = tx) && L[j].wt) = false)) := fun b hb => ⟨fun e => any_hit hlt (by rw [hb, e]), fun e j hj hjk => by
        by_cases ej : j = k
        · subst ej; rw [hb, e]
        · exact A.out j hj (by omega)⟩
      clear hc
      generalize L[k].tx = x at *
      generalize L[k].wt = z at *
      by_cases hx : x = tx
      · cases z
        · go_wp2
          go_roundw
          case rel => exact ⟨k + 1, by omega, by go_num, by first | exact True.intro | rfl, (HK.out _ rfl).2 (by simp)⟩
          case measure => simp [intOf]; omega
        · go_wp2
          go_ret
          exact ⟨by rw [(HK.out _ rfl).1 (by simp [hx])]; rfl, Below.refl _ _⟩
      · go_wp2
        go_roundw
        case rel => exact ⟨k + 1, by omega, by go_num, by first | exact True.intro | rfl, (HK.out _ rfl).2 (by simp [hx])⟩
        case measure => simp [intOf]; omega
    · have hki : ¬ (k : Int) < (L.length : Int) := by omega
      have HZ : Hid (busyB L tx = false) := any_miss fun j hj => A.out j hj (by omega)
      go_wp2
      go_ret
      exact ⟨by rw [HZ.out]; rfl, Below.refl _ _⟩

set_option maxHeartbeats 2000000 in
theorem rfirm_any (w : World) (d : Nat) (m : Int) (L : List L4) (F : List Int) (vl vf : Value) (tx : Int) (h : RLd w d m L F vl vf) (hn : F.length ≤ 4398046511104) :
    Calls Try.prog 46 #[.pointer (some ⟨d, 0, none⟩), .int .i64 tx] w fun e w' => e = .returned (.bool (firmB F tx)) ∧ Below w.heap.size w w' := by
  obtain ⟨ao, cap, hv, hr, _, _⟩ := h.f.rd il_len
  have c0 := h.cells.2
  rw [hv] at c0
  clear h hv
  go_enter Try.func46, Try.ntmps46
  go_wp2
  go_loopw [5] (fun i wr => ∃ k : Nat, k ≤ F.length ∧ i = .int .i64 k ∧ Hid (wr = w) ∧ Hid (∀ j (hj : j < F.length), j < k → F[j] ≠ tx)) (fun i _ => F.length - (intOf i).toNat)
  case atStart => exact ⟨0, Nat.zero_le _, rfl, rfl, fun j _ h => absurd h (Nat.not_lt_zero _)⟩
  case round =>
    obtain ⟨k, hk, rfl, HWR, A⟩ := hrel
    have hwr : wr = w := HWR.out
    clear HWR
    subst wr
    by_cases hlt : k < F.length
    · obtain ⟨b, off, rfl, hb, hc⟩ := hr.resolve_left (by intro e; rw [e] at hlt; simp at hlt)
      have q0 := hc k hlt 0 _ rfl
      rw [Nat.mul_one, Nat.add_zero] at q0
      have hki : (k : Int) < (F.length : Int) := by omega
      have HK : Hid ((F[k] = tx → firmB F tx = true) ∧ (F[k] ≠ tx → ∀ j (hj : j < F.length), j < k + 1 → F[j] ≠ tx)) := ⟨fun e => by unfold firmB; rw [← e]; simp, fun e j hj hjk => by
        by_cases ej : j = k
        · subst ej; exact e
        · exact A.out j hj (by omega)⟩
      clear hc
      generalize F[k] = x at *
      by_cases hx : x = tx
      · go_wp2
        go_ret
        exact ⟨by rw [HK.out.1 hx]; rfl, Below.refl _ _⟩
      · go_wp2
        go_roundw
        case rel => exact ⟨k + 1, by omega, by go_num, by first | exact True.intro | rfl, HK.out.2 hx⟩
        case measure => simp [intOf]; omega
    · have hki : ¬ (k : Int) < (F.length : Int) := by omega
      have HZ : Hid (firmB F tx = false) := by
        show _ = _
        unfold firmB
        rw [Bool.eq_false_iff]
        intro e
        have : tx ∈ F := by simpa using e
        obtain ⟨j, hj, e⟩ := List.getElem_of_mem this
        exact A.out j hj (by omega) e
      go_wp2
      go_ret
      exact ⟨by rw [HZ.out]; rfl, Below.refl _ _⟩
/-- What without leaves. -/
def RDropped (w : World) (d : Nat) (m : Int) (L : List L4) (F : List Int) (w' : World) : Prop :=
  ∃ vl vf, RLd w' d m L F vl vf ∧ Fr (fun b => b = d) w w' ∧ ∀ g, vl.ownBlock = some g ∨ vf.ownBlock = some g → w.heap.size ≤ g

set_option maxHeartbeats 8000000 in
theorem rwithout_any (w : World) (d : Nat) (m : Int) (L : List L4) (F : List Int) (vl vf : Value) (tx : Int) (h : RLd w d m L F vl vf) (hn : L.length ≤ 4398046511104) (hm : F.length ≤ 4398046511104) :
    Calls Try.prog 44 #[.pointer (some ⟨d, 0, none⟩), .int .i64 tx] w fun e w' => e = .returned (.tuple #[]) ∧ RDropped w d m (L.filter (dropB tx)) (F.filter (dropI tx)) w' := by
  obtain ⟨ao, cap, hv, hr, _, _⟩ := h.l.rd ll_len
  obtain ⟨af, cf, hvf, hrf, _, _⟩ := h.f.rd il_len
  have HC : Hid (∀ W, Below w.heap.size w W → W.cell? ⟨d, 1, none⟩ = some (.slice ao L.length cap) ∧ W.cell? ⟨d, 2, none⟩ = some (.slice af F.length cf)) := fun W hW => ⟨by rw [← hv]; exact (h.below hW).cells.1, by rw [← hvf]; exact (h.below hW).cells.2⟩
  have RL : Hid (Rd ll 4 w ao L) := hr
  have RF : Hid (Rd il 1 w af F) := hrf
  have H0 : Hid (RLd w d m L F vl vf) := h
  clear h hv hr hvf hrf
  go_enter Try.func44, Try.ntmps44
  go_wp2
  go_loopw [4, 5] (fun s4 s5 wr => ∃ i : Nat, i ≤ L.length ∧ s5 = .int .i64 i ∧ Hid (Below w.heap.size w wr) ∧ Hid (Own ll 4 92 wr s4 ((L.take i).filter (dropB tx)) ∧ ∀ g, s4.ownBlock = some g → w.heap.size ≤ g)) (fun _ s5 _ => L.length - (intOf s5).toNat)
  case atStart => exact ⟨0, Nat.zero_le _, rfl, Below.refl _ _, Own.nil _ _ _ _, fun g e => by simp [Value.ownBlock] at e⟩
  case round =>
    obtain ⟨i, hi, rfl, BW, HO⟩ := hrel
    obtain ⟨c0, -⟩ := HC.out wr BW.out
    by_cases hlt : i < L.length
    · obtain ⟨b, off, rfl, hb, hc⟩ := RL.out.resolve_left (by intro e; rw [e] at hlt; simp at hlt)
      have hcr := hc.block (BW.out.block b hb)
      have q0 := hcr i hlt 0 _ rfl
      have q1 := hcr i hlt 1 _ rfl
      have q2 := hcr i hlt 2 _ rfl
      have q3 := hcr i hlt 3 _ rfl
      rw [Nat.add_zero] at q0
      have hii : (i : Int) < (L.length : Int) := by omega
      have NX : Hid (dropB tx L[i] = true → (L.take (i + 1)).filter (dropB tx) = (L.take i).filter (dropB tx) ++ [L[i]]) := filter_next hlt
      have SK : Hid (dropB tx L[i] = false → (L.take (i + 1)).filter (dropB tx) = (L.take i).filter (dropB tx)) := filter_skip hlt
      have HLN : Hid (((L.take i).filter (dropB tx)).length ≤ 4398046511104) := Nat.le_trans (List.length_filter_le _ _) (by rw [List.length_take]; omega)
      obtain ⟨pl, hpl⟩ : ∃ pl, pl = (L.take i).filter (dropB tx) := ⟨_, rfl⟩
      rw [← hpl] at HO NX SK HLN
      clear hcr hc hpl
      generalize L[i] = l at *
      obtain ⟨x, y, r, z⟩ := l
      by_cases hx : x = tx
      · have X2 : Hid (Own ll 4 92 wr u4 ((L.take (i + 1)).filter (dropB tx)) ∧ ∀ g, u4.ownBlock = some g → w.heap.size ≤ g) := ⟨by rw [SK.out (by simp [dropB, hx])]; exact HO.out.1, HO.out.2⟩
        go_wp2
        go_roundw
        case rel => exact ⟨i + 1, by omega, by go_num, BW, X2⟩
        case measure => simp [intOf]; omega
      · have O3 : Hid (Own ll 4 92 (wr.alloc (.cells #[.int .i64 x, .int .i64 y, .bool r, .bool z] 92)) u4 pl) := own_below HO.out.1 ((Below.refl _ _).alloc (Nat.le_refl _) _)
        go_wp2_with (at_builtin; refine app_big el_rlock _ rfl _ _ rfl u4 pl rfl O3.out wr.heap.size ⟨x, y, r, z⟩ #[.int .i64 x, .int .i64 y, .bool r, .bool z] 92 rfl (heap_new _ _) rfl HLN.out (by omega) ?_)
        intro g cap' w4 ho hf hat hgl
        have X1 : Hid (Below w.heap.size w w4) := below_fr (BW.out.trans (((Below.refl wr.heap.size wr).alloc (Nat.le_refl _) (.cells #[.int .i64 x, .int .i64 y, .bool r, .bool z] 92)).mono BW.out.size)) (Nat.le_refl _) hf HO.out.2
        have X2 : Hid (Own ll 4 92 w4 (.slice (some ⟨g, 0, none⟩) (pl.length + 1) cap') ((L.take (i + 1)).filter (dropB tx)) ∧ ∀ g', (Value.slice (some ⟨g, 0, none⟩) (pl.length + 1) cap').ownBlock = some g' → w.heap.size ≤ g') := by
          refine ⟨by rw [NX.out (by simp [dropB, hx])]; exact ho, fun g' e => ?_⟩
          have e' : g = g' := by simpa [Value.ownBlock] using e
          subst e'
          rcases hat with q' | q'
          · exact HO.out.2 g q'
          · have := BW.out.size
            have q2' : wr.heap.size + 1 ≤ g := by simpa using q'
            omega
        go_wp2
        go_roundw
        case rel => exact ⟨i + 1, by omega, by go_num, X1, X2⟩
        case measure => simp [intOf]; omega
    · have hii : ¬ (i : Int) < (L.length : Int) := by omega
      have hkk : Hid (L.take i = L) := by show _ = _; rw [show i = L.length by omega, List.take_length]
      rw [hkk.out] at HO
      clear hkk
      generalize wr = wv at *
      go_wp2
      go_loopw [6, 7] (fun s6 s7 wr => ∃ j : Nat, j ≤ F.length ∧ s7 = .int .i64 j ∧ Hid (Below w.heap.size w wr ∧ Below wv.heap.size wv wr) ∧ Hid (Own il 1 3 wr s6 ((F.take j).filter (dropI tx)) ∧ ∀ g, s6.ownBlock = some g → wv.heap.size ≤ g)) (fun _ s7 _ => F.length - (intOf s7).toNat)
      case atStart => exact ⟨0, Nat.zero_le _, rfl, ⟨BW.out, Below.refl _ _⟩, Own.nil _ _ _ _, fun g e => by simp [Value.ownBlock] at e⟩
      case round =>
        clear c0
        obtain ⟨j, hj, rfl, BB, HF⟩ := hrel
        obtain ⟨c0, c1⟩ := HC.out wr BB.out.1
        by_cases hjl : j < F.length
        · obtain ⟨b, off, rfl, hb, hc⟩ := RF.out.resolve_left (by intro e; rw [e] at hjl; simp at hjl)
          have q0 := (hc.block (BB.out.1.block b hb)) j hjl 0 _ rfl
          rw [Nat.mul_one, Nat.add_zero] at q0
          have hji : (j : Int) < (F.length : Int) := by omega
          have NX : Hid (dropI tx F[j] = true → (F.take (j + 1)).filter (dropI tx) = (F.take j).filter (dropI tx) ++ [F[j]]) := filter_next hjl
          have SK : Hid (dropI tx F[j] = false → (F.take (j + 1)).filter (dropI tx) = (F.take j).filter (dropI tx)) := filter_skip hjl
          have HLN : Hid (((F.take j).filter (dropI tx)).length ≤ 4398046511104) := Nat.le_trans (List.length_filter_le _ _) (by rw [List.length_take]; omega)
          obtain ⟨pl, hpl⟩ : ∃ pl, pl = (F.take j).filter (dropI tx) := ⟨_, rfl⟩
          rw [← hpl] at HF NX SK HLN
          clear hc hpl
          generalize F[j] = x at *
          by_cases hx : x = tx
          · have X2 : Hid (Own il 1 3 wr u6 ((F.take (j + 1)).filter (dropI tx)) ∧ ∀ g, u6.ownBlock = some g → wv.heap.size ≤ g) := ⟨by rw [SK.out (by simp [dropI, hx])]; exact HF.out.1, HF.out.2⟩
            go_wp2
            go_roundw
            case rel => exact ⟨j + 1, by omega, by go_num, BB, X2⟩
            case measure => simp [intOf]; omega
          · have O3 : Hid (Own il 1 3 (wr.alloc (.cells #[.int .i64 x] 3)) u6 pl) := own_below HF.out.1 ((Below.refl _ _).alloc (Nat.le_refl _) _)
            go_wp2_with (at_builtin; refine app_big el_int _ rfl _ _ rfl u6 pl rfl O3.out wr.heap.size x #[.int .i64 x] 3 rfl (heap_new _ _) rfl HLN.out (by omega) ?_)
            intro g cap' w4 ho hf hat hgl
            have X1 : Hid (Below w.heap.size w w4 ∧ Below wv.heap.size wv w4) := by
              have ba := ((Below.refl wr.heap.size wr).alloc (Nat.le_refl _) (.cells #[.int .i64 x] 3))
              exact ⟨below_fr (BB.out.1.trans (ba.mono BB.out.1.size)) (Nat.le_refl _) hf fun g e => Nat.le_trans BW.out.size (HF.out.2 g e), below_fr (BB.out.2.trans (ba.mono BB.out.2.size)) (Nat.le_refl _) hf HF.out.2⟩
            have X2 : Hid (Own il 1 3 w4 (.slice (some ⟨g, 0, none⟩) (pl.length + 1) cap') ((F.take (j + 1)).filter (dropI tx)) ∧ ∀ g', (Value.slice (some ⟨g, 0, none⟩) (pl.length + 1) cap').ownBlock = some g' → wv.heap.size ≤ g') := by
              refine ⟨by rw [NX.out (by simp [dropI, hx])]; exact ho, fun g' e => ?_⟩
              have e' : g = g' := by simpa [Value.ownBlock] using e
              subst e'
              rcases hat with q' | q'
              · exact HF.out.2 g q'
              · have := BB.out.2.size
                have q2' : wr.heap.size + 1 ≤ g := by simpa using q'
                omega
            go_wp2
            go_roundw
            case rel => exact ⟨j + 1, by omega, by go_num, X1, X2⟩
            case measure => simp [intOf]; omega
        · have hji : ¬ (j : Int) < (F.length : Int) := by omega
          have hkk : Hid (F.take j = F) := by show _ = _; rw [show j = F.length by omega, List.take_length]
          rw [hkk.out] at HF
          clear hkk
          have OL : Hid (Own ll 4 92 wr u4 (L.filter (dropB tx))) := own_below HO.out.1 BB.out.2
          obtain ⟨a4, c4, hv4, -, -, -⟩ := OL.out.rd ll_len
          obtain ⟨a6, c6, hv6, -, -, -⟩ := HF.out.1.rd il_len
          generalize hL4 : (L.filter (dropB tx)).length = n4 at hv4
          generalize hL6 : (F.filter (dropI tx)).length = n6 at hv6
          subst hv4
          subst hv6
          have hbx : wr.heap[d]? = some (.cells #[.int .i64 m, vl, vf] 71 (0, 0)) := (H0.out.below BB.out.1).box
          have HBX : Hid (wr.heap[d]? = some (.cells #[.int .i64 m, vl, vf] 71 (0, 0))) := hbx
          have g0 := Sh.free (n := 3) ⟨_, hbx, rfl⟩ 1
          have g1 := Sh.free (n := 3) ⟨_, hbx, rfl⟩ 2
          clear hbx hL4 hL6
          go_wp2
          go_end0
          have f1 := fr_set wr d 1 (.slice a4 n4 c4)
          have f2 := fr_set (wr.setCell ⟨d, 1, none⟩ (.slice a4 n4 c4)) d 2 (.slice a6 n6 c6)
          have hd := H0.out.lt
          have n4' : ∀ g, (Value.slice a4 n4 c4).ownBlock = some g → w.heap.size ≤ g := HO.out.2
          have n6' : ∀ g, (Value.slice a6 n6 c6).ownBlock = some g → wv.heap.size ≤ g := HF.out.2
          have sv := BW.out.size
          refine ⟨rfl, .slice a4 n4 c4, .slice a6 n6 c6, ⟨?_, ?_, ?_, fun e => absurd hd (by have := n4' d e; omega), fun e => absurd hd (by have := n6' d e; omega), fun g e1 e2 => ?_⟩, ?_, fun g e => e.elim (n4' g) (fun q => Nat.le_trans sv (n6' g q))⟩
          · simp [World.setCell, Array.getElem?_modify, HBX.out]
          · exact (OL.out.fr f1 fun g e q => absurd hd (by have := n4' g e; omega)).fr f2 fun g e q => absurd hd (by have := n4' g e; omega)
          · exact (HF.out.1.fr f1 fun g e q => absurd hd (by have := n6' g e; omega)).fr f2 fun g e q => absurd hd (by have := n6' g e; omega)
          · have := HO.out.1.lt e1
            have := n6' g e2
            omega
          · exact ((Fr.of_below (D := fun b => b = d) BB.out.1).trans f1 fun g _ e => e).trans f2 fun g _ e => e
end Go.Proofs.Ytlagmbieaicmgaa
