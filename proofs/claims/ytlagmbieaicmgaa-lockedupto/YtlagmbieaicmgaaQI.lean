/- The document's own table: who is wounded; who waits for whom. -/
import Derived.Test.YtlagmbieaicmgaaQH
namespace Go.Proofs.Ytlagmbieaicmgaa
open Go.RowKit Lk Go.Shelf

/-- Two records that are read, each in a block, and the list's own cell. -/
abbrev BbS (d b ok b' oi : Nat) (v : Value) (p q : L4) (w : World) : Prop :=
  w.cell? ⟨d, 1, none⟩ = some v ∧ (w.cell? ⟨b, ok, none⟩ = some (.int .i64 p.tx) ∧ w.cell? ⟨b, ok + 1, none⟩ = some (.int .i64 p.key) ∧ w.cell? ⟨b, ok + 2, none⟩ = some (.bool p.wr) ∧ w.cell? ⟨b, ok + 3, none⟩ = some (.bool p.wt)) ∧
    w.cell? ⟨b', oi, none⟩ = some (.int .i64 q.tx) ∧ w.cell? ⟨b', oi + 1, none⟩ = some (.int .i64 q.key) ∧ w.cell? ⟨b', oi + 2, none⟩ = some (.bool q.wr) ∧ w.cell? ⟨b', oi + 3, none⟩ = some (.bool q.wt)
theorem BbS.below {d b ok b' oi : Nat} {v : Value} {p q : L4} {w w' : World} (h : BbS d b ok b' oi v p q w) (hb : Below w.heap.size w w') : BbS d b ok b' oi v p q w' :=
  ⟨cell_below h.1 hb, ⟨cell_below h.2.1.1 hb, cell_below h.2.1.2.1 hb, cell_below h.2.1.2.2.1 hb, cell_below h.2.1.2.2.2 hb⟩, cell_below h.2.2.1 hb, cell_below h.2.2.2.1 hb, cell_below h.2.2.2.2.1 hb, cell_below h.2.2.2.2.2 hb⟩
abbrev BbB (W0 : World) (d b ok b' oi : Nat) (v : Value) (p q : L4) (w : World) : Prop := BbS d b ok b' oi v p q w ∧ Below W0.heap.size W0 w
theorem BbB.below {W0 : World} {d b ok b' oi : Nat} {v : Value} {p q : L4} {w w' : World} (h : BbB W0 d b ok b' oi v p q w) (hb : Below w.heap.size w w') : BbB W0 d b ok b' oi v p q w' := ⟨BbS.below h.1 hb, h.2.trans (hb.mono h.2.size)⟩

def inK (a : L4) (x : Int) (l : L4) : Bool := wayB l a && (decide (l.tx = x) && !l.wt)
theorem inW_eq (L : List L4) (a : L4) (x : Int) : inW L a x = L.any (inK a x) := rfl
theorem inW_next {L : List L4} {a : L4} {x : Int} {k : Nat} (hk : k < L.length) : inW (L.take (k + 1)) a x = (inW (L.take k) a x || inK a x L[k]) := any_next hk
theorem woundR_succ (L : List L4) (F : List Int) (a : L4) (n : Nat) (T : Int) (hT : T = a.tx + 1 + (n : Int)) : woundR L F a (n + 1) = woundR L F a n ++ if inW L a T && !firmB F T then [T] else [] := by
  unfold woundR
  rw [rangeI_succ, List.filter_append, ← hT]
  congr 1
  simp [List.filter_cons]
theorem woundR_len (L : List L4) (F : List Int) (a : L4) (n : Nat) : (woundR L F a n).length ≤ n := by
  unfold woundR
  refine Nat.le_trans (List.length_filter_le _ _) ?_
  simp [rangeI]

set_option maxRecDepth 20000 in
set_option maxHeartbeats 8000000 in
theorem rwounded_any (w : World) (d : Nat) (m : Int) (L : List L4) (F : List Int) (vl vf : Value) (a : L4) (h : RLd w d m L F vl vf) (hn : L.length ≤ 1000) (hf : F.length ≤ 1000) (ha1 : 1 ≤ a.tx) (ha2 : a.tx ≤ 1000) :
    Calls Try.prog 43 #[.pointer (some ⟨d, 0, none⟩), l4V a] w fun e w' => ∃ v, e = .returned v ∧ Own il 1 3 w' v (woundR L F a (1000 - a.tx).toNat) ∧ Below w.heap.size w w' ∧ ∀ g, v.ownBlock = some g → w.heap.size ≤ g := by
  obtain ⟨ao, cap, hv, hr, _, _⟩ := h.l.rd ll_len
  obtain ⟨ax, ay, az, at'⟩ := a
  have HC : Hid (∀ W, Below w.heap.size w W → W.cell? ⟨d, 1, none⟩ = some (.slice ao L.length cap)) := fun W hW => by rw [← hv]; exact (h.below hW).cells.1
  have RL : Hid (Rd ll 4 w ao L) := hr
  have H0 : Hid (RLd w d m L F vl vf) := h
  clear h hv hr
  have ha1' : 1 ≤ ax := ha1
  have ha2' : ax ≤ 1000 := ha2
  clear ha1 ha2
  obtain ⟨W0, hW0⟩ : ∃ W0, W0 = w.alloc (.cells #[.int .i64 ax, .int .i64 ay, .bool az, .bool at'] 92) := ⟨_, rfl⟩
  have B0 : Hid (Below w.heap.size w W0 ∧ W0.heap[w.heap.size]? = some (.cells #[.int .i64 ax, .int .i64 ay, .bool az, .bool at'] 92 (0, 0))) := by
    rw [hW0]
    exact ⟨(Below.refl _ _).alloc (Nat.le_refl _) _, heap_new _ _⟩
  go_enter Try.func43, Try.ntmps43
  go_wp2
  rw [← hW0]
  clear hW0
  go_loopw [5, 6, 7, 8, 9, 10] (fun s5 s6 _ _ _ _ wr => ∃ T : Int, ax + 1 ≤ T ∧ T ≤ 1001 ∧ s6 = .int .i64 T ∧ Hid (Below w.heap.size w wr ∧ wr.heap[w.heap.size]? = some (.cells #[.int .i64 ax, .int .i64 ay, .bool az, .bool at'] 92 (0, 0))) ∧ Hid (Own il 1 3 wr s5 (woundR L F ⟨ax, ay, az, at'⟩ (T - (ax + 1)).toNat) ∧ ∀ g, s5.ownBlock = some g → w.heap.size < g)) (fun _ s6 _ _ _ _ _ => 1001 - (intOf s6).toNat)
  case atStart => exact ⟨ax + 1, by omega, by omega, rfl, B0, by rw [show (ax + 1 - (ax + 1)).toNat = 0 by omega]; exact Own.nil _ _ _ _, fun g e => by simp [Value.ownBlock] at e⟩
  case round =>
    obtain ⟨T, hT1, hT2, rfl, BX, HO⟩ := hrel
    clear B0
    by_cases hT : T ≤ 1000
    · have hfi := rfirm_any wr d m L F vl vf T (H0.out.below BX.out.1) (by omega)
      have HFI : Hid (firmB F T = firmB F T) := rfl
      generalize hfb : firmB F T = fb at hfi
      have HFB : Hid (firmB F T = fb) := hfb
      clear hfb HFI
      go_wp2_with fail
      refine hfi.mono ?_
      rintro e wv ⟨rfl, hbv⟩
      have BV : Hid (Below w.heap.size w wv ∧ wv.heap[w.heap.size]? = some (.cells #[.int .i64 ax, .int .i64 ay, .bool az, .bool at'] 92 (0, 0))) := ⟨BX.out.1.trans (hbv.mono BX.out.1.size), by rw [hbv.block _ (Array.getElem?_eq_some_iff.1 BX.out.2).1]; exact BX.out.2⟩
      have OV : Hid (Own il 1 3 wv u5 (woundR L F ⟨ax, ay, az, at'⟩ (T - (ax + 1)).toNat) ∧ ∀ g, u5.ownBlock = some g → w.heap.size < g) := ⟨own_below HO.out.1 hbv, HO.out.2⟩
      clear hbv hfi BX HO
      clear wr
      go_wp2
      go_loopw [8, 9, 10] (fun s8 s9 _ wr => ∃ k : Nat, k ≤ L.length ∧ s9 = .int .i64 k ∧ s8 = .bool (inW (L.take k) ⟨ax, ay, az, at'⟩ T) ∧ Hid (Below wv.heap.size wv wr)) (fun _ s9 _ _ => L.length - (intOf s9).toNat)
      case atStart => exact ⟨0, Nat.zero_le _, rfl, rfl, Below.refl _ _⟩
      case round =>
        obtain ⟨k, hk, rfl, rfl, BW⟩ := hrel
        have BW1 : Hid (Below w.heap.size w wr) := BV.out.1.trans (BW.out.mono BV.out.1.size)
        have c1 := HC.out wr BW1.out
        by_cases hlt : k < L.length
        · obtain ⟨b, off, rfl, hb, hc⟩ := RL.out.resolve_left (by intro e; rw [e] at hlt; simp at hlt)
          have hcr := hc.block (BW1.out.block b hb)
          have hbx : wr.heap[w.heap.size]? = some (.cells #[.int .i64 ax, .int .i64 ay, .bool az, .bool at'] 92 (0, 0)) := by rw [BW.out.block _ (Array.getElem?_eq_some_iff.1 BV.out.2).1]; exact BV.out.2
          have s0 : BbS d b (off + k * 4) w.heap.size 0 (.slice (some ⟨b, off, none⟩) L.length cap) L[k] ⟨ax, ay, az, at'⟩ wr := by
            refine ⟨c1, ⟨hcr k hlt 0 _ rfl, hcr k hlt 1 _ rfl, hcr k hlt 2 _ rfl, hcr k hlt 3 _ rfl⟩, ?_, ?_, ?_, ?_⟩ <;> (rw [cell_of_heap hbx]; rfl)
          have hki : (k : Int) < (L.length : Int) := by omega
          have NX : Hid (inW (L.take (k + 1)) ⟨ax, ay, az, at'⟩ T = (inW (L.take k) ⟨ax, ay, az, at'⟩ T || inK ⟨ax, ay, az, at'⟩ T L[k])) := inW_next hlt
          clear hcr hc hbx
          generalize L[k] = l at *
          obtain ⟨x1, y1, z1, t1⟩ := l
          generalize inW (L.take k) ⟨ax, ay, az, at'⟩ T = cb at *
          have HIK : Hid (inK ⟨ax, ay, az, at'⟩ T ⟨x1, y1, z1, t1⟩ = (wayB ⟨x1, y1, z1, t1⟩ ⟨ax, ay, az, at'⟩ && (decide (x1 = T) && !t1))) := rfl
          have hwy := way_any ⟨x1, y1, z1, t1⟩ ⟨ax, ay, az, at'⟩
          generalize wayB ⟨x1, y1, z1, t1⟩ ⟨ax, ay, az, at'⟩ = g at *
          generalize inK ⟨ax, ay, az, at'⟩ T ⟨x1, y1, z1, t1⟩ = ik at *
          have sB : BbB wv d b (off + k * 4) w.heap.size 0 (.slice (some ⟨b, off, none⟩) L.length cap) ⟨x1, y1, z1, t1⟩ ⟨ax, ay, az, at'⟩ wr.drew := ⟨s0, below_dr BW.out⟩
          go_wp2_with fail
          go_region_held3 (fun w' => BbB wv d b (off + k * 4) w.heap.size 0 (.slice (some ⟨b, off, none⟩) L.length cap) ⟨x1, y1, z1, t1⟩ ⟨ax, ay, az, at'⟩ w') (first | exact sB | (refine BbB.below ?_ (by assumption); assumption)) (first | (go_at_call 60; refine (hwy _).mono ?_; rintro e w2 ⟨rfl, hb2⟩))
          obtain ⟨S2, BW2'⟩ : BbB wv d b (off + k * 4) w.heap.size 0 (.slice (some ⟨b, off, none⟩) L.length cap) ⟨x1, y1, z1, t1⟩ ⟨ax, ay, az, at'⟩ w2 := by assumption
          have BW2 : Hid (Below wv.heap.size wv w2) := BW2'
          obtain ⟨c1', ⟨p0, p1, p2, p3⟩, -⟩ := S2
          clear sB s0 c1 BW2' hb2 hwy p1 p2
          go_wp2
          all_goals
            go_roundw
            case rel => exact ⟨k + 1, by omega, by go_num, by rw [NX.out, HIK.out]; simp [*], BW2⟩
            case measure => simp [intOf]; omega
        · have hki : ¬ (k : Int) < (L.length : Int) := by omega
          have hkk : Hid (L.take k = L) := by show _ = _; rw [show k = L.length by omega, List.take_length]
          have hLN : Hid ((woundR L F ⟨ax, ay, az, at'⟩ (T - (ax + 1)).toNat).length ≤ 1000) := Nat.le_trans (woundR_len _ _ _ _) (by omega)
          have WS : Hid (woundR L F ⟨ax, ay, az, at'⟩ (T + 1 - (ax + 1)).toNat = woundR L F ⟨ax, ay, az, at'⟩ (T - (ax + 1)).toNat ++ if inW L ⟨ax, ay, az, at'⟩ T && !fb then [T] else []) := by
            show _ = _
            rw [← HFB.out, show (T + 1 - (ax + 1)).toNat = (T - (ax + 1)).toNat + 1 by omega]
            exact woundR_succ L F ⟨ax, ay, az, at'⟩ _ T (by show T = ax + 1 + _; omega)
          have BXr : Hid (Below w.heap.size w wr ∧ wr.heap[w.heap.size]? = some (.cells #[.int .i64 ax, .int .i64 ay, .bool az, .bool at'] 92 (0, 0))) := ⟨BW1.out, by rw [BW.out.block _ (Array.getElem?_eq_some_iff.1 BV.out.2).1]; exact BV.out.2⟩
          have OR : Hid (Own il 1 3 wr u5 (woundR L F ⟨ax, ay, az, at'⟩ (T - (ax + 1)).toNat) ∧ ∀ g, u5.ownBlock = some g → w.heap.size < g) := ⟨own_below OV.out.1 BW.out, OV.out.2⟩
          rw [hkk.out]
          clear hkk
          generalize inW L ⟨ax, ay, az, at'⟩ T = ib at *
          generalize woundR L F ⟨ax, ay, az, at'⟩ (T - (ax + 1)).toNat = pl at *
          have SKIP : Hid ((ib && !fb) = false → Own il 1 3 wr u5 (woundR L F ⟨ax, ay, az, at'⟩ (T + 1 - (ax + 1)).toNat) ∧ ∀ g, u5.ownBlock = some g → w.heap.size < g) := fun e => by
            rw [WS.out, e]
            exact ⟨by simpa using OR.out.1, OR.out.2⟩
          clear BW BV OV
          cases ib
          · have S1 : Hid _ := SKIP.out rfl
            go_wp2
            go_roundw
            case rel => exact ⟨T + 1, by omega, by omega, rfl, BXr, S1⟩
            case measure => simp [intOf]; omega
          · cases fb
            · have O3 : Hid (Own il 1 3 (wr.alloc (.cells #[.int .i64 T] 3)) u5 pl) := own_below OR.out.1 ((Below.refl _ _).alloc (Nat.le_refl _) _)
              go_wp2_with (at_builtin; refine app_list el_int _ rfl _ _ rfl u5 pl rfl O3.out (wr.heap.size) T #[.int .i64 T] 3 rfl (heap_new _ _) rfl (by have := hLN.out; omega) ?_)
              intro g cap' w4 ho hf' hat hgl
              have ba := ((Below.refl wr.heap.size wr).alloc (Nat.le_refl _) (.cells #[.int .i64 T] 3))
              have hsz : w.heap.size < wr.heap.size := (Array.getElem?_eq_some_iff.1 BXr.out.2).1
              have X1 : Hid (Below w.heap.size w w4 ∧ w4.heap[w.heap.size]? = some (.cells #[.int .i64 ax, .int .i64 ay, .bool az, .bool at'] 92 (0, 0))) := by
                refine ⟨below_fr (BXr.out.1.trans (ba.mono BXr.out.1.size)) (Nat.le_refl _) hf' fun g' e => Nat.le_of_lt (OR.out.2 g' e), ?_⟩
                rw [hf'.block _ (Nat.lt_of_lt_of_le hsz ba.size) (fun e => by have := OR.out.2 _ e; omega), ba.block _ hsz]
                exact BXr.out.2
              have X2 : Hid (Own il 1 3 w4 (.slice (some ⟨g, 0, none⟩) (pl.length + 1) cap') (woundR L F ⟨ax, ay, az, at'⟩ (T + 1 - (ax + 1)).toNat) ∧ ∀ g', (Value.slice (some ⟨g, 0, none⟩) (pl.length + 1) cap').ownBlock = some g' → w.heap.size < g') := by
                refine ⟨by rw [WS.out]; exact ho, fun g' e => ?_⟩
                have e' : g = g' := by simpa [Value.ownBlock] using e
                subst e'
                rcases hat with q | q
                · exact OR.out.2 g q
                · have q' : wr.heap.size + 1 ≤ g := by simpa using q
                  omega
              clear ho hf' hat ba hsz
              go_wp2
              go_roundw
              case rel => exact ⟨T + 1, by omega, by omega, rfl, X1, X2⟩
              case measure => simp [intOf]; omega
            · have S1 : Hid _ := SKIP.out rfl
              go_wp2
              go_roundw
              case rel => exact ⟨T + 1, by omega, by omega, rfl, BXr, S1⟩
              case measure => simp [intOf]; omega
    · have eT : T = 1001 := by omega
      have X2 : Hid (Own il 1 3 wr u5 (woundR L F ⟨ax, ay, az, at'⟩ (1000 - ax).toNat) ∧ ∀ g, u5.ownBlock = some g → w.heap.size < g) := by
        have := HO.out
        rw [eT, show (1001 - (ax + 1)).toNat = (1000 - ax).toNat by omega] at this
        exact this
      clear eT
      go_wp2
      go_ret
      exact ⟨_, rfl, X2.out.1, BX.out.1, fun g e => Nat.le_of_lt (X2.out.2 g e)⟩

def betK (x o : Int) (i k : L4) : Bool := (decide (i.tx = x) && (i.wt && decide (k.tx = o))) && (wayB k i && (!k.wt || decide (o < x)))
theorem betB_eq (L : List L4) (x o : Int) : betB L x o = L.any fun i => L.any (betK x o i) := rfl
theorem bet_hit {L : List L4} {x o : Int} {i k : Nat} (hi : i < L.length) (hk : k < L.length) (h : betK x o L[i] L[k] = true) : betB L x o = true := by
  rw [betB_eq]
  exact any_hit hi (any_hit hk h)
theorem bet_miss {L : List L4} {x o : Int} (h : ∀ i (hi : i < L.length) k (hk : k < L.length), betK x o L[i] L[k] = false) : betB L x o = false := by
  rw [betB_eq]
  exact any_miss fun i hi => any_miss fun k hk => h i hi k hk

set_option maxRecDepth 20000 in
set_option maxHeartbeats 8000000 in
theorem rbetween_any (w : World) (d : Nat) (m : Int) (L : List L4) (F : List Int) (vl vf : Value) (x o : Int) (h : RLd w d m L F vl vf) (hn : L.length ≤ 1000) :
    Calls Try.prog 47 #[.pointer (some ⟨d, 0, none⟩), .int .i64 x, .int .i64 o] w fun e w' => e = .returned (.bool (betB L x o)) ∧ Below w.heap.size w w' := by
  obtain ⟨ao, cap, hv, hr, _, _⟩ := h.l.rd ll_len
  have HC : Hid (∀ W, Below w.heap.size w W → W.cell? ⟨d, 1, none⟩ = some (.slice ao L.length cap)) := fun W hW => by rw [← hv]; exact (h.below hW).cells.1
  have RL : Hid (Rd ll 4 w ao L) := hr
  clear h hv hr
  go_enter Try.func47, Try.ntmps47
  go_wp2
  go_loopw [7, 8, 9] (fun s7 _ _ wr => ∃ i : Nat, i ≤ L.length ∧ s7 = .int .i64 i ∧ Hid (Below w.heap.size w wr) ∧ Hid (∀ j (hj : j < L.length), j < i → ∀ k (hk : k < L.length), betK x o L[j] L[k] = false)) (fun s7 _ _ _ => L.length - (intOf s7).toNat)
  case atStart => exact ⟨0, Nat.zero_le _, rfl, Below.refl _ _, fun j _ h => absurd h (Nat.not_lt_zero _)⟩
  case round =>
    obtain ⟨i, hi, rfl, BW, NB⟩ := hrel
    have c1 := HC.out wr BW.out
    by_cases hil : i < L.length
    · have hii : (i : Int) < (L.length : Int) := by omega
      generalize wr = wv at *
      go_wp2
      go_loopw [8, 9] (fun s8 _ wr => ∃ k : Nat, k ≤ L.length ∧ s8 = .int .i64 k ∧ Hid (Below w.heap.size w wr) ∧ Hid (∀ j (hj : j < L.length), j < k → betK x o L[i] L[j] = false)) (fun s8 _ _ => L.length - (intOf s8).toNat)
      case atStart => exact ⟨0, Nat.zero_le _, rfl, BW, fun j _ h => absurd h (Nat.not_lt_zero _)⟩
      case round =>
        clear c1 BW
        obtain ⟨k, hk, rfl, BW, NK⟩ := hrel
        have c1 := HC.out wr BW.out
        by_cases hlt : k < L.length
        · obtain ⟨b, off, rfl, hb, hc⟩ := RL.out.resolve_left (by intro e; rw [e] at hlt; simp at hlt)
          have hcr := hc.block (BW.out.block b hb)
          have s0 : BaS d b (off + k * 4) (off + i * 4) (.slice (some ⟨b, off, none⟩) L.length cap) L[k] L[i] wr := ⟨c1, ⟨hcr k hlt 0 _ rfl, hcr k hlt 1 _ rfl, hcr k hlt 2 _ rfl, hcr k hlt 3 _ rfl⟩, hcr i hil 0 _ rfl, hcr i hil 1 _ rfl, hcr i hil 2 _ rfl, hcr i hil 3 _ rfl⟩
          have hki : (k : Int) < (L.length : Int) := by omega
          have NO : Hid (betK x o L[i] L[k] = false → ∀ j (hj : j < L.length), j < k + 1 → betK x o L[i] L[j] = false) := fun e j hj hjk => by
            by_cases ej : j = k
            · subst ej; exact e
            · exact NK.out j hj (by omega)
          have YES : Hid (betK x o L[i] L[k] = true → betB L x o = true) := bet_hit hil hlt
          clear hcr hc NK NB
          generalize L[k] = p at *
          generalize L[i] = q at *
          obtain ⟨x1, y1, z1, t1⟩ := p
          obtain ⟨x2, y2, z2, t2⟩ := q
          have HBK : Hid (betK x o ⟨x2, y2, z2, t2⟩ ⟨x1, y1, z1, t1⟩ = ((decide (x2 = x) && (t2 && decide (x1 = o))) && (wayB ⟨x1, y1, z1, t1⟩ ⟨x2, y2, z2, t2⟩ && (!t1 || decide (o < x))))) := rfl
          have hwy := way_any ⟨x1, y1, z1, t1⟩ ⟨x2, y2, z2, t2⟩
          generalize wayB ⟨x1, y1, z1, t1⟩ ⟨x2, y2, z2, t2⟩ = g at *
          generalize betK x o ⟨x2, y2, z2, t2⟩ ⟨x1, y1, z1, t1⟩ = bk at *
          by_cases hq : x2 = x ∧ t2 = true ∧ x1 = o
          · obtain ⟨hx2, ht2, hx1⟩ := hq
            subst ht2
            have HBK2 : Hid (bk = (g && (!t1 || decide (o < x)))) := by
              show _ = _
              rw [HBK.out]
              simp [hx1, hx2]
            have sB : BaB w d b (off + k * 4) (off + i * 4) (.slice (some ⟨b, off, none⟩) L.length cap) ⟨x1, y1, z1, t1⟩ ⟨x2, y2, z2, true⟩ wr.drew := ⟨s0, below_dr BW.out⟩
            obtain ⟨c1', ⟨p0, p1, p2, p3⟩, q0, q1, q2, q3⟩ := s0
            clear HBK
            subst x2
            subst x1
            go_wp2_with fail
            go_region_held3 (fun w' => BaB w d b (off + k * 4) (off + i * 4) (.slice (some ⟨b, off, none⟩) L.length cap) ⟨o, y1, z1, t1⟩ ⟨x, y2, z2, true⟩ w') (first | exact sB | (refine BaB.below ?_ (by assumption); assumption)) (first | (go_at_call 60; refine (hwy _).mono ?_; rintro e w2 ⟨rfl, hb2⟩))
            obtain ⟨S2, BW2'⟩ : BaB w d b (off + k * 4) (off + i * 4) (.slice (some ⟨b, off, none⟩) L.length cap) ⟨o, y1, z1, t1⟩ ⟨x, y2, z2, true⟩ w2 := by assumption
            have BW2 : Hid (Below w.heap.size w w2) := BW2'
            clear p0 p1 p2 p3 q0 q1 q2 q3 c1' c1
            obtain ⟨c1', ⟨p0, p1, p2, p3⟩, -⟩ := S2
            clear sB BW2' hb2 hwy p1 p2
            cases g
            · have N2 : Hid (∀ j (hj : j < L.length), j < k + 1 → betK x o ⟨x, y2, z2, true⟩ L[j] = false) := NO.out (by rw [HBK2.out]; rfl)
              clear HBK2 NO YES
              go_wp2
              go_roundw
              case rel => exact ⟨k + 1, by omega, by go_num, BW2, N2⟩
              case measure => simp [intOf]; omega
            · cases t1
              · have Y2 : Hid (betB L x o = true) := YES.out (by rw [HBK2.out]; rfl)
                clear HBK2 NO YES
                go_wp2
                go_ret
                exact ⟨by rw [Y2.out]; rfl, BW2.out⟩
              · by_cases hox : o < x
                · have Y2 : Hid (betB L x o = true) := YES.out (by rw [HBK2.out]; simpa using hox)
                  clear HBK2 NO YES
                  go_wp2
                  go_ret
                  exact ⟨by rw [Y2.out]; rfl, BW2.out⟩
                · have N2 : Hid (∀ j (hj : j < L.length), j < k + 1 → betK x o ⟨x, y2, z2, true⟩ L[j] = false) := NO.out (by rw [HBK2.out]; simpa using hox)
                  clear HBK2 NO YES
                  go_wp2
                  go_roundw
                  case rel => exact ⟨k + 1, by omega, by go_num, BW2, N2⟩
                  case measure => simp [intOf]; omega
          · have hbk : bk = false := by
              rw [HBK.out, Bool.eq_false_iff]
              intro e
              rw [Bool.and_eq_true, Bool.and_eq_true, Bool.and_eq_true] at e
              exact hq ⟨by simpa using e.1.1, e.1.2.1, by simpa using e.1.2.2⟩
            have N2 : Hid _ := NO.out hbk
            obtain ⟨c1', ⟨p0, p1, p2, p3⟩, q0, q1, q2, q3⟩ := s0
            clear NO YES HBK hwy p1 p2 q1 q2 p3
            by_cases hx2 : x2 = x
            · cases t2
              · clear hq
                go_wp2
                go_roundw
                case rel => exact ⟨k + 1, by omega, by go_num, BW, N2⟩
                case measure => simp [intOf]; omega
              · have hx1 : ¬ x1 = o := fun e => hq ⟨hx2, rfl, e⟩
                clear hq
                go_wp2
                go_roundw
                case rel => exact ⟨k + 1, by omega, by go_num, BW, N2⟩
                case measure => simp [intOf]; omega
            · clear hq
              go_wp2
              go_roundw
              case rel => exact ⟨k + 1, by omega, by go_num, BW, N2⟩
              case measure => simp [intOf]; omega
        · have hki : ¬ (k : Int) < (L.length : Int) := by omega
          have N2 : Hid (∀ j (hj : j < L.length), j < i + 1 → ∀ k (hk : k < L.length), betK x o L[j] L[k] = false) := fun j hj hji => by
            by_cases ej : j = i
            · subst ej; exact fun k' hk' => NK.out k' hk' (by omega)
            · exact NB.out j hj (by omega)
          clear NB NK
          go_wp2
          go_roundw
          case rel => exact ⟨i + 1, by omega, by go_num, BW, N2⟩
          case measure => simp [intOf]; omega
    · have hii : ¬ (i : Int) < (L.length : Int) := by omega
      have HZ : Hid (betB L x o = false) := bet_miss fun j hj => NB.out j hj (by omega)
      go_wp2
      go_ret
      exact ⟨by rw [HZ.out]; rfl, BW.out⟩
end Go.Proofs.Ytlagmbieaicmgaa
