/- Tables of locks: the calls of package pact. -/
import Derived.Test.YtlagmbieaicmgaaLV
namespace Go.Proofs.Ytlagmbieaicmgaa
open Go.RowKit Lk Go.Shelf

structure Fit (t : T4) : Prop where
  len : t.held.length + t.waits.length ≤ 24
  prep : t.prep.length ≤ 1000
  psort : t.prep.Pairwise (· ≤ ·)
  sorted : Sorted t.waits
  small : Small t.waits
  m0 : 0 ≤ t.most
  m1 : t.most ≤ 24

theorem owner_any (x : Int) (w : World) : Calls Try.prog 33 #[.int .i64 x] w fun e w' => e = .returned (.bool (decide (1 ≤ x) && decide (x ≤ 1000))) ∧ w' = w := by
  go_enter Try.func33, Try.ntmps33
  by_cases h : 1 ≤ x
  · go_wp2
    go_ret
    exact ⟨by simp [h], rfl⟩
  · go_wp2
    go_ret
    exact ⟨by simp; omega, rfl⟩

set_option maxHeartbeats 2000000 in
theorem grants_any (ao : Option Addr) (cap : Nat) (gt : List G) (w : World) (hr : Rd gl 2 w ao gt) (hn : gt.length ≤ 1000) :
    Calls Try.prog 35 #[.slice ao gt.length cap] w fun e w' => ∃ v, e = .returned v ∧ Own gl 2 79 w' v gt ∧ Below w.heap.size w w' ∧ ∀ g, v.ownBlock = some g → w.heap.size ≤ g := by
  have RW : Hid (Rd gl 2 w ao gt) := hr
  clear hr
  go_enter Try.func35, Try.ntmps35
  go_wp2
  go_loopw [3, 5, 8] (fun s3 _ s8 wr => ∃ k : Nat, s8 = .int .i64 k ∧ k ≤ gt.length ∧ Hid (Below w.heap.size w wr) ∧ Hid (Own gl 2 79 wr s3 (gt.take k) ∧ ∀ g, s3.ownBlock = some g → w.heap.size ≤ g)) (fun _ _ s8 _ => gt.length - (intOf s8).toNat)
  case atStart => exact ⟨0, rfl, Nat.zero_le _, Below.refl _ _, Own.nil _ _ _ _, fun g e => by simp [Value.ownBlock] at e⟩
  case round =>
    obtain ⟨k, rfl, hk, HF, HO⟩ := hrel
    by_cases hlt : k < gt.length
    · obtain ⟨b, off, rfl, hb, hc⟩ := RW.out.resolve_left (by intro e; rw [e] at hlt; simp at hlt)
      have hcr := hc.block (HF.out.block b hb)
      have q0 := hcr k hlt 0 _ rfl
      have q1 := hcr k hlt 1 _ rfl
      rw [Nat.add_zero] at q0
      clear hcr hc
      have hki : (k : Int) < (gt.length : Int) := by omega
      have TN : Hid (gt.take (k + 1) = gt.take k ++ [gt[k]]) := take_next hlt
      generalize gt[k] = d at *
      obtain ⟨p, q⟩ := d
      have B2 : Hid (Below wr.heap.size wr ((wr.alloc (.cells #[.int .i64 p, .int .i64 q] 102)).alloc (.cells #[.int .i64 p, .int .i64 q] 79))) := ((Below.refl _ _).alloc (Nat.le_refl _) _).alloc (by simp) _
      have O3 : Hid (Own gl 2 79 ((wr.alloc (.cells #[.int .i64 p, .int .i64 q] 102)).alloc (.cells #[.int .i64 p, .int .i64 q] 79)) u3 (gt.take k)) := own_below HO.out.1 B2.out
      have HB : Hid (((wr.alloc (.cells #[.int .i64 p, .int .i64 q] 102)).alloc (.cells #[.int .i64 p, .int .i64 q] 79)).heap[wr.heap.size + 1]? = some (.cells #[.int .i64 p, .int .i64 q] 79 (0, 0))) := by
        have := heap_new (wr.alloc (.cells #[.int .i64 p, .int .i64 q] 102)) (.cells #[.int .i64 p, .int .i64 q] 79)
        show _ = _
        simpa using this
      have hlk : Hid ((gt.take k).length ≤ 1000) := by show _ ≤ _; rw [List.length_take]; omega
      obtain ⟨pl, hpl⟩ : ∃ pl, pl = gt.take k := ⟨_, rfl⟩
      rw [← hpl] at HO O3 hlk TN
      clear hpl
      go_wp2_with (at_builtin; refine app_list el_agrant _ rfl _ _ rfl u3 pl rfl O3.out (wr.heap.size + 1) ⟨p, q⟩ #[.int .i64 p, .int .i64 q] 79 rfl HB.out rfl (by have := hlk.out; omega) ?_)
      intro g cap' w4 ho hf hat hgl
      have X1 : Hid (Below w.heap.size w w4) := below_fr (HF.out.trans (B2.out.mono HF.out.size)) (Nat.le_refl _) hf HO.out.2
      have X2 : Hid (Own gl 2 79 w4 (.slice (some ⟨g, 0, none⟩) (pl.length + 1) cap') (gt.take (k + 1)) ∧ ∀ g', (Value.slice (some ⟨g, 0, none⟩) (pl.length + 1) cap').ownBlock = some g' → w.heap.size ≤ g') := by
        refine ⟨by rw [TN.out]; exact ho, fun g' e => ?_⟩
        have e' : g = g' := by simpa [Value.ownBlock] using e
        subst e'
        rcases hat with q' | q'
        · exact HO.out.2 g q'
        · have := HF.out.size
          have q2' : wr.heap.size + 1 + 1 ≤ g := by simpa using q'
          omega
      go_wp2
      go_roundw
      case rel => exact ⟨k + 1, by go_num, by omega, X1, X2⟩
      case measure => simp [intOf]; omega
    · have hki : ¬ (k : Int) < (gt.length : Int) := by omega
      have hkk : Hid (gt.take k = gt) := by show _ = _; rw [show k = gt.length by omega, List.take_length]
      rw [hkk.out] at HO
      go_wp2
      go_ret
      exact ⟨_, rfl, HO.out.1, HF.out, HO.out.2⟩

/-- What is there behind a Take of package pact. -/
def PTook (w : World) (a : Nat) (D : Nat → Prop) (r : Ans) (vu vg : Value) (w' : World) : Prop :=
  Own il 1 3 w' vu r.hurt ∧ Own gl 2 79 w' vg r.got ∧ ∃ E, TT w' a r.t E ∧ Fr D w w' ∧ (∀ g, E g → D g ∨ w.heap.size ≤ g) ∧ (∀ g, vu.ownBlock = some g → w.heap.size ≤ g ∧ ¬ E g) ∧ (∀ g, vg.ownBlock = some g → w.heap.size ≤ g ∧ ¬ E g ∧ vu.ownBlock ≠ some g)

theorem Fr.sz {D : Nat → Prop} {u v : World} (h : Fr D u v) : u.heap.size ≤ v.heap.size := h.size
theorem take_got_len (t : T4) (ask : C) (h : t.held.length + t.waits.length ≤ 24) : (takeT t ask).got.length ≤ 1000 := by
  have hl : (t.asked ask).gots.length ≤ 100 := by
    have h1 := (passF_len (t.asked ask).waits (t.asked ask).held [] []).2
    have e2 : (t.asked ask).waits.length ≤ (stripAll t (hurtL t.prep ask t.held)).waits.length + 1 := by
      unfold T4.asked insL
      simp; omega
    have h3 := (stripAll_len (hurtL t.prep ask t.held) t).2.1
    have e4 : (t.asked ask).gots = (passF (t.asked ask).waits (t.asked ask).held [] []).2.2 := rfl
    rw [e4]
    simp at h1
    omega
  unfold takeT
  split
  · simp
  · split
    · simp
    · split
      · simp
      · split
        · exact Nat.le_trans hl (by omega)
        · exact Nat.le_trans (List.length_filter_le _ _) (Nat.le_trans hl (by omega))

set_option maxHeartbeats 2000000 in
theorem pTake_any (w : World) (a : Nat) (t : T4) (D : Nat → Prop) (x y : Int) (z : Bool) (h : TT w a t D) (hf : Fit t) (h1 : 1 ≤ x) (h2 : x ≤ 1000) (h3 : 0 ≤ y) (h4 : y < 6) :
    Calls Try.prog 10 #[.pointer (some ⟨a, 0, none⟩), .int .i64 x, .int .i64 y, .bool z] w fun e w' => ∃ vu vg, e = .returned (.tuple #[.int .i64 (takeT t ⟨x, y, z⟩).ans, vu, vg]) ∧ PTook w a D (takeT t ⟨x, y, z⟩) vu vg w' := by
  obtain ⟨vh, vw, vp, T, hD⟩ := h
  have ht := Take_any w a t vh vw vp x y z T (by have := hf.len; omega) hf.prep hf.psort hf.sorted hf.small (by omega) h2 hf.m0 (by have := hf.m1; omega)
  have hgl : Hid ((takeT t ⟨x, y, z⟩).got.length ≤ 1000) := take_got_len t _ hf.len
  have hy : ¬ (y < 0) := by omega
  have hy6 : ¬ (6 ≤ y) := by omega
  have ho := owner_any x w
  rw [show (decide (1 ≤ x) && decide (x ≤ 1000)) = true by simp [h1, h2]] at ho
  have HD : Hid (∀ g, Dm a vh vw vp g ↔ D g) := hD
  clear T hf hD
  generalize takeT t ⟨x, y, z⟩ = r at *
  go_enter Try.func10, Try.ntmps10
  go_wp2_with (go_at_call 33; refine ho.mono ?_; rintro e w' ⟨rfl, hw'⟩; subst w')
  refine ht.mono ?_
  rintro e w1 ⟨vu, vg, rfl, ou, og, E, TE, F1, sub, fu, fg⟩
  obtain ⟨ag', cg, hvg, hrg, hlg, _⟩ := og.rd gl_len
  subst hvg
  have hgr := grants_any ag' cg r.got w1 hrg hgl.out
  have HU : Hid (Own il 1 3 w1 vu r.hurt) := ou
  have HX : Hid (TT w1 a r.t E ∧ Fr (Dm a vh vw vp) w w1 ∧ (∀ g, E g → Dm a vh vw vp g ∨ w.heap.size ≤ g) ∧ ∀ g, vu.ownBlock = some g → w.heap.size ≤ g ∧ ¬ E g) := ⟨TE, F1, sub, fu⟩
  clear ht og hrg ou TE F1 sub fu fg
  generalize r.got.length = L at *
  go_wp2_with (go_at_call 35; refine hgr.mono ?_; rintro e w2 ⟨v2, rfl, og2, hb2, fg2⟩)
  refine bodyPost_ret (v := .tuple #[.int .i64 r.ans, vu, v2]) (by simp [results, Try.results10, go_sem]) rfl ?_
  obtain ⟨TE, F1, sub, fu⟩ := HX.out
  refine ⟨vu, v2, rfl, own_below HU.out hb2, og2, E, TE.below hb2, (F1.mono fun g _ e => (HD.out g).1 e).below hb2, fun g e => (sub g e).imp (fun q => (HD.out g).1 q) id, fu, fun g e => ⟨Nat.le_trans F1.size (fg2 g e), fun q => absurd (TE.lt q) (by have := fg2 g e; omega), fun q => absurd (HU.out.lt q) (by have := fg2 g e; omega)⟩⟩

set_option maxHeartbeats 2000000 in
theorem pHold_any (w : World) (a : Nat) (t : T4) (D : Nat → Prop) (x : Int) (h : TT w a t D) (hf : Fit t) (h1 : 1 ≤ x) (h2 : x ≤ 1000) :
    Calls Try.prog 13 #[.pointer (some ⟨a, 0, none⟩), .int .i64 x] w fun e w' => e = .returned (.tuple #[]) ∧ TG w D w' a { t with prep := holdP t.prep t.waits x } := by
  obtain ⟨vh, vw, vp, T, hD⟩ := h
  have ht := Hold_any w a t vh vw vp x T (by have := hf.len; omega) hf.prep hf.psort
  have ho := owner_any x w
  rw [show (decide (1 ≤ x) && decide (x ≤ 1000)) = true by simp [h1, h2]] at ho
  have HD : Hid (∀ g, Dm a vh vw vp g ↔ D g) := hD
  clear T hf hD
  go_enter Try.func13, Try.ntmps13
  go_wp2_with (go_at_call 33; refine ho.mono ?_; rintro e w' ⟨rfl, hw'⟩; subst w')
  refine ht.mono ?_
  rintro e w1 ⟨rfl, E, TE, F1, sub⟩
  have HX : Hid (TT w1 a { t with prep := holdP t.prep t.waits x } E ∧ Fr (Dm a vh vw vp) w w1 ∧ (∀ g, E g → Dm a vh vw vp g ∨ w.heap.size ≤ g)) := ⟨TE, F1, sub⟩
  clear ht TE F1 sub
  go_wp2
  go_end0
  obtain ⟨TE, F1, sub⟩ := HX.out
  exact ⟨rfl, E, TE, F1.mono fun g _ e => (HD.out g).1 e, fun g e => (sub g e).imp (fun q => (HD.out g).1 q) id⟩

/-- What is there behind a Free of package pact. -/
def PPass (w : World) (a : Nat) (D : Nat → Prop) (t : T4) (v : Value) (gt : List G) (w' : World) : Prop :=
  Own gl 2 79 w' v gt ∧ ∃ E, TT w' a t E ∧ Fr D w w' ∧ (∀ g, E g → D g ∨ w.heap.size ≤ g) ∧ ∀ g, v.ownBlock = some g → w.heap.size ≤ g ∧ ¬ E g

set_option maxHeartbeats 2000000 in
theorem pFree_any (w : World) (a : Nat) (t : T4) (D : Nat → Prop) (x : Int) (h : TT w a t D) (hf : Fit t) (h1 : 1 ≤ x) (h2 : x ≤ 1000) :
    Calls Try.prog 16 #[.pointer (some ⟨a, 0, none⟩), .int .i64 x] w fun e w' => ∃ v, e = .returned v ∧ PPass w a D (t.freed x).passed v (t.freed x).gots w' := by
  obtain ⟨vh, vw, vp, T, hD⟩ := h
  have ht := Free_any w a t vh vw vp x T (by have := hf.len; omega) hf.prep hf.psort
  have hgl : Hid ((t.freed x).gots.length ≤ 1000) := by
    have h3 := (passF_len (t.freed x).waits (t.freed x).held [] []).2
    have e1 : (t.freed x).waits.length ≤ t.waits.length := List.length_filter_le _ _
    have e4 : (t.freed x).gots = (passF (t.freed x).waits (t.freed x).held [] []).2.2 := rfl
    show _ ≤ _
    rw [e4]
    have := hf.len
    simp at h3
    omega
  have ho := owner_any x w
  rw [show (decide (1 ≤ x) && decide (x ≤ 1000)) = true by simp [h1, h2]] at ho
  have HD : Hid (∀ g, Dm a vh vw vp g ↔ D g) := hD
  clear T hf hD
  generalize hr1 : (t.freed x).passed = r1 at *
  generalize hr2 : (t.freed x).gots = r2 at *
  clear hr1 hr2
  go_enter Try.func16, Try.ntmps16
  go_wp2_with (go_at_call 33; refine ho.mono ?_; rintro e w' ⟨rfl, hw'⟩; subst w')
  refine ht.mono ?_
  rintro e w1 ⟨v, rfl, og, E, TE, F1, sub, fg⟩
  obtain ⟨ag', cg, hvg, hrg, hlg, _⟩ := og.rd gl_len
  subst hvg
  have hgr := grants_any ag' cg r2 w1 hrg hgl.out
  have HX : Hid (TT w1 a r1 E ∧ Fr (Dm a vh vw vp) w w1 ∧ (∀ g, E g → Dm a vh vw vp g ∨ w.heap.size ≤ g)) := ⟨TE, F1, sub⟩
  clear ht og hrg TE F1 sub fg
  generalize r2.length = L at *
  go_wp2_with (go_at_call 35; refine hgr.mono ?_; rintro e w2 ⟨v2, rfl, og2, hb2, fg2⟩)
  go_ret
  obtain ⟨TE, F1, sub⟩ := HX.out
  exact ⟨v2, rfl, og2, E, TE.below hb2, (F1.mono fun g _ e => (HD.out g).1 e).below hb2, fun g e => (sub g e).imp (fun q => (HD.out g).1 q) id, fun g e => ⟨Nat.le_trans F1.size (fg2 g e), fun q => absurd (TE.lt q) (by have := fg2 g e; omega)⟩⟩

set_option maxHeartbeats 2000000 in
theorem pWaits_any (w : World) (a : Nat) (t : T4) (D : Nat → Prop) (h : TT w a t D) (hf : Fit t) :
    Calls Try.prog 18 #[.pointer (some ⟨a, 0, none⟩)] w fun e w' => ∃ v, e = .returned v ∧ Own gl 2 81 w' v (waitP t t.waits.length) ∧ Below w.heap.size w w' ∧ ∀ g, v.ownBlock = some g → w.heap.size ≤ g := by
  obtain ⟨vh, vw, vp, T, hD⟩ := h
  have ht := Waits_any w a t vh vw vp T (by have := hf.len; omega)
  clear T hf hD
  go_enter Try.func18, Try.ntmps18
  go_wp2_with (go_at_call 40; refine ht.mono ?_; rintro e w1 ⟨v, rfl, h1, h2, h3⟩)
  go_ret
  exact ⟨v, rfl, h1, h2, h3⟩

set_option maxHeartbeats 2000000 in
theorem new_any (m : Int) (w : World) : Calls Try.prog 21 #[.int .i64 m] w fun e w' => e = .returned (.agg #[.int .i64 m, .slice none 0 0, .slice none 0 0, .slice none 0 0]) ∧ Below w.heap.size w w' := by
  go_enter Try.func21, Try.ntmps21
  go_wp2
  refine bodyPost_ret (v := .agg #[.int .i64 m, .slice none 0 0, .slice none 0 0, .slice none 0 0]) (by simp [results, Try.results21, go_sem]) rfl ?_
  exact ⟨rfl, (Below.refl _ _).alloc (Nat.le_refl _) _⟩

set_option maxHeartbeats 2000000 in
theorem newLocks_any (m : Int) (w : World) (h1 : 1 ≤ m) (h2 : m ≤ 24) : Calls Try.prog 5 #[.int .i64 m] w fun e w' => ∃ a, e = .returned (.pointer (some ⟨a, 0, none⟩)) ∧ w.heap.size ≤ a ∧ TT w' a ⟨m, [], [], []⟩ (fun g => g = a) ∧ Below w.heap.size w w' := by
  have hm1 : ¬ (m < 1) := by omega
  have hm2 : ¬ (24 < m) := by omega
  go_enter Try.func5, Try.ntmps5
  go_wp2_with (go_at_call 21; refine (new_any m w).mono ?_; rintro e w1 ⟨rfl, hb1⟩)
  go_ret
  have hx : Bx (w1.alloc (.cells #[.int .i64 m, .slice none 0 0, .slice none 0 0, .slice none 0 0] 68)) w1.heap.size m (.slice none 0 0) (.slice none 0 0) (.slice none 0 0) := heap_new _ _
  have nb : ∀ g, (Value.slice none 0 0).ownBlock = some g → False := fun g e => by simp [Value.ownBlock] at e
  refine ⟨w1.heap.size, rfl, hb1.size, ⟨_, _, _, ⟨hx, Own.nil _ _ _ _, Own.nil _ _ _ _, Own.nil _ _ _ _, fun e => nb _ e, fun e => nb _ e, fun e => nb _ e, fun g e => (nb g e).elim, fun g e => (nb g e).elim, fun g e => (nb g e).elim⟩, fun g => ⟨fun hg => ?_, fun e => .inl e⟩⟩, hb1.trans (((Below.refl _ _).alloc (Nat.le_refl _) _).mono hb1.size)⟩
  rcases hg with q | q | q | q
  · exact q
  · exact (nb g q).elim
  · exact (nb g q).elim
  · exact (nb g q).elim
end Go.Proofs.Ytlagmbieaicmgaa
