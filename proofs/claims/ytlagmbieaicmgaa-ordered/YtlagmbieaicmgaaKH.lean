/- Ordered: the calls of a round, on a table and a ledger beside it. -/
import Derived.Test.YtlagmbieaicmgaaKG
namespace Go.Proofs.Ytlagmbieaicmgaa
open Go.RowKit Lk Go.Shelf

theorem SS.tab {W : World} {a : Nat} {t : T4} {d : Nat} {L : List L4} {F : List Int} {D : Nat → Prop} (h : SS W a t d L F D) : ∃ E, TT W a t E ∧ ∀ W' t', TG W E W' a t' → SG W D W' a t' d L F := by
  obtain ⟨E, vl, vf, h1, h2, h3, h4⟩ := h
  refine ⟨E, h1, fun W' t' k => ?_⟩
  obtain ⟨E', k1, k2, k3⟩ := k
  refine ⟨fun g => E' g ∨ Dl4 d vl vf g, ⟨E', vl, vf, k1, h2.fr k2 h3, fun g hg e => (k3 g e).elim (h3 g hg) (fun q => by have := h2.dlt hg; omega), fun g => Iff.rfl⟩, k2.mono fun g _ e => (h4 g).2 (.inl e), fun g hg => ?_⟩
  rcases hg with q | q
  · exact (k3 g q).imp (fun q => (h4 g).2 (.inl q)) id
  · exact .inl ((h4 g).2 (.inr q))
theorem SS.led {W : World} {a : Nat} {t : T4} {d : Nat} {L : List L4} {F : List Int} {D : Nat → Prop} (h : SS W a t d L F D) : ∃ vl vf, Led W d L F vl vf ∧ ∀ W' L' F' vl' vf', Led W' d L' F' vl' vf' → Fr (Dl4 d vl vf) W W' → (∀ g, Dl4 d vl' vf' g → Dl4 d vl vf g ∨ W.heap.size ≤ g) → SG W D W' a t d L' F' := by
  obtain ⟨E, vl, vf, h1, h2, h3, h4⟩ := h
  refine ⟨vl, vf, h2, fun W' L' F' vl' vf' k1 k2 k3 => ?_⟩
  refine ⟨fun g => E g ∨ Dl4 d vl' vf' g, ⟨E, vl', vf', h1.fr k2 fun g e q => h3 g q e, k1, fun g hg e => (k3 g hg).elim (fun q => h3 g q e) (fun q => by have := h1.lt e; omega), fun g => Iff.rfl⟩, k2.mono fun g _ e => (h4 g).2 (.inr e), fun g hg => ?_⟩
  rcases hg with q | q
  · exact .inl ((h4 g).2 (.inl q))
  · exact (k3 g q).imp (fun q => (h4 g).2 (.inr q)) id

theorem hold_ss (W : World) (a : Nat) (t : T4) (d : Nat) (L : List L4) (F : List Int) (D : Nat → Prop) (x : Int) (h : SS W a t d L F D) (hf : Fit t) (h1 : 1 ≤ x) (h2 : x ≤ 1000) :
    Calls Try.prog 13 #[.pointer (some ⟨a, 0, none⟩), .int .i64 x] W fun e w' => e = .returned (.tuple #[]) ∧ SG W D w' a { t with prep := holdP t.prep t.waits x } d L F := by
  obtain ⟨E, hT, hk⟩ := h.tab
  refine (pHold_any W a t E x hT hf h1 h2).mono ?_
  rintro e w' ⟨rfl, g⟩
  exact ⟨rfl, hk _ _ g⟩

theorem busy_ss (W : World) (a : Nat) (t : T4) (d : Nat) (L : List L4) (F : List Int) (D : Nat → Prop) (x : Int) (h : SS W a t d L F D) (hn : L.length ≤ 4398046511104) :
    Calls Try.prog 14 #[.pointer (some ⟨d, 0, none⟩), .int .i64 x] W fun e w' => e = .returned (.bool (busyB L x)) ∧ Below W.heap.size W w' := by
  obtain ⟨vl, vf, hL⟩ := h.parts
  exact busy_any W d L F vl vf x hL hn

theorem drop_ss (W : World) (a : Nat) (t : T4) (d : Nat) (L : List L4) (F : List Int) (D : Nat → Prop) (x : Int) (h : SS W a t d L F D) (hn : L.length ≤ 4398046511104) (hm : F.length ≤ 4398046511104) :
    Calls Try.prog 15 #[.pointer (some ⟨d, 0, none⟩), .int .i64 x] W fun e w' => e = .returned (.tuple #[]) ∧ SG W D w' a t d (L.filter (dropB x)) (F.filter (dropI x)) := by
  obtain ⟨vl, vf, hL, hk⟩ := h.led
  refine (drop_any W d L F vl vf x hL hn hm).mono ?_
  rintro e w' ⟨rfl, vl', vf', k1, k2, k3⟩
  refine ⟨rfl, hk _ _ _ vl' vf' k1 (k2.mono fun g _ e => .inl e) fun g hg => ?_⟩
  rcases hg with q | q
  · exact .inl (.inl q)
  · exact .inr (k3 g q)

theorem free_ss (W : World) (a : Nat) (t : T4) (d : Nat) (L : List L4) (F : List Int) (D : Nat → Prop) (x : Int) (h : SS W a t d L F D) (hf : Fit t) (h1 : 1 ≤ x) (h2 : x ≤ 1000) :
    Calls Try.prog 16 #[.pointer (some ⟨a, 0, none⟩), .int .i64 x] W fun e w' => ∃ (ao : Option Addr) (cap : Nat), e = .returned (.slice ao (t.freed x).gots.length cap) ∧ ∃ D', SS w' a (t.freed x).passed d L F D' ∧ Fr D W w' ∧ (∀ g, D' g → D g ∨ W.heap.size ≤ g) ∧ Rd gl 2 w' ao (t.freed x).gots ∧ ∀ b off, ao = some ⟨b, off, none⟩ → ¬ D' b := by
  obtain ⟨E, vl, vf, hT, hL, h3, h4⟩ := h
  refine (pFree_any W a t E x hT hf h1 h2).mono ?_
  rintro e w' ⟨v, rfl, ov, E', k1, k2, k3, k4⟩
  obtain ⟨ao, cap, rfl, hr, -, -⟩ := ov.rd gl_len
  refine ⟨ao, cap, rfl, fun g => E' g ∨ Dl4 d vl vf g, ⟨E', vl, vf, k1, hL.fr k2 h3, fun g hg e => (k3 g e).elim (h3 g hg) (fun q => by have := hL.dlt hg; omega), fun g => Iff.rfl⟩, k2.mono fun g _ e => (h4 g).2 (.inl e), fun g hg => ?_, hr, fun b off e q => ?_⟩
  · rcases hg with q | q
    · exact (k3 g q).imp (fun q => (h4 g).2 (.inl q)) id
    · exact .inl ((h4 g).2 (.inr q))
  · obtain ⟨r1, r2⟩ := k4 b (by rw [e]; rfl)
    rcases q with q | q
    · exact r2 q
    · have := hL.dlt q; omega

theorem all_ss (W : World) (a : Nat) (t : T4) (d : Nat) (L : List L4) (F : List Int) (D : Nat → Prop) (ao : Option Addr) (cap : Nat) (gs : List G) (h : SS W a t d L F D) (hn : L.length ≤ 4398046511104) (hr : Rd gl 2 W ao gs) (hg : gs.length ≤ 1000000) (hd : ∀ b off, ao = some ⟨b, off, none⟩ → ¬ D b) (hok : allOk L gs) :
    Calls Try.prog 17 #[.pointer (some ⟨d, 0, none⟩), .slice ao gs.length cap] W fun e w' => e = .returned (.bool true) ∧ SG W D w' a t d (allL L gs) F := by
  obtain ⟨E, vl, vf, h1, h2, h3, h4⟩ := h
  refine (all_true W d L F vl vf ao cap gs h2 hn hr hg (fun b off e q => hd b off e ((h4 b).2 (.inr (.inr (.inl q))))) hok).mono ?_
  rintro e w' ⟨rfl, k1, k2⟩
  refine ⟨rfl, D, ⟨E, vl, vf, h1.fr k2 fun g e q => h3 g (.inr (.inl q)) e, k1, h3, h4⟩, k2.mono fun g _ e => (h4 g).2 (.inr (.inr (.inl e))), fun g hg => .inl hg⟩

theorem waits_ss (W : World) (a : Nat) (t : T4) (d : Nat) (L : List L4) (F : List Int) (D : Nat → Prop) (h : SS W a t d L F D) (hf : Fit t) :
    Calls Try.prog 18 #[.pointer (some ⟨a, 0, none⟩)] W fun e w' => ∃ (ao : Option Addr) (cap : Nat), e = .returned (.slice ao (waitP t t.waits.length).length cap) ∧ Rd gl 2 w' ao (waitP t t.waits.length) ∧ Below W.heap.size W w' := by
  obtain ⟨E, hT, -⟩ := h.tab
  refine (pWaits_any W a t E hT hf).mono ?_
  rintro e w' ⟨v, rfl, ov, hb, -⟩
  obtain ⟨ao, cap, rfl, hr, -, -⟩ := ov.rd gl_len
  exact ⟨ao, cap, rfl, hr, hb⟩

theorem waiting_ss (W : World) (a : Nat) (t : T4) (d : Nat) (L : List L4) (F : List Int) (D : Nat → Prop) (ao : Option Addr) (cap : Nat) (h : SS W a t d L F D) (hi : Inv t L F) (hn : L.length ≤ 4398046511104) (hm : F.length ≤ 4398046511104) (hr : Rd gl 2 W ao (waitP t t.waits.length)) :
    Calls Try.prog 19 #[.pointer (some ⟨d, 0, none⟩), .slice ao (waitP t t.waits.length).length cap] W fun e w' => e = .returned (.bool true) ∧ Below W.heap.size W w' := by
  obtain ⟨vl, vf, hL⟩ := h.parts
  refine waiting_true W d L F vl vf ao cap _ hL hn hm hr ?_ hi.waits1 hi.waits2
  have h1 := hi.fit.len
  have h2 := waitP_len t 100 (by omega) t.waits.length
  have h3 : t.waits.length * 100 ≤ 100 * 100 := Nat.mul_le_mul_right 100 (by omega)
  omega

theorem gots_len (t : T4) (x : Int) (hf : Fit t) : (t.freed x).gots.length ≤ 1000000 := by
  have h3 := (passF_len (t.freed x).waits (t.freed x).held [] []).2
  have e1 : (t.freed x).waits.length ≤ t.waits.length := List.length_filter_le _ _
  have e4 : (t.freed x).gots = (passF (t.freed x).waits (t.freed x).held [] []).2.2 := rfl
  rw [e4]
  have := hf.len
  simp at h3
  omega

/-- A firm owner more. -/
theorem firm_app {W W' : World} {d : Nat} {L : List L4} {F : List Int} {vl vf : Value} {x : Int} {g cap : Nat} (h : Led W d L F vl vf) (ho : Own il 1 3 W' (.slice (some ⟨g, 0, none⟩) (F.length + 1) cap) (F ++ [x])) (hf : Fr (fun b => vf.ownBlock = some b) W W') (hat : vf.ownBlock = some g ∨ W.heap.size ≤ g) :
    Led (W'.setCell ⟨d, 1, none⟩ (.slice (some ⟨g, 0, none⟩) (F.length + 1) cap)) d L (F ++ [x]) vl (.slice (some ⟨g, 0, none⟩) (F.length + 1) cap) ∧ Fr (Dl4 d vl vf) W (W'.setCell ⟨d, 1, none⟩ (.slice (some ⟨g, 0, none⟩) (F.length + 1) cap)) ∧ ∀ b, Dl4 d vl (.slice (some ⟨g, 0, none⟩) (F.length + 1) cap) b → Dl4 d vl vf b ∨ W.heap.size ≤ b := by
  have fs := fr_set W' d 1 (.slice (some ⟨g, 0, none⟩) (F.length + 1) cap)
  have gd : g ≠ d := fun e => hat.elim (fun q => h.fd (by rw [q, e])) (fun q => absurd h.lt (by omega))
  have hx7 : W'.heap[d]? = some (.cells #[vl, vf] 51 (0, 0)) := (hf.block d h.lt h.fd).trans h.box
  refine ⟨⟨?_, (h.l.fr hf fun b hb e => h.lf b hb e).fr fs fun b hb e => h.ld (by rw [hb, e]), ho.fr fs fun b hb e => ?_, h.ld, fun e => ?_, fun b hb e => ?_⟩, (hf.mono fun b _ e => .inr (.inr e)).trans fs fun b _ e => .inl e, fun b hb => ?_⟩
  · simp [World.setCell, Array.getElem?_modify, hx7]
  · have e2 : g = b := by simpa [Value.ownBlock] using hb
    exact gd (by rw [e2, e])
  · have e2 : g = d := by simpa [Value.ownBlock] using e
    exact gd e2
  · have e2 : g = b := by simpa [Value.ownBlock] using e
    subst e2
    exact hat.elim (fun q => h.lf g hb q) (fun q => absurd (h.l.lt hb) (by omega))
  · rcases hb with q | q | q
    · exact .inl (.inl q)
    · exact .inl (.inr (.inl q))
    · have e2 : g = b := by simpa [Value.ownBlock] using q
      subst e2
      exact hat.imp (fun q => .inr (.inr q)) id

theorem RK.below {w wr W : World} {a d k : Nat} (h : RK w a d k wr) (hb : Below wr.heap.size wr W) : RK w a d k W := by
  obtain ⟨t, L, F, D, s, hi, hl, hf, hD, hB⟩ := h
  exact ⟨t, L, F, D, s.below hb, hi, hl, hf, hD, hB.trans (hb.mono hB.size)⟩
theorem RK.le {w wr : World} {a d k k' : Nat} (h : RK w a d k wr) (hk : k ≤ k') : RK w a d k' wr := by
  obtain ⟨t, L, F, D, s, hi, hl, hf, hD, hB⟩ := h
  exact ⟨t, L, F, D, s, hi, by omega, by omega, hD, hB⟩

/-- The beginning. -/
theorem RK.init {w w1 : World} {a : Nat} {m : Int} (h1 : 1 ≤ m) (h2 : m ≤ 24) (ha : w.heap.size ≤ a) (hT : TT w1 a ⟨m, [], [], []⟩ fun g => g = a) (hB : Below w.heap.size w w1) :
    RK w a w1.heap.size 0 (w1.alloc (.cells #[.slice none 0 0, .slice none 0 0] 51)) := by
  have nb : ∀ g, (Value.slice none 0 0).ownBlock = some g → False := fun g e => by simp [Value.ownBlock] at e
  have ba : Below w1.heap.size w1 (w1.alloc (.cells #[.slice none 0 0, .slice none 0 0] 51)) := (Below.refl _ _).alloc (Nat.le_refl _) _
  have hdl : ∀ g, Dl4 w1.heap.size (.slice none 0 0) (.slice none 0 0) g → g = w1.heap.size := fun g hg => by
    rcases hg with q | q | q
    · exact q
    · exact (nb g q).elim
    · exact (nb g q).elim
  have hal : a < w1.heap.size := hT.lt rfl
  refine ⟨⟨m, [], [], []⟩, [], [], fun g => g = a ∨ Dl4 w1.heap.size (.slice none 0 0) (.slice none 0 0) g, ⟨fun g => g = a, .slice none 0 0, .slice none 0 0, hT.below ba, ⟨heap_new _ _, Own.nil _ _ _ _, Own.nil _ _ _ _, fun e => nb _ e, fun e => nb _ e, fun g e => (nb g e).elim⟩, fun g hg e => ?_, fun g => Iff.rfl⟩, Inv.init h1 h2, Nat.le_refl _, Nat.le_refl _, fun g hg => ?_, hB.trans (ba.mono hB.size)⟩
  · have := hdl g hg; omega
  · rcases hg with q | q
    · omega
    · have := hdl g q; have := hB.size; omega
end Go.Proofs.Ytlagmbieaicmgaa
