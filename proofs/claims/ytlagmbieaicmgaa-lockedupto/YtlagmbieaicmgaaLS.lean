/- Tables of locks: Take. -/
import Derived.Test.YtlagmbieaicmgaaLR
import Derived.Deep.QuietTactic
import Derived.BigQuiet
namespace Go.Proofs.Ytlagmbieaicmgaa
open Go.RowKit Lk Go.Shelf

def posL (ws : List C) (tx : Int) : Nat := ws.findIdx fun c => decide (tx ≤ c.tx)
theorem isPos_eq {ws : List C} {tx : Int} {p : Nat} (h : IsPos ws tx p) : p = posL ws tx := by
  obtain ⟨h1, h2, h3⟩ := h
  unfold posL
  rcases Nat.lt_or_ge p ws.length with hl | hl
  · refine ((List.findIdx_eq hl).2 ⟨by simpa using h3 p hl (Nat.le_refl _), fun j hj => ?_⟩).symm
    have := h2 j (by omega) hj
    simp; omega
  · have : p = ws.length := by omega
    subst this
    refine (List.findIdx_eq_length.2 fun c hc => ?_).symm
    obtain ⟨j, hj, rfl⟩ := List.getElem_of_mem hc
    have := h2 j hj hj
    simp; omega

/-- The table when one who asks waits, its victims gone. -/
def T4.asked (t : T4) (ask : C) : T4 := { stripAll t (hurtL t.prep ask t.held) with waits := insL (stripAll t (hurtL t.prep ask t.held)).waits (posL (stripAll t (hurtL t.prep ask t.held)).waits ask.tx) ask }
def T4.hurt (t : T4) (ask : C) : List Int := (hurtL t.prep ask t.held).mergeSort fun x y => decide (x ≤ y)

/-- What Take answers: the number, the wounded, the grants; the table behind it. -/
structure Ans where
  ans : Int
  t : T4
  hurt : List Int
  got : List G
def takeT (t : T4) (ask : C) : Ans :=
  if waitB t.waits ask.tx then ⟨0, t, [], []⟩ else
  if hasB t.held ask then ⟨1, t, [], []⟩ else
  if t.most ≤ t.held.length + t.waits.length then ⟨3, t, [], []⟩ else
  if waitB (t.asked ask).passed.waits ask.tx then ⟨2, (t.asked ask).passed, t.hurt ask, (t.asked ask).gots⟩ else ⟨1, (t.asked ask).passed, t.hurt ask, (t.asked ask).gots.filter (notTxG ask.tx)⟩

/-- What is there behind a Take. -/
def Took (w : World) (a : Nat) (D : Nat → Prop) (r : Ans) (vu vg : Value) (w' : World) : Prop :=
  Own il 1 3 w' vu r.hurt ∧ Own gl 2 102 w' vg r.got ∧ ∃ E, TT w' a r.t E ∧ Fr D w w' ∧ (∀ g, E g → D g ∨ w.heap.size ≤ g) ∧ (∀ g, vu.ownBlock = some g → w.heap.size ≤ g ∧ ¬ E g) ∧ (∀ g, vg.ownBlock = some g → w.heap.size ≤ g ∧ ¬ E g ∧ vu.ownBlock ≠ some g)

theorem took_none {w w' : World} {a : Nat} {t : T4} {vh vw vp : Value} (h : Tab w a t vh vw vp) (hb : Below w.heap.size w w') (n : Int) : Took w a (Dm a vh vw vp) ⟨n, t, [], []⟩ (.slice none 0 0) (.slice none 0 0) w' :=
  ⟨Own.nil _ _ _ _, Own.nil _ _ _ _, Dm a vh vw vp, ⟨vh, vw, vp, h.below hb, fun g => Iff.rfl⟩, Fr.of_below hb, fun g e => .inl e, fun g e => by simp [Value.ownBlock] at e, fun g e => by simp [Value.ownBlock] at e⟩

def XX (b : Nat) (x y : Int) (z : Bool) (W : World) : Prop := W.cell? ⟨b, 0, none⟩ = some (.int .i64 x) ∧ W.cell? ⟨b + 1, 0, none⟩ = some (.int .i64 x) ∧ W.cell? ⟨b + 1, 1, none⟩ = some (.int .i64 y) ∧ W.cell? ⟨b + 1, 2, none⟩ = some (.bool z)
theorem XX.fr {b : Nat} {x y : Int} {z : Bool} {D : Nat → Prop} {W W' : World} (h : XX b x y z W) (hf : Fr D W W') (h1 : ¬ D b) (h2 : ¬ D (b + 1)) : XX b x y z W' := by
  obtain ⟨x0, x1, x2, x3⟩ := h
  exact ⟨hf.cell x0 h1, hf.cell x1 h2, hf.cell x2 h2, hf.cell x3 h2⟩

theorem sorted_pw {ws : List C} : Sorted ws ↔ ws.Pairwise fun c d => c.tx < d.tx := by
  rw [List.pairwise_iff_getElem]
  exact ⟨fun h i j hi hj hij => h i j hi hj hij, fun h i j hi hj hij => h i j hi hj hij⟩
theorem stripAll_eq (l : List Int) : ∀ t : T4, (stripAll t l).held = t.held.filter (fun c => !l.contains c.tx) ∧ (stripAll t l).waits = t.waits.filter (fun c => !l.contains c.tx) := by
  induction l with
  | nil => intro t; exact ⟨(List.filter_eq_self.2 fun _ _ => rfl).symm, (List.filter_eq_self.2 fun _ _ => rfl).symm⟩
  | cons x r ih =>
    intro t
    obtain ⟨h1, h2⟩ := ih (t.strip x)
    have e : ∀ l : List C, (l.filter (notTx x)).filter (fun c => !r.contains c.tx) = l.filter (fun c => !(x :: r).contains c.tx) := fun l => by
      rw [List.filter_filter]
      refine List.filter_congr fun c _ => ?_
      unfold notTx
      by_cases hx : c.tx = x <;> simp [hx]
    exact ⟨(show (stripAll (t.strip x) r).held = _ from h1).trans (e _), (show (stripAll (t.strip x) r).waits = _ from h2).trans (e _)⟩

theorem passF_len : ∀ (ws hs st : List C) (gt : List G), (passF ws hs st gt).1.length + (passF ws hs st gt).2.1.length ≤ hs.length + st.length + ws.length ∧ (passF ws hs st gt).2.2.length ≤ gt.length + ws.length
  | [], hs, st, gt => ⟨by simp [passF], by simp [passF]⟩
  | c :: r, hs, st, gt => by
    cases h : (agAny c hs || agAny c st) with
    | true =>
      rw [passF_bar h]
      obtain ⟨h1, h2⟩ := passF_len r hs (st ++ [c]) gt
      simp at h1 h2 ⊢; omega
    | false =>
      rw [passF_free h]
      obtain ⟨h1, h2⟩ := passF_len r (giveL hs c) st (gt ++ [⟨c.tx, c.key⟩])
      have := giveL_len hs c
      simp at h1 h2 ⊢; omega

set_option maxHeartbeats 8000000 in
theorem Take_any (w : World) (a : Nat) (t : T4) (vh vw vp : Value) (x y : Int) (z : Bool) (h : Tab w a t vh vw vp) (hn : t.held.length + t.waits.length ≤ 800) (hm : t.prep.length ≤ 1000) (hs : t.prep.Pairwise (· ≤ ·)) (hso : Sorted t.waits) (hsm : Small t.waits) (h0 : 0 ≤ x) (h1 : x ≤ 1000) (_hmo : 0 ≤ t.most) (_hmo2 : t.most ≤ 1000) :
    Calls Try.prog 34 #[.pointer (some ⟨a, 0, none⟩), .int .i64 x, .int .i64 y, .bool z] w fun e w' => ∃ vu vg, e = .returned (.tuple #[.int .i64 (takeT t ⟨x, y, z⟩).ans, vu, vg]) ∧ Took w a (Dm a vh vw vp) (takeT t ⟨x, y, z⟩) vu vg w' := by
  obtain ⟨w1, hw1⟩ : ∃ w1, w1 = (w.alloc (.cells #[.int .i64 x] 3)).alloc (.cells #[.int .i64 x, .int .i64 y, .bool z] 97) := ⟨_, rfl⟩
  have b1 : Below w.heap.size w w1 := by rw [hw1]; exact ((Below.refl _ _).alloc (Nat.le_refl _) _).alloc (by simp) _
  have hl1 : w1.heap.size = w.heap.size + 2 := by rw [hw1]; simp
  have X1 : Hid (w1.cell? ⟨w.heap.size, 0, none⟩ = some (.int .i64 x) ∧ w1.cell? ⟨w.heap.size + 1, 0, none⟩ = some (.int .i64 x) ∧ w1.cell? ⟨w.heap.size + 1, 1, none⟩ = some (.int .i64 y) ∧ w1.cell? ⟨w.heap.size + 1, 2, none⟩ = some (.bool z)) := by
    rw [hw1]
    refine ⟨Lib.cell?_alloc_some _ (by rw [cell_new]; rfl), ?_, ?_, ?_⟩ <;> rw [cell_new2] <;> rfl
  have H0 : Hid (Tab w a t vh vw vp) := h
  have HB1 : Hid (Below w.heap.size w w1) := b1
  have HL1 : Hid (w1.heap.size = w.heap.size + 2) := hl1
  have HSO : Hid (Sorted t.waits ∧ Small t.waits ∧ t.prep.Pairwise (· ≤ ·)) := ⟨hso, hsm, hs⟩
  have hw := waiting_any w1 a t vh vw vp x (h.below b1) (by omega)
  have XB : Hid (∀ W, Below w1.heap.size w1 W → W.cell? ⟨w.heap.size, 0, none⟩ = some (.int .i64 x) ∧ W.cell? ⟨w.heap.size + 1, 0, none⟩ = some (.int .i64 x) ∧ W.cell? ⟨w.heap.size + 1, 1, none⟩ = some (.int .i64 y) ∧ W.cell? ⟨w.heap.size + 1, 2, none⟩ = some (.bool z)) := fun W hW => by
    obtain ⟨x0, x1, x2, x3⟩ := X1.out
    exact ⟨(hW.cell (p := ⟨_, _, none⟩) (cell_lt x0)).trans x0, (hW.cell (p := ⟨_, _, none⟩) (cell_lt x1)).trans x1, (hW.cell (p := ⟨_, _, none⟩) (cell_lt x1)).trans x2, (hW.cell (p := ⟨_, _, none⟩) (cell_lt x1)).trans x3⟩
  clear h b1 hl1 hso hsm hs
  cases hc1 : waitB t.waits x with
  | true =>
    have HT : Hid (takeT t ⟨x, y, z⟩ = ⟨0, t, [], []⟩) := by show _ = _; unfold takeT; simp only [hc1]; rfl
    rw [hc1] at hw
    go_enter Try.func34, Try.ntmps34
    go_wp2_with fail
    rw [← hw1]
    clear hw1
    refine hw.mono ?_
    rintro e w2 ⟨rfl, hb2⟩
    go_wp2
    rw [HT.out]
    refine bodyPost_ret (v := .tuple #[.int .i64 0, .slice none 0 0, .slice none 0 0]) (by simp [results, Try.results34, go_sem]) rfl ?_
    exact ⟨_, _, rfl, took_none H0.out (HB1.out.trans (hb2.mono HB1.out.size)) 0⟩
  | false =>
    rw [hc1] at hw
    go_enter Try.func34, Try.ntmps34
    go_wp2_with fail
    rw [← hw1]
    clear hw1
    refine hw.mono ?_
    rintro e w2 ⟨rfl, hb2⟩
    obtain ⟨x0, x1, x2, x3⟩ := XB.out w2 hb2
    have B2 : Hid (Below w1.heap.size w1 w2) := hb2
    have hh := has_any w2 a t vh vw vp ⟨x, y, z⟩ (H0.out.below (HB1.out.trans (hb2.mono HB1.out.size))) (by omega)
    clear hw hb2
    cases hc2 : hasB t.held ⟨x, y, z⟩ with
    | true =>
      have HT : Hid (takeT t ⟨x, y, z⟩ = ⟨1, t, [], []⟩) := by show _ = _; unfold takeT; simp only [hc1, hc2]; rfl
      rw [hc2] at hh
      go_wp2_with fail
      refine hh.mono ?_
      rintro e w3 ⟨rfl, hb3⟩
      go_wp2
      rw [HT.out]
      refine bodyPost_ret (v := .tuple #[.int .i64 1, .slice none 0 0, .slice none 0 0]) (by simp [results, Try.results34, go_sem]) rfl ?_
      exact ⟨_, _, rfl, took_none H0.out ((HB1.out.trans (B2.out.mono HB1.out.size)).trans (hb3.mono (HB1.out.trans (B2.out.mono HB1.out.size)).size)) 1⟩
    | false =>
      rw [hc2] at hh
      go_wp2_with fail
      refine hh.mono ?_
      rintro e w3 ⟨rfl, hb3⟩
      have B3 : Hid (Below w1.heap.size w1 w3) := B2.out.trans (hb3.mono B2.out.size)
      have BB3 : Hid (Below w.heap.size w w3) := HB1.out.trans (B3.out.mono HB1.out.size)
      have T3 : Hid (Tab w3 a t vh vw vp) := H0.out.below BB3.out
      obtain ⟨ah, ch, hvh, -, hlh, _⟩ := T3.out.held.rd cl_len
      obtain ⟨aw, cw, hvw, -, hlw, _⟩ := T3.out.waits.rd cl_len
      obtain ⟨d0, d1, d2, -⟩ := T3.out.cells
      rw [hvh] at d1
      rw [hvw] at d2
      clear x0 x1 x2 x3
      obtain ⟨x0, x1, x2, x3⟩ := XB.out w3 B3.out
      clear hh hb3 hvh hvw
      have hwr : IntKind.i64.wrap ((t.held.length : Int) + (t.waits.length : Int)) = (t.held.length : Int) + (t.waits.length : Int) := by rw [IntKind.wrap_i64]; omega
      by_cases hc3 : t.most ≤ (t.held.length : Int) + (t.waits.length : Int)
      · have HT : Hid (takeT t ⟨x, y, z⟩ = ⟨3, t, [], []⟩) := by show _ = _; unfold takeT; simp only [hc1, hc2]; rw [if_pos hc3]; rfl
        go_wp2_with fail
        go_quiet (fail)
        go_wp2
        rw [HT.out]
        refine bodyPost_ret (v := .tuple #[.int .i64 3, .slice none 0 0, .slice none 0 0]) (by simp [results, Try.results34, go_sem]) rfl ?_
        refine ⟨_, _, rfl, took_none H0.out ?_ 3⟩
        exact BB3.out.trans ((below_dN w3 _).mono BB3.out.size)
      · have HT : Hid (takeT t ⟨x, y, z⟩ = if waitB (t.asked ⟨x, y, z⟩).passed.waits x then ⟨2, (t.asked ⟨x, y, z⟩).passed, t.hurt ⟨x, y, z⟩, (t.asked ⟨x, y, z⟩).gots⟩ else ⟨1, (t.asked ⟨x, y, z⟩).passed, t.hurt ⟨x, y, z⟩, (t.asked ⟨x, y, z⟩).gots.filter (notTxG x)⟩) := by show _ = _; unfold takeT; simp only [hc1, hc2]; rw [if_neg hc3]; rfl
        have XX3 : Hid (XX w.heap.size x y z w3) := ⟨x0, x1, x2, x3⟩
        have hlt3 : Hid (w.heap.size + 1 < w3.heap.size) := by have := B3.out.size; have := HL1.out; show _ < _; omega
        have nD : Hid (∀ g, w.heap.size ≤ g → ¬ Dm a vh vw vp g) := fun g hg hd => absurd (H0.out.dlt hd) (by omega)
        have Q1 : Hid (Sorted (stripAll t (hurtL t.prep ⟨x, y, z⟩ t.held)).waits ∧ Small (stripAll t (hurtL t.prep ⟨x, y, z⟩ t.held)).waits ∧ (stripAll t (hurtL t.prep ⟨x, y, z⟩ t.held)).held.length ≤ t.held.length ∧ (stripAll t (hurtL t.prep ⟨x, y, z⟩ t.held)).waits.length ≤ t.waits.length) := by
          obtain ⟨e1, e2⟩ := stripAll_eq (hurtL t.prep ⟨x, y, z⟩ t.held) t
          obtain ⟨l1, l2, -, -⟩ := stripAll_len (hurtL t.prep ⟨x, y, z⟩ t.held) t
          refine ⟨?_, ?_, l1, l2⟩
          · rw [e2, sorted_pw]; exact (sorted_pw.1 HSO.out.1).filter _
          · rw [e2]; exact fun c hc => HSO.out.2.1 c (List.mem_filter.1 hc).1
        go_wp2_with fail
        go_quiet (fail)
        generalize hw4 : w3.drewN _ = w4
        have B4 : Hid (Below w3.heap.size w3 w4) := by rw [← hw4]; exact below_dN _ _
        have X4 : Hid (XX w.heap.size x y z w4) := XX3.out.fr (D := fun _ => False) (Fr.of_below B4.out) id id
        have T4' : Hid (Tab w4 a t vh vw vp) := T3.out.below B4.out
        have F4 : Hid (Fr (fun _ => False) w w4) := (Fr.of_below (D := fun _ => False) BB3.out).below B4.out
        have hlt4 : Hid (w.heap.size + 1 < w4.heap.size) := Nat.lt_of_lt_of_le hlt3.out B4.out.size
        have hwo := wound_any w4 a t vh vw vp ⟨x, y, z⟩ T4'.out (by omega) (by omega) hm HSO.out.2.2
        clear x0 x1 x2 x3 d0 d1 d2 hw4 hwr
        obtain ⟨x0, x1, x2, x3⟩ := X4.out
        go_wp2_with fail
        refine hwo.mono ?_
        rintro e w5 ⟨vu, rfl, ou, vh5, vw5, o1, o2, T5, F5, fu⟩
        have X5 : Hid (XX w.heap.size x y z w5) := X4.out.fr F5 (nD.out _ (Nat.le_refl _)) (nD.out _ (by omega))
        have HT5 : Hid (Tab w5 a (stripAll t (hurtL t.prep ⟨x, y, z⟩ t.held)) vh5 vw5 vp) := T5
        have HU5 : Hid (Own il 1 3 w5 vu (t.hurt ⟨x, y, z⟩) ∧ ∀ g, vu.ownBlock = some g → w4.heap.size ≤ g) := ⟨ou, fu⟩
        have HO5 : Hid (vh5.ownBlock = vh.ownBlock ∧ vw5.ownBlock = vw.ownBlock) := ⟨o1, o2⟩
        have HF5 : Hid (Fr (Dm a vh vw vp) w w5) := (F4.out.mono (E := Dm a vh vw vp) fun _ _ e => e.elim).trans F5 fun g _ e => e
        have hs45 : Hid (w4.heap.size ≤ w5.heap.size) := F5.size
        have haw := await_any w5 a (stripAll t (hurtL t.prep ⟨x, y, z⟩ t.held)) vh5 vw5 vp ⟨x, y, z⟩ T5 (by have := Q1.out.2.2.2; omega) Q1.out.1 Q1.out.2.1 h0 h1
        clear hwo x0 x1 x2 x3 ou fu T5 F5 o1 o2
        obtain ⟨x0, x1, x2, x3⟩ := X5.out
        go_wp2_with fail
        refine haw.mono ?_
        rintro e w6 ⟨rfl, p, hp, vw6, T6, F6, at6⟩
        have ep := isPos_eq hp
        subst ep
        have nW : Hid (∀ g, w.heap.size ≤ g → ¬ (g = a ∨ vw5.ownBlock = some g)) := fun g hg hd => nD.out g hg (hd.imp id fun e => .inr (.inl (by rw [← HO5.out.2]; exact e)))
        have X6 : Hid (XX w.heap.size x y z w6) := X5.out.fr F6 (nW.out _ (Nat.le_refl _)) (nW.out _ (by omega))
        have HU6 : Hid (Own il 1 3 w6 vu (t.hurt ⟨x, y, z⟩)) := HU5.out.1.fr F6 fun g e => nW.out g (by have := HU5.out.2 g e; have := hlt4.out; omega)
        have HT6 : Hid (Tab w6 a (t.asked ⟨x, y, z⟩) vh5 vw6 vp) := T6
        have hat6 : Hid (∀ g, vw6.ownBlock = some g → vw.ownBlock = some g ∨ w5.heap.size ≤ g) := fun g e => (at6 g e).imp (fun q => by rw [← HO5.out.2]; exact q) id
        have HF6 : Hid (Fr (Dm a vh vw vp) w w6) := HF5.out.trans F6 fun g _ e => e.elim .inl fun q => .inr (.inr (.inl (by rw [← HO5.out.2]; exact q)))
        have hD6 : Hid (∀ g, Dm a vh5 vw6 vp g → Dm a vh vw vp g ∨ w5.heap.size ≤ g) := fun g hg => by
          rcases hg with q | q | q | q
          · exact .inl (.inl q)
          · exact .inl (.inr (.inl (by rw [← HO5.out.1]; exact q)))
          · exact (hat6.out g q).imp (fun e => .inr (.inr (.inl e))) id
          · exact .inl (.inr (.inr (.inr q)))
        have hs56 : Hid (w5.heap.size ≤ w6.heap.size) := F6.size
        have HLA : Hid ((t.asked ⟨x, y, z⟩).held.length + (t.asked ⟨x, y, z⟩).waits.length ≤ 900) := by
          show _ ≤ _
          have e1 : (t.asked ⟨x, y, z⟩).held = (stripAll t (hurtL t.prep ⟨x, y, z⟩ t.held)).held := rfl
          have e2 : (t.asked ⟨x, y, z⟩).waits.length = (stripAll t (hurtL t.prep ⟨x, y, z⟩ t.held)).waits.length + 1 := insL_len _ _ _ hp.1
          have := Q1.out.2.2
          rw [e1, e2]; omega
        have hpo := passOn_any w6 a (t.asked ⟨x, y, z⟩) vh5 vw6 vp T6 HLA.out
        clear haw x0 x1 x2 x3 hp T6 F6 at6
        obtain ⟨x0, x1, x2, x3⟩ := X6.out
        go_wp2_with fail
        refine hpo.mono ?_
        rintro e w7 ⟨vg, rfl, og, E, TT7, F7, sub7, fg⟩
        have nE : Hid (∀ g, w.heap.size ≤ g → g < w5.heap.size → ¬ Dm a vh5 vw6 vp g) := fun g h1 h2 hd => (hD6.out g hd).elim (nD.out g h1) (fun q => by omega)
        have X7 : Hid (XX w.heap.size x y z w7) := X6.out.fr F7 (nE.out _ (Nat.le_refl _) (by have := hlt4.out; have := hs45.out; omega)) (nE.out _ (by omega) (by have := hlt4.out; have := hs45.out; omega))
        have hu5 : Hid (∀ g, vu.ownBlock = some g → w.heap.size ≤ g ∧ g < w5.heap.size) := fun g e => ⟨by have := HU5.out.2 g e; have := hlt4.out; omega, HU5.out.1.lt e⟩
        have HU7 : Hid (Own il 1 3 w7 vu (t.hurt ⟨x, y, z⟩)) := HU6.out.fr F7 fun g e => nE.out g (hu5.out g e).1 (hu5.out g e).2
        have HF7 : Hid (Fr (Dm a vh vw vp) w w7) := HF6.out.trans F7 fun g hg e => (hD6.out g e).resolve_right (by have := hs45.out; have := hlt4.out; omega)
        have HE7 : Hid (TT w7 a (t.asked ⟨x, y, z⟩).passed E ∧ (∀ g, E g → Dm a vh vw vp g ∨ w.heap.size ≤ g) ∧ (∀ g, vu.ownBlock = some g → w.heap.size ≤ g ∧ ¬ E g) ∧ ∀ g, vg.ownBlock = some g → w.heap.size ≤ g ∧ ¬ E g ∧ vu.ownBlock ≠ some g) := by
          refine ⟨TT7, fun g hg => ?_, fun g e => ⟨(hu5.out g e).1, fun hg => ?_⟩, fun g e => ⟨?_, (fg g e).2, fun q => ?_⟩⟩
          · rcases sub7 g hg with q | q
            · exact (hD6.out g q).imp id fun r => by have := hs45.out; have := hlt4.out; omega
            · exact .inr (by have := hs45.out; have := hlt4.out; have := hs56.out; omega)
          · rcases sub7 g hg with q | q
            · exact nE.out g (hu5.out g e).1 (hu5.out g e).2 q
            · have := (hu5.out g e).2; have := hs56.out; omega
          · have := (fg g e).1; have := hs45.out; have := hlt4.out; have := hs56.out; omega
          · have := (fg g e).1; have := (hu5.out g q).2; have := hs56.out; omega
        have OG : Hid (Own gl 2 102 w7 vg (t.asked ⟨x, y, z⟩).gots) := og
        obtain ⟨vh7, vw7, vp7, T7, _⟩ := TT7
        have hg6 : Hid (∀ g, vg.ownBlock = some g → w.heap.size < g) := fun g e => by have := (fg g e).1; have := hs45.out; have := hlt4.out; have := hs56.out; omega
        have hpl := passF_len (t.asked ⟨x, y, z⟩).waits (t.asked ⟨x, y, z⟩).held [] []
        have hl7 : (t.asked ⟨x, y, z⟩).passed.waits.length ≤ 1000 := by
          have e3 : (t.asked ⟨x, y, z⟩).passed.waits = (passF (t.asked ⟨x, y, z⟩).waits (t.asked ⟨x, y, z⟩).held [] []).2.1 := rfl
          rw [e3]; have := hpl.1; have := HLA.out; simp at hpl; omega
        have hw7 := waiting_any w7 a (t.asked ⟨x, y, z⟩).passed vh7 vw7 vp7 x T7 hl7
        have hlg : Hid ((t.asked ⟨x, y, z⟩).gots.length ≤ 1000) := by
          have e3 : (t.asked ⟨x, y, z⟩).gots = (passF (t.asked ⟨x, y, z⟩).waits (t.asked ⟨x, y, z⟩).held [] []).2.2 := rfl
          show _ ≤ _
          rw [e3]; have := hpl.2; have := HLA.out; simp at hpl; omega
        clear hpl
        clear hpo x0 x1 x2 x3 og F7 sub7 fg T7 hl7
        obtain ⟨x0, x1, x2, x3⟩ := X7.out
        generalize waitB (t.asked ⟨x, y, z⟩).passed.waits x = cb at *
        go_wp2_with fail
        refine hw7.mono ?_
        rintro e w8 ⟨rfl, hb8⟩
        have HE8 : Hid (TT w8 a (t.asked ⟨x, y, z⟩).passed E) := HE7.out.1.below hb8
        have HU8 : Hid (Own il 1 3 w8 vu (t.hurt ⟨x, y, z⟩)) := HU7.out.block fun g e => hb8.block g (HU7.out.lt e)
        have OG8 : Hid (Own gl 2 102 w8 vg (t.asked ⟨x, y, z⟩).gots) := OG.out.block fun g e => hb8.block g (OG.out.lt e)
        have HF8 : Hid (Fr (Dm a vh vw vp) w w8) := HF7.out.below hb8
        clear hw7
        cases cb with
        | true =>
          go_wp2
          rw [HT.out]
          refine bodyPost_ret (v := .tuple #[.int .i64 2, vu, vg]) (by simp [results, Try.results34, go_sem]) rfl ?_
          exact ⟨vu, vg, rfl, HU8.out, OG8.out, E, HE8.out, HF8.out, HE7.out.2.1, HE7.out.2.2.1, HE7.out.2.2.2⟩
        | false =>
          have x08 : w8.cell? ⟨w.heap.size, 0, none⟩ = some (.int .i64 x) := (hb8.cell (p := ⟨w.heap.size, 0, none⟩) (cell_lt x0)).trans x0
          have hdg := deleteG_own w.heap.size x vg (t.asked ⟨x, y, z⟩).gots w8 OG8.out hlg.out x08 (fun e => absurd (hg6.out _ e) (Nat.lt_irrefl _))
          go_wp2_with fail
          refine hdg.mono ?_
          rintro e w9 ⟨vg9, rfl, ob9, og9, f9⟩
          clear hdg
          go_wp2
          rw [HT.out]
          refine bodyPost_ret (v := .tuple #[.int .i64 1, vu, vg9]) (by simp [results, Try.results34, go_sem]) rfl ?_
          refine ⟨vu, vg9, rfl, HU8.out.fr f9 fun g e q => (HE7.out.2.2.2 g q).2.2 e, og9, E, HE8.out.fr f9 fun g hg q => (HE7.out.2.2.2 g q).2.1 hg, HF8.out.trans f9 fun g hg q => absurd (HE7.out.2.2.2 g q).1 (by omega), HE7.out.2.1, HE7.out.2.2.1, fun g e => HE7.out.2.2.2 g (by rw [← ob9]; exact e)⟩
end Go.Proofs.Ytlagmbieaicmgaa
