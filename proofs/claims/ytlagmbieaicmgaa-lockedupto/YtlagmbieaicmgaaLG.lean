/- Tables of locks: appends onto rows of one's own; a table whose row is put anew; give. -/
import Derived.Test.YtlagmbieaicmgaaLF
import Derived.Deep.AppendLies
import Derived.Deep.RegionHeld3
import Derived.BigRegion
import Derived.Deep.RegionLaw
namespace Go.Proofs.Ytlagmbieaicmgaa
open Go.RowKit Lk

/-- What the appends ask of an element's type. -/
structure El {α : Type} (enc : α → List Value) (k bytes : Nat) (S T : TypeId) : Prop where
  len : ∀ x, (enc x).length = k
  ones : ∀ x, ∀ v ∈ enc x, v.oneCell' = true
  pos : 0 < k
  small : bytes ≤ 64
  under : Try.prog.underlying S = some (.slice T)
  info : ∃ i z, Try.prog.info? T = some i ∧ i.zero = some z ∧ i.size = k ∧ i.bytes = bytes ∧ z.cells.size = k

theorem El.mk' {α : Type} {enc : α → List Value} {k bytes : Nat} {S T : TypeId} {z : Value} (len : ∀ x, (enc x).length = k) (ones : ∀ x, ∀ v ∈ enc x, v.oneCell' = true) (pos : 0 < k) (small : bytes ≤ 64) (under : Try.prog.underlying S = some (.slice T))
    (h : (Try.prog.info? T).map (fun i => (i.zero, i.size, i.bytes)) = some (some z, k, bytes)) (hz : z.cells.size = k) : El enc k bytes S T := by
  obtain ⟨i, h1, h2, h3, h4⟩ := info_parts h
  exact ⟨len, ones, pos, small, under, i, z, h1, h2, h3, h4, hz⟩

theorem el_claim : El cl 3 24 63 97 := El.mk' (z := .agg #[.int .i64 0, .int .i64 0, .bool false]) cl_len (by intro x v hv; simp [cl] at hv; rcases hv with rfl | rfl | rfl <;> rfl) (by decide) (by decide) Try.underlying63 (by kernel_rfl) rfl
theorem el_grant : El gl 2 16 83 102 := El.mk' (z := .agg #[.int .i64 0, .int .i64 0]) gl_len (by intro x v hv; simp [gl] at hv; rcases hv with rfl | rfl <;> rfl) (by decide) (by decide) Try.underlying83 (by kernel_rfl) rfl
theorem el_agrant : El gl 2 16 43 79 := El.mk' (z := .agg #[.int .i64 0, .int .i64 0]) gl_len (by intro x v hv; simp [gl] at hv; rcases hv with rfl | rfl <;> rfl) (by decide) (by decide) Try.underlying43 (by kernel_rfl) rfl
theorem el_wait : El gl 2 16 59 81 := El.mk' (z := .agg #[.int .i64 0, .int .i64 0]) gl_len (by intro x v hv; simp [gl] at hv; rcases hv with rfl | rfl <;> rfl) (by decide) (by decide) Try.underlying59 (by kernel_rfl) rfl
theorem el_int : El il 1 8 42 3 := El.mk' (z := .int .i64 0) il_len (by intro x v hv; simp [il] at hv; rcases hv with rfl; rfl) (by decide) (by decide) Try.underlying42 (by kernel_rfl) rfl

section
variable {α : Type} {enc : α → List Value} {k bytes : Nat} {S T : TypeId}

theorem news_at {w : World} {B : Nat} {cs : Array Value} {t : TypeId} {fr : Nat × Nat} (hb : w.heap[B]? = some (.cells cs t fr)) : ∀ j u, cs.toList[j]? = some u → w.cell? ((⟨B, 0, none⟩ : Addr).add j) = some u := World.news_of_block hb

/-- Appended in a plain region. -/
theorem app_list (E : El enc k bytes S T) (w : World) {ops : Array Oper} {rest : List Oper} {o : Oper} {a : Act} {Q : Exit → Act → World → Prop} (hgd : o.guard = none) (s x : Operand)
    (ho : o.op = .call { callee := .builtin .append, args := #[s, x], argTypes := #[S, S] }) (v : Value) (xs : List α) (hs : a.eval s = v) (hown : Own enc k T w v xs) (B : Nat) (x0 : α) (cs : Array Value) (t : TypeId) (hx : a.eval x = .slice (some ⟨B, 0, none⟩) 1 1)
    (hb : w.heap[B]? = some (.cells cs t (0, 0))) (hc : cs.toList = enc x0) (hl : xs.length ≤ 1000000000000)
    (h : ∀ g cap w', Own enc k T w' (.slice (some ⟨g, 0, none⟩) (xs.length + 1) cap) (xs ++ [x0]) → Fr (fun b => v.ownBlock = some b) w w' → (v.ownBlock = some g ∨ w.heap.size ≤ g) → g < w'.heap.size → wpList Try.prog ops Q rest (a.put o.dst (.slice (some ⟨g, 0, none⟩) (xs.length + 1) cap)) w') :
    wpList Try.prog ops Q (o :: rest) a w := by
  obtain ⟨i, z, h1, h2, h3, h4, h5⟩ := E.info
  refine wpList_append_lies w hgd s x S ho 0 T i z k bytes E.under h1 h2 h3 h4 h5 E.pos v xs.length (Lk.fl enc xs) hs hown ⟨B, 0, none⟩ 1 1 (enc x0) hx (by rw [E.len]; omega) (by rw [← hc]; exact news_at hb) (E.ones x0) (by omega) (by unfold maxLen; omega) ?_ (Nat.zero_le _) w.heap.size rfl ?_
  · have := Nat.mul_le_mul (show xs.length + 1 ≤ 1000000000001 by omega) E.small; omega
  · intro g cap w' g1 g2 g3 g4
    refine h g cap w' ?_ (Fr.of_grown g2) (g3.imp id fun e => by rw [e]; exact Nat.le_refl _) g4
    unfold Own
    rw [fl_append, fl_one, List.length_append, List.length_singleton]
    exact g1

/-- Appended at a step of a region that draws. -/
theorem app_step (E : El enc k bytes S T) (w : World) {ops : Array Oper} {o : Oper} {a : Act} {K : Act → World → Prop} {Q : Exit → Act → World → Prop} {P : Prop} (hgd : o.guard = none) (s x : Operand)
    (ho : o.op = .call { callee := .builtin .append, args := #[s, x], argTypes := #[S, S] }) (v : Value) (xs : List α) (hs : a.eval s = v) (hown : Own enc k T w v xs) (B : Nat) (x0 : α) (cs : Array Value) (t : TypeId) (hx : a.eval x = .slice (some ⟨B, 0, none⟩) 1 1)
    (hb : w.heap[B]? = some (.cells cs t (0, 0))) (hc : cs.toList = enc x0) (hl : xs.length ≤ 1000000000000)
    (h : ∀ g cap w', Own enc k T w' (.slice (some ⟨g, 0, none⟩) (xs.length + 1) cap) (xs ++ [x0]) → Fr (fun b => v.ownBlock = some b) w w' → (v.ownBlock = some g ∨ w.heap.size ≤ g) → g < w'.heap.size → K (a.put o.dst (.slice (some ⟨g, 0, none⟩) (xs.length + 1) cap)) w') :
    if Region.wanted o (yielded ops a.tmps) = true then Oper.wp Try.prog o a w K Q else P := by
  obtain ⟨i, z, h1, h2, h3, h4, h5⟩ := E.info
  refine step_append_lies w hgd s x S ho 0 T i z k bytes E.under h1 h2 h3 h4 h5 E.pos v xs.length (Lk.fl enc xs) hs hown ⟨B, 0, none⟩ 1 1 (enc x0) hx (by rw [E.len]; omega) (by rw [← hc]; exact news_at hb) (E.ones x0) (by omega) (by unfold maxLen; omega) ?_ (Nat.zero_le _) w.heap.size rfl ?_
  · have := Nat.mul_le_mul (show xs.length + 1 ≤ 1000000000001 by omega) E.small; omega
  · intro g cap w' g1 g2 g3 g4
    refine h g cap w' ?_ (Fr.of_grown g2) (g3.imp id fun e => by rw [e]; exact Nat.le_refl _) g4
    unfold Own
    rw [fl_append, fl_one, List.length_append, List.length_singleton]
    exact g1
end

/-- A table whose row of held locks is put anew. -/
theorem Tab.put1 {w w2 : World} {a : Nat} {t : T4} {vh vw vp v : Value} {hs : List C} (h : Tab w a t vh vw vp) (hf : Fr (fun b => vh.ownBlock = some b) w w2) (ho : Own cl 3 97 w2 v hs) (hb : ∀ g, v.ownBlock = some g → vh.ownBlock = some g ∨ w.heap.size ≤ g) :
    Tab (w2.setCell ⟨a, 1, none⟩ v) a { t with held := hs } v vw vp ∧ Fr (Dm a vh vw vp) w (w2.setCell ⟨a, 1, none⟩ v) := by
  have hx : Bx w2 a t.most vh vw vp := Bx.fr h.box hf h.ha
  have f1 := fr_set w2 a 1 v
  have na : ∀ g, v.ownBlock = some g → g ≠ a := fun g hg e => by
    subst e
    rcases hb g hg with e | e
    · exact h.ha e
    · exact absurd h.lt (by omega)
  refine ⟨⟨hx.set1 v, ho.fr f1 na, (h.waits.fr hf fun g hg e => h.hw g e hg).fr f1 fun g hg e => h.wa (by rw [hg, e]), (h.prep.fr hf fun g hg e => h.hp g e hg).fr f1 fun g hg e => h.pa (by rw [hg, e]), fun e => na a e rfl, h.wa, h.pa, ?_, ?_, h.wp⟩, ?_⟩
  · intro g hg e
    rcases hb g hg with e' | e'
    · exact h.hw g e' e
    · exact absurd (h.waits.lt e) (by omega)
  · intro g hg e
    rcases hb g hg with e' | e'
    · exact h.hp g e' e
    · exact absurd (h.prep.lt e) (by omega)
  · exact (hf.mono (E := Dm a vh vw vp) fun g _ e => .inr (.inl e)).trans f1 fun g _ e => .inl e

theorem Tab.put2 {w w2 : World} {a : Nat} {t : T4} {vh vw vp v : Value} {hs : List C} (h : Tab w a t vh vw vp) (hf : Fr (fun b => vw.ownBlock = some b) w w2) (ho : Own cl 3 97 w2 v hs) (hb : ∀ g, v.ownBlock = some g → vw.ownBlock = some g ∨ w.heap.size ≤ g) :
    Tab (w2.setCell ⟨a, 2, none⟩ v) a { t with waits := hs } vh v vp ∧ Fr (Dm a vh vw vp) w (w2.setCell ⟨a, 2, none⟩ v) := by
  have hx : Bx w2 a t.most vh vw vp := Bx.fr h.box hf h.wa
  have f1 := fr_set w2 a 2 v
  have na : ∀ g, v.ownBlock = some g → g ≠ a := fun g hg e => by
    subst e
    rcases hb g hg with e | e
    · exact h.wa e
    · exact absurd h.lt (by omega)
  refine ⟨⟨hx.set2 v, (h.held.fr hf fun g hg e => h.hw g hg e).fr f1 fun g hg e => h.ha (by rw [hg, e]), ho.fr f1 na, (h.prep.fr hf fun g hg e => h.wp g e hg).fr f1 fun g hg e => h.pa (by rw [hg, e]), h.ha, fun e => na a e rfl, h.pa, ?_, h.hp, ?_⟩, ?_⟩
  · intro g hg e
    rcases hb g e with e' | e'
    · exact h.hw g hg e'
    · exact absurd (h.held.lt hg) (by omega)
  · intro g hg e
    rcases hb g hg with e' | e'
    · exact h.wp g e' e
    · exact absurd (h.prep.lt e) (by omega)
  · exact (hf.mono (E := Dm a vh vw vp) fun g _ e => .inr (.inr (.inl e))).trans f1 fun g _ e => .inl e

theorem Tab.put3 {w w2 : World} {a : Nat} {t : T4} {vh vw vp v : Value} {hs : List Int} (h : Tab w a t vh vw vp) (hf : Fr (fun b => vp.ownBlock = some b) w w2) (ho : Own il 1 3 w2 v hs) (hb : ∀ g, v.ownBlock = some g → vp.ownBlock = some g ∨ w.heap.size ≤ g) :
    Tab (w2.setCell ⟨a, 3, none⟩ v) a { t with prep := hs } vh vw v ∧ Fr (Dm a vh vw vp) w (w2.setCell ⟨a, 3, none⟩ v) := by
  have hx : Bx w2 a t.most vh vw vp := Bx.fr h.box hf h.pa
  have f1 := fr_set w2 a 3 v
  have na : ∀ g, v.ownBlock = some g → g ≠ a := fun g hg e => by
    subst e
    rcases hb g hg with e | e
    · exact h.pa e
    · exact absurd h.lt (by omega)
  refine ⟨⟨hx.set3 v, (h.held.fr hf fun g hg e => h.hp g hg e).fr f1 fun g hg e => h.ha (by rw [hg, e]), (h.waits.fr hf fun g hg e => h.wp g hg e).fr f1 fun g hg e => h.wa (by rw [hg, e]), ho.fr f1 na, h.ha, h.wa, fun e => na a e rfl, h.hw, ?_, ?_⟩, ?_⟩
  · intro g hg e
    rcases hb g e with e' | e'
    · exact h.hp g hg e'
    · exact absurd (h.held.lt hg) (by omega)
  · intro g hg e
    rcases hb g e with e' | e'
    · exact h.wp g hg e'
    · exact absurd (h.waits.lt hg) (by omega)
  · exact (hf.mono (E := Dm a vh vw vp) fun g _ e => .inr (.inr (.inr e))).trans f1 fun g _ e => .inl e

/-- A table with its blocks. -/
def TT (w : World) (a : Nat) (t : T4) (D : Nat → Prop) : Prop := ∃ vh vw vp, Tab w a t vh vw vp ∧ ∀ g, Dm a vh vw vp g ↔ D g
/-- From a table to a table: what else was there stays, and new blocks alone are taken. -/
def TG (w : World) (D : Nat → Prop) (w' : World) (a : Nat) (t : T4) : Prop := ∃ E, TT w' a t E ∧ Fr D w w' ∧ ∀ g, E g → D g ∨ w.heap.size ≤ g
theorem TT.lt {w : World} {a : Nat} {t : T4} {D : Nat → Prop} (h : TT w a t D) {g : Nat} (hg : D g) : g < w.heap.size := by
  obtain ⟨vh, vw, vp, h, e⟩ := h
  exact h.dlt ((e g).2 hg)
theorem TT.fr {D E : Nat → Prop} {w w' : World} {a : Nat} {t : T4} (h : TT w a t E) (hf : Fr D w w') (hD : ∀ g, E g → ¬ D g) : TT w' a t E := by
  obtain ⟨vh, vw, vp, h, e⟩ := h
  exact ⟨vh, vw, vp, h.fr hf fun g hg => hD g ((e g).1 hg), e⟩
theorem TT.below {w w' : World} {a : Nat} {t : T4} {E : Nat → Prop} (h : TT w a t E) (hb : Below w.heap.size w w') : TT w' a t E := h.fr (D := fun _ => False) (Fr.of_below hb) fun _ _ e => e
theorem TG.trans {w w1 w2 : World} {D E : Nat → Prop} {a : Nat} {t : T4} (hf : Fr D w w1) (hE : ∀ g, E g → D g ∨ w.heap.size ≤ g) (k : TG w1 E w2 a t) : TG w D w2 a t := by
  obtain ⟨E2, h1, h2, h3⟩ := k
  refine ⟨E2, h1, hf.trans h2 fun g hg e => (hE g e).resolve_right (by omega), fun g hg => ?_⟩
  rcases h3 g hg with e | e
  · exact hE g e
  · exact .inr (Nat.le_trans hf.size e)
theorem TG.below {w w1 : World} {D : Nat → Prop} {a : Nat} {t : T4} (k : TG w D w1 a t) {w2 : World} (hb : Below w1.heap.size w1 w2) : TG w D w2 a t := by
  obtain ⟨E, h1, h2, h3⟩ := k
  exact ⟨E, h1.below hb, h2.below hb, h3⟩
end Go.Proofs.Ytlagmbieaicmgaa
