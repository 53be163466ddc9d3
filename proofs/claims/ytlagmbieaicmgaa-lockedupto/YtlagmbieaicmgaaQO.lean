/- The book of marks: its memory; a list of numbers goes into it. -/
import Derived.Test.YtlagmbieaicmgaaQM
namespace Go.Proofs.Ytlagmbieaicmgaa
open Go.RowKit Lk Go.Shelf

/-- The book in memory. -/
structure Bk (w : World) (d : Nat) (xi xg xw : List Sl) (vi vg vw : Value) : Prop where
  box : w.heap[d]? = some (.cells #[vi, vg, vw, .slice none 0 0, .slice none 0 0, .int .i64 0] 30 (0, 0))
  i : Own sl 1 42 w vi xi
  g : Own sl 1 43 w vg xg
  h : Own sl 1 59 w vw xw
  id : vi.ownBlock ≠ some d
  gd : vg.ownBlock ≠ some d
  hd : vw.ownBlock ≠ some d
  ig : ∀ b, vi.ownBlock = some b → vg.ownBlock ≠ some b
  ih : ∀ b, vi.ownBlock = some b → vw.ownBlock ≠ some b
  gh : ∀ b, vg.ownBlock = some b → vw.ownBlock ≠ some b
def Db (d : Nat) (vi vg vw : Value) (g : Nat) : Prop := g = d ∨ vi.ownBlock = some g ∨ vg.ownBlock = some g ∨ vw.ownBlock = some g
theorem Bk.lt {w : World} {d : Nat} {xi xg xw : List Sl} {vi vg vw : Value} (h : Bk w d xi xg xw vi vg vw) : d < w.heap.size := (Array.getElem?_eq_some_iff.1 h.box).1
theorem Bk.dlt {w : World} {d : Nat} {xi xg xw : List Sl} {vi vg vw : Value} (h : Bk w d xi xg xw vi vg vw) {g : Nat} (hg : Db d vi vg vw g) : g < w.heap.size := by
  rcases hg with rfl | e | e | e
  · exact h.lt
  · exact h.i.lt e
  · exact h.g.lt e
  · exact h.h.lt e
theorem Bk.fr {D : Nat → Prop} {w w' : World} {d : Nat} {xi xg xw : List Sl} {vi vg vw : Value} (h : Bk w d xi xg xw vi vg vw) (hf : Fr D w w') (hD : ∀ g, Db d vi vg vw g → ¬ D g) : Bk w' d xi xg xw vi vg vw :=
  ⟨by rw [hf.block d h.lt (hD d (.inl rfl))]; exact h.box, h.i.fr hf fun g e => hD g (.inr (.inl e)), h.g.fr hf fun g e => hD g (.inr (.inr (.inl e))), h.h.fr hf fun g e => hD g (.inr (.inr (.inr e))), h.id, h.gd, h.hd, h.ig, h.ih, h.gh⟩
theorem Bk.below {w w' : World} {d : Nat} {xi xg xw : List Sl} {vi vg vw : Value} (h : Bk w d xi xg xw vi vg vw) (hb : Below w.heap.size w w') : Bk w' d xi xg xw vi vg vw := h.fr (D := fun _ => False) (Fr.of_below hb) fun _ _ e => e

/-- The n-th list of a row bears its mark. -/
def markI (n : Nat) : Int := -7 - ((n / 4 : Nat) : Int)
def MI (w : World) (K : Nat → Prop) (xs : List Sl) : Prop := ∀ n (hn : n < xs.length), Mk il 1 w K xs[n] (markI n)
def MG (w : World) (K : Nat → Prop) (xs : List Sl) : Prop := ∀ n (hn : n < xs.length), Mk gl 2 w K xs[n] ⟨markI n, 0⟩
theorem MI.fr {D : Nat → Prop} {w w' : World} {K : Nat → Prop} {xs : List Sl} (h : MI w K xs) (hf : Fr D w w') (hD : ∀ g, K g → ¬ D g) : MI w' K xs := fun n hn => (h n hn).fr il_len (by omega) hf hD
theorem MG.fr {D : Nat → Prop} {w w' : World} {K : Nat → Prop} {xs : List Sl} (h : MG w K xs) (hf : Fr D w w') (hD : ∀ g, K g → ¬ D g) : MG w' K xs := fun n hn => (h n hn).fr gl_len (by omega) hf hD
theorem MI.imp {w : World} {K K' : Nat → Prop} {xs : List Sl} (h : MI w K xs) (hK : ∀ g, K g → K' g) : MI w K' xs := fun n hn => (h n hn).imp hK
theorem MG.imp {w : World} {K K' : Nat → Prop} {xs : List Sl} (h : MG w K xs) (hK : ∀ g, K g → K' g) : MG w K' xs := fun n hn => (h n hn).imp hK
theorem markI_four {n j : Nat} (hj : j < 4) : markI (4 * n + j) = markI (4 * n) := by unfold markI; congr 2; omega
theorem four_at {P : Nat → Sl → Prop} {xs : List Sl} {a b c d : Sl} (h : ∀ n (hn : n < xs.length), P n xs[n]) (ha : P xs.length a) (hb : P (xs.length + 1) b) (hc : P (xs.length + 2) c) (hd : P (xs.length + 3) d) : ∀ n (hn : n < (xs ++ [a, b, c, d]).length), P n (xs ++ [a, b, c, d])[n] := by
  intro n hn
  by_cases hl : n < xs.length
  · rw [List.getElem_append_left hl]; exact h n hl
  · rw [List.getElem_append_right (by omega)]
    have hn' : n < xs.length + 4 := by simpa using hn
    rcases (show n = xs.length ∨ n = xs.length + 1 ∨ n = xs.length + 2 ∨ n = xs.length + 3 by omega) with e | e | e | e
    · subst e; simpa using ha
    · subst e; simpa using hb
    · subst e; simpa using hc
    · subst e; simpa using hd

/-- The book, its own blocks D, and the blocks K of the lists that bear a mark. -/
def BK (w : World) (d : Nat) (ni ng nw : Nat) (D K : Nat → Prop) : Prop :=
  ∃ xi xg xw vi vg vw, Bk w d xi xg xw vi vg vw ∧ (∀ g, Db d vi vg vw g ↔ D g) ∧ MI w K xi ∧ MG w K xg ∧ MG w K xw ∧ (∀ g, K g → ¬ D g ∧ g < w.heap.size) ∧ xi.length = 4 * ni ∧ xg.length = 4 * ng ∧ xw.length = 4 * nw
theorem BK.fr {w w' : World} {d ni ng nw : Nat} {D K X : Nat → Prop} (h : BK w d ni ng nw D K) (hf : Fr X w w') (hX : ∀ g, D g ∨ K g → ¬ X g) : BK w' d ni ng nw D K := by
  obtain ⟨xi, xg, xw, vi, vg, vw, hb, hD, m1, m2, m3, hK, l1, l2, l3⟩ := h
  have hKX : ∀ g, K g → ¬ X g := fun g e => hX g (.inr e)
  exact ⟨xi, xg, xw, vi, vg, vw, hb.fr hf fun g e => hX g (.inl ((hD g).1 e)), hD, m1.fr hf hKX, m2.fr hf hKX, m3.fr hf hKX, fun g e => ⟨(hK g e).1, Nat.lt_of_lt_of_le (hK g e).2 hf.size⟩, l1, l2, l3⟩
theorem BK.below {w w' : World} {d ni ng nw : Nat} {D K : Nat → Prop} (h : BK w d ni ng nw D K) (hb : Below w.heap.size w w') : BK w' d ni ng nw D K := h.fr (X := fun _ => False) (Fr.of_below hb) fun _ _ e => e
theorem BK.lt {w : World} {d ni ng nw : Nat} {D K : Nat → Prop} (h : BK w d ni ng nw D K) {g : Nat} (hg : D g ∨ K g) : g < w.heap.size := by
  obtain ⟨xi, xg, xw, vi, vg, vw, hb, hD, _, _, _, hK, _⟩ := h
  rcases hg with e | e
  · exact hb.dlt ((hD g).2 e)
  · exact (hK g e).2

/-- What the book leaves behind a list that went into it. -/
def BG (w : World) (d : Nat) (ni ng nw : Nat) (D K : Nat → Prop) (ao : Option Addr) (w' : World) : Prop :=
  ∃ D' K', BK w' d ni ng nw D' K' ∧ Fr (fun g => D g ∨ ao = some ⟨g, 0, none⟩) w w' ∧ (∀ g, D' g → D g ∨ w.heap.size ≤ g) ∧ ∀ g, K' g → K g ∨ ao = some ⟨g, 0, none⟩ ∨ w.heap.size ≤ g

section
variable {α : Type} {enc : α → List Value} {k bytes : Nat} {S T : TypeId}
theorem LS.step (E : El enc k bytes S T) {w : World} {g i n cap : Nat} {x : α} (h : LS enc k T w (some ⟨g, 0, none⟩) i n cap x) (hi : i < n) : LS enc k T (w.setCells g (i * k) (enc x)) (some ⟨g, 0, none⟩) (i + 1) n cap x := by
  rcases h with ⟨e, _⟩ | ⟨g', e, hn, hA, hS⟩
  · cases e
  · injection e with e
    injection e with e
    subst e
    have hq : ∀ j, j < k → i * k + j < cap * k := fun j hj => by
      have := Nat.mul_le_mul_right k (show i + 1 ≤ cap by omega)
      rw [Nat.succ_mul] at this
      omega
    refine .inr ⟨g, rfl, hn, fun j hj => ?_, Sh.setCells _ _ _ hS⟩
    by_cases hji : j < i * k
    · rw [World.cell?_setCells_out g (enc x) (i * k) w ⟨g, j, none⟩ (fun _ _ => .inl hji)]
      exact hA j hji
    · rw [Nat.succ_mul] at hj
      have hr : j - i * k < (enc x).length := by rw [E.len]; omega
      have h1 := World.cell?_setCells_in g (enc x) (i * k) w (fun t ht => hS.some _ (hq t (by rwa [E.len] at ht))) (j - i * k) hr
      rw [show i * k + (j - i * k) = j by omega] at h1
      rw [h1, show j % k = j - i * k from by
        have e : j = k * i + (j - i * k) := by rw [Nat.mul_comm]; omega
        conv => lhs; rw [e]
        rw [Nat.mul_add_mod_self_left, Nat.mod_eq_of_lt (by rwa [E.len] at hr)]]
      rw [List.getElem?_eq_getElem hr]
theorem LS.cell (_E : El enc k bytes S T) {w : World} {ao : Option Addr} {i n cap : Nat} {x : α} (h : LS enc k T w ao i n cap x) (hi : i < n) : ∃ g, ao = some ⟨g, 0, none⟩ ∧ ∀ j, j < k → (∃ v, w.cell? ⟨g, i * k + j, none⟩ = some v) ∧ w.frozen? ⟨g, i * k + j, none⟩ = false := by
  rcases h with ⟨_, e, _⟩ | ⟨g, e, hn, hA, hS⟩
  · omega
  · refine ⟨g, e, fun j hj => ⟨?_, hS.free _⟩⟩
    have hq : i * k + j < cap * k := by
      have := Nat.mul_le_mul_right k (show i + 1 ≤ cap by omega)
      rw [Nat.succ_mul] at this
      omega
    exact Option.isSome_iff_exists.1 (hS.some _ hq)
theorem Mk.bound (E : El enc k bytes S T) {w : World} {K : Nat → Prop} {s : Sl} {x : α} (h : Mk enc k w K s x) : Mk enc k w (fun g => K g ∧ g < w.heap.size) s x := by
  refine ⟨h.1, ?_⟩
  by_cases hn : s.n = 0
  · exact .inl hn
  · rcases h.2 with h | ⟨g, h1, h2, h3⟩
    · exact .inl h
    · exact .inr ⟨g, h1, ⟨h2, h3.lt E.len E.pos hn⟩, h3⟩
theorem LS.mk (_E : El enc k bytes S T) {w : World} {ao : Option Addr} {n cap : Nat} {x : α} (h : LS enc k T w ao n n cap x) (hn : n ≤ 1000000) : Mk enc k w (fun g => ao = some ⟨g, 0, none⟩) ⟨ao, n, cap⟩ x := by
  refine ⟨hn, ?_⟩
  rcases h with ⟨_, h2, _⟩ | ⟨g, h1, _, h4, _⟩
  · exact .inl h2
  · exact .inr ⟨g, h1, h1, h4⟩
end
end Go.Proofs.Ytlagmbieaicmgaa
