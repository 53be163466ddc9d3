/- Tables of locks: passOn: what its rounds keep. -/
import Derived.Test.YtlagmbieaicmgaaLL
namespace Go.Proofs.Ytlagmbieaicmgaa
open Go.RowKit Lk Go.Shelf

/-- Those that wait are gone through. -/
def passF : List C → List C → List C → List G → List C × List C × List G
  | [], hs, st, gt => (hs, st, gt)
  | c :: r, hs, st, gt => if agAny c hs || agAny c st then passF r hs (st ++ [c]) gt else passF r (giveL hs c) st (gt ++ [⟨c.tx, c.key⟩])

structure PInv (w wr : World) (a : Nat) (t : T4) (vh vw vp : Value) (hs st : List C) (gt : List G) (vh' v3 v4 : Value) : Prop where
  tab : Tab wr a { t with held := hs } vh' vw vp
  fr : Fr (fun b => b = a ∨ vh.ownBlock = some b) w wr
  hb : ∀ g, vh'.ownBlock = some g → vh.ownBlock = some g ∨ w.heap.size ≤ g
  o3 : Own gl 2 102 wr v3 gt
  o4 : Own cl 3 97 wr v4 st
  b3 : ∀ g, v3.ownBlock = some g → w.heap.size ≤ g ∧ vh'.ownBlock ≠ some g
  b4 : ∀ g, v4.ownBlock = some g → w.heap.size ≤ g ∧ vh'.ownBlock ≠ some g ∧ v3.ownBlock ≠ some g

variable {w wr : World} {a : Nat} {t : T4} {vh vw vp : Value} {hs st : List C} {gt : List G} {vh' v3 v4 : Value}

theorem PInv.start (h : Tab w a t vh vw vp) : PInv w w a t vh vw vp t.held [] [] vh (.slice none 0 0) (.slice none 0 0) :=
  ⟨h, Fr.refl _ _, fun _ e => .inl e, Own.nil _ _ _ _, Own.nil _ _ _ _, fun g e => by simp [Value.ownBlock] at e, fun g e => by simp [Value.ownBlock] at e⟩
theorem PInv.below (h : PInv w wr a t vh vw vp hs st gt vh' v3 v4) {w' : World} (hb : Below wr.heap.size wr w') : PInv w w' a t vh vw vp hs st gt vh' v3 v4 :=
  ⟨h.tab.below hb, h.fr.below hb, h.hb, h.o3.block fun g e => hb.block g (h.o3.lt e), h.o4.block fun g e => hb.block g (h.o4.lt e), h.b3, h.b4⟩
/-- Blocks from w on that are the table's: its row of held locks alone. -/
theorem PInv.dm (h0 : Tab w a t vh vw vp) {g : Nat} (hg : w.heap.size ≤ g) (hd : Dm a vh' vw vp g) : vh'.ownBlock = some g := by
  rcases hd with rfl | e | e | e
  · exact absurd h0.lt (by omega)
  · exact e
  · exact absurd (h0.waits.lt e) (by omega)
  · exact absurd (h0.prep.lt e) (by omega)

theorem PInv.still (h0 : Tab w a t vh vw vp) (h : PInv w wr a t vh vw vp hs st gt vh' v3 v4) {w3 : World} {v : Value} {st' : List C} (ho : Own cl 3 97 w3 v st') (hf : Fr (fun b => v4.ownBlock = some b) wr w3) (hat : ∀ g, v.ownBlock = some g → v4.ownBlock = some g ∨ wr.heap.size ≤ g) :
    PInv w w3 a t vh vw vp hs st' gt vh' v3 v := by
  refine ⟨h.tab.fr hf fun g hd e => (h.b4 g e).2.1 (PInv.dm h0 (h.b4 g e).1 hd), h.fr.trans hf fun g hg e => absurd (h.b4 g e).1 (by omega), h.hb, h.o3.fr hf fun g e e' => (h.b4 g e').2.2 e, ho, h.b3, fun g e => ?_⟩
  rcases hat g e with e' | e'
  · exact h.b4 g e'
  · exact ⟨Nat.le_trans h.fr.size e', fun q => absurd (h.tab.held.lt q) (by omega), fun q => absurd (h.o3.lt q) (by omega)⟩

theorem PInv.got (h0 : Tab w a t vh vw vp) (h : PInv w wr a t vh vw vp hs st gt vh' v3 v4) {w3 : World} {v : Value} {gt' : List G} (ho : Own gl 2 102 w3 v gt') (hf : Fr (fun b => v3.ownBlock = some b) wr w3) (hat : ∀ g, v.ownBlock = some g → v3.ownBlock = some g ∨ wr.heap.size ≤ g) :
    PInv w w3 a t vh vw vp hs st gt' vh' v v4 := by
  refine ⟨h.tab.fr hf fun g hd e => (h.b3 g e).2 (PInv.dm h0 (h.b3 g e).1 hd), h.fr.trans hf fun g hg e => absurd (h.b3 g e).1 (by omega), h.hb, ho, h.o4.fr hf fun g e e' => (h.b4 g e).2.2 e', fun g e => ?_, fun g e => ⟨(h.b4 g e).1, (h.b4 g e).2.1, fun q => ?_⟩⟩
  · rcases hat g e with e' | e'
    · exact h.b3 g e'
    · exact ⟨Nat.le_trans h.fr.size e', fun q => absurd (h.tab.held.lt q) (by omega)⟩
  · rcases hat g q with e' | e'
    · exact (h.b4 g e).2.2 e'
    · exact absurd (h.o4.lt e) (by omega)

theorem PInv.gave (h0 : Tab w a t vh vw vp) (h : PInv w wr a t vh vw vp hs st gt vh' v3 v4) {w3 : World} {hs' : List C} (k : Gave wr a { t with held := hs } vh' vw vp hs' w3) : ∃ vh'', PInv w w3 a t vh vw vp hs' st gt vh'' v3 v4 ∧ Fr (fun b => b = a ∨ vh'.ownBlock = some b) wr w3 := by
  obtain ⟨v, k1, k2, k3⟩ := k
  have na : ∀ g, w.heap.size ≤ g → g ≠ a := fun g hg e => absurd h0.lt (by omega)
  refine ⟨v, ⟨k1, h.fr.trans k2 fun g hg e => ?_, fun g e => ?_, h.o3.fr k2 fun g e e' => ?_, h.o4.fr k2 fun g e e' => ?_, fun g e => ⟨(h.b3 g e).1, fun q => ?_⟩, fun g e => ⟨(h.b4 g e).1, fun q => ?_, (h.b4 g e).2.2⟩⟩, k2⟩
  · rcases e with e | e
    · exact .inl e
    · exact .inr ((h.hb g e).resolve_right (by omega))
  · rcases k3 g e with e' | e'
    · exact h.hb g e'
    · exact .inr (Nat.le_trans h.fr.size e')
  · rcases e' with e' | e'
    · exact na g (h.b3 g e).1 e'
    · exact (h.b3 g e).2 e'
  · rcases e' with e' | e'
    · exact na g (h.b4 g e).1 e'
    · exact (h.b4 g e).2.1 e'
  · rcases k3 g q with e' | e'
    · exact (h.b3 g e).2 e'
    · exact absurd (h.o3.lt e) (by omega)
  · rcases k3 g q with e' | e'
    · exact (h.b4 g e).2.1 e'
    · exact absurd (h.o4.lt e) (by omega)

theorem passF_nil (hs st : List C) (gt : List G) : passF [] hs st gt = (hs, st, gt) := rfl
theorem passF_bar {c : C} {r hs st : List C} {gt : List G} (h : (agAny c hs || agAny c st) = true) : passF (c :: r) hs st gt = passF r hs (st ++ [c]) gt := by rw [passF, if_pos h]
theorem passF_free {c : C} {r hs st : List C} {gt : List G} (h : (agAny c hs || agAny c st) = false) : passF (c :: r) hs st gt = passF r (giveL hs c) st (gt ++ [⟨c.tx, c.key⟩]) := by rw [passF, if_neg (by rw [h]; simp)]
theorem giveL_len (hs : List C) (c : C) : (giveL hs c).length ≤ hs.length + 1 := by
  unfold giveL
  split
  · simp
  · simp
end Go.Proofs.Ytlagmbieaicmgaa
