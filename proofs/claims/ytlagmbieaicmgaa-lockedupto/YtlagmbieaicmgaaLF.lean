/- Tables of locks: strip. -/
import Derived.Test.YtlagmbieaicmgaaLE
namespace Go.Proofs.Ytlagmbieaicmgaa
open Go.RowKit Lk

/-- A table's box. -/
def Bx (w : World) (a : Nat) (m : Int) (vh vw vp : Value) : Prop := w.heap[a]? = some (.cells #[.int .i64 m, vh, vw, vp] 68 (0, 0))
theorem Bx.cells {w : World} {a : Nat} {m : Int} {vh vw vp : Value} (h : Bx w a m vh vw vp) : w.cell? ⟨a, 0, none⟩ = some (.int .i64 m) ∧ w.cell? ⟨a, 1, none⟩ = some vh ∧ w.cell? ⟨a, 2, none⟩ = some vw ∧ w.cell? ⟨a, 3, none⟩ = some vp := by
  refine ⟨?_, ?_, ?_, ?_⟩ <;> rw [cell_of_heap h] <;> rfl
theorem Bx.free {w : World} {a : Nat} {m : Int} {vh vw vp : Value} (h : Bx w a m vh vw vp) (j : Nat) : w.frozen? ⟨a, j, none⟩ = false := Sh.free (n := 4) ⟨_, h, rfl⟩ j
theorem Bx.lt {w : World} {a : Nat} {m : Int} {vh vw vp : Value} (h : Bx w a m vh vw vp) : a < w.heap.size := (Array.getElem?_eq_some_iff.1 h).1
theorem Bx.set1 {w : World} {a : Nat} {m : Int} {vh vw vp : Value} (h : Bx w a m vh vw vp) (x : Value) : Bx (w.setCell ⟨a, 1, none⟩ x) a m x vw vp := by
  unfold Bx; simp [World.setCell, Array.getElem?_modify, show w.heap[a]? = _ from h]
theorem Bx.set2 {w : World} {a : Nat} {m : Int} {vh vw vp : Value} (h : Bx w a m vh vw vp) (x : Value) : Bx (w.setCell ⟨a, 2, none⟩ x) a m vh x vp := by
  unfold Bx; simp [World.setCell, Array.getElem?_modify, show w.heap[a]? = _ from h]
theorem Bx.set3 {w : World} {a : Nat} {m : Int} {vh vw vp : Value} (h : Bx w a m vh vw vp) (x : Value) : Bx (w.setCell ⟨a, 3, none⟩ x) a m vh vw x := by
  unfold Bx; simp [World.setCell, Array.getElem?_modify, show w.heap[a]? = _ from h]
theorem Bx.fr {D : Nat → Prop} {w w' : World} {a : Nat} {m : Int} {vh vw vp : Value} (h : Bx w a m vh vw vp) (hf : Fr D w w') (hD : ¬ D a) : Bx w' a m vh vw vp := by
  unfold Bx; rw [hf.block a h.lt hD]; exact h

theorem fr_set (w : World) (a j : Nat) (x : Value) : Fr (fun b => b = a) w (w.setCell ⟨a, j, none⟩ x) := (Fr.refl (fun b => b = a) w).setCell (p := ⟨a, j, none⟩) (.inl rfl) x

def stripL (l : List C) (tx : Int) : List C := l.filter (notTx tx)
def T4.strip (t : T4) (tx : Int) : T4 := { t with held := stripL t.held tx, waits := stripL t.waits tx }

set_option maxHeartbeats 2000000 in
theorem strip_any (w : World) (a : Nat) (t : T4) (vh vw vp : Value) (tx : Int) (h : Tab w a t vh vw vp) (hn : t.held.length ≤ 1000) (hm : t.waits.length ≤ 1000) :
    Calls Try.prog 57 #[.pointer (some ⟨a, 0, none⟩), .int .i64 tx] w fun e w' => e = .returned (.tuple #[]) ∧ ∃ vh' vw', vh'.ownBlock = vh.ownBlock ∧ vw'.ownBlock = vw.ownBlock ∧ Tab w' a (t.strip tx) vh' vw' vp ∧ Fr (Dm a vh vw vp) w w' := by
  obtain ⟨w1, hw1⟩ : ∃ w1, w1 = w.alloc (.cells #[.int .i64 tx] 3) := ⟨_, rfl⟩
  have b0 : Below w.heap.size w w1 := by rw [hw1]; exact (Below.refl _ _).alloc (Nat.le_refl _) _
  have h1 := h.below b0
  have ht : w1.cell? ⟨w.heap.size, 0, none⟩ = some (.int .i64 tx) := by rw [hw1, cell_new]; rfl
  have nh : ∀ g, vh.ownBlock = some g → g ≠ w.heap.size := fun g hg => Nat.ne_of_lt (h.held.lt hg)
  have nw : ∀ g, vw.ownBlock = some g → g ≠ w.heap.size := fun g hg => Nat.ne_of_lt (h.waits.lt hg)
  have hB : Hid (Bx w1 a t.most vh vw vp) := h1.box
  obtain ⟨-, c1, -, -⟩ := hB.out.cells
  have hd := delete_own w.heap.size tx vh t.held w1 h1.held hn ht (fun e => nh _ e rfl)
  have H1 : Hid (Tab w1 a t vh vw vp) := h1
  have H0 : Hid (Tab w a t vh vw vp) := h
  clear h h1
  have c1' := c1
  rw [hw1] at c1'
  go_enter Try.func57, Try.ntmps57
  go_wp2_with fail
  rw [← hw1]
  clear c1'
  refine hd.mono ?_
  rintro e w2 ⟨vh', rfl, o1, own1, fr1⟩
  obtain ⟨ah, ch, rfl, -, -, -⟩ := own1.rd cl_len
  generalize hvh : Value.slice ah (t.held.filter (notTx tx)).length ch = vh' at *
  have na : ¬ (vh.ownBlock = some a) := H1.out.ha
  have B2 : Hid (Bx w2 a t.most vh vw vp) := hB.out.fr fr1 na
  obtain ⟨-, c1, c2, -⟩ := B2.out.cells
  have f1 := B2.out.free 1
  have F2 : Hid (Fr (Dm a vh vw vp) w (w2.setCell ⟨a, 1, none⟩ vh')) := (((Fr.of_below b0).trans fr1 fun g _ e => .inr (.inl e)).setCell (p := ⟨a, 1, none⟩) (.inl (.inl rfl)) vh')
  obtain ⟨w3, hw3⟩ : ∃ w3, w3 = w2.setCell ⟨a, 1, none⟩ vh' := ⟨_, rfl⟩
  have B3 : Hid (Bx w3 a t.most vh' vw vp) := by rw [hw3]; exact B2.out.set1 vh'
  have fr3 : Fr (fun b => b = a) w2 w3 := by rw [hw3]; exact fr_set _ _ _ _
  have own3 : Hid (Own cl 3 97 w3 vh' (t.held.filter (notTx tx))) := own1.fr fr3 fun g hg e => na (by rw [← o1, hg, e])
  have owt2 : Own cl 3 97 w2 vw t.waits := H1.out.waits.fr fr1 fun g hg e => H1.out.hw g e hg
  have owt3 : Own cl 3 97 w3 vw t.waits := owt2.fr fr3 fun g hg e => H1.out.wa (by rw [hg, e])
  have owp2 : Own il 1 3 w2 vp t.prep := H1.out.prep.fr fr1 fun g hg e => H1.out.hp g e hg
  have owp3 : Hid (Own il 1 3 w3 vp t.prep) := owp2.fr fr3 fun g hg e => H1.out.pa (by rw [hg, e])
  have ht2 := fr1.cell ht (fun e => nh _ e rfl)
  have ht3 : w3.cell? ⟨w.heap.size, 0, none⟩ = some (.int .i64 tx) := fr3.cell ht2 (Nat.ne_of_gt H0.out.lt)
  have hd2 := delete_own w.heap.size tx vw t.waits w3 owt3 hm ht3 (fun e => nw _ e rfl)
  obtain ⟨-, d1, d2, -⟩ := B3.out.cells
  rw [← hw3] at F2
  clear hd ht2 ht own1 owt2 owp2 fr1
  subst hvh
  go_wp2_with fail
  rw [← hw3]
  clear c1 c2
  generalize hvh : Value.slice ah (t.held.filter (notTx tx)).length ch = vh' at *
  refine hd2.mono ?_
  rintro e w4 ⟨vw', rfl, o2, own4, fr4⟩
  obtain ⟨aw, cw, rfl, -, -, -⟩ := own4.rd cl_len
  have nb : ¬ (vw.ownBlock = some a) := H1.out.wa
  have B4 : Hid (Bx w4 a t.most vh' vw vp) := B3.out.fr fr4 nb
  obtain ⟨-, -, c2, -⟩ := B4.out.cells
  have f2 := B4.out.free 2
  have fr5 : Fr (fun b => b = a) w4 (w4.setCell ⟨a, 2, none⟩ (.slice aw (t.waits.filter (notTx tx)).length cw)) := fr_set _ _ _ _
  clear d1 d2 f1
  go_wp2
  go_end0
  refine ⟨rfl, vh', _, o1, o2, ⟨B4.out.set2 _, ?_, ?_, ?_, ?_, ?_, H1.out.pa, ?_, ?_, ?_⟩, ?_⟩
  · refine (own3.out.fr fr4 fun g hg e => ?_).fr fr5 fun g hg e => ?_
    · exact H1.out.hw g (by rw [← o1, hg]) e
    · exact na (by rw [← o1, hg, e])
  · exact own4.fr fr5 fun g hg e => nb (by rw [← o2, hg, e])
  · refine (owp3.out.fr fr4 fun g hg e => ?_).fr fr5 fun g hg e => ?_
    · exact H1.out.wp g e hg
    · exact H1.out.pa (by rw [hg, e])
  · rw [o1]; exact na
  · rw [o2]; exact nb
  · rw [o1, o2]; exact H1.out.hw
  · rw [o1]; exact H1.out.hp
  · rw [o2]; exact H1.out.wp
  · exact (F2.out.trans fr4 fun g _ e => .inr (.inr (.inl e))).trans fr5 fun g _ e => .inl e
end Go.Proofs.Ytlagmbieaicmgaa
