/- Tables of locks: await. -/
import Derived.Test.YtlagmbieaicmgaaLK
namespace Go.Proofs.Ytlagmbieaicmgaa
open Go.RowKit Lk Go.Shelf

abbrev AwS (a B : Nat) (vw : Value) (c : C) (w' : World) : Prop :=
  w'.cell? ⟨a, 2, none⟩ = some vw ∧ w'.frozen? ⟨a, 2, none⟩ = false ∧ w'.cell? ⟨B, 0, none⟩ = some (.int .i64 c.tx) ∧ w'.cell? ⟨B, 1, none⟩ = some (.int .i64 c.key) ∧ w'.cell? ⟨B, 2, none⟩ = some (.bool c.wr)
theorem AwS.fr {D : Nat → Prop} {a B : Nat} {vh : Value} {c : C} {w w' : World} (h : AwS a B vh c w) (hf : Fr D w w') (ha : ¬ D a) (hB : ¬ D B) : AwS a B vh c w' :=
  ⟨hf.cell h.1 ha, (World.frozen?_of_block (a := ⟨a, 2, none⟩) (hf.block a (cell_lt h.1) ha)).trans h.2.1, hf.cell h.2.2.1 hB, hf.cell h.2.2.2.1 hB, hf.cell h.2.2.2.2 hB⟩
theorem AwS.below {a B : Nat} {vh : Value} {c : C} {w w' : World} (h : AwS a B vh c w) (hb : Below w.heap.size w w') : AwS a B vh c w' := h.fr (D := fun _ => False) (Fr.of_below hb) id id

/-- What await leaves. -/
def Awaits (w : World) (a : Nat) (t : T4) (vh vw vp : Value) (ws : List C) (w' : World) : Prop :=
  ∃ vw', Tab w' a { t with waits := ws } vh vw' vp ∧ Fr (fun b => b = a ∨ vw.ownBlock = some b) w w' ∧ ∀ g, vw'.ownBlock = some g → vw.ownBlock = some g ∨ w.heap.size ≤ g

set_option maxHeartbeats 4000000 in
theorem await_any (w : World) (a : Nat) (t : T4) (vh vw vp : Value) (ask : C) (h : Tab w a t vh vw vp) (hn : t.waits.length ≤ 999) (hso : Sorted t.waits) (hsm : Small t.waits) (h0 : 0 ≤ ask.tx) (h1 : ask.tx ≤ 1000) :
    Calls Try.prog 51 #[.pointer (some ⟨a, 0, none⟩), clV ask] w fun e w' => e = .returned (.tuple #[]) ∧ ∃ p, IsPos t.waits ask.tx p ∧ Awaits w a t vh vw vp (insL t.waits p ask) w' := by
  obtain ⟨ao, cap, rfl, hr, hlc, _⟩ := h.waits.rd cl_len
  obtain ⟨x, y, z⟩ := ask
  obtain ⟨n, hN⟩ : ∃ n, n = t.waits.length := ⟨_, rfl⟩
  have HN : Hid (n = t.waits.length) := hN
  have hr1 : ∀ W, Below w.heap.size w W → Rd cl 3 W ao t.waits := fun W hW => hr.below hW
  rw [← hN] at h hlc hn ⊢
  have hbs : ∀ W, Below w.heap.size w W → Calls Try.prog 70 #[.slice ao n cap, .int .i64 x, .func (.func 69) #[] #[]] W fun e w' => ∃ (p : Nat) (b : Bool), e = .returned (.tuple #[.int .i64 p, .bool b]) ∧ IsPos t.waits x p ∧ Below W.heap.size W w' := fun W hW => by
    have := bsearch_any ao cap t.waits x W (hr1 W hW) (by rw [← hN]; omega) hso hsm h0 h1
    rw [← hN] at this; exact this
  have H0 : Hid (Tab w a t vh (.slice ao n cap) vp) := h
  have b0 : ∀ o : Obj, Below w.heap.size w (w.alloc o) := fun o => (Below.refl _ _).alloc (Nat.le_refl _) o
  have T1 := fun o => h.below (b0 o)
  have s0 : AwS a w.heap.size (.slice ao n cap) ⟨x, y, z⟩ (w.alloc (.cells #[.int .i64 x, .int .i64 y, .bool z] 97)) := ⟨(T1 _).cells.2.2.1, Bx.free (T1 _).box 2, by rw [cell_new]; rfl, by rw [cell_new]; rfl, by rw [cell_new]; rfl⟩
  obtain ⟨w1, hw1⟩ : ∃ w1, w1 = w.alloc (.cells #[.int .i64 x, .int .i64 y, .bool z] 97) := ⟨_, rfl⟩
  have B1 : Below w.heap.size w w1 := by rw [hw1]; exact b0 _
  rw [← hw1] at s0
  have hbs1 := hbs w1.drew ⟨B1.os, B1.tape, B1.output, B1.size, B1.block⟩
  have HB : Hid (Below w.heap.size w w1) := B1
  clear hbs hr1 T1 h hN hso hsm hr B1 b0
  go_enter Try.func51, Try.ntmps51
  go_wp2_with fail
  rw [← hw1]
  clear hw1
  go_region_held3 (fun w' => AwS a w.heap.size (.slice ao n cap) ⟨x, y, z⟩ w') (first | exact s0 | exact AwS.below s0 (by assumption) | (refine AwS.below ?_ (by assumption); assumption)) (first | (go_at_call 70; refine hbs1.mono ?_; rintro e w2 ⟨p, b, rfl, hp, hb2⟩))
  have B2 : Hid (Below w.heap.size w w2) := HB.out.trans ((Below.mono (show Below w1.heap.size w1 w2 from ⟨hb2.os, hb2.tape, hb2.output, hb2.size, hb2.block⟩) HB.out.size))
  have T2 : Hid (Tab w2 a t vh (.slice ao n cap) vp) := H0.out.below B2.out
  have hx2 : AwS a w.heap.size (.slice ao n cap) ⟨x, y, z⟩ w2 := by assumption
  obtain ⟨s1, s2, s3, s4, s5⟩ := hx2
  have s1' : ∀ o, (w2.alloc o).cell? ⟨a, 2, none⟩ = some (.slice ao n cap) := fun o => Lib.cell?_alloc_some o s1
  have na : Hid (¬ (Value.slice ao n cap).ownBlock = some a) := T2.out.wa
  have HP : Hid (IsPos t.waits x p) := hp
  have hpl : p ≤ n := by rw [HN.out]; exact hp.1
  have own2 : Hid (Own cl 3 97 w2 (.slice ao n cap) t.waits) := T2.out.waits
  have hvb : Hid (¬ (Value.slice ao n cap).ownBlock = some w2.heap.size) := fun e => absurd (own2.out.lt e) (Nat.lt_irrefl _)
  have hins : ∀ W, W.heap = (w2.alloc (.cells #[.int .i64 x, .int .i64 y, .bool z] 97)).heap → Calls Try.prog 71 #[.slice ao n cap, .int .i64 p, .slice (some ⟨w2.heap.size, 0, none⟩) 1 1] W fun e w' =>
      ∃ v', e = .returned v' ∧ Own cl 3 97 w' v' (insL t.waits p ⟨x, y, z⟩) ∧ Fr (fun b => (Value.slice ao n cap).ownBlock = some b) W w' ∧ ∀ g, v'.ownBlock = some g → (Value.slice ao n cap).ownBlock = some g ∨ W.heap.size ≤ g := fun W hW =>
    insert_any p w2.heap.size t.waits (.slice ao n cap) ⟨x, y, z⟩ W (own2.out.block fun g hg => by rw [hW]; exact Below.heap_alloc _ _ _ (own2.out.lt hg)) (by rw [← HN.out]; exact hpl) (by rw [← HN.out]; omega) hvb.out (by rw [hW]; exact heap_new _ _)
  clear hbs1 hb2 hp s0
  go_wp2_with fail
  go_region_with (go_at_call 71; refine (hins (w2.alloc (.cells #[.int .i64 x, .int .i64 y, .bool z] 97)).drew rfl).mono ?_; rintro e w3 ⟨v', rfl, ho, hf, hat⟩; obtain ⟨ao', cap', rfl, -, -, -⟩ := ho.rd cl_len; obtain ⟨d1, d2⟩ := store_ok hf s1 s2 na.out (fun hl => Below.heap_alloc _ _ _ hl))
  all_goals go_wp2
  all_goals go_end0
  all_goals
    have FW : Fr (fun b => (Value.slice ao n cap).ownBlock = some b) w w3 := (Fr.of_below B2.out).trans (((Fr.refl (fun b => (Value.slice ao n cap).ownBlock = some b) w2).alloc _).drew.trans hf fun g _ e => e) fun g _ e => e
    have hat' : ∀ g, (Value.slice ao' (insL t.waits p ⟨x, y, z⟩).length cap').ownBlock = some g → (Value.slice ao n cap).ownBlock = some g ∨ w.heap.size ≤ g := fun g e => (hat g e).imp id fun q => by
      have q1 := B2.out.size
      have q2 : w2.heap.size + 1 ≤ g := by simpa using q
      omega
    obtain ⟨p1, p2⟩ := H0.out.put2 FW ho hat'
    exact ⟨rfl, p, HP.out, _, p1, (FW.mono (E := fun b => b = a ∨ (Value.slice ao n cap).ownBlock = some b) fun g _ e => .inr e).setCell (p := ⟨a, 2, none⟩) (.inl (.inl rfl)) _, hat'⟩
end Go.Proofs.Ytlagmbieaicmgaa
