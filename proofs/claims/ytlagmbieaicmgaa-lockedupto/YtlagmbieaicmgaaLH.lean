/- Tables of locks: give. -/
import Derived.Test.YtlagmbieaicmgaaLG
namespace Go.Proofs.Ytlagmbieaicmgaa
open Go.RowKit Lk

/-- A claim becomes one that is held; a hold of the same key becomes it. -/
def giveL (hs : List C) (c : C) : List C := match hs.findIdx? fun d => decide (d.tx = c.tx) && decide (d.key = c.key) with
  | some k => hs.set k { (hs.getD k c) with wr := (hs.getD k c).wr || c.wr }
  | none => hs ++ [c]
theorem giveL_miss {hs : List C} {c : C} (h : ∀ x ∈ hs, (decide (x.tx = c.tx) && decide (x.key = c.key)) = false) : giveL hs c = hs ++ [c] := by
  unfold giveL
  rw [List.findIdx?_eq_none_iff.2 h]
theorem giveL_hit {hs : List C} {c : C} {k : Nat} (hk : k < hs.length) (h1 : (decide (hs[k].tx = c.tx) && decide (hs[k].key = c.key)) = true) (h0 : ∀ j (h : j < hs.length), j < k → (decide (hs[j].tx = c.tx) && decide (hs[j].key = c.key)) = false) :
    giveL hs c = hs.set k ⟨hs[k].tx, hs[k].key, hs[k].wr || c.wr⟩ := by
  have : hs.findIdx? (fun d => decide (d.tx = c.tx) && decide (d.key = c.key)) = some k := List.findIdx?_eq_some_iff_getElem.2 ⟨hk, h1, fun j hj => by rw [h0 j (by omega) hj]; simp⟩
  unfold giveL
  rw [this]
  simp [List.getD, List.getElem?_eq_getElem hk]

abbrev GvS (a B : Nat) (vh : Value) (c : C) (w' : World) : Prop :=
  w'.cell? ⟨a, 1, none⟩ = some vh ∧ w'.frozen? ⟨a, 1, none⟩ = false ∧ w'.cell? ⟨B, 0, none⟩ = some (.int .i64 c.tx) ∧ w'.cell? ⟨B, 1, none⟩ = some (.int .i64 c.key) ∧ w'.cell? ⟨B, 2, none⟩ = some (.bool c.wr)
theorem GvS.fr {D : Nat → Prop} {a B : Nat} {vh : Value} {c : C} {w w' : World} (h : GvS a B vh c w) (hf : Fr D w w') (ha : ¬ D a) (hB : ¬ D B) : GvS a B vh c w' :=
  ⟨hf.cell h.1 ha, (World.frozen?_of_block (a := ⟨a, 1, none⟩) (hf.block a (cell_lt h.1) ha)).trans h.2.1, hf.cell h.2.2.1 hB, hf.cell h.2.2.2.1 hB, hf.cell h.2.2.2.2 hB⟩

/-- A row's cell written anew: a record whose last cell alone turns. -/
theorem rw_last {w : World} {g cap : Nat} {cs : List C} (h : Rw cl 3 97 w g cap cs) (k : Nat) (hk : k < cs.length) (b : Bool) :
    Rw cl 3 97 (w.setCell ⟨g, k * 3 + 2, none⟩ (.bool b)) g cap (cs.set k ⟨cs[k].tx, cs[k].key, b⟩) := by
  refine ⟨h.sh.setCell _ _, by simpa using h.len, h.max, ?_⟩
  intro j hj r u hu
  have hj' : j < cs.length := by simpa using hj
  have hr : r < 3 := (List.getElem?_eq_some_iff.1 hu).1
  have e1 : w.setCell ⟨g, k * 3 + 2, none⟩ (.bool b) = w.setCells g (k * 3 + 2) [.bool b] := rfl
  by_cases hjk : k = j ∧ r = 2
  · obtain ⟨rfl, rfl⟩ := hjk
    rw [List.getElem_set_self] at hu
    have hs := h.sh.some (k * 3 + 2) (by have := h.len; omega)
    rw [e1, Nat.zero_add, World.cell?_setCells_in g [.bool b] (k * 3 + 2) w (fun t ht => by rw [show t = 0 by simpa using ht]; exact hs) 0 (by simp)]
    exact hu
  · rw [e1, World.cell?_setCells_out g _ _ _ _ (fun _ _ => by show 0 + j * 3 + r < k * 3 + 2 ∨ k * 3 + 2 + 1 ≤ 0 + j * 3 + r; omega)]
    refine h.at' j hj' r u ?_
    by_cases hk2 : k = j
    · subst hk2
      rw [List.getElem_set_self] at hu
      rcases (show r = 0 ∨ r = 1 by omega) with rfl | rfl
      · exact hu
      · exact hu
    · rw [List.getElem_set_ne hk2] at hu; exact hu

theorem store_ok {D : Nat → Prop} {w w2 w3 : World} {a j : Nat} {v : Value} (hf : Fr D w w3) (hc : w2.cell? ⟨a, j, none⟩ = some v) (hz : w2.frozen? ⟨a, j, none⟩ = false) (hD : ¬ D a) (e : a < w2.heap.size → w.heap[a]? = w2.heap[a]?) : w3.cell? ⟨a, j, none⟩ = some v ∧ w3.frozen? ⟨a, j, none⟩ = false := by
  have hlt := cell_lt hc
  have e2 := e hlt
  have hl2 : a < w.heap.size := by
    rcases Nat.lt_or_ge a w.heap.size with h | h
    · exact h
    · rw [Array.getElem?_eq_none h, Array.getElem?_eq_getElem hlt] at e2; cases e2
  have e3 := (hf.block a hl2 hD).trans e2
  exact ⟨(World.cell?_of_block (a := ⟨a, j, none⟩) e3).trans hc, (World.frozen?_of_block (a := ⟨a, j, none⟩) e3).trans hz⟩

/-- What give leaves. -/
def Gave (w : World) (a : Nat) (t : T4) (vh vw vp : Value) (hs : List C) (w' : World) : Prop :=
  ∃ vh', Tab w' a { t with held := hs } vh' vw vp ∧ Fr (fun b => b = a ∨ vh.ownBlock = some b) w w' ∧ ∀ g, vh'.ownBlock = some g → vh.ownBlock = some g ∨ w.heap.size ≤ g

theorem Gave.drew {w : World} {a : Nat} {t : T4} {vh vw vp : Value} {hs : List C} {w' : World} (h : Gave w a t vh vw vp hs w') : Gave w a t vh vw vp hs w'.drew := by
  obtain ⟨v, h1, h2, h3⟩ := h
  exact ⟨v, h1.fr (D := fun _ => False) (Fr.refl _ _).drew (fun _ _ e => e), h2.drew, h3⟩

set_option maxHeartbeats 2000000 in
theorem give_miss (w : World) (a : Nat) (t : T4) (vh vw vp : Value) (c : C) (h : Tab w a t vh vw vp) (hn : t.held.length ≤ 1000) (hall : ∀ x ∈ t.held, (decide (x.tx = c.tx) && decide (x.key = c.key)) = false) (e1 : holdI t.held c.tx c.key = -1) :
    Calls Try.prog 73 #[.pointer (some ⟨a, 0, none⟩), clV c] w fun e w' => e = .returned (.tuple #[]) ∧ Gave w a t vh vw vp (giveL t.held c) w' := by
  rw [giveL_miss hall]
  clear hall
  obtain ⟨x, y, z⟩ := c
  obtain ⟨w1, hw1⟩ : ∃ w1, w1 = w.alloc (.cells #[.int .i64 x, .int .i64 y, .bool z] 97) := ⟨_, rfl⟩
  have b0 : Below w.heap.size w w1 := by rw [hw1]; exact (Below.refl _ _).alloc (Nat.le_refl _) _
  have hI := holding_any w1 a t vh vw vp x y (h.below b0) hn
  rw [show holdI t.held x y = -1 from e1] at hI
  have hlt : w.heap.size < w1.heap.size := by rw [hw1]; simp
  have hc : ∀ j, w1.cell? ⟨w.heap.size, j, none⟩ = (#[.int .i64 x, .int .i64 y, .bool z] : Array Value)[j]? := fun j => by rw [hw1, cell_new]
  have H0 : Hid (Tab w a t vh vw vp) := h
  clear h e1
  go_enter Try.func73, Try.ntmps73
  go_wp2_with fail
  rw [← hw1]
  refine hI.mono ?_
  rintro e w2 ⟨rfl, hb2⟩
  have B2 : Hid (Below w.heap.size w w2) := b0.trans (hb2.mono b0.size)
  have T2 : Hid (Tab w2 a t vh vw vp) := H0.out.below B2.out
  have hc2 : ∀ j, w2.cell? ⟨w.heap.size, j, none⟩ = (#[.int .i64 x, .int .i64 y, .bool z] : Array Value)[j]? := fun j => (hb2.cell (p := ⟨w.heap.size, j, none⟩) hlt).trans (hc j)
  have s0 : GvS a w.heap.size vh ⟨x, y, z⟩ w2 := ⟨T2.out.cells.2.1, Bx.free T2.out.box 1, (hc2 0).trans rfl, (hc2 1).trans rfl, (hc2 2).trans rfl⟩
  have own2 : Hid (Own cl 3 97 w2 vh t.held) := T2.out.held
  have hltw2 : Hid (w.heap.size < w2.heap.size) := Nat.lt_of_lt_of_le hlt hb2.size
  have na : Hid (¬ vh.ownBlock = some a) := T2.out.ha
  have nb : Hid (¬ vh.ownBlock = some w.heap.size) := fun e => absurd (H0.out.held.lt e) (Nat.lt_irrefl _)
  clear hI hb2 hc hc2 hw1 b0 hlt w1
  go_wp2_with fail
  obtain ⟨s1, s2, s3, s4, s5⟩ := s0
  have s1' : ∀ o, (w2.alloc o).cell? ⟨a, 1, none⟩ = some vh := fun o => Lib.cell?_alloc_some o s1
  go_region_law (refine app_step el_claim _ rfl (.tmp 36) (.tmp 38) rfl vh t.held (by simp [Act.eval]) (own2.out.block fun g hg => Below.heap_alloc _ _ _ (own2.out.lt hg)) w2.heap.size ⟨x, y, z⟩ #[.int .i64 x, .int .i64 y, .bool z] 97 (by simp [Act.eval]) (heap_new _ _) rfl (by omega) ?_; intro g cap w3 ho hf hat hgl; obtain ⟨d1, d2⟩ := store_ok hf s1 s2 na.out (fun hl => Below.heap_alloc _ _ _ hl))
  all_goals go_wp2
  all_goals go_end0
  all_goals
    have FW : Fr (fun b => vh.ownBlock = some b) w w3 := (Fr.of_below B2.out).trans (((Fr.refl (fun b => vh.ownBlock = some b) w2).alloc _).drew.trans hf fun g _ e => e) fun g _ e => e
    obtain ⟨p1, p2⟩ := H0.out.put1 FW ho (fun g' e => (show vh.ownBlock = some g' ∨ w.heap.size ≤ g' from by
      have e' : g = g' := by simpa [Value.ownBlock] using e
      subst e'
      refine hat.imp id fun q => ?_
      have := B2.out.size
      have q' : w2.heap.size + 1 ≤ g := by simpa using q
      omega))
    refine ⟨rfl, _, p1, ?_, ?_⟩
    · exact (FW.mono (E := fun b => b = a ∨ vh.ownBlock = some b) fun g _ e => .inr e).setCell (p := ⟨a, 1, none⟩) (.inl (.inl rfl)) _
    · intro g' e
      have e' : g = g' := by simpa [Value.ownBlock] using e
      subst e'
      refine hat.imp id fun q => ?_
      have := B2.out.size
      have q' : w2.heap.size + 1 ≤ g := by simpa using q
      omega

set_option maxHeartbeats 2000000 in
theorem give_hit (w : World) (a : Nat) (t : T4) (vh vw vp : Value) (c : C) (h : Tab w a t vh vw vp) (hn : t.held.length ≤ 1000) (k : Nat) (hk : k < t.held.length) (e1 : holdI t.held c.tx c.key = k) (ht : (decide (t.held[k].tx = c.tx) && decide (t.held[k].key = c.key)) = true) (hall : ∀ j (h : j < t.held.length), j < k → (decide (t.held[j].tx = c.tx) && decide (t.held[j].key = c.key)) = false) :
    Calls Try.prog 73 #[.pointer (some ⟨a, 0, none⟩), clV c] w fun e w' => e = .returned (.tuple #[]) ∧ Gave w a t vh vw vp (giveL t.held c) w' := by
  rw [giveL_hit hk ht hall]
  clear hall ht
  obtain ⟨x, y, z⟩ := c
  obtain ⟨w1, hw1⟩ : ∃ w1, w1 = w.alloc (.cells #[.int .i64 x, .int .i64 y, .bool z] 97) := ⟨_, rfl⟩
  have b0 : Below w.heap.size w w1 := by rw [hw1]; exact (Below.refl _ _).alloc (Nat.le_refl _) _
  have hI := holding_any w1 a t vh vw vp x y (h.below b0) hn
  rw [show holdI t.held x y = k from e1] at hI
  have hlt : w.heap.size < w1.heap.size := by rw [hw1]; simp
  have hc : ∀ j, w1.cell? ⟨w.heap.size, j, none⟩ = (#[.int .i64 x, .int .i64 y, .bool z] : Array Value)[j]? := fun j => by rw [hw1, cell_new]
  rcases h.held.cases cl_len with ⟨_, e0⟩ | ⟨g, cap, hv, hr⟩
  · rw [e0] at hk; simp at hk
  have H0 : Hid (Tab w a t vh vw vp) := h
  clear h e1
  have hkp : (0 : Int) ≤ (k : Int) := by omega
  have hki : (k : Int) < (t.held.length : Int) := by omega
  go_enter Try.func73, Try.ntmps73
  go_wp2_with fail
  rw [← hw1]
  refine hI.mono ?_
  rintro e w2 ⟨rfl, hb2⟩
  have B2 : Hid (Below w.heap.size w w2) := b0.trans (hb2.mono b0.size)
  have T2 : Hid (Tab w2 a t vh vw vp) := H0.out.below B2.out
  have R2 : Hid (Rw cl 3 97 w2 g cap t.held) := ⟨hr.sh.block (B2.out.block g hr.sh.lt), hr.len, hr.max, hr.at'.block (B2.out.block g hr.sh.lt)⟩
  have c2 : w2.cell? ⟨w.heap.size, 2, none⟩ = some (.bool z) := ((hb2.cell (p := ⟨w.heap.size, 2, none⟩) hlt).trans (hc 2)).trans rfl
  have c1 := T2.out.cells.2.1
  rw [hv] at c1
  have q2 := R2.out.at' k hk 2 _ rfl
  have f2 := R2.out.sh.free (k * 3 + 2)
  rw [Nat.zero_add] at q2
  have HV : Hid (vh = .slice (some ⟨g, 0, none⟩) t.held.length cap) := hv
  have HL : Hid (∀ b, Rw cl 3 97 (w2.setCell ⟨g, k * 3 + 2, none⟩ (.bool b)) g cap (t.held.set k ⟨t.held[k].tx, t.held[k].key, b⟩)) := fun b => rw_last R2.out k hk b
  clear hI hb2 hc hw1 b0 hlt w1 hr hv
  generalize hu : t.held[k].wr = u at *
  have fin : ∀ b, b = (u || z) → Gave w a t vh vw vp (t.held.set k ⟨t.held[k].tx, t.held[k].key, u || z⟩) (w2.setCell ⟨g, k * 3 + 2, none⟩ (.bool b)) := by
    rintro b rfl
    have hg : vh.ownBlock = some g := by rw [HV.out]; rfl
    have f1 := fr_set w2 g (k * 3 + 2) (.bool (u || z))
    have ga : g ≠ a := fun e => T2.out.ha (by rw [hg, e])
    have ow := (HL.out (u || z)).own cl_len (by omega)
    rw [List.length_set, ← HV.out] at ow
    refine ⟨vh, ⟨Bx.fr T2.out.box f1 (fun e => ga e.symm), ow, T2.out.waits.fr f1 fun b hb e => T2.out.hw g hg (by rw [hb, e]), T2.out.prep.fr f1 fun b hb e => T2.out.hp g hg (by rw [hb, e]), T2.out.ha, T2.out.wa, T2.out.pa, T2.out.hw, T2.out.hp, T2.out.wp⟩, ?_, fun b hb => .inl hb⟩
    exact (Fr.of_below (D := fun b => b = a ∨ vh.ownBlock = some b) B2.out).setCell (p := ⟨g, k * 3 + 2, none⟩) (.inl (.inr hg)) _
  have FN : Hid _ := fin
  clear fin
  cases u
  · go_wp2
    go_region
    all_goals go_wp2
    all_goals first | go_end0 | refine bodyPost_ret (results_none rfl _ _ _) rfl ?_
    all_goals exact ⟨rfl, by rw [hu]; exact (FN.out _ rfl).drew⟩
  · go_wp2
    go_region
    all_goals go_wp2
    all_goals first | go_end0 | refine bodyPost_ret (results_none rfl _ _ _) rfl ?_
    all_goals exact ⟨rfl, by rw [hu]; exact (FN.out _ rfl).drew⟩

theorem give_any (w : World) (a : Nat) (t : T4) (vh vw vp : Value) (c : C) (h : Tab w a t vh vw vp) (hn : t.held.length ≤ 1000) :
    Calls Try.prog 73 #[.pointer (some ⟨a, 0, none⟩), clV c] w fun e w' => e = .returned (.tuple #[]) ∧ Gave w a t vh vw vp (giveL t.held c) w' := by
  rcases ix_spec (fun d : C => decide (d.tx = c.tx) && decide (d.key = c.key)) t.held with ⟨e1, hall⟩ | ⟨k, hk, e1, ht, hall⟩
  · exact give_miss w a t vh vw vp c h hn hall e1
  · exact give_hit w a t vh vw vp c h hn k hk e1 ht hall
end Go.Proofs.Ytlagmbieaicmgaa
