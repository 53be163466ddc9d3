/- Plain: what is kept when those that wait are gone through. -/
import Derived.Test.YtlagmbieaicmgaaKE
namespace Go.Proofs.Ytlagmbieaicmgaa
open Lk

theorem ag_comm (c d : C) : ag c d = ag d c := by
  unfold ag
  by_cases h1 : c.tx = d.tx
  · simp [h1]
  · by_cases h2 : c.key = d.key
    · have h1' : ¬ d.tx = c.tx := fun e => h1 e.symm
      simp [h1, h1', h2, Bool.or_comm]
    · have h2' : ¬ d.key = c.key := fun e => h2 e.symm
      simp [h2, h2']
theorem ag_iff (c d : C) : ag c d = true ↔ c.tx ≠ d.tx ∧ c.key = d.key ∧ (c.wr = true ∨ d.wr = true) := by
  unfold ag; simp
theorem agAny_false {c : C} {l : List C} (h : agAny c l = false) : ∀ d ∈ l, ag c d = false := by
  intro d hd
  unfold agAny at h
  rw [List.any_eq_false] at h
  simpa using h d hd
theorem agAny_true {c : C} {l : List C} (h : agAny c l = true) : ∃ d ∈ l, ag c d = true := by
  unfold agAny at h
  exact List.any_eq_true.1 h

/-- Each of these is there, no less than it was. -/
def Covs (c h : C) : Prop := h.tx = c.tx ∧ h.key = c.key ∧ (c.wr = true → h.wr = true)
theorem Covs.refl (c : C) : Covs c c := ⟨rfl, rfl, id⟩
theorem Covs.trans {a b c : C} (h : Covs a b) (k : Covs b c) : Covs a c := ⟨k.1.trans h.1, k.2.1.trans h.2.1, fun e => k.2.2 (h.2.2 e)⟩
def Cov (hs hs' : List C) : Prop := ∀ h ∈ hs, ∃ h' ∈ hs', Covs h h'
theorem Cov.refl (hs : List C) : Cov hs hs := fun h hh => ⟨h, hh, Covs.refl h⟩
theorem Cov.trans {a b c : List C} (h : Cov a b) (k : Cov b c) : Cov a c := fun x hx => by
  obtain ⟨y, hy, h1⟩ := h x hx
  obtain ⟨z, hz, h2⟩ := k y hy
  exact ⟨z, hz, h1.trans h2⟩
theorem ag_cov {c h h' : C} (k : Covs h h') (a : ag c h = true) : ag c h' = true := by
  rw [ag_iff] at a ⊢
  obtain ⟨k1, k2, k3⟩ := k
  exact ⟨by rw [k1]; exact a.1, by rw [k2]; exact a.2.1, a.2.2.imp id k3⟩

/-- What give makes: the old ones but one, and one that is no less than the claim. -/
theorem give_spec (hs : List C) (c : C) : Cov hs (giveL hs c) ∧ (∃ n ∈ giveL hs c, Covs c n) ∧ ∀ n ∈ giveL hs c, n ∈ hs ∨ (n.tx = c.tx ∧ n.key = c.key ∧ ((n.wr = c.wr) ∨ ∃ h ∈ hs, h.tx = c.tx ∧ h.key = c.key ∧ n.wr = (h.wr || c.wr))) := by
  rcases ix_spec (fun d : C => decide (d.tx = c.tx) && decide (d.key = c.key)) hs with ⟨_, hall⟩ | ⟨k, hk, _, ht, hall⟩
  · rw [giveL_miss hall]
    refine ⟨fun h hh => ⟨h, by simp [hh], Covs.refl h⟩, ⟨c, by simp, Covs.refl c⟩, fun n hn => ?_⟩
    rcases List.mem_append.1 hn with q | q
    · exact .inl q
    · have : n = c := by simpa using q
      subst this
      exact .inr ⟨rfl, rfl, .inl rfl⟩
  · rw [giveL_hit hk ht hall]
    have ht' : hs[k].tx = c.tx ∧ hs[k].key = c.key := by simpa using ht
    refine ⟨fun h hh => ?_, ⟨⟨hs[k].tx, hs[k].key, hs[k].wr || c.wr⟩, List.mem_iff_getElem.2 ⟨k, by simpa using hk, by simp⟩, ht'.1, ht'.2, fun e => by simp [e]⟩, fun n hn => ?_⟩
    · obtain ⟨j, hj, rfl⟩ := List.getElem_of_mem hh
      by_cases e : k = j
      · subst e
        exact ⟨⟨hs[k].tx, hs[k].key, hs[k].wr || c.wr⟩, List.mem_iff_getElem.2 ⟨k, by simpa using hk, by simp⟩, rfl, rfl, fun e => by simp [e]⟩
      · exact ⟨hs[j], List.mem_iff_getElem.2 ⟨j, by simpa using hj, by rw [List.getElem_set_ne e]⟩, Covs.refl _⟩
    · rcases List.mem_or_eq_of_mem_set hn with q | q
      · exact .inl q
      · subst q
        exact .inr ⟨ht'.1, ht'.2, .inr ⟨hs[k], List.getElem_mem hk, ht'.1, ht'.2, rfl⟩⟩

/-- The table while those that wait are gone through: st: passed over; r: still to come. -/
structure J (prep : List Int) (hs st r : List C) : Prop where
  hc : ∀ a ∈ hs, ∀ b ∈ hs, ag a b = false
  so : (st ++ r).Pairwise fun a b => a.tx < b.tx
  iw : ∀ c ∈ st ++ r, ∀ h ∈ hs, ag c h = true → h.tx < c.tx ∨ h.tx ∈ prep
  sb : ∀ c ∈ st, (∃ h ∈ hs, ag c h = true) ∨ ∃ e ∈ st, e.tx < c.tx ∧ ag c e = true

theorem J.bar {prep : List Int} {hs st r : List C} {c : C} (h : J prep hs st (c :: r)) (hb : (agAny c hs || agAny c st) = true) : J prep hs (st ++ [c]) r := by
  have e : st ++ [c] ++ r = st ++ c :: r := by simp
  refine ⟨h.hc, by rw [e]; exact h.so, by rw [e]; exact h.iw, fun d hd => ?_⟩
  rcases List.mem_append.1 hd with q | q
  · rcases h.sb d q with q' | ⟨e, he, h1, h2⟩
    · exact .inl q'
    · exact .inr ⟨e, by simp [he], h1, h2⟩
  · have : d = c := by simpa using q
    subst this
    rcases Bool.or_eq_true _ _ ▸ hb with q | q
    · exact .inl (agAny_true q)
    · obtain ⟨e, he, h1⟩ := agAny_true q
      have := (List.pairwise_append.1 h.so).2.2 e he d (by simp)
      exact .inr ⟨e, by simp [he], this, h1⟩

theorem J.free {prep : List Int} {hs st r : List C} {c : C} (h : J prep hs st (c :: r)) (hb : (agAny c hs || agAny c st) = false) : J prep (giveL hs c) st r := by
  have hb1 : agAny c hs = false := by cases h1 : agAny c hs <;> simp_all
  have hb2 : agAny c st = false := by cases h1 : agAny c st <;> simp_all
  obtain ⟨g1, g2, g3⟩ := give_spec hs c
  have sub : ∀ e, e ∈ st ++ r → e ∈ st ++ c :: r := fun e he => by
    rcases List.mem_append.1 he with q | q
    · simp [q]
    · simp [q]
  -- who is in the way of the new one is in the way of an old one, or of the claim
  have key : ∀ (e n : C), n.tx = c.tx → n.key = c.key → ((n.wr = c.wr) ∨ ∃ h ∈ hs, h.tx = c.tx ∧ h.key = c.key ∧ n.wr = (h.wr || c.wr)) → ag e n = true → ag c e = true ∨ ∃ h ∈ hs, h.tx = c.tx ∧ ag e h = true := by
    intro e n n1 n2 n3 a
    rw [ag_iff] at a
    rcases n3 with q | ⟨h, hh, q1, q2, q3⟩
    · refine .inl ((ag_iff _ _).2 ⟨by rw [← n1]; exact a.1.symm, by rw [← n2]; exact a.2.1.symm, ?_⟩)
      rw [← q]; exact a.2.2.symm
    · by_cases hcw : c.wr = true ∨ e.wr = true
      · exact .inl ((ag_iff _ _).2 ⟨by rw [← n1]; exact a.1.symm, by rw [← n2]; exact a.2.1.symm, hcw⟩)
      · have c0 : c.wr = false := by cases hq : c.wr <;> simp_all
        refine .inr ⟨h, hh, q1, (ag_iff _ _).2 ⟨by rw [q1, ← n1]; exact a.1, by rw [q2, ← n2]; exact a.2.1, ?_⟩⟩
        rcases a.2.2 with q | q
        · exact .inl q
        · rw [q3, c0] at q; simp at q; exact .inr q
  have so' : (st ++ r).Pairwise fun a b => a.tx < b.tx := by
    have := List.pairwise_append.1 h.so
    exact List.pairwise_append.2 ⟨this.1, (List.pairwise_cons.1 this.2.1).2, fun a ha b hb => this.2.2 a ha b (by simp [hb])⟩
  refine ⟨?_, so', ?_, ?_⟩
  · intro x hx y hy
    cases hxy : ag x y with
    | false => rfl
    | true =>
      exfalso
      rcases g3 x hx with qx | ⟨x1, x2, x3⟩
      · rcases g3 y hy with qy | ⟨y1, y2, y3⟩
        · rw [h.hc x qx y qy] at hxy; cases hxy
        · rcases key x y y1 y2 y3 hxy with q | ⟨e, he, _, q⟩
          · rw [agAny_false hb1 x qx] at q; cases q
          · rw [h.hc x qx e he] at q; cases q
      · rcases g3 y hy with qy | ⟨y1, _, _⟩
        · rw [ag_comm] at hxy
          rcases key y x x1 x2 x3 hxy with q | ⟨e, he, _, q⟩
          · rw [agAny_false hb1 y qy] at q; cases q
          · rw [h.hc y qy e he] at q; cases q
        · rw [ag_iff] at hxy
          exact hxy.1 (by rw [x1, y1])
  · intro e he n hn a
    rcases g3 n hn with q | ⟨n1, n2, n3⟩
    · exact h.iw e (sub e he) n q a
    · rcases List.mem_append.1 he with q | q
      · rcases key e n n1 n2 n3 a with q' | ⟨o, ho, o1, q'⟩
        · rw [agAny_false hb2 e q] at q'; cases q'
        · rw [n1, ← o1]; exact h.iw e (by simp [q]) o ho q'
      · have := (List.pairwise_cons.1 (List.pairwise_append.1 h.so).2.1).1 e q
        rw [n1]; exact .inl this
  · intro d hd
    rcases h.sb d hd with ⟨o, ho, q⟩ | q
    · obtain ⟨n, hn, k⟩ := g1 o ho
      exact .inl ⟨n, hn, ag_cov k q⟩
    · exact .inr q

/-- The ledger beside it; y: one that the ledger holds for granted already (0: none). -/
structure K (y : Int) (hs W : List C) (L : List L4) : Prop where
  lw : ∀ l ∈ L, l.wt = true → (⟨l.tx, l.key, l.wr⟩ : C) ∈ W ∧ l.tx ≠ y
  wl : ∀ c ∈ W, c.tx ≠ y → (⟨c.tx, c.key, c.wr, true⟩ : L4) ∈ L
  lh : ∀ l ∈ L, l.wt = false → (∃ h ∈ hs, Covs ⟨l.tx, l.key, l.wr⟩ h) ∨ ∃ c ∈ W, c.tx = y ∧ Covs ⟨l.tx, l.key, l.wr⟩ c
  lu : L.Pairwise fun a b => a.wt = true → b.wt = true → a.tx ≠ b.tx

theorem K.free {y : Int} {hs st r : List C} {c : C} {L : List L4} (h : K y hs (st ++ c :: r) L) (so : (st ++ c :: r).Pairwise fun a b => a.tx < b.tx) :
    (c.tx = y → K y (giveL hs c) (st ++ r) L) ∧ (c.tx ≠ y → (∃ l ∈ L, gotP c.tx c.key l = true) ∧ K y (giveL hs c) (st ++ r) (gotL L c.tx c.key)) := by
  obtain ⟨g1, ⟨n, hn, hcn⟩, _⟩ := give_spec hs c
  have ne : ∀ e ∈ st ++ r, e.tx ≠ c.tx := fun e he => by
    have p := List.pairwise_append.1 so
    rcases List.mem_append.1 he with q | q
    · have := p.2.2 e q c (by simp); omega
    · have := (List.pairwise_cons.1 p.2.1).1 e q; omega
  have sub : ∀ e, e ∈ st ++ r → e ∈ st ++ c :: r := fun e he => by
    rcases List.mem_append.1 he with q | q
    · simp [q]
    · simp [q]
  have inv : ∀ e, e ∈ st ++ c :: r → e = c ∨ e ∈ st ++ r := fun e he => by
    rcases List.mem_append.1 he with q | q
    · exact .inr (by simp [q])
    · rcases List.mem_cons.1 q with q | q
      · exact .inl q
      · exact .inr (by simp [q])
  have lh' : ∀ l ∈ L, l.wt = false → (∃ h ∈ giveL hs c, Covs ⟨l.tx, l.key, l.wr⟩ h) ∨ ∃ c' ∈ st ++ r, c'.tx = y ∧ Covs ⟨l.tx, l.key, l.wr⟩ c' := fun l hl hw => by
    rcases h.lh l hl hw with ⟨o, ho, k⟩ | ⟨e, he, e1, k⟩
    · obtain ⟨n', hn', k'⟩ := g1 o ho
      exact .inl ⟨n', hn', k.trans k'⟩
    · rcases inv e he with rfl | q
      · exact .inl ⟨n, hn, k.trans hcn⟩
      · exact .inr ⟨e, q, e1, k⟩
  refine ⟨fun hy => ⟨fun l hl hw => ?_, fun e he hey => h.wl e (sub e he) hey, lh', h.lu⟩, fun hy => ?_⟩
  · obtain ⟨h1, h2⟩ := h.lw l hl hw
    rcases inv _ h1 with q | q
    · exact absurd (show l.tx = y by rw [← hy, ← q]) h2
    · exact ⟨q, h2⟩
  · have hin := h.wl c (by simp) hy
    have hex : ∃ l ∈ L, gotP c.tx c.key l = true := ⟨_, hin, by simp [gotP]⟩
    refine ⟨hex, ?_⟩
    rcases ix_spec (gotP c.tx c.key) L with ⟨_, hall⟩ | ⟨k, hk, _, ht, hall⟩
    · obtain ⟨l, hl, q⟩ := hex
      rw [hall l hl] at q; cases q
    · rw [gotL_hit hk ht hall]
      have ht' : L[k].tx = c.tx ∧ L[k].key = c.key ∧ L[k].wt = true := by simpa [gotP] using ht
      have hkc : (⟨L[k].tx, L[k].key, L[k].wr⟩ : C) = c := by
        rcases inv _ (h.lw _ (List.getElem_mem hk) ht'.2.2).1 with q | q
        · exact q
        · exact absurd ht'.1 (ne _ q)
      have lu := List.pairwise_iff_getElem.1 h.lu
      have other : ∀ j (hj : j < L.length), j ≠ k → L[j].wt = true → L[j].tx ≠ c.tx := fun j hj hjk hw => by
        rcases Nat.lt_or_gt_of_ne hjk with q | q
        · have := lu j k hj hk q hw ht'.2.2
          rw [ht'.1] at this; exact this
        · have := lu k j hk hj q ht'.2.2 hw
          rw [ht'.1] at this; exact fun e => this e.symm
      refine ⟨fun l hl hw => ?_, fun e he hey => ?_, fun l hl hw => ?_, ?_⟩
      · obtain ⟨j, hj, rfl⟩ := List.getElem_of_mem hl
        have hj' : j < L.length := by simpa using hj
        by_cases e : k = j
        · subst e
          rw [List.getElem_set_self] at hw; cases hw
        · rw [List.getElem_set_ne e] at hw ⊢
          obtain ⟨h1, h2⟩ := h.lw _ (List.getElem_mem hj') hw
          rcases inv _ h1 with q | q
          · exact absurd (show L[j].tx = c.tx by rw [← q]) (other j hj' (Ne.symm e) hw)
          · exact ⟨q, h2⟩
      · obtain ⟨j, hj, ej⟩ := List.getElem_of_mem (h.wl e (sub e he) hey)
        have hjk : k ≠ j := fun q => by
          subst q
          exact ne e he (by rw [← ht'.1, ej])
        exact List.mem_iff_getElem.2 ⟨j, by simpa using hj, by rw [List.getElem_set_ne hjk]; exact ej⟩
      · obtain ⟨j, hj, rfl⟩ := List.getElem_of_mem hl
        have hj' : j < L.length := by simpa using hj
        by_cases e : k = j
        · subst e
          rw [List.getElem_set_self]
          refine .inl ⟨n, hn, ?_⟩
          show Covs ⟨L[k].tx, L[k].key, L[k].wr⟩ n
          rw [hkc]; exact hcn
        · rw [List.getElem_set_ne e] at hw ⊢
          exact lh' _ (List.getElem_mem hj') hw
      · rw [List.pairwise_iff_getElem]
        intro i j hi hj hij hwi hwj
        have hi' : i < L.length := by simpa using hi
        have hj' : j < L.length := by simpa using hj
        by_cases ei : k = i
        · subst ei
          rw [List.getElem_set_self] at hwi; cases hwi
        · by_cases ej : k = j
          · subst ej
            rw [List.getElem_set_self] at hwj; cases hwj
          · rw [List.getElem_set_ne ei] at hwi ⊢
            rw [List.getElem_set_ne ej] at hwj ⊢
            exact lu i j hi' hj' hij hwi hwj

/-- All that wait are gone through. -/
theorem pass_all (prep : List Int) (y : Int) : ∀ (r hs st : List C) (gt : List G) (L : List L4), J prep hs st r → K y hs (st ++ r) L →
    ∃ new, (passF r hs st gt).2.2 = gt ++ new ∧ J prep (passF r hs st gt).1 (passF r hs st gt).2.1 [] ∧ allOk L (new.filter (notTxG y)) ∧ K y (passF r hs st gt).1 (passF r hs st gt).2.1 (allL L (new.filter (notTxG y))) ∧ (∀ e ∈ (passF r hs st gt).2.1, e ∈ st ++ r) ∧ (∀ c ∈ st ++ r, c ∈ (passF r hs st gt).2.1 ∨ ∃ g ∈ new, g.a = c.tx) ∧ ∀ g ∈ new, ∃ c ∈ r, c.tx = g.a
  | [], hs, st, gt, L, hJ, hK => ⟨[], by simp [passF], by simpa [passF] using hJ, trivial, by simpa [passF, allL] using hK, by simp [passF], by simp [passF], by simp⟩
  | c :: r, hs, st, gt, L, hJ, hK => by
    cases hb : (agAny c hs || agAny c st) with
    | true =>
      rw [passF_bar hb]
      have e : st ++ [c] ++ r = st ++ c :: r := by simp
      obtain ⟨new, h1, h2, h3, h4, h5, h6, h7⟩ := pass_all prep y r hs (st ++ [c]) gt L (hJ.bar hb) (by rw [e]; exact hK)
      rw [e] at h5 h6
      exact ⟨new, h1, h2, h3, h4, h5, h6, fun g hg => by obtain ⟨d, hd, e⟩ := h7 g hg; exact ⟨d, by simp [hd], e⟩⟩
    | false =>
      rw [passF_free hb]
      obtain ⟨k1, k2⟩ := hK.free hJ.so
      have sub : ∀ e, e ∈ st ++ r → e ∈ st ++ c :: r := fun e he => by
        rcases List.mem_append.1 he with q | q
        · simp [q]
        · simp [q]
      by_cases hy : c.tx = y
      · obtain ⟨new, h1, h2, h3, h4, h5, h6, h7⟩ := pass_all prep y r (giveL hs c) st (gt ++ [⟨c.tx, c.key⟩]) L (hJ.free hb) (k1 hy)
        have ef : ((⟨c.tx, c.key⟩ : G) :: new).filter (notTxG y) = new.filter (notTxG y) := List.filter_cons_of_neg (by simp [notTxG, hy])
        refine ⟨⟨c.tx, c.key⟩ :: new, by rw [h1]; simp, h2, by rw [ef]; exact h3, by rw [ef]; exact h4, fun e he => sub e (h5 e he), fun d hd => ?_, fun g hg => ?_⟩
        · rcases List.mem_append.1 hd with q | q
          · exact (h6 d (by simp [q])).imp id fun ⟨g, hg, e⟩ => ⟨g, by simp [hg], e⟩
          · rcases List.mem_cons.1 q with rfl | q
            · exact .inr ⟨⟨d.tx, d.key⟩, by simp, rfl⟩
            · exact (h6 d (by simp [q])).imp id fun ⟨g, hg, e⟩ => ⟨g, by simp [hg], e⟩
        · rcases List.mem_cons.1 hg with rfl | q
          · exact ⟨c, by simp, rfl⟩
          · obtain ⟨d, hd, e⟩ := h7 g q; exact ⟨d, by simp [hd], e⟩
      · obtain ⟨k3, k4⟩ := k2 hy
        obtain ⟨new, h1, h2, h3, h4, h5, h6, h7⟩ := pass_all prep y r (giveL hs c) st (gt ++ [⟨c.tx, c.key⟩]) (gotL L c.tx c.key) (hJ.free hb) k4
        have ef : ((⟨c.tx, c.key⟩ : G) :: new).filter (notTxG y) = ⟨c.tx, c.key⟩ :: new.filter (notTxG y) := List.filter_cons_of_pos (by simp [notTxG, hy])
        refine ⟨⟨c.tx, c.key⟩ :: new, by rw [h1]; simp, h2, by rw [ef]; exact ⟨k3, h3⟩, by rw [ef]; exact h4, fun e he => sub e (h5 e he), fun d hd => ?_, fun g hg => ?_⟩
        · rcases List.mem_append.1 hd with q | q
          · exact (h6 d (by simp [q])).imp id fun ⟨g, hg, e⟩ => ⟨g, by simp [hg], e⟩
          · rcases List.mem_cons.1 q with rfl | q
            · exact .inr ⟨⟨d.tx, d.key⟩, by simp, rfl⟩
            · exact (h6 d (by simp [q])).imp id fun ⟨g, hg, e⟩ => ⟨g, by simp [hg], e⟩
        · rcases List.mem_cons.1 hg with rfl | q
          · exact ⟨c, by simp, rfl⟩
          · obtain ⟨d, hd, e⟩ := h7 g q; exact ⟨d, by simp [hd], e⟩
end Go.Proofs.Ytlagmbieaicmgaa
