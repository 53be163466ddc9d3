/- Plain: a Take, the table and the ledger. -/
import Derived.Test.YtlagmbieaicmgaaPB
namespace Go.Proofs.Ytlagmbieaicmgaa
open Lk

def dropAll (L : List L4) (xs : List Int) : List L4 := xs.foldl (fun L x => L.filter (dropB x)) L
def dropAllF (F : List Int) (xs : List Int) : List Int := xs.foldl (fun F x => F.filter (dropI x)) F
theorem dropAll_snoc (L : List L4) (xs : List Int) (x : Int) : dropAll L (xs ++ [x]) = (dropAll L xs).filter (dropB x) := by unfold dropAll; rw [List.foldl_append]; rfl
theorem dropAllF_snoc (F : List Int) (xs : List Int) (x : Int) : dropAllF F (xs ++ [x]) = (dropAllF F xs).filter (dropI x) := by unfold dropAllF; rw [List.foldl_append]; rfl
theorem dropAll_eq (xs : List Int) : ∀ L, dropAll L xs = L.filter fun l => !xs.contains l.tx := by
  induction xs with
  | nil => intro L; exact (List.filter_eq_self.2 fun _ _ => rfl).symm
  | cons x r ih =>
    intro L
    refine (ih (L.filter (dropB x))).trans ?_
    rw [List.filter_filter]
    refine List.filter_congr fun l _ => ?_
    unfold dropB
    by_cases hx : l.tx = x <;> simp [hx]
theorem dropAllF_mem (xs : List Int) : ∀ (F : List Int) (z : Int), z ∈ dropAllF F xs ↔ z ∈ F ∧ z ∉ xs := by
  induction xs with
  | nil => intro F z; simp [dropAllF]
  | cons x r ih =>
    intro F z
    refine (ih (F.filter (dropI x)) z).trans ?_
    rw [List.mem_filter]
    simp [dropI]
    constructor
    · rintro ⟨⟨h1, h2⟩, h3⟩; exact ⟨h1, h2, h3⟩
    · rintro ⟨h1, h2, h3⟩; exact ⟨⟨h1, h2⟩, h3⟩
theorem dropAll_len (xs : List Int) (L : List L4) : (dropAll L xs).length ≤ L.length := by rw [dropAll_eq]; exact List.length_filter_le _ _
theorem dropAllF_len (xs : List Int) : ∀ F, (dropAllF F xs).length ≤ F.length := by
  induction xs with
  | nil => intro F; exact Nat.le_refl _
  | cons x r ih => intro F; exact Nat.le_trans (ih _) (List.length_filter_le _ _)

theorem hurt_mem {t : T4} {ask : C} {x : Int} : x ∈ t.hurt ask ↔ ∃ h ∈ t.held, ask.tx < h.tx ∧ ag h ask = true ∧ h.tx ∉ t.prep ∧ h.tx = x := by
  unfold T4.hurt
  rw [List.mem_mergeSort]
  unfold hurtL
  rw [List.mem_map]
  constructor
  · rintro ⟨h, hh, rfl⟩
    obtain ⟨h1, h2⟩ := List.mem_filter.1 hh
    have h2' : ask.tx < h.tx ∧ ag h ask = true ∧ h.tx ∉ t.prep := by simpa [hurtB] using h2
    exact ⟨h, h1, h2'.1, h2'.2.1, h2'.2.2, rfl⟩
  · rintro ⟨h, h1, h2, h3, h4, rfl⟩
    exact ⟨h, List.mem_filter.2 ⟨h1, by simp [hurtB, h2, h3, h4]⟩, rfl⟩

theorem insL_mem {ws : List C} {i : Nat} {c d : C} : d ∈ insL ws i c ↔ d ∈ ws ∨ d = c := by
  unfold insL
  rw [List.mem_append, List.mem_cons]
  constructor
  · rintro (q | q | q)
    · exact .inl (List.mem_of_mem_take q)
    · exact .inr q
    · exact .inl (List.mem_of_mem_drop q)
  · rintro (q | q)
    · rw [← List.take_append_drop i ws] at q
      rcases List.mem_append.1 q with q | q
      · exact .inl q
      · exact .inr (.inr q)
    · exact .inr (.inl q)
theorem insL_rising {c : C} : ∀ ws : List C, ws.Pairwise (fun a b => a.tx < b.tx) → (∀ d ∈ ws, d.tx ≠ c.tx) → (insL ws (posL ws c.tx) c).Pairwise fun a b => a.tx < b.tx
  | [], _, _ => by simp [insL, posL]
  | a :: r, hp, hx => by
    obtain ⟨h1, h2⟩ := List.pairwise_cons.1 hp
    have ha := hx a (by simp)
    by_cases hac : c.tx ≤ a.tx
    · have e0 : posL (a :: r) c.tx = 0 := by unfold posL; rw [List.findIdx_cons]; simp [hac]
      rw [e0]
      show (c :: a :: r).Pairwise _
      rw [List.pairwise_cons]
      refine ⟨fun b hb => ?_, hp⟩
      rcases List.mem_cons.1 hb with q | q
      · rw [q]; omega
      · have := h1 b q; omega
    · have e : insL (a :: r) (posL (a :: r) c.tx) c = a :: insL r (posL r c.tx) c := by
        unfold posL insL
        rw [List.findIdx_cons]
        simp [hac]
      rw [e, List.pairwise_cons]
      refine ⟨fun b hb => ?_, insL_rising r h2 fun d hd => hx d (by simp [hd])⟩
      rcases insL_mem.1 hb with q | q
      · exact h1 b q
      · rw [q]; omega

/-- A Take that is granted, or waits. -/
theorem Inv.asked {t : T4} {L : List L4} {F : List Int} (h : Inv t L F) (ask : C) (h1 : 1 ≤ ask.tx) (h2 : ask.tx ≤ 12) (hw : waitB t.waits ask.tx = false) (hl : ¬ t.most ≤ (t.held.length : Int) + (t.waits.length : Int)) :
    (∀ x ∈ t.hurt ask, firmB F x = false ∧ ask.tx < x) ∧
    (waitB (t.asked ask).passed.waits ask.tx = true → allOk (dropAll L (t.hurt ask) ++ [⟨ask.tx, ask.key, ask.wr, true⟩]) (t.asked ask).gots ∧ Inv (t.asked ask).passed (allL (dropAll L (t.hurt ask) ++ [⟨ask.tx, ask.key, ask.wr, true⟩]) (t.asked ask).gots) (dropAllF F (t.hurt ask))) ∧
    (waitB (t.asked ask).passed.waits ask.tx = false → allOk (dropAll L (t.hurt ask) ++ [⟨ask.tx, ask.key, ask.wr, false⟩]) ((t.asked ask).gots.filter (notTxG ask.tx)) ∧ Inv (t.asked ask).passed (allL (dropAll L (t.hurt ask) ++ [⟨ask.tx, ask.key, ask.wr, false⟩]) ((t.asked ask).gots.filter (notTxG ask.tx))) (dropAllF F (t.hurt ask))) := by
  have no : ∀ c ∈ t.waits, c.tx ≠ 0 := fun c hc => by have := h.rg c hc; omega
  have hnw : ∀ c ∈ t.waits, c.tx ≠ ask.tx := fun c hc e => by
    have : waitB t.waits ask.tx = true := List.any_eq_true.2 ⟨c, hc, by simpa using e⟩
    rw [hw] at this; cases this
  have hh : ∀ x ∈ t.hurt ask, x ∉ t.prep ∧ ask.tx < x := fun x hx => by
    obtain ⟨o, _, q1, _, q3, rfl⟩ := hurt_mem.1 hx
    exact ⟨q3, q1⟩
  obtain ⟨s1, s2⟩ := stripAll_eq (hurtL t.prep ask t.held) t
  have hq : ∀ z, (!(hurtL t.prep ask t.held).contains z) = !(t.hurt ask).contains z := fun z => by
    have : z ∈ t.hurt ask ↔ z ∈ hurtL t.prep ask t.held := by unfold T4.hurt; rw [List.mem_mergeSort]
    congr 1
    rw [Bool.eq_iff_iff]
    simpa using this.symm
  have s1' : (stripAll t (hurtL t.prep ask t.held)).held = t.held.filter fun c => !(t.hurt ask).contains c.tx := s1.trans (List.filter_congr fun c _ => hq c.tx)
  have s2' : (stripAll t (hurtL t.prep ask t.held)).waits = t.waits.filter fun c => !(t.hurt ask).contains c.tx := s2.trans (List.filter_congr fun c _ => hq c.tx)
  have hJ := h.j.strip (prep' := t.prep) (fun z => !(t.hurt ask).contains z) (fun z hz _ => hz)
  have hK := h.k.strip no (fun z => !(t.hurt ask).contains z)
  rw [← s1', ← s2'] at hJ hK
  rw [← dropAll_eq] at hK
  have ew : (t.asked ask).waits = insL (stripAll t (hurtL t.prep ask t.held)).waits (posL (stripAll t (hurtL t.prep ask t.held)).waits ask.tx) ask := rfl
  have eh : (t.asked ask).held = (stripAll t (hurtL t.prep ask t.held)).held := rfl
  obtain ⟨l1, l2, ep, em⟩ := stripAll_len (hurtL t.prep ask t.held) t
  have ep' : (t.asked ask).prep = t.prep := ep
  have em' : (t.asked ask).most = t.most := em
  generalize (stripAll t (hurtL t.prep ask t.held)).waits = W at *
  generalize hH : (stripAll t (hurtL t.prep ask t.held)).held = H at *
  have wsub : ∀ c ∈ W, c ∈ t.waits := fun c hc => (List.mem_filter.1 (by rw [s2'] at hc; exact hc)).1
  have amem : ∀ d, d ∈ (t.asked ask).waits ↔ d ∈ W ∨ d = ask := fun d => by rw [ew]; exact insL_mem
  have hJ2 : J t.prep H [] (t.asked ask).waits := by
    refine ⟨hJ.hc, ?_, fun c hc o ho a => ?_, by simp⟩
    · show (t.asked ask).waits.Pairwise _
      rw [ew]
      exact insL_rising W hJ.so fun d hd => hnw d (wsub d hd)
    · rcases (amem c).1 hc with q | q
      · exact hJ.iw c q o ho a
      · subst q
        rcases Int.lt_trichotomy o.tx c.tx with r | r | r
        · exact .inl r
        · exact absurd r.symm ((ag_iff _ _).1 a).1
        · by_cases hp : o.tx ∈ t.prep
          · exact .inr hp
          · exfalso
            rw [s1'] at ho
            obtain ⟨o1, o2⟩ := List.mem_filter.1 ho
            have : o.tx ∈ t.hurt c := hurt_mem.2 ⟨o, o1, r, by rw [ag_comm]; exact a, hp, rfl⟩
            simp [this] at o2
  have lub : ∀ b, (dropAll L (t.hurt ask) ++ [(⟨ask.tx, ask.key, ask.wr, b⟩ : L4)]).Pairwise fun a b => a.wt = true → b.wt = true → a.tx ≠ b.tx := fun b => by
    refine List.pairwise_append.2 ⟨hK.lu, by simp, fun l hl e he hw' _ => ?_⟩
    have e' : e = ⟨ask.tx, ask.key, ask.wr, b⟩ := by simpa using he
    subst e'
    exact hnw _ (wsub _ (hK.lw l hl hw').1)
  have hlen : (t.asked ask).passed.held.length + (t.asked ask).passed.waits.length ≤ t.held.length + t.waits.length + 1 := by
    have hp := (passF_len (t.asked ask).waits (t.asked ask).held [] []).1
    have e3 : (t.asked ask).waits.length ≤ t.waits.length + 1 := by
      rw [ew]; unfold insL; simp; omega
    simp at hp
    refine Nat.le_trans hp ?_
    rw [eh]; omega
  have fin : ∀ (L' : List L4), J t.prep (t.asked ask).passed.held (t.asked ask).passed.waits [] → K 0 (t.asked ask).passed.held (t.asked ask).passed.waits L' → (∀ e ∈ (t.asked ask).passed.waits, e ∈ (t.asked ask).waits) → Inv (t.asked ask).passed L' (dropAllF F (t.hurt ask)) := fun L' j k s => by
    have ep2 : (t.asked ask).passed.prep = t.prep := ep'
    have em2 : (t.asked ask).passed.most = t.most := em'
    refine ⟨by rw [ep2]; exact j, k, fun z => ?_, fun c hc => ?_, by rw [ep2]; exact h.ps, by rw [ep2]; exact h.pr, by rw [em2]; exact h.m0, by rw [em2]; omega⟩
    · rw [ep2, dropAllF_mem, h.pf]
      exact ⟨fun q => q.1, fun q => ⟨q, fun r => (hh z r).1 q⟩⟩
    · rcases (amem c).1 (s c hc) with q | q
      · exact h.rg c (wsub c q)
      · rw [q]; exact ⟨h1, h2⟩
  refine ⟨fun x hx => ⟨?_, (hh x hx).2⟩, fun hwt => ?_, fun hwf => ?_⟩
  · unfold firmB
    rw [Bool.eq_false_iff]
    intro e
    exact (hh x hx).1 ((h.pf x).1 (by simpa using e))
  · have hK2 : K 0 H ([] ++ (t.asked ask).waits) (dropAll L (t.hurt ask) ++ [⟨ask.tx, ask.key, ask.wr, true⟩]) := by
      refine ⟨fun l hl hw' => ?_, fun c hc hy => ?_, fun l hl hw' => ?_, lub true⟩
      · rcases List.mem_append.1 hl with q | q
        · exact ⟨(amem _).2 (.inl (hK.lw l q hw').1), (hK.lw l q hw').2⟩
        · have e' : l = ⟨ask.tx, ask.key, ask.wr, true⟩ := by simpa using q
          subst e'
          exact ⟨(amem _).2 (.inr rfl), by show ask.tx ≠ 0; omega⟩
      · rcases (amem c).1 hc with q | q
        · exact List.mem_append.2 (.inl (hK.wl c q hy))
        · subst q; simp
      · rcases List.mem_append.1 hl with q | q
        · rcases hK.lh l q hw' with r | ⟨c, hc, e, _⟩
          · exact .inl r
          · exact absurd e (no c (wsub c hc))
        · have e' : l = ⟨ask.tx, ask.key, ask.wr, true⟩ := by simpa using q
          subst e'; cases hw'
    obtain ⟨new, p1, p2, p3, p4, p5, p6, p7⟩ := pass_all t.prep 0 (t.asked ask).waits H [] [] _ hJ2 hK2
    have hnew : new.filter (notTxG 0) = new := gots_all p7 fun c hc => by
      rcases (amem c).1 hc with q | q
      · exact no c (wsub c q)
      · rw [q]; omega
    rw [hnew] at p3 p4
    have e1 : (t.asked ask).gots = new := by rw [List.nil_append] at p1; rw [← p1, ← hH]; rfl
    rw [e1]
    rw [← hH] at p2 p4 p5
    exact ⟨p3, fin _ p2 p4 p5⟩
  · have hK2 : K ask.tx H ([] ++ (t.asked ask).waits) (dropAll L (t.hurt ask) ++ [⟨ask.tx, ask.key, ask.wr, false⟩]) := by
      refine ⟨fun l hl hw' => ?_, fun c hc hy => ?_, fun l hl hw' => ?_, lub false⟩
      · rcases List.mem_append.1 hl with q | q
        · have q1 := (hK.lw l q hw').1
          exact ⟨(amem _).2 (.inl q1), hnw _ (wsub _ q1)⟩
        · have e' : l = ⟨ask.tx, ask.key, ask.wr, false⟩ := by simpa using q
          subst e'; cases hw'
      · rcases (amem c).1 hc with q | q
        · exact List.mem_append.2 (.inl (hK.wl c q (no c (wsub c q))))
        · subst q; exact absurd rfl hy
      · rcases List.mem_append.1 hl with q | q
        · rcases hK.lh l q hw' with r | ⟨c, hc, e, _⟩
          · exact .inl r
          · exact absurd e (no c (wsub c hc))
        · have e' : l = ⟨ask.tx, ask.key, ask.wr, false⟩ := by simpa using q
          subst e'
          exact .inr ⟨ask, (amem _).2 (.inr rfl), rfl, Covs.refl _⟩
    obtain ⟨new, p1, p2, p3, p4, p5, p6, p7⟩ := pass_all t.prep ask.tx (t.asked ask).waits H [] [] _ hJ2 hK2
    have e1 : (t.asked ask).gots = new := by rw [List.nil_append] at p1; rw [← p1, ← hH]; rfl
    rw [e1]
    rw [← hH] at p2 p4 p5
    refine ⟨p3, fin _ p2 ?_ p5⟩
    have nA : ∀ c ∈ (t.asked ask).passed.waits, c.tx ≠ ask.tx := fun c hc e => by
      have : waitB (t.asked ask).passed.waits ask.tx = true := List.any_eq_true.2 ⟨c, hc, by simpa using e⟩
      rw [hwf] at this; cases this
    refine ⟨fun l hl hw' => ?_, fun c hc hy => p4.wl c hc (nA c hc), fun l hl hw' => ?_, p4.lu⟩
    · have q := p4.lw l hl hw'
      refine ⟨q.1, ?_⟩
      rcases (amem _).1 (p5 _ q.1) with r | r
      · exact no _ (wsub _ r)
      · have : l.tx = ask.tx := by rw [← r]
        omega
    · rcases p4.lh l hl hw' with q | ⟨c, hc, e, _⟩
      · exact .inl q
      · exact absurd e (nA c hc)
end Go.Proofs.Ytlagmbieaicmgaa
