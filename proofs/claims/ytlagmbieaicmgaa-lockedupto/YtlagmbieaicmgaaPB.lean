/- Plain: the table and the ledger, step by step. -/
import Derived.Test.YtlagmbieaicmgaaPA
namespace Go.Proofs.Ytlagmbieaicmgaa
open Lk

structure Inv (t : T4) (L : List L4) (F : List Int) : Prop where
  j : J t.prep t.held t.waits []
  k : K 0 t.held t.waits L
  pf : ∀ x, x ∈ F ↔ x ∈ t.prep
  rg : ∀ c ∈ t.waits, 1 ≤ c.tx ∧ c.tx ≤ 12
  ps : t.prep.Pairwise (· < ·)
  pr : ∀ x ∈ t.prep, 1 ≤ x ∧ x ≤ 12
  m0 : 1 ≤ t.most ∧ t.most ≤ 24
  ln : (t.held.length : Int) + (t.waits.length : Int) ≤ t.most

theorem rising_len : ∀ (l : List Int) (lo hi : Int), l.Pairwise (· < ·) → (∀ x ∈ l, lo ≤ x ∧ x ≤ hi) → lo ≤ hi + 1 → (l.length : Int) ≤ hi - lo + 1
  | [], lo, hi, _, _, h => by simp; omega
  | x :: r, lo, hi, hp, hr, h => by
    have hx := hr x (by simp)
    obtain ⟨h1, h2⟩ := List.pairwise_cons.1 hp
    have := rising_len r (x + 1) hi h2 (fun y hy => ⟨by have := h1 y hy; omega, (hr y (by simp [hy])).2⟩) (by omega)
    simp; omega

theorem Inv.fit {t : T4} {L : List L4} {F : List Int} (h : Inv t L F) : Fit t := by
  have hm := h.m0
  have hl := h.ln
  have hp := rising_len t.prep 1 12 h.ps h.pr (by omega)
  refine ⟨by omega, by omega, h.ps.imp (fun e => by omega), ?_, fun c hc => ?_, by omega, by omega⟩
  · rw [sorted_pw]; simpa using h.j.so
  · have := h.rg c hc; omega

theorem Inv.init {m : Int} (h1 : 1 ≤ m) (h2 : m ≤ 24) : Inv ⟨m, [], [], []⟩ [] [] :=
  ⟨⟨by simp, by simp, by simp, by simp⟩, ⟨by simp, by simp, by simp, by simp⟩, by simp, by simp, by simp, by simp, ⟨h1, h2⟩, by simp; omega⟩

theorem Inv.busy {t : T4} {L : List L4} {F : List Int} (h : Inv t L F) (x : Int) : busyB L x = waitB t.waits x := by
  unfold busyB waitB
  rw [Bool.eq_iff_iff, List.any_eq_true, List.any_eq_true]
  constructor
  · rintro ⟨l, hl, e⟩
    have e' : l.tx = x ∧ l.wt = true := by simpa using e
    exact ⟨_, (h.k.lw l hl e'.2).1, by simpa using e'.1⟩
  · rintro ⟨c, hc, e⟩
    have e' : c.tx = x := by simpa using e
    have := h.rg c hc
    exact ⟨_, h.k.wl c hc (by omega), by simpa using e'⟩

theorem Inv.apart {t : T4} {L : List L4} {F : List Int} (h : Inv t L F) : ∀ a ∈ L, ∀ b ∈ L, bad a b = false := by
  intro a ha b hb
  cases hbad : bad a b with
  | false => rfl
  | true =>
    exfalso
    have e : a.tx ≠ b.tx ∧ a.key = b.key ∧ a.wt = false ∧ b.wt = false ∧ (a.wr = true ∨ b.wr = true) := by simpa [bad] using hbad
    obtain ⟨e1, e2, e3, e4, e5⟩ := e
    have no : ∀ c ∈ t.waits, c.tx ≠ 0 := fun c hc => by have := h.rg c hc; omega
    rcases h.k.lh a ha e3 with ⟨ha', hha, ka⟩ | ⟨c, hc, q, _⟩
    · rcases h.k.lh b hb e4 with ⟨hb', hhb, kb⟩ | ⟨c, hc, q, _⟩
      · have := h.j.hc ha' hha hb' hhb
        have t' : ag ha' hb' = true := (ag_iff _ _).2 ⟨by rw [ka.1, kb.1]; exact e1, by rw [ka.2.1, kb.2.1]; exact e2, e5.imp ka.2.2 kb.2.2⟩
        rw [this] at t'; cases t'
      · exact no c hc q
    · exact no c hc q

theorem compact_mem {zs : List Int} {x : Int} : x ∈ Lib.compact zs ↔ x ∈ zs := by
  unfold Lib.compact Lib.compactUpTo
  constructor
  · intro h
    obtain ⟨j, hj, rfl⟩ := List.mem_map.1 h
    have hj' : j < zs.length := by simpa using (List.mem_filter.1 hj).1
    rw [getElem!_pos zs.toArray j (by simpa using hj')]
    simp
  · intro h
    obtain ⟨k, hk, e⟩ := List.getElem_of_mem h
    -- the first place with this element
    have : ∀ k (hk : k < zs.length), ∃ j, j < zs.length ∧ Lib.keeps zs.toArray j = true ∧ zs.toArray[j]! = zs[k] := by
      intro k
      induction k with
      | zero => intro hk; exact ⟨0, hk, by simp [Lib.keeps], by rw [getElem!_pos zs.toArray 0 (by simpa using hk)]; simp⟩
      | succ k ih =>
        intro hk
        by_cases e : zs[k + 1] = zs[k]
        · obtain ⟨j, hj, h1, h2⟩ := ih (by omega)
          exact ⟨j, hj, h1, by rw [h2, e]⟩
        · refine ⟨k + 1, hk, ?_, by rw [getElem!_pos zs.toArray (k + 1) (by simpa using hk)]; simp⟩
          unfold Lib.keeps
          rw [getElem!_pos zs.toArray (k + 1) (by simpa using hk), getElem!_pos zs.toArray (k + 1 - 1) (by simp; omega)]
          simpa using e
    obtain ⟨j, hj, h1, h2⟩ := this k hk
    exact List.mem_map.2 ⟨j, List.mem_filter.2 ⟨by simpa using hj, h1⟩, by rw [h2]; exact e⟩

theorem blockS_mem {c : C} {l : List C} {x : Int} : x ∈ blockS c l ↔ ∃ e ∈ l, ag c e = true ∧ e.tx = x := by
  unfold blockS
  rw [compact_mem, List.mem_mergeSort]
  unfold blockL
  rw [List.mem_map]
  constructor
  · rintro ⟨e, he, rfl⟩
    exact ⟨e, (List.mem_filter.1 he).1, (List.mem_filter.1 he).2, rfl⟩
  · rintro ⟨e, h1, h2, rfl⟩
    exact ⟨e, List.mem_filter.2 ⟨h1, h2⟩, rfl⟩

theorem waitP_mem {t : T4} {g : G} : g ∈ waitP t t.waits.length ↔ ∃ (i : Nat) (hi : i < t.waits.length), g.a = t.waits[i].tx ∧ g.b ∈ blockS t.waits[i] (t.held ++ t.waits.take i) := by
  unfold waitP
  rw [List.mem_flatMap]
  constructor
  · rintro ⟨i, hi, h⟩
    have hi' : i < t.waits.length := by simpa using hi
    unfold pairL at h
    rw [List.getElem?_eq_getElem hi'] at h
    obtain ⟨o, ho, rfl⟩ := List.mem_map.1 h
    exact ⟨i, hi', rfl, ho⟩
  · rintro ⟨i, hi, h1, h2⟩
    refine ⟨i, by simpa using hi, ?_⟩
    unfold pairL
    rw [List.getElem?_eq_getElem hi]
    exact List.mem_map.2 ⟨g.b, h2, by rw [← h1]⟩

theorem Inv.waits1 {t : T4} {L : List L4} {F : List Int} (h : Inv t L F) : ∀ p ∈ waitP t t.waits.length, busyB L p.a = true ∧ (p.a ≤ p.b → firmB F p.b = true) := by
  intro p hp
  obtain ⟨i, hi, e1, e2⟩ := waitP_mem.1 hp
  have so := List.pairwise_iff_getElem.1 (show t.waits.Pairwise fun a b => a.tx < b.tx by simpa using h.j.so)
  refine ⟨?_, fun hle => ?_⟩
  · rw [h.busy]
    exact List.any_eq_true.2 ⟨t.waits[i], List.getElem_mem hi, by simp [e1]⟩
  · obtain ⟨e, he, ha, hx⟩ := blockS_mem.1 e2
    rcases List.mem_append.1 he with q | q
    · rcases h.j.iw t.waits[i] (by simp) e q ha with r | r
      · omega
      · unfold firmB
        rw [hx] at r
        simpa using (h.pf p.b).2 r
    · obtain ⟨j, hj, rfl⟩ := List.getElem_of_mem q
      rw [List.length_take] at hj
      rw [List.getElem_take] at hx
      have := so j i (by omega) hi (by omega)
      omega

theorem Inv.waits2 {t : T4} {L : List L4} {F : List Int} (h : Inv t L F) : ∀ l ∈ L, l.wt = true → inB (waitP t t.waits.length) l.tx = true := by
  intro l hl hw
  obtain ⟨i, hi, e⟩ := List.getElem_of_mem (h.k.lw l hl hw).1
  have so := List.pairwise_iff_getElem.1 (show t.waits.Pairwise fun a b => a.tx < b.tx by simpa using h.j.so)
  have etx : t.waits[i].tx = l.tx := by rw [e]
  have : ∃ o ∈ t.held ++ t.waits.take i, ag t.waits[i] o = true := by
    rcases h.j.sb t.waits[i] (List.getElem_mem hi) with ⟨o, ho, q⟩ | ⟨o, ho, q1, q2⟩
    · exact ⟨o, by simp [ho], q⟩
    · obtain ⟨j, hj, rfl⟩ := List.getElem_of_mem ho
      have hji : j < i := by
        rcases Nat.lt_or_ge j i with r | r
        · exact r
        · rcases Nat.lt_or_eq_of_le r with r | r
          · have := so i j hi hj r; omega
          · subst r; omega
      exact ⟨t.waits[j], List.mem_append.2 (.inr (List.mem_iff_getElem.2 ⟨j, by rw [List.length_take]; omega, by rw [List.getElem_take]⟩)), q2⟩
  obtain ⟨o, ho, q⟩ := this
  exact List.any_eq_true.2 ⟨⟨l.tx, o.tx⟩, waitP_mem.2 ⟨i, hi, etx.symm, blockS_mem.2 ⟨o, ho, q, rfl⟩⟩, by simp⟩

/-- Some leave. -/
theorem J.strip {prep prep' : List Int} {hs W : List C} (h : J prep hs W []) (q : Int → Bool) (hq : ∀ z ∈ prep, q z = true → z ∈ prep') : J prep' (hs.filter fun c => q c.tx) [] (W.filter fun c => q c.tx) := by
  refine ⟨fun a ha b hb => h.hc a (List.mem_filter.1 ha).1 b (List.mem_filter.1 hb).1, ?_, fun c hc o ho a => ?_, by simp⟩
  · simpa using (show W.Pairwise fun a b => a.tx < b.tx by simpa using h.so).filter _
  · have hc' := List.mem_filter.1 (show c ∈ W.filter (fun c => q c.tx) from hc)
    have ho' := List.mem_filter.1 ho
    exact (h.iw c (by simp [hc'.1]) o ho'.1 a).imp id fun r => hq _ r ho'.2
theorem K.strip {hs W : List C} {L : List L4} (h : K 0 hs W L) (no : ∀ c ∈ W, c.tx ≠ 0) (q : Int → Bool) : K 0 (hs.filter fun c => q c.tx) (W.filter fun c => q c.tx) (L.filter fun l => q l.tx) := by
  refine ⟨fun l hl hw => ?_, fun c hc hy => ?_, fun l hl hw => ?_, h.lu.filter _⟩
  · have hl' := List.mem_filter.1 hl
    obtain ⟨h1, h2⟩ := h.lw l hl'.1 hw
    exact ⟨List.mem_filter.2 ⟨h1, hl'.2⟩, h2⟩
  · have hc' := List.mem_filter.1 hc
    exact List.mem_filter.2 ⟨h.wl c hc'.1 hy, hc'.2⟩
  · have hl' := List.mem_filter.1 hl
    rcases h.lh l hl'.1 hw with ⟨o, ho, k⟩ | ⟨c, hc, e, _⟩
    · exact .inl ⟨o, List.mem_filter.2 ⟨ho, by rw [k.1]; exact hl'.2⟩, k⟩
    · exact absurd e (no c hc)

theorem gots_all {y : Int} {new : List G} {r : List C} (h : ∀ g ∈ new, ∃ c ∈ r, c.tx = g.a) (hr : ∀ c ∈ r, c.tx ≠ y) : new.filter (notTxG y) = new :=
  List.filter_eq_self.2 fun g hg => by
    obtain ⟨c, hc, e⟩ := h g hg
    simp [notTxG, ← e, hr c hc]

theorem freeP_mem {prep : List Int} (hp : prep.Pairwise (· < ·)) (x z : Int) : z ∈ freeP prep x ↔ z ∈ prep ∧ z ≠ x := by
  unfold freeP
  split
  · rename_i hc
    have hx : x ∈ prep := by simpa using hc
    -- the place of x
    obtain ⟨k, hk, ek⟩ := List.getElem_of_mem hx
    have pw := List.pairwise_iff_getElem.1 hp
    have hcnt : cntL prep x = k := by
      unfold cntL
      have e1 : prep = prep.take k ++ x :: prep.drop (k + 1) := by
        rw [← ek, ← List.drop_eq_getElem_cons hk, List.take_append_drop]
      have h1 : (prep.take k).countP (· < x) = k := by
        rw [List.countP_eq_length.2]
        · rw [List.length_take]; omega
        · intro a ha
          obtain ⟨j, hj, rfl⟩ := List.getElem_of_mem ha
          rw [List.length_take] at hj
          rw [List.getElem_take]
          have := pw j k (by omega) hk (by omega)
          rw [ek] at this; simpa using this
      have h2 : (prep.drop (k + 1)).countP (· < x) = 0 := by
        rw [List.countP_eq_zero]
        intro a ha
        obtain ⟨j, hj, rfl⟩ := List.getElem_of_mem ha
        rw [List.length_drop] at hj
        rw [List.getElem_drop]
        have := pw k (k + 1 + j) hk (by omega) (by omega)
        rw [ek] at this; simp; omega
      rw [e1, List.countP_append, List.countP_cons, h1, h2]
      simp
    rw [hcnt]
    constructor
    · intro hz
      rcases List.mem_append.1 hz with q | q
      · obtain ⟨j, hj, rfl⟩ := List.getElem_of_mem q
        rw [List.length_take] at hj
        rw [List.getElem_take]
        have := pw j k (by omega) hk (by omega)
        exact ⟨List.getElem_mem _, by omega⟩
      · obtain ⟨j, hj, rfl⟩ := List.getElem_of_mem q
        rw [List.length_drop] at hj
        rw [List.getElem_drop]
        have := pw k (k + 1 + j) hk (by omega) (by omega)
        exact ⟨List.getElem_mem _, by omega⟩
    · rintro ⟨hz, hne⟩
      obtain ⟨j, hj, rfl⟩ := List.getElem_of_mem hz
      rcases Nat.lt_or_ge j k with r | r
      · exact List.mem_append.2 (.inl (List.mem_iff_getElem.2 ⟨j, by rw [List.length_take]; omega, by rw [List.getElem_take]⟩))
      · have r' : k ≠ j := fun e => hne (by subst e; exact ek)
        exact List.mem_append.2 (.inr (List.mem_iff_getElem.2 ⟨j - (k + 1), by rw [List.length_drop]; omega, by rw [List.getElem_drop]; congr 1; omega⟩))
  · rename_i hc
    have hx : x ∉ prep := by simpa using hc
    exact ⟨fun h => ⟨h, fun e => hx (e ▸ h)⟩, fun h => h.1⟩
theorem freeP_sub (prep : List Int) (x : Int) : (freeP prep x).Sublist prep := by
  unfold freeP
  split
  · conv => rhs; rw [← List.take_append_drop (cntL prep x) prep]
    refine List.Sublist.append_left ?_ _
    rw [← List.drop_drop]
    exact List.drop_sublist _ _
  · exact List.Sublist.refl _

theorem Inv.free {t : T4} {L : List L4} {F : List Int} (h : Inv t L F) (x : Int) :
    allOk (L.filter (dropB x)) (t.freed x).gots ∧ Inv (t.freed x).passed (allL (L.filter (dropB x)) (t.freed x).gots) (F.filter (dropI x)) := by
  have no : ∀ c ∈ t.waits, c.tx ≠ 0 := fun c hc => by have := h.rg c hc; omega
  have hJ := h.j.strip (prep' := freeP t.prep x) (fun z => !decide (z = x)) (fun z hz hq => (freeP_mem h.ps x z).2 ⟨hz, by simpa using hq⟩)
  have hK := h.k.strip no (fun z => !decide (z = x))
  obtain ⟨new, h1, h2, h3, h4, h5, h6, h7⟩ := pass_all (freeP t.prep x) 0 (t.waits.filter fun c => !decide (c.tx = x)) (t.held.filter fun c => !decide (c.tx = x)) [] [] (L.filter fun l => !decide (l.tx = x)) hJ hK
  have hnew : new.filter (notTxG 0) = new := gots_all h7 fun c hc => no c (List.mem_filter.1 hc).1
  rw [hnew] at h3 h4
  have e1 : (t.freed x).gots = new := by rw [List.nil_append] at h1; exact h1
  rw [e1]
  have hl := (passF_len (t.freed x).waits (t.freed x).held [] []).1
  have l1 : (t.freed x).held.length ≤ t.held.length := List.length_filter_le _ _
  have l2 : (t.freed x).waits.length ≤ t.waits.length := List.length_filter_le _ _
  refine ⟨h3, h2, h4, fun z => ?_, fun c hc => ?_, h.ps.sublist (freeP_sub _ _), fun z hz => h.pr z ((freeP_mem h.ps x z).1 hz).1, h.m0, ?_⟩
  · show z ∈ F.filter (dropI x) ↔ z ∈ freeP t.prep x
    rw [freeP_mem h.ps, List.mem_filter, h.pf]
    simp [dropI]
  · have := h5 c hc
    exact h.rg c (List.mem_filter.1 (show c ∈ t.waits.filter (fun c => !decide (c.tx = x)) from this)).1
  · have e2 : ((t.freed x).passed.held.length : Int) + ((t.freed x).passed.waits.length : Int) ≤ (t.held.length : Int) + (t.waits.length : Int) := by
      simp at hl
      have : (t.freed x).passed.held.length + (t.freed x).passed.waits.length ≤ t.held.length + t.waits.length := by
        refine Nat.le_trans hl ?_
        omega
      omega
    exact Int.le_trans e2 h.ln

theorem insI_mem {xs : List Int} {i : Nat} {x z : Int} : z ∈ insI xs i x ↔ z ∈ xs ∨ z = x := by
  unfold insI
  rw [List.mem_append, List.mem_cons]
  constructor
  · rintro (q | q | q)
    · exact .inl (List.mem_of_mem_take q)
    · exact .inr q
    · exact .inl (List.mem_of_mem_drop q)
  · rintro (q | q)
    · rw [← List.take_append_drop i xs] at q
      rcases List.mem_append.1 q with q | q
      · exact .inl q
      · exact .inr (.inr q)
    · exact .inr (.inl q)

theorem ins_rising {xs : List Int} {x : Int} (hp : xs.Pairwise (· < ·)) (hx : x ∉ xs) : (insI xs (cntL xs x) x).Pairwise (· < ·) := by
  have key : ∀ (l : List Int), l.Pairwise (· < ·) → x ∉ l → (insI l (cntL l x) x).Pairwise (· < ·) := by
    intro l
    induction l with
    | nil => intro _ _; simp [insI, cntL]
    | cons a r ih =>
      intro hp hx
      obtain ⟨h1, h2⟩ := List.pairwise_cons.1 hp
      have hxr : x ∉ r := fun e => hx (by simp [e])
      have hxa : a ≠ x := fun e => hx (by simp [e])
      by_cases hax : a < x
      · have e : insI (a :: r) (cntL (a :: r) x) x = a :: insI r (cntL r x) x := by
          unfold cntL insI
          rw [List.countP_cons_of_pos (by simpa using hax)]
          simp
        rw [e, List.pairwise_cons]
        refine ⟨fun b hb => ?_, ih h2 hxr⟩
        rcases insI_mem.1 hb with q | q
        · exact h1 b q
        · rw [q]; exact hax
      · have e0 : cntL (a :: r) x = 0 := by
          unfold cntL
          rw [List.countP_eq_zero]
          intro b hb
          rcases List.mem_cons.1 hb with q | q
          · rw [q]; simpa using hax
          · have := h1 b q; simp; omega
        rw [e0]
        show (x :: a :: r).Pairwise _
        rw [List.pairwise_cons]
        refine ⟨fun b hb => ?_, hp⟩
        rcases List.mem_cons.1 hb with q | q
        · rw [q]; omega
        · have := h1 b q; omega
  exact key xs hp hx

theorem Inv.hold {t : T4} {L : List L4} {F : List Int} (h : Inv t L F) (x : Int) (h1 : 1 ≤ x) (h2 : x ≤ 12) : Inv { t with prep := holdP t.prep t.waits x } L (if busyB L x then F else F ++ [x]) := by
  rw [h.busy]
  have mem : ∀ z, z ∈ holdP t.prep t.waits x ↔ z ∈ t.prep ∨ (z = x ∧ waitB t.waits x = false) := fun z => by
    unfold holdP
    by_cases hc : t.prep.contains x = true
    · have hx : x ∈ t.prep := by simpa using hc
      rw [hc, Bool.true_or, if_pos rfl]
      exact ⟨.inl, fun q => q.elim id fun e => e.1 ▸ hx⟩
    · have hc' : t.prep.contains x = false := by simpa using hc
      rw [hc', Bool.false_or]
      cases hw : waitB t.waits x with
      | true => simp
      | false => rw [if_neg (by simp), insI_mem]; simp
  refine ⟨⟨h.j.hc, h.j.so, fun c hc o ho a => (h.j.iw c hc o ho a).imp id fun q => (mem _).2 (.inl q), h.j.sb⟩, h.k, fun z => ?_, h.rg, ?_, fun z hz => ?_, h.m0, h.ln⟩
  · show _ ↔ z ∈ holdP t.prep t.waits x
    rw [mem]
    cases hw : waitB t.waits x with
    | true => simp [h.pf]
    | false => simp [h.pf]
  · show (holdP t.prep t.waits x).Pairwise (· < ·)
    unfold holdP
    by_cases hc : (t.prep.contains x || waitB t.waits x) = true
    · rw [if_pos hc]; exact h.ps
    · rw [if_neg hc]
      refine ins_rising h.ps fun e => hc ?_
      have : t.prep.contains x = true := by simpa using e
      rw [this]; rfl
  · rcases (mem z).1 hz with q | q
    · exact h.pr z q
    · rw [q.1]; exact ⟨h1, h2⟩
end Go.Proofs.Ytlagmbieaicmgaa
