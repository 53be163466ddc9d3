/- The two tables, one beside the other: those that wait are gone through. -/
import Derived.Test.YtlagmbieaicmgaaPC
import Derived.Test.YtlagmbieaicmgaaQD
namespace Go.Proofs.Ytlagmbieaicmgaa
open Lk

/-- A claim as the document's table holds it. -/
def mk4 (b : Bool) (c : C) : L4 := ⟨c.tx, c.key, c.wr, b⟩
def allS (hs ws : List C) : List L4 := hs.map (mk4 false) ++ ws.map (mk4 true)
theorem allS_mem {hs ws : List C} {l : L4} : l ∈ allS hs ws ↔ (l.wt = false ∧ (⟨l.tx, l.key, l.wr⟩ : C) ∈ hs) ∨ (l.wt = true ∧ (⟨l.tx, l.key, l.wr⟩ : C) ∈ ws) := by
  unfold allS
  rw [List.mem_append, List.mem_map, List.mem_map]
  constructor
  · rintro (⟨c, hc, rfl⟩ | ⟨c, hc, rfl⟩)
    · exact .inl ⟨rfl, hc⟩
    · exact .inr ⟨rfl, hc⟩
  · rintro (⟨h, hc⟩ | ⟨h, hc⟩)
    · exact .inl ⟨_, hc, by cases l; cases h; rfl⟩
    · exact .inr ⟨_, hc, by cases l; cases h; rfl⟩
theorem wayB_mk (a b : Bool) (c d : C) : wayB (mk4 a c) (mk4 b d) = ag c d := rfl
theorem allS_len (hs ws : List C) : (allS hs ws).length = hs.length + ws.length := by unfold allS; simp

/-- No two that are held are of one transaction and key. -/
def Uq (hs : List C) : Prop := hs.Pairwise fun a b => ¬ (a.tx = b.tx ∧ a.key = b.key)
def sameC (c d : C) : Bool := decide (d.tx = c.tx) && decide (d.key = c.key)
theorem giveL_cons (h : C) (hs : List C) (c : C) : giveL (h :: hs) c = if sameC c h then ⟨h.tx, h.key, h.wr || c.wr⟩ :: hs else h :: giveL hs c := by
  unfold giveL sameC
  rw [List.findIdx?_cons]
  by_cases e : (decide (h.tx = c.tx) && decide (h.key = c.key)) = true
  · rw [if_pos e, if_pos e]; rfl
  · rw [if_neg e, if_neg e]
    cases hf : hs.findIdx? fun d => decide (d.tx = c.tx) && decide (d.key = c.key) with
    | none => simp
    | some k => simp
theorem giveL_perm (c : C) : ∀ hs : List C, Uq hs → (giveL hs c).Perm (hs.filter (fun h => !sameC c h) ++ [⟨c.tx, c.key, c.wr || hs.any (fun h => sameC c h && h.wr)⟩])
  | [], _ => by simp [giveL]
  | h :: hs, hu => by
    obtain ⟨h1, h2⟩ := List.pairwise_cons.1 hu
    rw [giveL_cons]
    by_cases e : sameC c h = true
    · rw [if_pos e]
      have e' : h.tx = c.tx ∧ h.key = c.key := by simpa [sameC] using e
      have no : ∀ d ∈ hs, sameC c d = false := fun d hd => by
        have := h1 d hd
        rw [e'.1, e'.2] at this
        unfold sameC
        rw [Bool.eq_false_iff]
        intro q
        have q' : d.tx = c.tx ∧ d.key = c.key := by simpa using q
        exact this ⟨q'.1.symm, q'.2.symm⟩
      have ef : (h :: hs).filter (fun h => !sameC c h) = hs := by
        rw [List.filter_cons_of_neg (by simp [e])]
        exact List.filter_eq_self.2 fun d hd => by rw [no d hd]; rfl
      have ea : (h :: hs).any (fun h => sameC c h && h.wr) = h.wr := by
        rw [List.any_cons, e, Bool.true_and]
        have : hs.any (fun h => sameC c h && h.wr) = false := by
          rw [List.any_eq_false]
          intro d hd
          rw [no d hd]; simp
        rw [this, Bool.or_false]
      rw [ef, ea, e'.1, e'.2, Bool.or_comm]
      exact (List.perm_append_singleton _ _).symm
    · rw [if_neg e]
      have ef : (h :: hs).filter (fun h => !sameC c h) = h :: hs.filter (fun h => !sameC c h) := List.filter_cons_of_pos (by simp [e])
      have ea : (h :: hs).any (fun h => sameC c h && h.wr) = hs.any (fun h => sameC c h && h.wr) := by
        rw [List.any_cons]
        have : sameC c h = false := by simpa using e
        rw [this]; simp
      rw [ef, ea, List.cons_append]
      exact (giveL_perm c hs h2).cons h
theorem giveL_uq {hs : List C} (hu : Uq hs) (c : C) : Uq (giveL hs c) := by
  refine (List.Perm.pairwise_iff (fun {x y} h => fun e => h ⟨e.1.symm, e.2.symm⟩) (giveL_perm c hs hu)).2 ?_
  refine List.pairwise_append.2 ⟨hu.filter _, by simp, fun a ha b hb => ?_⟩
  have ha' : sameC c a = false := by simpa using (List.mem_filter.1 ha).2
  have hb' : b = ⟨c.tx, c.key, c.wr || hs.any (fun h => sameC c h && h.wr)⟩ := by simpa using hb
  subst hb'
  rintro ⟨e1, e2⟩
  have e1' : a.tx = c.tx := e1
  have e2' : a.key = c.key := e2
  simp [sameC, e1', e2'] at ha'

/-- What got makes of the list. -/
def sameL (a l : L4) : Bool := decide (l.tx = a.tx) && decide (l.key = a.key)
def gotR (L : List L4) (a : L4) : List L4 := L.filter (fun l => !sameL a l) ++ [⟨a.tx, a.key, a.wr || L.any (fun l => sameL a l && l.wr), false⟩]
/-- Is somebody in its way? -/
def barL (L : List L4) (a : L4) : Bool := L.any fun l => wayB l a && (!l.wt || decide (l.tx < a.tx))

/-- The list while those that wait are gone through: st: passed over; r: still to come, younger than tx. -/
structure PS (tx : Int) (L : List L4) (hs st r : List C) : Prop where
  l : L.Perm (allS hs (st ++ r))
  uq : Uq hs
  so : (st ++ r).Pairwise fun a b => a.tx < b.tx
  lo : ∀ c ∈ st, c.tx ≤ tx
  hi : ∀ c ∈ r, tx < c.tx
  rg : ∀ l ∈ L, 1 ≤ l.tx ∧ l.tx ≤ 1000

theorem PS.none {tx : Int} {L : List L4} {hs st r : List C} (h : PS tx L hs st r) (hn : NextI L tx L.length (-1)) : r = [] := by
  cases r with
  | nil => rfl
  | cons c r =>
    rcases hn with ⟨_, hn⟩ | ⟨b, hb, _, e, _, _⟩
    · have hm : mk4 true c ∈ L := h.l.mem_iff.2 (allS_mem.2 (.inr ⟨rfl, by simp [mk4]⟩))
      obtain ⟨j, hj, e⟩ := List.getElem_of_mem hm
      have := hn j hj hj
      rw [e] at this
      have h2 := h.hi c (by simp)
      simp [qlB, mk4, h2] at this
    · omega
theorem PS.some {tx : Int} {L : List L4} {hs st r : List C} (h : PS tx L hs st r) {b : Nat} (hn : NextI L tx L.length (b : Int)) : ∃ c r', r = c :: r' ∧ ∃ hb : b < L.length, L[b] = mk4 true c := by
  rcases hn with ⟨e, _⟩ | ⟨b', hb, _, e, h1, h2⟩
  · omega
  · have eb : b' = b := by omega
    subst eb
    have hq : L[b'].wt = true ∧ tx < L[b'].tx := by simpa [qlB] using h1
    have hm := h.l.mem_iff.1 (List.getElem_mem hb)
    rcases allS_mem.1 hm with ⟨q, _⟩ | ⟨_, q⟩
    · rw [hq.1] at q; cases q
    · rcases List.mem_append.1 q with q | q
      · have := h.lo _ q
        have h3 := hq.2
        exact absurd this (by show ¬ L[b'].tx ≤ tx; omega)
      · cases r with
        | nil => simp at q
        | cons c r' =>
          refine ⟨c, r', rfl, hb, ?_⟩
          rcases List.mem_cons.1 q with e | q'
          · have e1 : L[b'] = ⟨L[b'].tx, L[b'].key, L[b'].wr, L[b'].wt⟩ := rfl
            rw [e1, hq.1, ← e]; rfl
          · exfalso
            have hc : mk4 true c ∈ L := h.l.mem_iff.2 (allS_mem.2 (.inr ⟨rfl, by simp [mk4]⟩))
            obtain ⟨j, hj, e⟩ := List.getElem_of_mem hc
            have h4 := h2 j hj hj (by rw [e]; simp [qlB, mk4, h.hi c (by simp)])
            rw [e] at h4
            have h5 := (List.pairwise_cons.1 (List.pairwise_append.1 h.so).2.1).1 _ q'
            have h6 : L[b'].tx ≤ c.tx := h4
            have h7 : c.tx < L[b'].tx := h5
            omega

theorem ag_sym (c d : C) : ag c d = ag d c := by
  unfold ag
  by_cases h1 : c.tx = d.tx
  · simp [h1]
  · by_cases h2 : c.key = d.key
    · have h1' : ¬ d.tx = c.tx := fun e => h1 e.symm
      simp [h1, h1', h2, Bool.or_comm]
    · have h2' : ¬ d.key = c.key := fun e => h2 e.symm
      simp [h2, h2']
theorem PS.bars {tx : Int} {L : List L4} {hs st r : List C} {c : C} (h : PS tx L hs st (c :: r)) : barL L (mk4 true c) = (agAny c hs || agAny c st) := by
  rw [Bool.eq_iff_iff, Bool.or_eq_true]
  unfold barL agAny
  rw [List.any_eq_true, List.any_eq_true, List.any_eq_true]
  constructor
  · rintro ⟨l, hl, e⟩
    have e' : wayB l (mk4 true c) = true ∧ (l.wt = false ∨ l.tx < c.tx) := by
      rw [Bool.and_eq_true, Bool.or_eq_true, Bool.not_eq_true', decide_eq_true_iff] at e
      exact e
    have ea : ag c ⟨l.tx, l.key, l.wr⟩ = true := by rw [ag_sym]; exact e'.1
    rcases allS_mem.1 (h.l.mem_iff.1 hl) with ⟨_, q⟩ | ⟨q1, q⟩
    · exact .inl ⟨_, q, ea⟩
    · rcases List.mem_append.1 q with q | q
      · exact .inr ⟨_, q, ea⟩
      · exfalso
        have hlt : l.tx < c.tx := e'.2.resolve_left (by rw [q1]; simp)
        rcases List.mem_cons.1 q with q | q
        · have : l.tx = c.tx := by rw [← q]
          omega
        · have := (List.pairwise_cons.1 (List.pairwise_append.1 h.so).2.1).1 _ q
          have : c.tx < l.tx := this
          omega
  · rintro (⟨d, hd, e⟩ | ⟨d, hd, e⟩)
    · exact ⟨mk4 false d, h.l.mem_iff.2 (allS_mem.2 (.inl ⟨rfl, hd⟩)), by rw [wayB_mk, ag_sym, e]; rfl⟩
    · have hlt := (List.pairwise_append.1 h.so).2.2 d hd c (by simp)
      exact ⟨mk4 true d, h.l.mem_iff.2 (allS_mem.2 (.inr ⟨rfl, List.mem_append.2 (.inl hd)⟩)), by rw [wayB_mk, ag_sym, e]; exact decide_eq_true hlt⟩

theorem PS.bar {tx : Int} {L : List L4} {hs st r : List C} {c : C} (h : PS tx L hs st (c :: r)) : PS c.tx L hs (st ++ [c]) r := by
  have e : st ++ [c] ++ r = st ++ c :: r := by simp
  have so := List.pairwise_append.1 h.so
  refine ⟨by rw [e]; exact h.l, h.uq, by rw [e]; exact h.so, fun d hd => ?_, fun d hd => (List.pairwise_cons.1 so.2.1).1 d hd, h.rg⟩
  rcases List.mem_append.1 hd with q | q
  · have := so.2.2 d q c (by simp); omega
  · have : d = c := by simpa using q
    rw [this]; exact Int.le_refl _
theorem PS.got {tx : Int} {L : List L4} {hs st r : List C} {c : C} (h : PS tx L hs st (c :: r)) : PS c.tx (gotR L (mk4 true c)) (giveL hs c) st r := by
  have so := List.pairwise_append.1 h.so
  have soc := List.pairwise_cons.1 so.2.1
  have hst : ∀ d ∈ st, sameC c d = false := fun d hd => by
    have := so.2.2 d hd c (by simp)
    have : ¬ d.tx = c.tx := by omega
    simp [sameC, this]
  have hrr : ∀ d ∈ r, sameC c d = false := fun d hd => by
    have := soc.1 d hd
    have : ¬ d.tx = c.tx := by omega
    simp [sameC, this]
  have hsl : ∀ b d, sameL (mk4 true c) (mk4 b d) = sameC c d := fun _ _ => rfl
  have hcc : sameC c c = true := by simp [sameC]
  have f1 : (L.filter fun l => !sameL (mk4 true c) l).Perm ((hs.filter fun d => !sameC c d).map (mk4 false) ++ (st ++ r).map (mk4 true)) := by
    refine (h.l.filter _).trans (List.Perm.of_eq ?_)
    unfold allS
    rw [List.filter_append, List.filter_map, List.filter_map]
    congr 1
    have : (st ++ c :: r).filter (fun d => !sameC c d) = st ++ r := by
      rw [List.filter_append, List.filter_cons_of_neg (by simp [hcc]), List.filter_eq_self.2 (fun d hd => by rw [hst d hd]; rfl), List.filter_eq_self.2 (fun d hd => by rw [hrr d hd]; rfl)]
    exact congrArg _ this
  have f2 : L.any (fun l => sameL (mk4 true c) l && l.wr) = (c.wr || hs.any (fun d => sameC c d && d.wr)) := by
    rw [Bool.eq_iff_iff, Bool.or_eq_true, List.any_eq_true, List.any_eq_true]
    constructor
    · rintro ⟨l, hl, e⟩
      have e' : sameC c ⟨l.tx, l.key, l.wr⟩ = true ∧ l.wr = true := by
        rw [Bool.and_eq_true] at e
        exact e
      rcases allS_mem.1 (h.l.mem_iff.1 hl) with ⟨_, q⟩ | ⟨_, q⟩
      · exact .inr ⟨_, q, by rw [e'.1]; exact e'.2⟩
      · rcases List.mem_append.1 q with q | q
        · rw [hst _ q] at e'; cases e'.1
        · rcases List.mem_cons.1 q with q | q
          · left; rw [← q]; exact e'.2
          · rw [hrr _ q] at e'; cases e'.1
    · rintro (e | ⟨d, hd, e⟩)
      · exact ⟨mk4 true c, h.l.mem_iff.2 (allS_mem.2 (.inr ⟨rfl, by simp [mk4]⟩)), by rw [hsl, hcc]; exact e⟩
      · exact ⟨mk4 false d, h.l.mem_iff.2 (allS_mem.2 (.inl ⟨rfl, hd⟩)), e⟩
  refine ⟨?_, giveL_uq h.uq c, ?_, fun d hd => ?_, fun d hd => soc.1 d hd, fun l hl => ?_⟩
  · unfold gotR
    rw [f2]
    have e0 : ((mk4 true c).wr || (c.wr || hs.any fun d => sameC c d && d.wr)) = (c.wr || hs.any fun d => sameC c d && d.wr) := by
      show (c.wr || (c.wr || _)) = _
      rw [← Bool.or_assoc, Bool.or_self]
    rw [e0]
    have g := (giveL_perm c hs h.uq).map (mk4 false)
    rw [List.map_append] at g
    unfold allS
    refine List.Perm.trans ?_ (g.symm.append_right _)
    refine (f1.append_right _).trans ?_
    rw [List.append_assoc, List.append_assoc]
    exact List.Perm.append_left _ List.perm_append_comm
  · exact List.pairwise_append.2 ⟨so.1, soc.2, fun a ha b hb => so.2.2 a ha b (by simp [hb])⟩
  · have := so.2.2 d hd c (by simp); omega
  · unfold gotR at hl
    rcases List.mem_append.1 hl with q | q
    · exact h.rg l (List.mem_filter.1 q).1
    · have e : l.tx = (mk4 true c).tx := by rw [List.mem_singleton.1 q]
      rw [e]
      exact h.rg (mk4 true c) (h.l.mem_iff.2 (allS_mem.2 (.inr ⟨rfl, by simp [mk4]⟩)))
theorem gotR_len {L : List L4} {a : L4} (h : a ∈ L) : (gotR L a).length ≤ L.length := by
  unfold gotR
  rw [List.length_append, List.length_singleton]
  have h1 : (L.filter (fun l => !sameL a l)).length + (L.filter (fun l => !!sameL a l)).length = L.length := by
    rw [← List.countP_eq_length_filter, ← List.countP_eq_length_filter, List.length_eq_countP_add_countP (l := L) (fun l => !sameL a l)]
    congr 1
    exact List.countP_congr fun l _ => by simp
  have h2 : 0 < (L.filter (fun l => !!sameL a l)).length := List.length_pos_of_mem (List.mem_filter.2 ⟨h, by simp [sameL]⟩)
  omega

def rangeI (lo : Int) (n : Nat) : List Int := (List.range n).map fun i : Nat => lo + (i : Int)
theorem rangeI_succ (lo : Int) (n : Nat) : rangeI lo (n + 1) = rangeI lo n ++ [lo + (n : Int)] := by
  unfold rangeI
  rw [List.range_succ, List.map_append]; rfl
theorem rangeI_mem {lo : Int} {n : Nat} {x : Int} : x ∈ rangeI lo n ↔ lo ≤ x ∧ x < lo + (n : Int) := by
  unfold rangeI
  rw [List.mem_map]
  constructor
  · rintro ⟨i, hi, rfl⟩
    have := List.mem_range.1 hi
    omega
  · rintro ⟨h1, h2⟩
    exact ⟨(x - lo).toNat, List.mem_range.2 (by omega), by omega⟩
theorem rangeI_rising (lo : Int) (n : Nat) : (rangeI lo n).Pairwise (· < ·) := by
  unfold rangeI
  rw [List.pairwise_map]
  exact List.pairwise_lt_range.imp fun h => by omega
theorem ext_rel {α : Type} {R : α → α → Prop} (asy : ∀ a b, R a b → R b a → False) : ∀ l1 l2 : List α, l1.Pairwise R → l2.Pairwise R → (∀ x, x ∈ l1 ↔ x ∈ l2) → l1 = l2
  | [], [], _, _, _ => rfl
  | [], y :: r2, _, _, h => by have := (h y).2 (by simp); simp at this
  | x :: r1, [], _, _, h => by have := (h x).1 (by simp); simp at this
  | x :: r1, y :: r2, h1, h2, h => by
    obtain ⟨a1, b1⟩ := List.pairwise_cons.1 h1
    obtain ⟨a2, b2⟩ := List.pairwise_cons.1 h2
    have e : x = y := by
      rcases List.mem_cons.1 ((h x).1 (by simp)) with q | q
      · exact q
      · rcases List.mem_cons.1 ((h y).2 (by simp)) with q' | q'
        · exact q'.symm
        · exact (asy _ _ (a2 x q) (a1 y q')).elim
    subst e
    have : r1 = r2 := ext_rel asy r1 r2 b1 b2 fun z => by
      constructor
      · intro hz
        rcases List.mem_cons.1 ((h z).1 (by simp [hz])) with q | q
        · subst q; exact (asy _ _ (a1 z hz) (a1 z hz)).elim
        · exact q
      · intro hz
        rcases List.mem_cons.1 ((h z).2 (by simp [hz])) with q | q
        · subst q; exact (asy _ _ (a2 z hz) (a2 z hz)).elim
        · exact q
    rw [this]

/-- The two tables, one beside the other. -/
structure IR (t : T4) (L : List L4) (F : List Int) : Prop where
  l : L.Perm (allS t.held t.waits)
  f : F.Perm t.prep
  uq : Uq t.held
  so : t.waits.Pairwise fun a b => a.tx < b.tx
  rg : ∀ l ∈ L, 1 ≤ l.tx ∧ l.tx ≤ 1000
  ps : t.prep.Pairwise (· < ·)
  pr : ∀ x ∈ t.prep, 1 ≤ x ∧ x ≤ 1000
  m0 : 1 ≤ t.most ∧ t.most ≤ 24
  ln : (t.held.length : Int) + (t.waits.length : Int) ≤ t.most

theorem IR.init {m : Int} (h1 : 1 ≤ m) (h2 : m ≤ 24) : IR ⟨m, [], [], []⟩ [] [] :=
  ⟨List.Perm.refl _, List.Perm.refl _, List.Pairwise.nil, by simp, by simp, by simp, by simp, ⟨h1, h2⟩, by simp; omega⟩
theorem IR.hm {t : T4} {L : List L4} {F : List Int} (h : IR t L F) {c : C} (hc : c ∈ t.held) : mk4 false c ∈ L := h.l.mem_iff.2 (allS_mem.2 (.inl ⟨rfl, hc⟩))
theorem IR.wm {t : T4} {L : List L4} {F : List Int} (h : IR t L F) {c : C} (hc : c ∈ t.waits) : mk4 true c ∈ L := h.l.mem_iff.2 (allS_mem.2 (.inr ⟨rfl, hc⟩))
theorem IR.fit {t : T4} {L : List L4} {F : List Int} (h : IR t L F) : Fit t := by
  have hm := h.m0
  have hl := h.ln
  have hp := rising_len t.prep 1 1000 h.ps h.pr (by omega)
  refine ⟨by omega, by omega, h.ps.imp (fun e => by omega), sorted_pw.2 h.so, fun c hc => ?_, by omega, by omega⟩
  have : 1 ≤ c.tx ∧ c.tx ≤ 1000 := h.rg _ (h.wm hc)
  omega
theorem IR.len {t : T4} {L : List L4} {F : List Int} (h : IR t L F) : L.length = t.held.length + t.waits.length := by rw [h.l.length_eq, allS_len]
theorem IR.flen {t : T4} {L : List L4} {F : List Int} (h : IR t L F) : F.length ≤ 1000 := by rw [h.f.length_eq]; exact h.fit.prep
theorem IR.llen {t : T4} {L : List L4} {F : List Int} (h : IR t L F) : L.length ≤ 24 := by rw [h.len]; exact h.fit.len

theorem IR.busy {t : T4} {L : List L4} {F : List Int} (h : IR t L F) (x : Int) : busyB L x = waitB t.waits x := by
  unfold busyB waitB
  rw [Bool.eq_iff_iff, List.any_eq_true, List.any_eq_true]
  constructor
  · rintro ⟨l, hl, e⟩
    have e' : l.tx = x ∧ l.wt = true := by simpa using e
    rcases allS_mem.1 (h.l.mem_iff.1 hl) with ⟨q, _⟩ | ⟨_, q⟩
    · rw [e'.2] at q; cases q
    · exact ⟨_, q, by simpa using e'.1⟩
  · rintro ⟨c, hc, e⟩
    have e' : c.tx = x := by simpa using e
    exact ⟨_, h.wm hc, by rw [Bool.and_eq_true]; exact ⟨decide_eq_true e', rfl⟩⟩
theorem IR.firm {t : T4} {L : List L4} {F : List Int} (h : IR t L F) (x : Int) : firmB F x = t.prep.contains x := by
  unfold firmB
  rw [Bool.eq_iff_iff]
  simpa using h.f.mem_iff

/-- Does it hold the lock already, to write or as it asks? -/
def hasR (L : List L4) (x y : Int) (z : Bool) : Bool := L.any fun l => decide (l.tx = x) && (decide (l.key = y) && (l.wr || !z))
theorem IR.has {t : T4} {L : List L4} {F : List Int} (h : IR t L F) (ask : C) (hw : waitB t.waits ask.tx = false) : hasR L ask.tx ask.key ask.wr = hasB t.held ask := by
  have key : ∀ l ∈ L, l.tx = ask.tx → (⟨l.tx, l.key, l.wr⟩ : C) ∈ t.held := fun l hl e => by
    rcases allS_mem.1 (h.l.mem_iff.1 hl) with ⟨_, q⟩ | ⟨_, q⟩
    · exact q
    · have : waitB t.waits ask.tx = true := List.any_eq_true.2 ⟨_, q, by simpa using e⟩
      rw [hw] at this; cases this
  unfold hasB hasR
  cases hf : t.held.find? fun c => decide (c.tx = ask.tx) && decide (c.key = ask.key) with
  | none =>
    show _ = false
    rw [List.any_eq_false]
    intro l hl e
    have e' : l.tx = ask.tx ∧ l.key = ask.key ∧ (l.wr = true ∨ ask.wr = false) := by simpa using e
    have := List.find?_eq_none.1 hf _ (key l hl e'.1)
    simp [e'.1, e'.2.1] at this
  | some o =>
    show _ = (o.wr || !ask.wr)
    have h1 := List.mem_of_find?_eq_some hf
    have h2 : o.tx = ask.tx ∧ o.key = ask.key := by simpa using List.find?_some hf
    rw [Bool.eq_iff_iff, List.any_eq_true]
    constructor
    · rintro ⟨l, hl, e⟩
      have e' : l.tx = ask.tx ∧ l.key = ask.key ∧ (l.wr = true ∨ ask.wr = false) := by simpa using e
      have h3 := key l hl e'.1
      have h4 : (⟨l.tx, l.key, l.wr⟩ : C) = o := by
        apply Classical.byContradiction
        intro hne
        obtain ⟨i, hi, ei⟩ := List.getElem_of_mem h3
        obtain ⟨j, hj, ej⟩ := List.getElem_of_mem h1
        have pw := List.pairwise_iff_getElem.1 h.uq
        rcases Nat.lt_trichotomy i j with q | q | q
        · refine pw i j hi hj q ⟨?_, ?_⟩
          · rw [ei, ej, h2.1]; exact e'.1
          · rw [ei, ej, h2.2]; exact e'.2.1
        · subst q; exact hne (ei.symm.trans ej)
        · refine pw j i hj hi q ⟨?_, ?_⟩
          · rw [ei, ej, h2.1]; exact e'.1.symm
          · rw [ei, ej, h2.2]; exact e'.2.1.symm
      have h5 : l.wr = o.wr := by rw [← h4]
      rw [← h5]
      simpa using e'.2.2
    · intro e
      exact ⟨mk4 false o, h.hm h1, by
        have e' : o.wr = true ∨ ask.wr = false := by simpa using e
        simpa [mk4, h2.1, h2.2] using e'⟩

/-- Who is wounded, among the first n behind the one who asks. -/
def inW (L : List L4) (a : L4) (x : Int) : Bool := L.any fun l => wayB l a && (decide (l.tx = x) && !l.wt)
def woundR (L : List L4) (F : List Int) (a : L4) (n : Nat) : List Int := (rangeI (a.tx + 1) n).filter fun x => inW L a x && !firmB F x
theorem mergeSort_rising {l : List Int} (hn : l.Nodup) : (l.mergeSort fun x y => decide (x ≤ y)).Pairwise (· < ·) := by
  have h1 := List.pairwise_mergeSort (le := fun x y : Int => decide (x ≤ y)) (fun a b c h1 h2 => by simp at h1 h2 ⊢; omega) (fun a b => by simp; omega) l
  have h2 : (l.mergeSort fun x y => decide (x ≤ y)).Nodup := (List.mergeSort_perm l _).nodup_iff.2 hn
  refine (h1.and h2).imp fun h => ?_
  obtain ⟨a, b⟩ := h
  have a' := of_decide_eq_true a
  omega
theorem IR.hurt_rising {t : T4} {L : List L4} {F : List Int} (h : IR t L F) (ask : C) : (t.hurt ask).Pairwise (· < ·) := by
  refine mergeSort_rising ?_
  unfold hurtL
  rw [List.nodup_iff_pairwise_ne, List.pairwise_map]
  refine (List.Pairwise.and_mem.1 (h.uq.filter _)).imp ?_
  rintro a b ⟨ha, hb, h1⟩ e
  have q1 : ask.tx < a.tx ∧ ag a ask = true ∧ a.tx ∉ t.prep := by simpa [hurtB] using (List.mem_filter.1 ha).2
  have q2 : ask.tx < b.tx ∧ ag b ask = true ∧ b.tx ∉ t.prep := by simpa [hurtB] using (List.mem_filter.1 hb).2
  exact h1 ⟨e, by rw [((ag_iff _ _).1 q1.2.1).2.1, ((ag_iff _ _).1 q2.2.1).2.1]⟩
theorem IR.wounds {t : T4} {L : List L4} {F : List Int} (h : IR t L F) (ask : C) (h1 : 1 ≤ ask.tx) (h2 : ask.tx ≤ 1000) : woundR L F (mk4 true ask) (1000 - ask.tx).toNat = t.hurt ask := by
  refine ext_rel (R := (· < ·)) (fun a b p q => by omega) _ _ ((rangeI_rising _ _).filter _) (h.hurt_rising ask) fun x => ?_
  unfold woundR
  rw [List.mem_filter, rangeI_mem, hurt_mem, Bool.and_eq_true, h.firm]
  unfold inW
  rw [List.any_eq_true]
  constructor
  · rintro ⟨⟨r1, r2⟩, ⟨l, hl, e⟩, nf⟩
    rw [Bool.and_eq_true, Bool.and_eq_true] at e
    obtain ⟨e1, e2, e3⟩ := e
    have e2' : l.tx = x := by simpa using e2
    have e3' : l.wt = false := by simpa using e3
    have nf' : x ∉ t.prep := by simpa using nf
    rcases allS_mem.1 (h.l.mem_iff.1 hl) with ⟨_, q⟩ | ⟨q, _⟩
    · refine ⟨_, q, ?_, e1, by show l.tx ∉ _; rw [e2']; exact nf', e2'⟩
      show ask.tx < l.tx
      have : ask.tx + 1 ≤ x := r1
      omega
    · rw [e3'] at q; cases q
  · rintro ⟨o, ho, r1, r2, r3, rfl⟩
    have hm := h.hm ho
    have hr : 1 ≤ o.tx ∧ o.tx ≤ 1000 := h.rg _ hm
    refine ⟨⟨by show ask.tx + 1 ≤ o.tx; omega, by show o.tx < ask.tx + 1 + ((1000 - ask.tx).toNat : Int); omega⟩, ⟨mk4 false o, hm, ?_⟩, by simpa using r3⟩
    rw [wayB_mk, r2]
    simp [mk4]

theorem IR.dropF {t : T4} {L : List L4} {F : List Int} (h : IR t L F) (ask : C) : dropAllF F (t.hurt ask) = F := by
  have key : ∀ xs : List Int, (∀ x ∈ xs, x ∉ F) → dropAllF F xs = F := by
    intro xs
    induction xs with
    | nil => intro _; rfl
    | cons x r ih =>
      intro hx
      have e : F.filter (dropI x) = F := List.filter_eq_self.2 fun z hz => by
        have := hx x (by simp)
        have : z ≠ x := fun e => this (e ▸ hz)
        simp [dropI, this]
      show dropAllF (F.filter (dropI x)) r = F
      rw [e]
      exact ih fun z hz => hx z (by simp [hz])
  refine key _ fun x hx hF => ?_
  obtain ⟨o, _, _, _, q, rfl⟩ := hurt_mem.1 hx
  exact q (h.f.mem_iff.1 hF)

theorem filter_allS (hs ws : List C) (q : Int → Bool) : (allS hs ws).filter (fun l => q l.tx) = allS (hs.filter fun c => q c.tx) (ws.filter fun c => q c.tx) := by
  unfold allS
  rw [List.filter_append, List.filter_map, List.filter_map]; rfl

theorem IR.asked {t : T4} {L : List L4} {F : List Int} (h : IR t L F) (ask : C) (h1 : 1 ≤ ask.tx) (h2 : ask.tx ≤ 1000) (hw : waitB t.waits ask.tx = false) (hl : ¬ t.most ≤ (t.held.length : Int) + (t.waits.length : Int)) :
    IR (t.asked ask) (dropAll L (t.hurt ask) ++ [mk4 true ask]) (dropAllF F (t.hurt ask)) := by
  have hnw : ∀ c ∈ t.waits, c.tx ≠ ask.tx := fun c hc e => by
    have : waitB t.waits ask.tx = true := List.any_eq_true.2 ⟨c, hc, by simpa using e⟩
    rw [hw] at this; cases this
  obtain ⟨s1, s2⟩ := stripAll_eq (hurtL t.prep ask t.held) t
  have hq : ∀ z, (!(hurtL t.prep ask t.held).contains z) = !(t.hurt ask).contains z := fun z => by
    have : z ∈ t.hurt ask ↔ z ∈ hurtL t.prep ask t.held := by unfold T4.hurt; rw [List.mem_mergeSort]
    congr 1
    rw [Bool.eq_iff_iff]
    simpa using this.symm
  have s1' : (stripAll t (hurtL t.prep ask t.held)).held = t.held.filter fun c => !(t.hurt ask).contains c.tx := s1.trans (List.filter_congr fun c _ => hq c.tx)
  have s2' : (stripAll t (hurtL t.prep ask t.held)).waits = t.waits.filter fun c => !(t.hurt ask).contains c.tx := s2.trans (List.filter_congr fun c _ => hq c.tx)
  obtain ⟨l1, l2, ep, em⟩ := stripAll_len (hurtL t.prep ask t.held) t
  have ew : (t.asked ask).waits = insL (stripAll t (hurtL t.prep ask t.held)).waits (posL (stripAll t (hurtL t.prep ask t.held)).waits ask.tx) ask := rfl
  have eh : (t.asked ask).held = (stripAll t (hurtL t.prep ask t.held)).held := rfl
  have ep' : (t.asked ask).prep = t.prep := ep
  have em' : (t.asked ask).most = t.most := em
  have hins : ∀ (ws : List C) (i : Nat), (insL ws i ask).Perm (ws ++ [ask]) := fun ws i => by
    unfold insL
    refine List.perm_middle.trans ?_
    rw [List.take_append_drop]
    exact (List.perm_append_singleton _ _).symm
  refine ⟨?_, ?_, ?_, ?_, fun l hl' => ?_, ?_, ?_, ?_, ?_⟩
  · rw [eh, ew, dropAll_eq]
    unfold allS
    refine List.Perm.trans ?_ (List.Perm.append_left _ ((hins _ _).map (mk4 true)).symm)
    rw [List.map_append, ← List.append_assoc]
    refine List.Perm.append_right _ ?_
    rw [s1', s2']
    refine (h.l.filter _).trans (List.Perm.of_eq ?_)
    exact filter_allS _ _ fun x => !(t.hurt ask).contains x
  · rw [h.dropF, ep']; exact h.f
  · rw [eh, s1']; exact h.uq.filter _
  · rw [ew, s2']
    exact insL_rising _ (h.so.filter _) fun d hd => hnw d (List.mem_filter.1 hd).1
  · rcases List.mem_append.1 hl' with q | q
    · rw [dropAll_eq] at q; exact h.rg l (List.mem_filter.1 q).1
    · have : l = mk4 true ask := by simpa using q
      rw [this]; exact ⟨h1, h2⟩
  · rw [ep']; exact h.ps
  · rw [ep']; exact h.pr
  · rw [em']; exact h.m0
  · have e3 : (t.asked ask).waits.length = (stripAll t (hurtL t.prep ask t.held)).waits.length + 1 := by rw [ew, (hins _ _).length_eq]; simp
    rw [em', e3, eh]; omega

theorem IR.ps' {t : T4} {L : List L4} {F : List Int} (h : IR t L F) : PS 0 L t.held [] t.waits :=
  ⟨h.l, h.uq, h.so, by simp, fun c hc => by have : 1 ≤ c.tx ∧ c.tx ≤ 1000 := h.rg _ (h.wm hc); omega, h.rg⟩
theorem IR.passed {t : T4} {L L' : List L4} {F : List Int} {x : Int} {hs st : List C} {gt : List G} (h : IR t L F) (e : passF t.waits t.held [] [] = (hs, st, gt)) (p : PS x L' hs st []) : IR t.passed L' F := by
  have e1 : t.passed.held = hs := by show (passF _ _ _ _).1 = _; rw [e]
  have e2 : t.passed.waits = st := by show (passF _ _ _ _).2.1 = _; rw [e]
  have hl := (passF_len t.waits t.held [] []).1
  refine ⟨by rw [e1, e2]; simpa using p.l, h.f, by rw [e1]; exact p.uq, by rw [e2]; simpa using p.so, p.rg, h.ps, h.pr, h.m0, ?_⟩
  have h1 := h.ln
  have h2 : t.passed.held.length + t.passed.waits.length ≤ t.held.length + t.waits.length := by
    simp at hl
    exact hl
  show _ ≤ t.most
  omega
theorem IR.freed {t : T4} {L : List L4} {F : List Int} (h : IR t L F) (x : Int) : IR (t.freed x) (L.filter (dropB x)) (F.filter (dropI x)) := by
  have nd : ∀ l : List Int, l.Pairwise (· < ·) → l.Nodup := fun l hl => hl.imp fun e => by omega
  refine ⟨?_, ?_, h.uq.filter _, h.so.filter _, fun l hl => h.rg l (List.mem_filter.1 hl).1, h.ps.sublist (freeP_sub _ _), fun z hz => h.pr z ((freeP_mem h.ps x z).1 hz).1, h.m0, ?_⟩
  · refine (h.l.filter _).trans (List.Perm.of_eq ?_)
    exact filter_allS _ _ fun z => !decide (z = x)
  · refine (h.f.filter _).trans ?_
    have e : t.prep.filter (dropI x) = freeP t.prep x := by
      refine ext_rel (R := (· < ·)) (fun a b p q => by omega) _ _ (h.ps.filter _) (h.ps.sublist (freeP_sub _ _)) fun z => ?_
      rw [freeP_mem h.ps, List.mem_filter]
      simp [dropI]
    rw [e]
    exact List.Perm.refl _
  · have l1 : (t.freed x).held.length ≤ t.held.length := List.length_filter_le _ _
    have l2 : (t.freed x).waits.length ≤ t.waits.length := List.length_filter_le _ _
    have := h.ln
    show _ ≤ t.most
    omega
theorem IR.hold {t : T4} {L : List L4} {F : List Int} (h : IR t L F) (x : Int) (h1 : 1 ≤ x) (h2 : x ≤ 1000) : IR { t with prep := holdP t.prep t.waits x } L (if busyB L x || firmB F x then F else F ++ [x]) := by
  rw [h.busy, h.firm]
  unfold holdP
  by_cases hc : (t.prep.contains x || waitB t.waits x) = true
  · rw [if_pos hc, if_pos (by rw [Bool.or_comm]; exact hc)]
    exact ⟨h.l, h.f, h.uq, h.so, h.rg, h.ps, h.pr, h.m0, h.ln⟩
  · rw [if_neg hc, if_neg (by rw [Bool.or_comm]; exact hc)]
    have hx : x ∉ t.prep := fun e => hc (by
      have : t.prep.contains x = true := by simpa using e
      rw [this]; rfl)
    refine ⟨h.l, ?_, h.uq, h.so, h.rg, ins_rising h.ps hx, fun z hz => ?_, h.m0, h.ln⟩
    · refine (h.f.append_right _).trans ?_
      unfold insI
      refine List.Perm.trans (List.perm_append_singleton _ _) ?_
      refine List.Perm.trans ?_ List.perm_middle.symm
      rw [List.take_append_drop]
    · rcases insI_mem.1 hz with q | q
      · exact h.pr z q
      · rw [q]; exact ⟨h1, h2⟩

/-- One that waits has got its lock, or waits still. -/
def gotB (gt : List G) (x : Int) : Bool := gt.any fun g => decide (g.a = x)
theorem passF_other (x : Int) : ∀ (r hs st : List C) (gt : List G), (∀ c ∈ r, c.tx ≠ x) → waitB (passF r hs st gt).2.1 x = waitB st x ∧ gotB (passF r hs st gt).2.2 x = gotB gt x
  | [], hs, st, gt, _ => ⟨rfl, rfl⟩
  | c :: r, hs, st, gt, h => by
    have hc := h c (by simp)
    unfold passF
    split
    · obtain ⟨e1, e2⟩ := passF_other x r hs (st ++ [c]) gt fun d hd => h d (by simp [hd])
      exact ⟨by rw [e1]; simp [waitB, hc], e2⟩
    · obtain ⟨e1, e2⟩ := passF_other x r (giveL hs c) st (gt ++ [⟨c.tx, c.key⟩]) fun d hd => h d (by simp [hd])
      exact ⟨e1, by rw [e2]; simp [gotB, hc]⟩
theorem passF_self (x : Int) : ∀ (r hs st : List C) (gt : List G), r.Pairwise (fun a b => a.tx < b.tx) → (∃ c ∈ r, c.tx = x) → waitB st x = false → gotB gt x = false → waitB (passF r hs st gt).2.1 x = !gotB (passF r hs st gt).2.2 x
  | [], hs, st, gt, _, h, _, _ => by obtain ⟨c, hc, _⟩ := h; simp at hc
  | c :: r, hs, st, gt, hp, h, h1, h2 => by
    obtain ⟨p1, p2⟩ := List.pairwise_cons.1 hp
    by_cases hc : c.tx = x
    · have no : ∀ d ∈ r, d.tx ≠ x := fun d hd => by have := p1 d hd; omega
      unfold passF
      split
      · obtain ⟨e1, e2⟩ := passF_other x r hs (st ++ [c]) gt no
        rw [e1, e2, h2]
        simp [waitB, hc]
      · obtain ⟨e1, e2⟩ := passF_other x r (giveL hs c) st (gt ++ [⟨c.tx, c.key⟩]) no
        rw [e1, e2, h1]
        simp [gotB, hc]
    · have h' : ∃ d ∈ r, d.tx = x := by
        obtain ⟨d, hd, e⟩ := h
        rcases List.mem_cons.1 hd with q | q
        · subst q; exact absurd e hc
        · exact ⟨d, q, e⟩
      unfold passF
      split
      · exact passF_self x r hs (st ++ [c]) gt p2 h' (by simp [waitB, hc] at h1 ⊢; exact h1) h2
      · exact passF_self x r (giveL hs c) st (gt ++ [⟨c.tx, c.key⟩]) p2 h' h1 (by simp [gotB, hc] at h2 ⊢; exact h2)

/-- What the document's Take answers. -/
def rAns (gs : List G) (x : Int) : Int := if gotB gs x then 1 else 2
theorem IR.answer {t : T4} {L : List L4} {F : List Int} (ask : C) (hw : waitB t.waits ask.tx = false) (hh : hasB t.held ask = false) (hl : ¬ t.most ≤ (t.held.length : Int) + (t.waits.length : Int))
    (ha : IR (t.asked ask) (dropAll L (t.hurt ask) ++ [mk4 true ask]) (dropAllF F (t.hurt ask))) :
    (takeT t ask).ans = rAns (t.asked ask).gots ask.tx ∧ (takeT t ask).hurt = t.hurt ask ∧ (takeT t ask).got = (t.asked ask).gots.filter (notTxG ask.tx) ∧ (takeT t ask).t = (t.asked ask).passed := by
  have hm : ∃ c ∈ (t.asked ask).waits, c.tx = ask.tx := by
    have := ha.l.mem_iff.1 (show mk4 true ask ∈ dropAll L (t.hurt ask) ++ [mk4 true ask] by simp)
    rcases allS_mem.1 this with ⟨q, _⟩ | ⟨_, q⟩
    · cases q
    · exact ⟨_, q, rfl⟩
  have e := passF_self ask.tx (t.asked ask).waits (t.asked ask).held [] [] ha.so hm rfl rfl
  have e' : waitB (t.asked ask).passed.waits ask.tx = !gotB (t.asked ask).gots ask.tx := e
  unfold takeT
  rw [hw, hh, if_neg (by simp), if_neg (by simp), if_neg hl, e']
  unfold rAns
  cases hg : gotB (t.asked ask).gots ask.tx with
  | true => exact ⟨rfl, rfl, rfl, rfl⟩
  | false =>
    refine ⟨rfl, rfl, ?_, rfl⟩
    show (t.asked ask).gots = _
    refine (List.filter_eq_self.2 fun g hg' => ?_).symm
    unfold gotB at hg
    rw [List.any_eq_false] at hg
    have := hg g hg'
    simpa [notTxG] using this

/-- Who waits for whom, by the document. -/
def betB (L : List L4) (x o : Int) : Bool := L.any fun i => L.any fun k => (decide (i.tx = x) && (i.wt && decide (k.tx = o))) && (wayB k i && (!k.wt || decide (o < x)))
def rowR (L : List L4) (x : Int) (m : Nat) : List G := ((rangeI 1 m).filter (betB L x)).map fun o => ⟨x, o⟩
def waitR (L : List L4) (n : Nat) : List G := (rangeI 1 n).flatMap fun x => if busyB L x then rowR L x 1000 else []
theorem waitR_succ (L : List L4) (n : Nat) : waitR L (n + 1) = waitR L n ++ if busyB L (1 + (n : Int)) then rowR L (1 + (n : Int)) 1000 else [] := by
  unfold waitR
  rw [rangeI_succ, List.flatMap_append]; simp
def ltG (g h : G) : Prop := g.a < h.a ∨ (g.a = h.a ∧ g.b < h.b)
theorem compact_rising {zs : List Int} (h : zs.Pairwise (· ≤ ·)) : (Lib.compact zs).Pairwise (· < ·) := by
  unfold Lib.compact Lib.compactUpTo
  rw [List.pairwise_map]
  have h0 := List.Pairwise.and_mem.1 ((List.pairwise_lt_range (n := zs.length)).filter (Lib.keeps zs.toArray))
  refine h0.imp ?_
  rintro i j ⟨hi, hj, hij⟩
  have hjl : j < zs.length := by simpa using (List.mem_filter.1 hj).1
  have hk : j = 0 ∨ zs.toArray[j]! ≠ zs.toArray[j - 1]! := by simpa [Lib.keeps] using (List.mem_filter.1 hj).2
  have hk' := hk.resolve_left (by omega)
  rw [getElem!_pos zs.toArray j (by simpa using hjl), getElem!_pos zs.toArray (j - 1) (by simp; omega)] at hk'
  rw [getElem!_pos zs.toArray j (by simpa using hjl), getElem!_pos zs.toArray i (by simp; omega)]
  have pw := List.pairwise_iff_getElem.1 h
  have a1 : zs[j - 1] ≤ zs[j] := pw (j - 1) j (by omega) hjl (by omega)
  have a2 : zs[i]'(by omega) ≤ zs[j - 1] := by
    by_cases e : i = j - 1
    · subst e; exact Int.le_refl _
    · exact pw i (j - 1) (by omega) (by omega) (by omega)
  have hk2 : zs[j] ≠ zs[j - 1] := hk'
  show zs[i]'(by omega) < zs[j]
  omega
theorem blockS_rising (c : C) (l : List C) : (blockS c l).Pairwise (· < ·) := by
  refine compact_rising ?_
  have h1 := List.pairwise_mergeSort (le := fun x y : Int => decide (x ≤ y)) (fun a b c h1 h2 => by simp at h1 h2 ⊢; omega) (fun a b => by simp; omega) (blockL c l)
  exact h1.imp fun h => of_decide_eq_true h
theorem IR.waitsEq {t : T4} {L : List L4} {F : List Int} (h : IR t L F) : waitR L 1000 = waitP t t.waits.length := by
  have so := List.pairwise_iff_getElem.1 h.so
  refine ext_rel (R := ltG) (fun a b p q => by unfold ltG at p q; omega) _ _ ?_ ?_ fun g => ?_
  · unfold waitR
    rw [List.pairwise_flatMap]
    refine ⟨fun x _ => ?_, (rangeI_rising 1 1000).imp fun {x y} hxy g hg k hk => ?_⟩
    · split
      · unfold rowR
        rw [List.pairwise_map]
        exact ((rangeI_rising 1 1000).filter _).imp fun h => .inr ⟨rfl, h⟩
      · exact List.Pairwise.nil
    · have e1 : g.a = x := by
        split at hg
        · obtain ⟨o, _, rfl⟩ := List.mem_map.1 hg; rfl
        · simp at hg
      have e2 : k.a = y := by
        split at hk
        · obtain ⟨o, _, rfl⟩ := List.mem_map.1 hk; rfl
        · simp at hk
      exact .inl (by rw [e1, e2]; exact hxy)
  · unfold waitP
    rw [List.pairwise_flatMap]
    have ea : ∀ i, i < t.waits.length → ∀ g ∈ pairL t i, ∃ hi : i < t.waits.length, g.a = t.waits[i].tx := fun i hi g hg => by
      unfold pairL at hg
      rw [List.getElem?_eq_getElem hi] at hg
      obtain ⟨o, _, rfl⟩ := List.mem_map.1 hg
      exact ⟨hi, rfl⟩
    refine ⟨fun i hi => ?_, ?_⟩
    · have hi' : i < t.waits.length := by simpa using hi
      unfold pairL
      rw [List.getElem?_eq_getElem hi']
      show (List.map _ _).Pairwise _
      rw [List.pairwise_map]
      exact (blockS_rising _ _).imp fun h => .inr ⟨rfl, h⟩
    · refine (List.Pairwise.and_mem.1 (List.pairwise_lt_range (n := t.waits.length))).imp ?_
      rintro i j ⟨hi, hj, hij⟩ g hg k hk
      obtain ⟨hi', e1⟩ := ea i (by simpa using hi) g hg
      obtain ⟨hj', e2⟩ := ea j (by simpa using hj) k hk
      exact .inl (by rw [e1, e2]; exact so i j hi' hj' hij)
  · rw [waitP_mem]
    unfold waitR
    rw [List.mem_flatMap]
    constructor
    · rintro ⟨x, hx, hg⟩
      split at hg
      · unfold rowR at hg
        obtain ⟨o, ho, rfl⟩ := List.mem_map.1 hg
        obtain ⟨_, ho2⟩ := List.mem_filter.1 ho
        unfold betB at ho2
        obtain ⟨l, hl, e⟩ := List.any_eq_true.1 ho2
        obtain ⟨k, hk, e⟩ := List.any_eq_true.1 e
        rw [Bool.and_eq_true, Bool.and_eq_true, Bool.and_eq_true, Bool.and_eq_true, Bool.or_eq_true] at e
        obtain ⟨⟨q1, q2, q3⟩, q4, q5⟩ := e
        have q1' : l.tx = x := by simpa using q1
        have q3' : k.tx = o := by simpa using q3
        have hlw : (⟨l.tx, l.key, l.wr⟩ : C) ∈ t.waits := by
          rcases allS_mem.1 (h.l.mem_iff.1 hl) with ⟨q, _⟩ | ⟨_, q⟩
          · rw [q2] at q; cases q
          · exact q
        obtain ⟨i, hi, ei⟩ := List.getElem_of_mem hlw
        refine ⟨i, hi, by rw [ei]; exact q1'.symm, ?_⟩
        rw [blockS_mem, ei]
        have hag : ag ⟨l.tx, l.key, l.wr⟩ ⟨k.tx, k.key, k.wr⟩ = true := by rw [ag_sym]; exact q4
        refine ⟨⟨k.tx, k.key, k.wr⟩, ?_, hag, q3'⟩
        rcases allS_mem.1 (h.l.mem_iff.1 hk) with ⟨_, q⟩ | ⟨qw, q⟩
        · exact List.mem_append.2 (.inl q)
        · have hlt : o < x := by
            rcases q5 with q5 | q5
            · rw [qw] at q5; cases q5
            · exact of_decide_eq_true q5
          obtain ⟨j, hj, ej⟩ := List.getElem_of_mem q
          have hji : j < i := by
            rcases Nat.lt_or_ge j i with r | r
            · exact r
            · exfalso
              have e1 : t.waits[j].tx = o := by rw [ej]; exact q3'
              have e2 : t.waits[i].tx = x := by rw [ei]; exact q1'
              rcases Nat.lt_or_eq_of_le r with r | r
              · have := so i j hi hj r; omega
              · subst r; omega
          exact List.mem_append.2 (.inr (List.mem_iff_getElem.2 ⟨j, by rw [List.length_take]; omega, by rw [List.getElem_take]; exact ej⟩))
      · simp at hg
    · rintro ⟨i, hi, e1, e2⟩
      obtain ⟨o, ho, hag, hot⟩ := blockS_mem.1 e2
      have hwm := h.wm (List.getElem_mem hi)
      have hr : 1 ≤ t.waits[i].tx ∧ t.waits[i].tx ≤ 1000 := h.rg _ hwm
      have hor : 1 ≤ o.tx ∧ o.tx ≤ 1000 ∧ ∃ b, mk4 b o ∈ L ∧ (b = false ∨ o.tx < t.waits[i].tx) := by
        rcases List.mem_append.1 ho with q | q
        · have : 1 ≤ o.tx ∧ o.tx ≤ 1000 := h.rg _ (h.hm q)
          exact ⟨this.1, this.2, false, h.hm q, .inl rfl⟩
        · obtain ⟨j, hj, ej⟩ := List.getElem_of_mem q
          rw [List.length_take] at hj
          rw [List.getElem_take] at ej
          have hjw : o ∈ t.waits := by rw [← ej]; exact List.getElem_mem _
          have : 1 ≤ o.tx ∧ o.tx ≤ 1000 := h.rg _ (h.wm hjw)
          refine ⟨this.1, this.2, true, h.wm hjw, .inr ?_⟩
          rw [← ej]
          exact so j i (by omega) hi (by omega)
      obtain ⟨r1, r2, b, hb, hb2⟩ := hor
      refine ⟨t.waits[i].tx, rangeI_mem.2 ⟨hr.1, by omega⟩, ?_⟩
      have hbz : busyB L t.waits[i].tx = true := List.any_eq_true.2 ⟨_, hwm, by simp [mk4]⟩
      rw [if_pos hbz]
      unfold rowR
      refine List.mem_map.2 ⟨g.b, List.mem_filter.2 ⟨rangeI_mem.2 ⟨by rw [← hot]; exact r1, by rw [← hot]; omega⟩, ?_⟩, by rw [← e1]⟩
      unfold betB
      refine List.any_eq_true.2 ⟨_, hwm, List.any_eq_true.2 ⟨_, hb, ?_⟩⟩
      rw [wayB_mk, ag_sym, hag]
      rcases hb2 with q | q
      · subst q; simp [mk4, hot]
      · rw [hot] at q
        simp [mk4, hot, q]
end Go.Proofs.Ytlagmbieaicmgaa
