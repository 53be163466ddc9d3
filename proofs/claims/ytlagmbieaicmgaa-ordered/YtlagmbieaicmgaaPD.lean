/- Plain: every Take. -/
import Derived.Test.YtlagmbieaicmgaaPC
namespace Go.Proofs.Ytlagmbieaicmgaa
open Lk

theorem Inv.has {t : T4} {L : List L4} {F : List Int} (h : Inv t L F) (ask : C) (hb : hasB t.held ask = true) : Inv t (L ++ [⟨ask.tx, ask.key, ask.wr, false⟩]) F := by
  have cov : ∃ o ∈ t.held, Covs ask o := by
    unfold hasB at hb
    split at hb
    · rename_i o ho
      have h1 := List.mem_of_find?_eq_some ho
      have h2 : o.tx = ask.tx ∧ o.key = ask.key := by simpa using List.find?_some ho
      refine ⟨o, h1, h2.1, h2.2, fun e => ?_⟩
      simpa [e] using hb
    · cases hb
  refine ⟨h.j, ⟨fun l hl hw => ?_, fun c hc hy => List.mem_append.2 (.inl (h.k.wl c hc hy)), fun l hl hw => ?_, ?_⟩, h.pf, h.rg, h.ps, h.pr, h.m0, h.ln⟩
  · rcases List.mem_append.1 hl with q | q
    · exact h.k.lw l q hw
    · have e : l = ⟨ask.tx, ask.key, ask.wr, false⟩ := by simpa using q
      subst e; cases hw
  · rcases List.mem_append.1 hl with q | q
    · exact h.k.lh l q hw
    · have e : l = ⟨ask.tx, ask.key, ask.wr, false⟩ := by simpa using q
      subst e
      exact .inl cov
  · refine List.pairwise_append.2 ⟨h.k.lu, by simp, fun l hl e he _ hw => ?_⟩
    have e' : e = ⟨ask.tx, ask.key, ask.wr, false⟩ := by simpa using he
    subst e'; cases hw

/-- What a Take and the ledger's look at it come to. -/
structure TakeOk (L : List L4) (F : List Int) (ask : C) (r : Ans) : Prop where
  ans : r.ans = 0 ∨ r.ans = 1 ∨ r.ans = 2 ∨ r.ans = 3
  busy : busyB L ask.tx = true → r.ans = 0
  none : r.ans ≠ 1 → r.ans ≠ 2 → r.hurt = [] ∧ r.got = [] ∧ Inv r.t L F
  some : r.ans = 1 ∨ r.ans = 2 → (∀ x ∈ r.hurt, firmB F x = false ∧ ask.tx < x) ∧ allOk (dropAll L r.hurt ++ [⟨ask.tx, ask.key, ask.wr, decide (r.ans = 2)⟩]) r.got ∧ Inv r.t (allL (dropAll L r.hurt ++ [⟨ask.tx, ask.key, ask.wr, decide (r.ans = 2)⟩]) r.got) (dropAllF F r.hurt)

theorem Inv.take {t : T4} {L : List L4} {F : List Int} (h : Inv t L F) (ask : C) (h1 : 1 ≤ ask.tx) (h2 : ask.tx ≤ 12) : TakeOk L F ask (takeT t ask) := by
  unfold takeT
  cases hw : waitB t.waits ask.tx with
  | true => exact ⟨.inl rfl, fun _ => rfl, fun _ _ => ⟨rfl, rfl, h⟩, fun e => by simp at e⟩
  | false =>
    have hb : busyB L ask.tx = false := by rw [h.busy]; exact hw
    rw [if_neg (by simp)]
    cases hh : hasB t.held ask with
    | true =>
      rw [if_pos rfl]
      refine ⟨.inr (.inl rfl), fun e => (by rw [hb] at e; cases e), fun e => absurd rfl e, fun _ => ⟨by simp, trivial, ?_⟩⟩
      exact h.has ask hh
    | false =>
      rw [if_neg (by simp)]
      by_cases hm : t.most ≤ (t.held.length : Int) + (t.waits.length : Int)
      · rw [if_pos hm]
        exact ⟨.inr (.inr (.inr rfl)), fun e => (by rw [hb] at e; cases e), fun _ _ => ⟨rfl, rfl, h⟩, fun e => by simp at e⟩
      · rw [if_neg hm]
        obtain ⟨a1, a2, a3⟩ := h.asked ask h1 h2 hw hm
        cases hp : waitB (t.asked ask).passed.waits ask.tx with
        | true =>
          rw [if_pos rfl]
          refine ⟨.inr (.inr (.inl rfl)), fun e => (by rw [hb] at e; cases e), fun _ e => absurd rfl e, fun _ => ⟨a1, ?_⟩⟩
          exact a2 hp
        | false =>
          rw [if_neg (by simp)]
          refine ⟨.inr (.inl rfl), fun e => (by rw [hb] at e; cases e), fun e => absurd rfl e, fun _ => ⟨a1, ?_⟩⟩
          exact a3 hp
end Go.Proofs.Ytlagmbieaicmgaa
