/- What bytes are as a message, read step by step: each step may end in 'too short'. -/
import Derived.Test.YtlagmbieaicmgaaDoorRefG
import Derived.Test.YtlagmbieaicmgaaDoorRefH
namespace Go.Proofs.YtlagmbieaicmgaaDoor
open Go.RowKit Pact

def kNum (s : ByteArray) (i k : Nat) (f : Nat → Nat → Sum Int Msg) : Sum Int Msg := if i + k ≤ s.size then f (be (s.extract i (i + k)).data.toList) (i + k) else .inl 2
def kText (s : ByteArray) (i : Nat) (f : ByteArray → Nat → Sum Int Msg) : Sum Int Msg := match pText s i with
  | none => .inl 2
  | some (t, j) => f t j
def kEnts (s : ByteArray) : Nat → Nat → List Ent → (List Ent → Nat → Sum Int Msg) → Sum Int Msg
  | i, 0, es, f => f es i
  | i, n + 1, es, f => kNum s i 1 fun a j => kNum s j 3 fun b j => kText s j fun t j => kEnts s j n (es ++ [⟨(a : Int), (b : Int), t⟩]) f
def kFin (s : ByteArray) (hd : Nat) (m : Msg) (j : Nat) : Sum Int Msg :=
  if ((s.extract j (j + 4)).data.toList == sumOf (s.extract 0 j).data.toList) = false then .inl 3 else
  if (hd = 77 ∧ j + 4 = s.size) ∧ sendB m = true then .inr m else .inl 4

theorem pEnts_cons (s : ByteArray) (i : Nat) : ∀ n, pEnts s i (n + 1) = (match pEnt s i with
    | none => none
    | some (e, j) => match pEnts s j n with
      | none => none
      | some (es, j') => some (e :: es, j'))
  | 0 => by
    show (match pEnt s i with | none => none | some (e, j') => some ([] ++ [e], j')) = _
    cases pEnt s i with
    | none => rfl
    | some p => rfl
  | n + 1 => by
    have ih := pEnts_cons s i n
    have e1 : pEnts s i (n + 1 + 1) = (match pEnts s i (n + 1) with | none => none | some (es, j) => match pEnt s j with | none => none | some (e, j') => some (es ++ [e], j')) := rfl
    rw [e1, ih]
    cases pEnt s i with
    | none => rfl
    | some p =>
      obtain ⟨e, j⟩ := p
      show (match (match pEnts s j n with | none => none | some (es, j') => some (e :: es, j')) with | none => none | some (es, j) => match pEnt s j with | none => none | some (e, j') => some (es ++ [e], j')) = (match (match pEnts s j n with | none => none | some (es, j) => match pEnt s j with | none => none | some (e, j') => some (es ++ [e], j')) with | none => none | some (es, j') => some (e :: es, j'))
      cases pEnts s j n with
      | none => rfl
      | some q =>
        obtain ⟨es, j'⟩ := q
        show (match pEnt s j' with | none => none | some (e2, j') => some ((e :: es) ++ [e2], j')) = (match (match pEnt s j' with | none => none | some (e2, j') => some (es ++ [e2], j')) with | none => none | some (es, j') => some (e :: es, j'))
        cases pEnt s j' with
        | none => rfl
        | some r => rfl

theorem kNum_pos {s : ByteArray} {i k : Nat} (h : i + k ≤ s.size) {f : Nat → Nat → Sum Int Msg} : kNum s i k f = f (be (s.extract i (i + k)).data.toList) (i + k) := by unfold kNum; rw [if_pos h]
theorem kNum_neg {s : ByteArray} {i k : Nat} (h : ¬ i + k ≤ s.size) {f : Nat → Nat → Sum Int Msg} : kNum s i k f = .inl 2 := by unfold kNum; rw [if_neg h]
theorem kText_none {s : ByteArray} {i : Nat} (h : pText s i = none) {f : ByteArray → Nat → Sum Int Msg} : kText s i f = .inl 2 := by unfold kText; rw [h]
theorem kText_some {s : ByteArray} {i : Nat} {t : ByteArray} {j : Nat} (h : pText s i = some (t, j)) {f : ByteArray → Nat → Sum Int Msg} : kText s i f = f t j := by unfold kText; rw [h]

theorem kEnt_eq (s : ByteArray) (i : Nat) (f : Ent → Nat → Sum Int Msg) : (kNum s i 1 fun a j => kNum s j 3 fun b j => kText s j fun t j => f ⟨(a : Int), (b : Int), t⟩ j) = (match pEnt s i with
    | none => .inl 2
    | some (e, j) => f e j) := by
  unfold pEnt
  by_cases h1 : i + 1 ≤ s.size
  · rw [kNum_pos h1, if_pos h1]
    by_cases h2 : i + 1 + 3 ≤ s.size
    · rw [kNum_pos h2, if_pos h2]
      unfold kText
      cases pText s (i + 1 + 3) with
      | none => rfl
      | some p => rfl
    · rw [kNum_neg h2, if_neg h2]
  · rw [kNum_neg h1, if_neg h1]

theorem kEnts_eq (s : ByteArray) (f : List Ent → Nat → Sum Int Msg) : ∀ (n i : Nat) (es : List Ent), kEnts s i n es f = (match pEnts s i n with
    | none => .inl 2
    | some (es', j) => f (es ++ es') j)
  | 0, i, es => by
    show f es i = f (es ++ []) i
    rw [List.append_nil]
  | n + 1, i, es => by
    have ih := kEnts_eq s f n
    rw [pEnts_cons]
    show (kNum s i 1 fun a j => kNum s j 3 fun b j => kText s j fun t j => kEnts s j n (es ++ [⟨(a : Int), (b : Int), t⟩]) f) = _
    rw [kEnt_eq s i fun e j => kEnts s j n (es ++ [e]) f]
    cases pEnt s i with
    | none => rfl
    | some p =>
      obtain ⟨e, j⟩ := p
      show kEnts s j n (es ++ [e]) f = _
      rw [ih]
      show _ = (match (match pEnts s j n with | none => none | some (es, j') => some (e :: es, j')) with | none => Sum.inl 2 | some (es', j) => f (es ++ es') j)
      cases pEnts s j n with
      | none => rfl
      | some q =>
        obtain ⟨es', j'⟩ := q
        show f (es ++ [e] ++ es') j' = f (es ++ (e :: es')) j'
        rw [List.append_assoc]; rfl

theorem decR_k (s : ByteArray) : decR s = kNum s 0 1 fun h j => kNum s j 1 fun a j => kNum s j 1 fun b j => kNum s j 1 fun c j => kText s j fun g j => kNum s j 3 fun d j => kNum s j 2 fun e j => kText s j fun v j =>
    kNum s j 1 fun n j => kEnts s j n [] fun es j => kNum s j 4 fun _ _ => kFin s h ⟨(a : Int), (b : Int), (c : Int), g, (d : Int), (e : Int), v, es⟩ j := by
  unfold decR pMsg
  by_cases h0 : s.size < 1
  · rw [if_pos h0, kNum_neg (by omega)]
  rw [if_neg h0, kNum_pos (show 0 + 1 ≤ s.size by omega)]
  by_cases h1 : 1 + 1 + 1 + 1 ≤ s.size
  · rw [if_pos h1, kNum_pos (show 0 + 1 + 1 ≤ s.size by omega), kNum_pos (show 0 + 1 + 1 + 1 ≤ s.size by omega), kNum_pos (show 0 + 1 + 1 + 1 + 1 ≤ s.size by omega)]
    cases hg : pText s (1 + 1 + 1 + 1) with
    | none => rw [kText_none hg]
    | some p =>
      obtain ⟨g, a⟩ := p
      rw [kText_some hg]
      simp only
      by_cases h2 : a + 3 + 2 ≤ s.size
      · rw [if_pos h2, kNum_pos (show a + 3 ≤ s.size by omega), kNum_pos h2]
        cases hv : pText s (a + 3 + 2) with
        | none => rw [kText_none hv]
        | some p =>
          obtain ⟨v, c⟩ := p
          rw [kText_some hv]
          simp only
          unfold pList
          by_cases h3 : c + 1 ≤ s.size
          · rw [if_pos h3, kNum_pos h3, kEnts_eq]
            cases pEnts s (c + 1) (be (s.extract c (c + 1)).data.toList) with
            | none => rfl
            | some q =>
              obtain ⟨es, d⟩ := q
              simp only [List.nil_append]
              by_cases h4 : s.size < d + 4
              · rw [if_pos h4, kNum_neg (by omega)]
              · rw [if_neg h4, kNum_pos (by omega)]; rfl
          · rw [if_neg h3, kNum_neg h3]
      · rw [if_neg h2]
        by_cases h3 : a + 3 ≤ s.size
        · rw [kNum_pos h3, kNum_neg h2]
        · rw [kNum_neg h3]
  · rw [if_neg h1]
    by_cases h2 : 0 + 1 + 1 ≤ s.size
    · rw [kNum_pos h2]
      by_cases h3 : 0 + 1 + 1 + 1 ≤ s.size
      · rw [kNum_pos h3, kNum_neg (by omega)]
      · rw [kNum_neg h3]
    · rw [kNum_neg h2]

theorem num_step {R : Sum Int Msg} {s : ByteArray} {i k v j : Nat} {sh sh' : Bool} {f : Nat → Nat → Sum Int Msg} (h : R = if sh = true then .inl 2 else kNum s i k f)
    (hy : i + k ≤ s.size → v = be (s.extract i (i + k)).data.toList ∧ j = i + k ∧ sh' = sh) (hn : s.size < i + k → sh' = true) (hs : sh = true → sh' = true) : R = if sh' = true then .inl 2 else f v j := by
  cases sh with
  | true => rw [if_pos (hs rfl)]; rw [if_pos rfl] at h; exact h
  | false =>
    rw [if_neg (by simp)] at h
    unfold kNum at h
    by_cases hk : i + k ≤ s.size
    · obtain ⟨rfl, rfl, rfl⟩ := hy hk
      rw [if_pos hk] at h
      rw [if_neg (by simp)]; exact h
    · rw [if_neg hk] at h
      rw [if_pos (hn (by omega))]; exact h

theorem text_step {R : Sum Int Msg} {s : ByteArray} {i j : Nat} {t : ByteArray} {sh sh' : Bool} {f : ByteArray → Nat → Sum Int Msg} (h : R = if sh = true then .inl 2 else kText s i f)
    (hy : ∀ t0 j0, sh = false → pText s i = some (t0, j0) → t = t0 ∧ j = j0 ∧ sh' = false) (hn : (sh = true ∨ pText s i = none) → sh' = true) : R = if sh' = true then .inl 2 else f t j := by
  cases sh with
  | true => rw [if_pos (hn (.inl rfl))]; rw [if_pos rfl] at h; exact h
  | false =>
    rw [if_neg (by simp)] at h
    unfold kText at h
    cases hp : pText s i with
    | none => rw [hp] at h; rw [if_pos (hn (.inr hp))]; exact h
    | some p =>
      obtain ⟨t0, j0⟩ := p
      obtain ⟨rfl, rfl, rfl⟩ := hy t0 j0 rfl hp
      rw [hp] at h
      rw [if_neg (by simp)]; exact h
end Go.Proofs.YtlagmbieaicmgaaDoor
