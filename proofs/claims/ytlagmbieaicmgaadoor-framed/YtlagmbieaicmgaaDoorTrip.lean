/- What is written is read back; what is cut short, longer, or has a burst of bits turned is no message: plain mathematics of the reader. -/
import Derived.Test.YtlagmbieaicmgaaDoorWalkI
import Derived.Test.YtlagmbieaicmgaaDoorWalkD
namespace Go.Proofs.YtlagmbieaicmgaaDoor
open Go.RowKit Pact

/-- The bytes l lie in s from place i on. -/
def At (s : ByteArray) (i : Nat) (l : List UInt8) : Prop := i + l.length ≤ s.size ∧ (s.data.toList.drop i).take l.length = l

theorem At.split {s : ByteArray} {i : Nat} {l k : List UInt8} (h : At s i (l ++ k)) : At s i l ∧ At s (i + l.length) k := by
  obtain ⟨h1, h2⟩ := h
  rw [List.length_append] at h1 h2
  have h3 : (s.data.toList.drop i).take l.length = l := by
    have := congrArg (List.take l.length) h2
    rw [List.take_take, List.take_left, Nat.min_eq_left (by omega)] at this
    exact this
  refine ⟨⟨by omega, h3⟩, by omega, ?_⟩
  have := congrArg (List.drop l.length) h2
  rw [List.drop_take, List.drop_drop, List.drop_left, Nat.add_sub_cancel_left] at this
  exact this

theorem At.extract {s : ByteArray} {i : Nat} {l : List UInt8} (h : At s i l) : (s.extract i (i + l.length)).data.toList = l := by
  have e : (s.extract i (i + l.length)).data.toList = (s.data.toList.drop i).take l.length := by
    simp
  rw [e, h.2]

theorem be_num1 (x : Nat) (h : x < 256) : be [UInt8.ofNat x] = x := by simp [be]; omega
theorem be_num2 (x : Nat) (h : x < 65536) : be (numB x 2) = x := by
  have e : numB x 2 = [UInt8.ofNat (x / 2 ^ 8), UInt8.ofNat (x / 2 ^ 0)] := rfl
  rw [e]; simp [be]; omega
theorem be_num3 (x : Nat) (h : x < 16777216) : be (numB x 3) = x := by
  have e : numB x 3 = [UInt8.ofNat (x / 2 ^ 16), UInt8.ofNat (x / 2 ^ 8), UInt8.ofNat (x / 2 ^ 0)] := rfl
  rw [e]; simp [be]; omega

theorem at_one {s : ByteArray} {i : Nat} {x : UInt8} (h : At s i [x]) : i + 1 ≤ s.size ∧ (s.extract i (i + 1)).data.toList = [x] := ⟨h.1, h.extract⟩

theorem text_at {s : ByteArray} {i : Nat} {t : ByteArray} (h : At s i (textB t)) (ht : t.size < 256) : pText s i = some (t, i + (textB t).length) := by
  have e : textB t = [UInt8.ofNat t.size] ++ t.data.toList := rfl
  rw [e] at h
  obtain ⟨h1, h2⟩ := h.split
  obtain ⟨a1, a2⟩ := at_one h1
  have hl : t.data.toList.length = t.size := by simp
  have b1 := h2.1
  have b2 := h2.extract
  simp only [List.length_singleton] at b1 b2
  rw [hl] at b1 b2
  unfold pText
  rw [a2, be_num1 _ ht, if_pos a1, if_pos b1]
  have e3 : s.extract (i + 1) (i + 1 + t.size) = t := by
    apply ByteArray.ext
    apply Array.toList_inj.1
    exact b2
  have e4 : (textB t).length = 1 + t.size := by rw [e, List.length_append, hl]; rfl
  rw [e3, e4, Nat.add_assoc]

theorem ent_at {s : ByteArray} {i : Nat} {e : Ent} (h : At s i (entB e)) (hf : EntFit e) : pEnt s i = some (e, i + (entB e).length) := by
  obtain ⟨f1, f2, f3, f4, f5⟩ := hf
  have e0 : entB e = [UInt8.ofNat e.slot.toNat] ++ (numB e.ballot.toNat 3 ++ textB e.value) := rfl
  rw [e0] at h
  obtain ⟨h1, h2⟩ := h.split
  obtain ⟨h3, h4⟩ := h2.split
  obtain ⟨a1, a2⟩ := at_one h1
  have b1 := h3.1
  have b2 := h3.extract
  simp only [List.length_singleton, numB_length] at b1 b2 h4
  have ht := text_at h4 f5
  unfold pEnt
  rw [if_pos a1, if_pos b1, ht, a2, b2, be_num1 _ (by omega), be_num3 _ (by omega)]
  simp only
  rw [Int.toNat_of_nonneg f1, Int.toNat_of_nonneg f3]
  simp only [entB, List.length_cons, List.length_append, numB_length]
  rw [show i + 1 + 3 + (textB e.value).length = i + (3 + (textB e.value).length + 1) from by omega]

theorem ents_at {s : ByteArray} {i : Nat} {es : List Ent} (h : At s i (entsB es)) (hf : ∀ e ∈ es, EntFit e) : ∀ k, k ≤ es.length → pEnts s i k = some (es.take k, i + (entsB (es.take k)).length)
  | 0, _ => by simp [pEnts, entsB]
  | k + 1, hk => by
    have ih := ents_at h hf k (by omega)
    have hlt : k < es.length := by omega
    have ed : entsB es = entsB (es.take k) ++ (entB es[k] ++ entsB (es.drop (k + 1))) := by
      have e1 : es = es.take k ++ (es[k] :: es.drop (k + 1)) := by rw [← List.drop_eq_getElem_cons hlt, List.take_append_drop]
      have e2 : entsB es = entsB (es.take k ++ (es[k] :: es.drop (k + 1))) := by rw [← e1]
      rw [e2]
      unfold entsB
      rw [List.flatMap_append, List.flatMap_cons]
    rw [ed] at h
    have h2 := (h.split.2).split.1
    have h3 := ent_at h2 (hf _ (List.getElem_mem hlt))
    rw [pEnts_step ih h3]
    have e2 : entsB (es.take (k + 1)) = entsB (es.take k) ++ entB es[k] := entsB_take es k hlt
    rw [e2, List.length_append, ← Nat.add_assoc, ← List.take_succ_eq_append_getElem hlt]

theorem msg_at {s : ByteArray} {m : Msg} (h : At s 0 (bodyB m)) (hf : Fit m) : pMsg s 1 = some (m, (bodyB m).length) ∧ be (s.extract 0 1).data.toList = 77 := by
  have hg := hf.group
  have hv := hf.value
  obtain ⟨k1, k2⟩ := hf.kind
  obtain ⟨r1, r2⟩ := hf.fr
  obtain ⟨t1, t2⟩ := hf.to
  obtain ⟨b1, b2⟩ := hf.ballot
  obtain ⟨s1, s2⟩ := hf.slot
  have e0 : bodyB m = [77] ++ ([UInt8.ofNat m.kind.toNat] ++ ([UInt8.ofNat m.fr.toNat] ++ ([UInt8.ofNat m.to.toNat] ++ (textB m.group ++ (numB m.ballot.toNat 3 ++ (numB m.slot.toNat 2 ++ (textB m.value ++ ([UInt8.ofNat m.ents.length] ++ entsB m.ents)))))))) := by
    simp [bodyB, headB]
  have hlen := congrArg List.length e0
  simp only [List.length_append, List.length_singleton, numB_length] at hlen
  rw [e0] at h
  obtain ⟨h0, h⟩ := h.split
  obtain ⟨h1, h⟩ := h.split
  obtain ⟨h2, h⟩ := h.split
  obtain ⟨h3, h⟩ := h.split
  obtain ⟨h4, h⟩ := h.split
  obtain ⟨h5, h⟩ := h.split
  obtain ⟨h6, h⟩ := h.split
  obtain ⟨h7, h⟩ := h.split
  obtain ⟨h8, h9⟩ := h.split
  simp only [List.length_singleton, numB_length, Nat.zero_add] at h0 h1 h2 h3 h4 h5 h6 h7 h8 h9
  obtain ⟨_, a0⟩ := at_one h0
  obtain ⟨_, a1⟩ := at_one h1
  obtain ⟨_, a2⟩ := at_one h2
  obtain ⟨c3, a3⟩ := at_one h3
  have a4 := text_at h4 hg
  have a5 := h5.extract
  have a6 := h6.extract
  have c6 := h6.1
  have a7 := text_at h7 hv
  obtain ⟨c8, a8⟩ := at_one h8
  have a9 := ents_at h9 hf.ents m.ents.length (Nat.le_refl _)
  simp only [numB_length, List.take_length] at a5 a6 c6 a9
  have aL : pList s (1 + 1 + 1 + 1 + (textB m.group).length + 3 + 2 + (textB m.value).length) = some (m.ents, 1 + 1 + 1 + 1 + (textB m.group).length + 3 + 2 + (textB m.value).length + 1 + (entsB m.ents).length) := by
    unfold pList
    rw [if_pos c8, a8, be_num1 _ hf.len, a9]
  refine ⟨?_, by rw [a0]; decide⟩
  unfold pMsg
  rw [if_pos c3, a4]
  simp only
  rw [if_pos c6, a7]
  simp only
  rw [aL]
  simp only
  rw [a1, a2, a3, a5, a6, be_num1 _ (by omega), be_num1 _ (by omega), be_num1 _ (by omega), be_num3 _ (by omega), be_num2 _ (by omega)]
  rw [Int.toNat_of_nonneg k1, Int.toNat_of_nonneg r1, Int.toNat_of_nonneg t1, Int.toNat_of_nonneg b1, Int.toNat_of_nonneg s1]
  rw [hlen]
  congr 2
  omega

theorem encB_data (m : Msg) : (encB m).data.toList = bodyB m ++ sumOf (bodyB m) := by simp [encB]
theorem encB_size (m : Msg) : (encB m).size = (bodyB m).length + 4 := by
  show (bodyB m ++ sumOf (bodyB m)).toArray.size = _
  simp [sumOf_length]

/-- What is written is read back. -/
theorem trip (m : Msg) (h : sendB m = true) : decR (encB m) = .inr m := by
  have hf := sendB_fit h
  have hd := encB_data m
  have hz := encB_size m
  have h1 : At (encB m) 0 (bodyB m) := ⟨by omega, by rw [hd]; simp⟩
  have h2 : At (encB m) (bodyB m).length (sumOf (bodyB m)) := ⟨by rw [sumOf_length]; omega, by rw [hd, List.drop_left]; simp⟩
  obtain ⟨p, q⟩ := msg_at h1 hf
  have a1 := h1.extract
  have a2 := h2.extract
  rw [sumOf_length] at a2
  rw [Nat.zero_add] at a1
  unfold decR
  rw [if_neg (by omega), p]
  simp only
  rw [if_neg (by omega), a1, a2, if_neg (by simp), if_pos ⟨⟨q, by omega⟩, h⟩]

/-- Two texts that agree up to a place. -/
def Agree (s t : ByteArray) (j : Nat) : Prop := j ≤ s.size ∧ j ≤ t.size ∧ ∀ a b, b ≤ j → t.extract a b = s.extract a b
theorem Agree.mono {s t : ByteArray} {j k : Nat} (h : Agree s t j) (hk : k ≤ j) : Agree s t k := ⟨by have := h.1; omega, by have := h.2.1; omega, fun a b hb => h.2.2 a b (by omega)⟩

theorem pText_mono {s t : ByteArray} {i j : Nat} {x : ByteArray} (h : pText s i = some (x, j)) (g : Agree s t j) : pText t i = some (x, j) ∧ i ≤ j := by
  obtain ⟨h1, h2, h3⟩ := pText_yes h
  injection h3 with h3 h4
  obtain ⟨g1, g2, g3⟩ := g
  have e1 := g3 i (i + 1) (by omega)
  have e2 := g3 (i + 1) j (Nat.le_refl _)
  refine ⟨?_, by omega⟩
  unfold pText
  rw [e1, if_pos (by omega), if_pos (by omega), h3, ← h4, e2]

theorem pEnt_mono {s t : ByteArray} {i j : Nat} {x : Ent} (h : pEnt s i = some (x, j)) (g : Agree s t j) : pEnt t i = some (x, j) ∧ i ≤ j := by
  rcases pEnt_cases s i with ⟨_, p⟩ | ⟨_, _, p⟩ | ⟨_, _, p⟩ | ⟨v, j', p1, p2, p⟩
  · rw [p] at h; cases h
  · rw [p] at h; cases h
  · rw [p] at h; cases h
  · rw [p] at h
    injection h with h
    injection h with h1 h2
    subst h2
    obtain ⟨q1, q2⟩ := pText_mono p2 g
    obtain ⟨g1, g2, g3⟩ := g
    have e1 := g3 i (i + 1) (by omega)
    have e2 := g3 (i + 1) (i + 1 + 3) (by omega)
    refine ⟨?_, by omega⟩
    unfold pEnt
    rw [if_pos (by omega), if_pos (by omega), q1, e1, e2]
    simp only
    rw [h1]

theorem pEnts_mono {s t : ByteArray} {i : Nat} : ∀ {r j : Nat} {es : List Ent}, pEnts s i r = some (es, j) → Agree s t j → pEnts t i r = some (es, j) ∧ i ≤ j
  | 0, j, es, h, _ => by
    simp only [pEnts] at h ⊢
    injection h with h
    injection h with h1 h2
    rw [h1, h2]
    exact ⟨rfl, Nat.le_of_eq rfl⟩
  | r + 1, j, es, h, g => by
    simp only [pEnts] at h
    split at h
    · cases h
    · rename_i es' j' h'
      split at h
      · cases h
      · rename_i e j'' h''
        injection h with h
        injection h with h1 h2
        subst h1 h2
        obtain ⟨q1, q2⟩ := pEnt_mono h'' g
        obtain ⟨q3, q4⟩ := pEnts_mono h' (g.mono q2)
        exact ⟨pEnts_step q3 q1, by omega⟩

theorem pList_mono {s t : ByteArray} {i j : Nat} {es : List Ent} (h : pList s i = some (es, j)) (g : Agree s t j) : pList t i = some (es, j) ∧ i ≤ j := by
  unfold pList at h
  split at h
  · obtain ⟨q1, q2⟩ := pEnts_mono h g
    obtain ⟨g1, g2, g3⟩ := g
    have e1 := g3 i (i + 1) (by omega)
    refine ⟨?_, by omega⟩
    unfold pList
    rw [if_pos (by omega), e1, q1]
  · cases h

theorem pMsg_mono {s t : ByteArray} {i j : Nat} {m : Msg} (h : pMsg s i = some (m, j)) (g : Agree s t j) : pMsg t i = some (m, j) := by
  unfold pMsg at h
  split at h
  · rename_i c1
    split at h
    · cases h
    · rename_i gr a h1
      split at h
      · rename_i c2
        split at h
        · cases h
        · rename_i v c h2
          split at h
          · cases h
          · rename_i es d h3
            injection h with h
            injection h with h4 h5
            subst h5
            obtain ⟨q3, l3⟩ := pList_mono h3 g
            obtain ⟨q2, l2⟩ := pText_mono h2 (g.mono l3)
            obtain ⟨q1, l1⟩ := pText_mono h1 (g.mono (by omega))
            obtain ⟨g1, g2, g3⟩ := g
            unfold pMsg
            rw [if_pos (by omega), q1]
            simp only
            rw [if_pos (by omega), q2]
            simp only
            rw [q3]
            simp only
            rw [g3 i (i + 1) (by omega), g3 (i + 1) (i + 1 + 1) (by omega), g3 (i + 1 + 1) (i + 1 + 1 + 1) (by omega), g3 a (a + 3) (by omega), g3 (a + 3) (a + 3 + 2) (by omega), h4]
      · cases h
  · cases h

/-- What bytes that are a message have. -/
theorem decR_yes {s : ByteArray} {m : Msg} (h : decR s = .inr m) : ∃ j, pMsg s 1 = some (m, j) ∧ j + 4 = s.size ∧ (s.extract j (j + 4)).data.toList = sumOf (s.extract 0 j).data.toList := by
  unfold decR at h
  split at h
  · cases h
  · split at h
    · cases h
    · rename_i m' j hp
      split at h
      · cases h
      · split at h
        · cases h
        · rename_i hne
          split at h
          · rename_i hc
            injection h with h
            subst h
            exact ⟨j, hp, hc.1.2, by simpa using hne⟩
          · cases h

theorem decR_no {s : ByteArray} {n : Int} (h : decR s = .inl n) : n = 2 ∨ n = 3 ∨ n = 4 := by
  unfold decR at h
  split at h
  · injection h with h; omega
  · split at h
    · injection h with h; omega
    · split at h
      · injection h with h; omega
      · split at h
        · injection h with h; omega
        · split at h
          · cases h
          · injection h with h; omega

/-- Of two texts of which one is the other's beginning, both messages, the lengths are one. -/
theorem ext_size {p q : ByteArray} {m m' : Msg} (hp : decR p = .inr m) (hq : decR q = .inr m') (hle : p.size ≤ q.size) (hpre : q.data.toList.take p.size = p.data.toList) : p.size = q.size := by
  obtain ⟨j, p1, p2, _⟩ := decR_yes hp
  obtain ⟨k, q1, q2, _⟩ := decR_yes hq
  have g : Agree p q j := by
    refine ⟨by omega, by omega, fun a b hb => ?_⟩
    apply ByteArray.ext
    apply Array.toList_inj.1
    have e1 : (q.extract a b).data.toList = (q.data.toList.take b).drop a := by simp [List.drop_take]
    have e2 : (p.extract a b).data.toList = (p.data.toList.take b).drop a := by simp [List.drop_take]
    rw [e1, e2, ← hpre, List.take_take, Nat.min_eq_left (by omega)]
  have := pMsg_mono p1 g
  rw [q1] at this
  injection this with this
  injection this with _ h
  omega

theorem framed_sum {s : ByteArray} {m : Msg} (h : decR s = .inr m) : ∃ p, s.data.toList = p ++ sumOf p := by
  obtain ⟨j, _, h2, h3⟩ := decR_yes h
  refine ⟨(s.extract 0 j).data.toList, ?_⟩
  rw [← h3]
  have e1 : (s.extract 0 j).data.toList = s.data.toList.take j := by simp
  have hl : s.data.toList.length = s.size := by simp
  have e2 : (s.extract j (j + 4)).data.toList = s.data.toList.drop j := by
    have e : (s.extract j (j + 4)).data.toList = (s.data.toList.drop j).take 4 := by simp
    rw [e, List.take_of_length_le (by rw [List.length_drop, hl]; omega)]
  rw [e1, e2, List.take_append_drop]

/-- A burst turned makes no message of a message. -/
theorem burst_no {s t : ByteArray} {m m' : Msg} (hs : decR s = .inr m) (ht : decR t = .inr m') (hlen : s.size = t.size) (a x : Nat) (hx : x < 2 ^ 32) (ha : a ≤ 8 * s.size)
    (hd : num t.data.toList = num s.data.toList ^^^ (x <<< a)) : s = t := by
  obtain ⟨p, hp⟩ := framed_sum hs
  obtain ⟨q, hq⟩ := framed_sum ht
  have hl1 : s.data.toList.length = s.size := by simp
  have hl2 : t.data.toList.length = t.size := by simp
  have := burst s.data.toList t.data.toList p q hp hq (by omega) a x hx (by omega) hd
  apply ByteArray.ext
  exact Array.toList_inj.1 this
end Go.Proofs.YtlagmbieaicmgaaDoor
