/- The reader's entries: a list of entries, or the panic where the bytes end too early. -/
import Derived.Test.YtlagmbieaicmgaaDoorWalkF
namespace Go.Proofs.YtlagmbieaicmgaaDoor
open Go.RowKit Pact

/-- An entry at a place, and where it ends. -/
def pEnt (s : ByteArray) (i : Nat) : Option (Ent × Nat) :=
  if i + 1 ≤ s.size then
    (if i + 1 + 3 ≤ s.size then
      (match pText s (i + 1 + 3) with
        | none => none
        | some (t, j) => some (⟨(be (s.extract i (i + 1)).data.toList : Nat), (be (s.extract (i + 1) (i + 1 + 3)).data.toList : Nat), t⟩, j))
    else none)
  else none

/-- So many entries from a place on. -/
def pEnts (s : ByteArray) (i : Nat) : Nat → Option (List Ent × Nat)
  | 0 => some ([], i)
  | r + 1 =>
    match pEnts s i r with
    | none => none
    | some (es, j) =>
      match pEnt s j with
      | none => none
      | some (e, j') => some (es ++ [e], j')

/-- A list of entries: how many, and these. -/
def pList (s : ByteArray) (i : Nat) : Option (List Ent × Nat) :=
  if i + 1 ≤ s.size then pEnts s (i + 1) (be (s.extract i (i + 1)).data.toList) else none

theorem pEnts_step {s : ByteArray} {i r : Nat} {es : List Ent} {j : Nat} {e : Ent} {j' : Nat} (h : pEnts s i r = some (es, j)) (k : pEnt s j = some (e, j')) : pEnts s i (r + 1) = some (es ++ [e], j') := by
  simp [pEnts, h, k]

theorem pEnts_stop {s : ByteArray} {i r : Nat} {es : List Ent} {j : Nat} (h : pEnts s i r = some (es, j)) (k : pEnt s j = none) (n : Nat) (hn : r < n) : pEnts s i n = none := by
  induction n with
  | zero => omega
  | succ n ih =>
    by_cases hr : r = n
    · subst hr; simp [pEnts, h, k]
    · simp [pEnts, ih (by omega)]

theorem pEnts_length {s : ByteArray} {i : Nat} : ∀ {r : Nat} {es : List Ent} {j : Nat}, pEnts s i r = some (es, j) → es.length = r
  | 0, es, j, h => by simp [pEnts] at h; rw [h.1]; rfl
  | r + 1, es, j, h => by
    simp only [pEnts] at h
    split at h
    · cases h
    · rename_i es' j' h'
      split at h
      · cases h
      · injection h with h
        injection h with h1 h2
        rw [← h1, List.length_append, pEnts_length h']; rfl

/-- The cells of entries, one behind the other. -/
def ecs (es : List Ent) : List Value := es.flatMap fun e => [.int .i64 e.slot, .int .i64 e.ballot, .string e.value]
theorem ecs_snoc (es : List Ent) (e : Ent) : ecs (es ++ [e]) = ecs es ++ [.int .i64 e.slot, .int .i64 e.ballot, .string e.value] := by simp [ecs]

theorem owns_step {w w' : World} {b base n : Nat} {T : TypeId} {size : Nat} {v : Value} {xs : List Value} (h : w.ownsRow base T size v n xs) (hs : Step b w w') (hb : b < base) : w'.ownsRow base T size v n xs := by
  refine ⟨h.1, ?_⟩
  rcases h.2 with h | ⟨g, cap, cur, hv, hg, hh, r⟩
  · exact .inl h
  · exact .inr ⟨g, cap, cur, hv, hg, by rw [hs.block g (Array.getElem?_eq_some_iff.1 hh).1 (by omega)]; exact hh, r⟩

theorem step_grown {b base : Nat} {T : TypeId} {size n : Nat} {w0 w w' : World} {v : Value} {xs : List Value} (h : Step b w0 w) (hg : w.grownBy w' v.ownBlock) (ho : w.ownsRow base T size v n xs) (hb : w0.heap.size ≤ base) : Step b w0 w' := by
  refine ⟨hg.os.trans h.os, hg.tape.trans h.tape, hg.output.trans h.output, Nat.le_trans h.size hg.size, fun k hk hkb => ?_⟩
  rw [hg.block k (Nat.lt_of_lt_of_le hk h.size) (fun e => by have := (ho.lt k e.symm).1; omega), h.block k hk hkb]

theorem grown_at {base : Nat} {T : TypeId} {size n : Nat} {w w' : World} {v : Value} {xs : List Value} (hg : w.grownBy w' v.ownBlock) (ho : w.ownsRow base T size v n xs) {k : Nat} (hk : k < base) (hkw : k < w.heap.size) : w'.heap[k]? = w.heap[k]? :=
  hg.block k hkw (fun e => by have := (ho.lt k e.symm).1; omega)

theorem Tryd.info_ent : (Tryd.prog.info? 53).map (fun i => (i.zero, i.size, i.bytes)) = some (some (.agg #[.int .i64 0, .int .i64 0, .string ⟨#[]⟩]), 3, 32) := by kernel_rfl

theorem pEnt_cases (s : ByteArray) (i : Nat) : (s.size < i + 1 ∧ pEnt s i = none) ∨ (i + 1 ≤ s.size ∧ s.size < i + 1 + 3 ∧ pEnt s i = none) ∨ (i + 1 + 3 ≤ s.size ∧ pText s (i + 1 + 3) = none ∧ pEnt s i = none) ∨
    (∃ t j, i + 1 + 3 ≤ s.size ∧ pText s (i + 1 + 3) = some (t, j) ∧ pEnt s i = some (⟨(be (s.extract i (i + 1)).data.toList : Nat), (be (s.extract (i + 1) (i + 1 + 3)).data.toList : Nat), t⟩, j)) := by
  by_cases h1 : i + 1 ≤ s.size
  · by_cases h2 : i + 1 + 3 ≤ s.size
    · cases h3 : pText s (i + 1 + 3) with
      | none => exact .inr (.inr (.inl ⟨h2, rfl, by simp [pEnt, h1, h2, h3]⟩))
      | some r => exact .inr (.inr (.inr ⟨r.1, r.2, h2, rfl, by simp [pEnt, h1, h2, h3]⟩))
    · exact .inr (.inl ⟨h1, by omega, by simp [pEnt, h1, h2]⟩)
  · exact .inl ⟨by omega, by simp [pEnt, h1]⟩

theorem pText_le {s : ByteArray} {i : Nat} {t : ByteArray} {j : Nat} (h : pText s i = some (t, j)) : j ≤ s.size ∧ t.size < 256 := by
  obtain ⟨h1, h2, h3⟩ := pText_yes h
  have h4 := be1_lt s i h1
  injection h3 with h3 h5
  rw [h3, h5]
  generalize be (s.extract i (i + 1)).data.toList = n at *
  exact ⟨h2, by simp; omega⟩

set_option maxHeartbeats 1000000 in
theorem entries_any (s : ByteArray) (b i : Nat) (w : World) (hs : s.size ≤ maxLen) (h : w.heap[b]? = some (rdO s i)) (hi : i ≤ s.size) :
    Calls Tryd.prog 50 #[.pointer (some ⟨b, 0, none⟩)] w fun e w' =>
      (∃ es j ao cap, pList s i = some (es, j) ∧ e = .returned (.slice ao es.length cap) ∧ w'.heap[b]? = some (rdO s j) ∧ j ≤ s.size ∧ Step b w w' ∧ w'.ownsRow w.heap.size 53 3 (.slice ao es.length cap) es.length (ecs es)) ∨
      (pList s i = none ∧ e = .panicked (fault 2) ∧ Step b w w') := by
  obtain ⟨i0, hinf, hz0, hz1, hz2⟩ := info_parts Tryd.info_ent
  have hbw : b < w.heap.size := (Array.getElem?_eq_some_iff.1 h).1
  by_cases h1 : i + 1 ≤ s.size
  · have n1 := number_yes s b i 1 w hs h h1 (by omega)
    have hlt := be1_lt s i h1
    have hpl : pList s i = pEnts s (i + 1) (be (s.extract i (i + 1)).data.toList) := by unfold pList; rw [if_pos h1]
    rw [hpl]
    generalize be (s.extract i (i + 1)).data.toList = n at *
    clear hpl
    go_enter Tryd.func50, Tryd.ntmps50
    go_wp2_with fail
    refine n1.mono ?_
    rintro e w1 ⟨rfl, g1, st1⟩
    clear n1
    have hs1 := st1.size
    go_wp2
    go_loopw [3, 6] (fun v r wr => ∃ k es j, k ≤ n ∧ r = .int .i64 (k : Nat) ∧ Hid (pEnts s (i + 1) k = some (es, j)) ∧ wr.heap[b]? = some (rdO s j) ∧ j ≤ s.size ∧ Step b w wr ∧ wr.ownsRow w.heap.size 53 3 v es.length (ecs es)) (fun _ r _ => n - (intOf r).toNat)
    case atStart => exact ⟨0, [], i + 1, Nat.zero_le _, rfl, rfl, g1, h1, st1, World.ownsRow_nil _ _ _ _⟩
    case round =>
      obtain ⟨k, es, j, hk, rfl, hP, hg, hj, hst, hown⟩ := hrel
      have hlen : es.length ≤ 255 := by rw [pEnts_length hP.out]; omega
      have hsr := hst.size
      by_cases hlt : k < n
      · rcases pEnt_cases s j with ⟨p1, pe⟩ | ⟨p1, p2, pe⟩ | ⟨p1, p2, pe⟩ | ⟨t, j', p1, p2, pe⟩
        · have HE : Hid (pEnts s (i + 1) n = none) := pEnts_stop hP.out pe n hlt
          clear hP pe hlen
          go_wp2_with fail
          refine (number_no s b j 1 _ hs hg hj p1).mono ?_
          rintro e w2 ⟨rfl, st2⟩
          exact ⟨rfl, .inr ⟨HE.out, rfl, hst.trans st2⟩⟩
        · have HE : Hid (pEnts s (i + 1) n = none) := pEnts_stop hP.out pe n hlt
          clear hP pe hlen
          go_wp2_with fail
          refine (number_yes s b j 1 _ hs hg p1 (by omega)).mono ?_
          rintro e w2 ⟨rfl, g2, st2⟩
          go_wp2_with fail
          refine (number_no s b (j + 1) 3 _ hs g2 p1 p2).mono ?_
          rintro e w3 ⟨rfl, st3⟩
          exact ⟨rfl, .inr ⟨HE.out, rfl, (hst.trans st2).trans st3⟩⟩
        · have HE : Hid (pEnts s (i + 1) n = none) := pEnts_stop hP.out pe n hlt
          clear hP pe hlen
          go_wp2_with fail
          refine (number_yes s b j 1 _ hs hg (by omega) (by omega)).mono ?_
          rintro e w2 ⟨rfl, g2, st2⟩
          go_wp2_with fail
          refine (number_yes s b (j + 1) 3 _ hs g2 p1 (by omega)).mono ?_
          rintro e w3 ⟨rfl, g3, st3⟩
          go_wp2_with fail
          refine (text_no s b (j + 1 + 3) _ hs g3 p1 p2).mono ?_
          rintro e w4 ⟨rfl, st4⟩
          exact ⟨rfl, .inr ⟨HE.out, rfl, ((hst.trans st2).trans st3).trans st4⟩⟩
        · have HE : Hid (pEnts s (i + 1) (k + 1) = some (es ++ [⟨(be (s.extract j (j + 1)).data.toList : Nat), (be (s.extract (j + 1) (j + 1 + 3)).data.toList : Nat), t⟩], j')) := pEnts_step hP.out pe
          have n1 := number_yes s b j 1 wr hs hg (by omega) (by omega)
          have n2 := fun w2 g2 => number_yes s b (j + 1) 3 w2 hs g2 p1 (by omega)
          have hj' := (pText_le p2).1
          generalize be (s.extract j (j + 1)).data.toList = x1 at *
          generalize be (s.extract (j + 1) (j + 1 + 3)).data.toList = x2 at *
          clear hP pe
          go_wp2_with fail
          refine n1.mono ?_
          rintro e w2 ⟨rfl, g2, st2⟩
          clear n1
          go_wp2_with fail
          refine (n2 _ g2).mono ?_
          rintro e w3 ⟨rfl, g3, st3⟩
          clear n2
          go_wp2_with fail
          refine (text_yes s b (j + 1 + 3) t j' _ hs g3 p2).mono ?_
          rintro e w4 ⟨rfl, g4, st4⟩
          have o4 := owns_step (owns_step (owns_step hown st2 hbw) st3 hbw) st4 hbw
          have st5 := ((hst.trans st2).trans st3).trans st4
          have hs5 := st5.size
          clear st2 st3 st4 g2 g3 hown hst hg p2
          go_wp2_with (at_builtin; refine wpList_append_own _ rfl _ _ 22 rfl w.heap.size 53 i0 (.agg #[.int .i64 0, .int .i64 0, .string ⟨#[]⟩]) 3 32 Tryd.underlying22 hinf hz0 hz1 hz2 rfl (by decide) u3 es.length (ecs es) rfl (o4.alloc _) ⟨w4.heap.size, 0, none⟩ 1 1 [.int .i64 x1, .int .i64 x2, .string t] rfl rfl ?ca ?cb (by unfold maxLen; omega) (by omega) (by simp; omega) ?_)
          case ca => exact cells_new _ _ _ _ rfl
          case cb => intro u hu; simp at hu; rcases hu with rfl | rfl | rfl <;> rfl
          intro v5 w5 hown5 hg5 _
          have o5 : w5.ownsRow w.heap.size 53 3 v5 (es ++ [(⟨(x1 : Int), (x2 : Int), t⟩ : Ent)]).length (ecs (es ++ [(⟨(x1 : Int), (x2 : Int), t⟩ : Ent)])) := by rw [ecs_snoc, List.length_append]; exact hown5
          have st6 := step_grown (st5.alloc _) hg5 (o4.alloc _) (Nat.le_refl _)
          have g6 := (grown_at hg5 (o4.alloc _) hbw (by simp; omega)).trans (rd_alloc g4 _)
          clear hown5 hg5 o4 st5 g4
          go_wp2
          go_roundw
          case rel => exact ⟨k + 1, _, j', by omega, by go_num, HE, g6, hj', st6, o5⟩
          case measure => simp [intOf]; omega
      · have hkn : k = n := by omega
        subst hkn
        go_wp2
        go_ret
        obtain ⟨ao, cp, hv⟩ := owns_shape hown
        rw [hv] at hown
        exact .inl ⟨es, j, ao, cp, hP.out, by rw [← hv]; rfl, hg, hj, hst, hown⟩
  · have hpl : pList s i = none := by unfold pList; rw [if_neg h1]
    go_enter Tryd.func50, Tryd.ntmps50
    go_wp2_with fail
    refine (number_no s b i 1 _ hs h hi (by omega)).mono ?_
    rintro e w1 ⟨rfl, st1⟩
    exact ⟨rfl, .inr ⟨hpl, rfl, st1⟩⟩
end Go.Proofs.YtlagmbieaicmgaaDoor
