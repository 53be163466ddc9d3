/- The ledger of what a table's answers tell: its data, its memory; busy, held, apart. -/
import Derived.Test.YtlagmbieaicmgaaLW
namespace Go.Proofs.Ytlagmbieaicmgaa
open Go.RowKit Lk Go.Shelf

structure L4 where
  tx : Int
  key : Int
  wr : Bool
  wt : Bool
  deriving DecidableEq, Inhabited
def ll (l : L4) : List Value := [.int .i64 l.tx, .int .i64 l.key, .bool l.wr, .bool l.wt]
theorem ll_len (l : L4) : (ll l).length = 4 := rfl
theorem el_lock : El ll 4 24 49 88 := El.mk' (z := .agg #[.int .i64 0, .int .i64 0, .bool false, .bool false]) ll_len (by intro x v hv; simp [ll] at hv; rcases hv with rfl | rfl | rfl | rfl <;> rfl) (by decide) (by decide) Try.underlying49 (by kernel_rfl) rfl

section
variable {α : Type} {enc : α → List Value} {k bytes : Nat} {S T : TypeId}
theorem app_big (E : El enc k bytes S T) (w : World) {ops : Array Oper} {rest : List Oper} {o : Oper} {a : Act} {Q : Exit → Act → World → Prop} (hgd : o.guard = none) (s x : Operand)
    (ho : o.op = .call { callee := .builtin .append, args := #[s, x], argTypes := #[S, S] }) (v : Value) (xs : List α) (hs : a.eval s = v) (hown : Own enc k T w v xs) (B : Nat) (x0 : α) (cs : Array Value) (t : TypeId) (hx : a.eval x = .slice (some ⟨B, 0, none⟩) 1 1)
    (hb : w.heap[B]? = some (.cells cs t (0, 0))) (hc : cs.toList = enc x0) (hl : xs.length ≤ 4398046511104) (hby : bytes ≤ 24)
    (h : ∀ g cap w', Own enc k T w' (.slice (some ⟨g, 0, none⟩) (xs.length + 1) cap) (xs ++ [x0]) → Fr (fun b => v.ownBlock = some b) w w' → (v.ownBlock = some g ∨ w.heap.size ≤ g) → g < w'.heap.size → wpList Try.prog ops Q rest (a.put o.dst (.slice (some ⟨g, 0, none⟩) (xs.length + 1) cap)) w') :
    wpList Try.prog ops Q (o :: rest) a w := by
  obtain ⟨i, z, h1, h2, h3, h4, h5⟩ := E.info
  refine wpList_append_lies w hgd s x S ho 0 T i z k bytes E.under h1 h2 h3 h4 h5 E.pos v xs.length (Lk.fl enc xs) hs hown ⟨B, 0, none⟩ 1 1 (enc x0) hx (by rw [E.len]; omega) (by rw [← hc]; exact news_at hb) (E.ones x0) (by omega) (by unfold maxLen; omega) ?_ (Nat.zero_le _) w.heap.size rfl ?_
  · have := Nat.mul_le_mul (show xs.length + 1 ≤ 4398046511105 by omega) hby; omega
  · intro g cap w' g1 g2 g3 g4
    refine h g cap w' ?_ (Fr.of_grown g2) (g3.imp id fun e => by rw [e]; exact Nat.le_refl _) g4
    unfold Own
    rw [fl_append, fl_one, List.length_append, List.length_singleton]
    exact g1
theorem app_stepb (E : El enc k bytes S T) (w : World) {ops : Array Oper} {o : Oper} {a : Act} {K : Act → World → Prop} {Q : Exit → Act → World → Prop} {P : Prop} (hgd : o.guard = none) (s x : Operand)
    (ho : o.op = .call { callee := .builtin .append, args := #[s, x], argTypes := #[S, S] }) (v : Value) (xs : List α) (hs : a.eval s = v) (hown : Own enc k T w v xs) (B : Nat) (x0 : α) (cs : Array Value) (t : TypeId) (hx : a.eval x = .slice (some ⟨B, 0, none⟩) 1 1)
    (hb : w.heap[B]? = some (.cells cs t (0, 0))) (hc : cs.toList = enc x0) (hl : xs.length ≤ 4398046511104) (hby : bytes ≤ 24)
    (h : ∀ g cap w', Own enc k T w' (.slice (some ⟨g, 0, none⟩) (xs.length + 1) cap) (xs ++ [x0]) → Fr (fun b => v.ownBlock = some b) w w' → (v.ownBlock = some g ∨ w.heap.size ≤ g) → g < w'.heap.size → K (a.put o.dst (.slice (some ⟨g, 0, none⟩) (xs.length + 1) cap)) w') :
    if Region.wanted o (yielded ops a.tmps) = true then Oper.wp Try.prog o a w K Q else P := by
  obtain ⟨i, z, h1, h2, h3, h4, h5⟩ := E.info
  refine step_append_lies w hgd s x S ho 0 T i z k bytes E.under h1 h2 h3 h4 h5 E.pos v xs.length (Lk.fl enc xs) hs hown ⟨B, 0, none⟩ 1 1 (enc x0) hx (by rw [E.len]; omega) (by rw [← hc]; exact news_at hb) (E.ones x0) (by omega) (by unfold maxLen; omega) ?_ (Nat.zero_le _) w.heap.size rfl ?_
  · have := Nat.mul_le_mul (show xs.length + 1 ≤ 4398046511105 by omega) hby; omega
  · intro g cap w' g1 g2 g3 g4
    refine h g cap w' ?_ (Fr.of_grown g2) (g3.imp id fun e => by rw [e]; exact Nat.le_refl _) g4
    unfold Own
    rw [fl_append, fl_one, List.length_append, List.length_singleton]
    exact g1
end

/-- A ledger in memory. -/
structure Led (w : World) (d : Nat) (L : List L4) (F : List Int) (vl vf : Value) : Prop where
  box : w.heap[d]? = some (.cells #[vl, vf] 51 (0, 0))
  l : Own ll 4 88 w vl L
  f : Own il 1 3 w vf F
  ld : vl.ownBlock ≠ some d
  fd : vf.ownBlock ≠ some d
  lf : ∀ g, vl.ownBlock = some g → vf.ownBlock ≠ some g
def Dl4 (d : Nat) (vl vf : Value) (g : Nat) : Prop := g = d ∨ vl.ownBlock = some g ∨ vf.ownBlock = some g
theorem Led.cells {w : World} {d : Nat} {L : List L4} {F : List Int} {vl vf : Value} (h : Led w d L F vl vf) : w.cell? ⟨d, 0, none⟩ = some vl ∧ w.cell? ⟨d, 1, none⟩ = some vf := by
  refine ⟨?_, ?_⟩ <;> rw [cell_of_heap h.box] <;> rfl
theorem Led.lt {w : World} {d : Nat} {L : List L4} {F : List Int} {vl vf : Value} (h : Led w d L F vl vf) : d < w.heap.size := (Array.getElem?_eq_some_iff.1 h.box).1
theorem Led.fr {D : Nat → Prop} {w w' : World} {d : Nat} {L : List L4} {F : List Int} {vl vf : Value} (h : Led w d L F vl vf) (hf : Fr D w w') (hD : ∀ g, Dl4 d vl vf g → ¬ D g) : Led w' d L F vl vf :=
  ⟨by rw [hf.block d h.lt (hD d (.inl rfl))]; exact h.box, h.l.fr hf fun g e => hD g (.inr (.inl e)), h.f.fr hf fun g e => hD g (.inr (.inr e)), h.ld, h.fd, h.lf⟩
theorem Led.below {w w' : World} {d : Nat} {L : List L4} {F : List Int} {vl vf : Value} (h : Led w d L F vl vf) (hb : Below w.heap.size w w') : Led w' d L F vl vf := h.fr (D := fun _ => False) (Fr.of_below hb) fun _ _ e => e
theorem Led.dlt {w : World} {d : Nat} {L : List L4} {F : List Int} {vl vf : Value} (h : Led w d L F vl vf) {g : Nat} (hg : Dl4 d vl vf g) : g < w.heap.size := by
  rcases hg with rfl | e | e
  · exact h.lt
  · exact h.l.lt e
  · exact h.f.lt e

def firmB (F : List Int) (tx : Int) : Bool := F.contains tx
def busyB (L : List L4) (tx : Int) : Bool := L.any fun l => decide (l.tx = tx) && l.wt

theorem any_hit {α : Type} {p : α → Bool} {l : List α} {k : Nat} (hk : k < l.length) (h : p l[k] = true) : l.any p = true := List.any_eq_true.2 ⟨l[k], List.getElem_mem hk, h⟩
theorem any_miss {α : Type} {p : α → Bool} {l : List α} (h : ∀ j (hj : j < l.length), p l[j] = false) : l.any p = false := by
  rw [List.any_eq_false]
  intro x hx
  obtain ⟨j, hj, rfl⟩ := List.getElem_of_mem hx
  rw [h j hj]; simp

set_option maxHeartbeats 2000000 in
theorem busy_any (w : World) (d : Nat) (L : List L4) (F : List Int) (vl vf : Value) (tx : Int) (h : Led w d L F vl vf) (hn : L.length ≤ 4398046511104) :
    Calls Try.prog 14 #[.pointer (some ⟨d, 0, none⟩), .int .i64 tx] w fun e w' => e = .returned (.bool (busyB L tx)) ∧ Below w.heap.size w w' := by
  obtain ⟨ao, cap, hv, hr, _, _⟩ := h.l.rd ll_len
  have c0 := h.cells.1
  rw [hv] at c0
  clear h hv
  go_enter Try.func14, Try.ntmps14
  go_wp2
  go_loopw [5] (fun i wr => ∃ k : Nat, k ≤ L.length ∧ i = .int .i64 k ∧ Hid (wr = w) ∧ Hid (∀ j (hj : j < L.length), j < k → (decide (L[j].tx = tx) && L[j].wt) = false)) (fun i _ => L.length - (intOf i).toNat)
  case atStart => exact ⟨0, Nat.zero_le _, rfl, rfl, fun j _ h => absurd h (Nat.not_lt_zero _)⟩
  case round =>
    obtain ⟨k, hk, rfl, HWR, A⟩ := hrel
    have hwr : wr = w := HWR.out
    clear HWR
    subst wr
    by_cases hlt : k < L.length
    · obtain ⟨b, off, rfl, hb, hc⟩ := hr.resolve_left (by intro e; rw [e] at hlt; simp at hlt)
      have q0 := hc k hlt 0 _ rfl
      have q3 := hc k hlt 3 _ rfl
      rw [Nat.add_zero] at q0
      have hki : (k : Int) < (L.length : Int) := by omega
      have HK : Hid (∀ b, (decide (L[k].tx = tx) && L[k].wt) = b → (b = true → busyB L tx = true) ∧ (b = false → ∀ j (hj : j < L.length), j < k + 1 → (decide (L[j].tx = tx) && L[j].wt) = false)) := fun b hb => ⟨fun e => any_hit hlt (by rw [hb, e]), fun e j hj hjk => by
        by_cases ej : j = k
        · subst ej; rw [hb, e]
        · exact A.out j hj (by omega)⟩
      clear hc
      generalize L[k].tx = x at *
      generalize L[k].wt = z at *
      by_cases hx : x = tx
      · cases z
        · go_wp2
          go_roundw
          case rel => exact ⟨k + 1, by omega, by go_num, by first | exact True.intro | rfl, (HK.out _ rfl).2 (by simp)⟩
          case measure => simp [intOf]; omega
        · go_wp2
          go_ret
          exact ⟨by rw [(HK.out _ rfl).1 (by simp [hx])]; rfl, Below.refl _ _⟩
      · go_wp2
        go_roundw
        case rel => exact ⟨k + 1, by omega, by go_num, by first | exact True.intro | rfl, (HK.out _ rfl).2 (by simp [hx])⟩
        case measure => simp [intOf]; omega
    · have hki : ¬ (k : Int) < (L.length : Int) := by omega
      have HZ : Hid (busyB L tx = false) := any_miss fun j hj => A.out j hj (by omega)
      go_wp2
      go_ret
      exact ⟨by rw [HZ.out]; rfl, Below.refl _ _⟩

set_option maxHeartbeats 2000000 in
theorem held_any (w : World) (d : Nat) (L : List L4) (F : List Int) (vl vf : Value) (tx : Int) (h : Led w d L F vl vf) (hn : F.length ≤ 4398046511104) :
    Calls Try.prog 36 #[.pointer (some ⟨d, 0, none⟩), .int .i64 tx] w fun e w' => e = .returned (.bool (firmB F tx)) ∧ Below w.heap.size w w' := by
  obtain ⟨ao, cap, hv, hr, _, _⟩ := h.f.rd il_len
  have c0 := h.cells.2
  rw [hv] at c0
  clear h hv
  go_enter Try.func36, Try.ntmps36
  go_wp2
  go_loopw [5] (fun i wr => ∃ k : Nat, k ≤ F.length ∧ i = .int .i64 k ∧ Hid (wr = w) ∧ Hid (∀ j (hj : j < F.length), j < k → F[j] ≠ tx)) (fun i _ => F.length - (intOf i).toNat)
  case atStart => exact ⟨0, Nat.zero_le _, rfl, rfl, fun j _ h => absurd h (Nat.not_lt_zero _)⟩
  case round =>
    obtain ⟨k, hk, rfl, HWR, A⟩ := hrel
    have hwr : wr = w := HWR.out
    clear HWR
    subst wr
    by_cases hlt : k < F.length
    · obtain ⟨b, off, rfl, hb, hc⟩ := hr.resolve_left (by intro e; rw [e] at hlt; simp at hlt)
      have q0 := hc k hlt 0 _ rfl
      rw [Nat.mul_one, Nat.add_zero] at q0
      have hki : (k : Int) < (F.length : Int) := by omega
      have HK : Hid ((F[k] = tx → firmB F tx = true) ∧ (F[k] ≠ tx → ∀ j (hj : j < F.length), j < k + 1 → F[j] ≠ tx)) := ⟨fun e => by unfold firmB; rw [← e]; simp, fun e j hj hjk => by
        by_cases ej : j = k
        · subst ej; exact e
        · exact A.out j hj (by omega)⟩
      clear hc
      generalize F[k] = x at *
      by_cases hx : x = tx
      · go_wp2
        go_ret
        exact ⟨by rw [HK.out.1 hx]; rfl, Below.refl _ _⟩
      · go_wp2
        go_roundw
        case rel => exact ⟨k + 1, by omega, by go_num, by first | exact True.intro | rfl, HK.out.2 hx⟩
        case measure => simp [intOf]; omega
    · have hki : ¬ (k : Int) < (F.length : Int) := by omega
      have HZ : Hid (firmB F tx = false) := by
        show _ = _
        unfold firmB
        rw [Bool.eq_false_iff]
        intro e
        have : tx ∈ F := by simpa using e
        obtain ⟨j, hj, e⟩ := List.getElem_of_mem this
        exact A.out j hj (by omega) e
      go_wp2
      go_ret
      exact ⟨by rw [HZ.out]; rfl, Below.refl _ _⟩
end Go.Proofs.Ytlagmbieaicmgaa
