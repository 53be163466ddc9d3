/- Lists that their owner has written his mark into: appends to them keep all that bears the mark. -/
import Derived.Test.YtlagmbieaicmgaaQL
import Derived.ArgAppend
namespace Go.Proofs.Ytlagmbieaicmgaa
open Go.RowKit Go.Shelf Lk

/-- A slice's head. -/
structure Sl where
  ao : Option Addr
  n : Nat
  cap : Nat
  deriving Inhabited
def sl (s : Sl) : List Value := [.slice s.ao s.n s.cap]
theorem sl_len (s : Sl) : (sl s).length = 1 := rfl
theorem sl_ones (x : Sl) (v : Value) (hv : v ∈ sl x) : v.oneCell' = true := by simp [sl] at hv; rw [hv]; rfl
theorem el_ints : El sl 1 24 24 42 := El.mk' (z := .slice none 0 0) sl_len sl_ones (by decide) (by decide) Try.underlying24 (by kernel_rfl) rfl
theorem el_grants : El sl 1 24 25 43 := El.mk' (z := .slice none 0 0) sl_len sl_ones (by decide) (by decide) Try.underlying25 (by kernel_rfl) rfl
theorem el_waits : El sl 1 24 26 59 := El.mk' (z := .slice none 0 0) sl_len sl_ones (by decide) (by decide) Try.underlying26 (by kernel_rfl) rfl

section
variable {α : Type} {enc : α → List Value} {k bytes : Nat} {S T : TypeId}

/-- Several appended at once. -/
theorem app_many (E : El enc k bytes S T) (w : World) {ops : Array Oper} {rest : List Oper} {o : Oper} {a : Act} {Q : Exit → Act → World → Prop} (hgd : o.guard = none) (s x : Operand)
    (ho : o.op = .call { callee := .builtin .append, args := #[s, x], argTypes := #[S, S] }) (v : Value) (xs : List α) (hs : a.eval s = v) (hown : Own enc k T w v xs) (B : Nat) (ys : List α) (m c : Nat) (hm : ys.length = m) (cs : Array Value) (t : TypeId) (hx : a.eval x = .slice (some ⟨B, 0, none⟩) m c)
    (hb : w.heap[B]? = some (.cells cs t (0, 0))) (hc : cs.toList = Lk.fl enc ys) (hm0 : 0 < m) (hm4 : m ≤ 4) (hl : xs.length ≤ 1000000000000)
    (h : ∀ g cap w', Own enc k T w' (.slice (some ⟨g, 0, none⟩) (xs.length + m) cap) (xs ++ ys) → Fr (fun b => v.ownBlock = some b) w w' → (v.ownBlock = some g ∨ w.heap.size ≤ g) → g < w'.heap.size → wpList Try.prog ops Q rest (a.put o.dst (.slice (some ⟨g, 0, none⟩) (xs.length + m) cap)) w') :
    wpList Try.prog ops Q (o :: rest) a w := by
  subst hm
  obtain ⟨i, z, h1, h2, h3, h4, h5⟩ := E.info
  refine wpList_append_lies w hgd s x S ho 0 T i z k bytes E.under h1 h2 h3 h4 h5 E.pos v xs.length (Lk.fl enc xs) hs hown ⟨B, 0, none⟩ ys.length c (Lk.fl enc ys) hx (fl_length E.len ys) (by rw [← hc]; exact news_at hb) (fl_ones E.ones ys) (by omega) (by unfold maxLen; omega) ?_ (Nat.zero_le _) w.heap.size rfl ?_
  · have := Nat.mul_le_mul (show xs.length + ys.length ≤ 1000000000004 by omega) E.small; omega
  · intro g cap w' g1 g2 g3 g4
    refine h g cap w' ?_ (Fr.of_grown g2) (g3.imp id fun e => by rw [e]; exact Nat.le_refl _) g4
    unfold Own
    rw [fl_append, List.length_append]
    exact g1

/-- The first n records of a block bear the mark. -/
def At (enc : α → List Value) (k : Nat) (w : World) (g n : Nat) (x : α) : Prop := ∀ j, j < n * k → w.cell? ⟨g, j, none⟩ = (enc x)[j % k]?
theorem At.zero {w : World} {g : Nat} {x : α} : At enc k w g 0 x := fun j hj => by omega
theorem At.mono {w : World} {g n m : Nat} {x : α} (h : At enc k w g n x) (hm : m ≤ n) : At enc k w g m x := fun j hj => h j (Nat.lt_of_lt_of_le hj (Nat.mul_le_mul_right k hm))
theorem At.block {w w' : World} {g n : Nat} {x : α} (h : At enc k w g n x) (hb : w'.heap[g]? = w.heap[g]?) : At enc k w' g n x := fun j hj => (World.cell?_of_block (a := ⟨g, j, none⟩) hb).trans (h j hj)
theorem At.lt {w : World} {g n : Nat} {x : α} (hk : ∀ y, (enc y).length = k) (hk0 : 0 < k) (h : At enc k w g n x) (hn : n ≠ 0) : g < w.heap.size := by
  have hp : 0 < n * k := Nat.mul_pos (Nat.pos_of_ne_zero hn) hk0
  have h0 := h 0 hp
  rw [Nat.zero_mod, List.getElem?_eq_getElem (by rw [hk]; exact hk0)] at h0
  exact cell_lt h0
def pat (enc : α → List Value) (x : α) (n : Nat) : List Value := Lk.fl enc (List.replicate n x)
theorem pat_len (hk : ∀ y, (enc y).length = k) (x : α) (n : Nat) : (pat enc x n).length = n * k := by unfold pat; rw [fl_length hk, List.length_replicate]
theorem pat_at (hk : ∀ y, (enc y).length = k) (hk0 : 0 < k) (x : α) (n j : Nat) (hj : j < n * k) : (pat enc x n)[j]? = (enc x)[j % k]? := by
  have hi : j / k < n := Nat.div_lt_of_lt_mul (by rwa [Nat.mul_comm])
  have hr := Nat.mod_lt j hk0
  have e : j / k * k + j % k = j := by rw [Nat.mul_comm]; exact Nat.div_add_mod j k
  have := fl_at hk (List.replicate n x) (j / k) (by rw [List.length_replicate]; exact hi) (j % k) hr
  rw [e, List.getElem_replicate] at this
  exact this
theorem pat_append (x : α) (n m : Nat) : pat enc x n ++ pat enc x m = pat enc x (n + m) := by unfold pat; rw [← fl_append, List.replicate_append_replicate]
theorem pat_ones (h1 : ∀ y, ∀ v ∈ enc y, v.oneCell' = true) (x : α) (n : Nat) : ∀ u ∈ pat enc x n, u.oneCell' = true := fl_ones h1 _
theorem At.ra (hk : ∀ y, (enc y).length = k) (hk0 : 0 < k) {w : World} {g n : Nat} {x : α} (h : At enc k w g n x) : Ra enc k w g 0 (List.replicate n x) := by
  refine Ra.of_fl hk fun j u hj => ?_
  have hl := (List.getElem?_eq_some_iff.1 hj).1
  rw [fl_length hk, List.length_replicate] at hl
  have := pat_at hk hk0 x n j hl
  unfold pat at this
  rw [Nat.zero_add, h j hl, ← this]; exact hj

/-- The owner's list: nil, or a block of its own, marked so far. -/
def LS (enc : α → List Value) (k : Nat) (T : TypeId) (w : World) (ao : Option Addr) (m n cap : Nat) (x : α) : Prop :=
  (ao = none ∧ n = 0 ∧ cap = 0) ∨ ∃ g, ao = some ⟨g, 0, none⟩ ∧ n ≤ cap ∧ At enc k w g m x ∧ Sh w g T (cap * k)
theorem LS.fr {D : Nat → Prop} {w w' : World} {ao : Option Addr} {m n cap : Nat} {x : α} (h : LS enc k T w ao m n cap x) (hf : Fr D w w') (hD : ∀ g, ao = some ⟨g, 0, none⟩ → ¬ D g) : LS enc k T w' ao m n cap x := by
  rcases h with h | ⟨g, h1, h2, h3, h4⟩
  · exact .inl h
  · exact .inr ⟨g, h1, h2, h3.block (hf.block g h4.lt (hD g h1)), h4.block (hf.block g h4.lt (hD g h1))⟩
theorem LS.below {w w' : World} {ao : Option Addr} {m n cap : Nat} {x : α} (h : LS enc k T w ao m n cap x) (hb : Below w.heap.size w w') : LS enc k T w' ao m n cap x := h.fr (D := fun _ => False) (Fr.of_below hb) fun _ _ e => e
theorem LS.of_own (hk : ∀ y, (enc y).length = k) {w : World} {ao : Option Addr} {n cap : Nat} {ys : List α} (x : α) (h : Own enc k T w (.slice ao n cap) ys) : ys.length = n ∧ LS enc k T w ao 0 n cap x := by
  rcases h.cases hk with ⟨h1, h2⟩ | ⟨g, cp, hv, r⟩
  · injection h1 with h1 h3 h4
    subst h2 h3
    exact ⟨rfl, .inl ⟨h1, rfl, h4⟩⟩
  · injection hv with h1 h3 h4
    subst h4
    exact ⟨h3.symm, .inr ⟨g, h1, by rw [h3]; exact r.len, At.zero, r.sh⟩⟩

/-- What bears the mark, in a block of K. -/
def Mk (enc : α → List Value) (k : Nat) (w : World) (K : Nat → Prop) (s : Sl) (x : α) : Prop := s.n ≤ 1000000 ∧ (s.n = 0 ∨ ∃ g, s.ao = some ⟨g, 0, none⟩ ∧ K g ∧ At enc k w g s.n x)
theorem Mk.imp {w : World} {K K' : Nat → Prop} {s : Sl} {x : α} (h : Mk enc k w K s x) (hK : ∀ g, K g → K' g) : Mk enc k w K' s x := ⟨h.1, h.2.imp id fun ⟨g, h1, h2, h3⟩ => ⟨g, h1, hK g h2, h3⟩⟩
theorem Mk.fr (hk : ∀ y, (enc y).length = k) (hk0 : 0 < k) {D : Nat → Prop} {w w' : World} {K : Nat → Prop} {s : Sl} {x : α} (h : Mk enc k w K s x) (hf : Fr D w w') (hD : ∀ g, K g → ¬ D g) : Mk enc k w' K s x := by
  refine ⟨h.1, ?_⟩
  rcases h.2 with h | ⟨g, h1, h2, h3⟩
  · exact .inl h
  · by_cases hn : s.n = 0
    · exact .inl hn
    · exact .inr ⟨g, h1, h2, h3.block (hf.block g (h3.lt hk hk0 hn) (hD g h2))⟩
/-- All that bears the mark still does. -/
def Keeps (enc : α → List Value) (k : Nat) (w w' : World) (x : α) : Prop := ∀ g n, At enc k w g n x → At enc k w' g n x
theorem Keeps.trans {u v w : World} {x : α} (h : Keeps enc k u v x) (h' : Keeps enc k v w x) : Keeps enc k u w x := fun g n hA => h' g n (h g n hA)
theorem Keeps.of_below (hk : ∀ y, (enc y).length = k) (hk0 : 0 < k) {w w' : World} {x : α} (h : Below w.heap.size w w') : Keeps enc k w w' x := fun g n hA => by
  by_cases hn : n = 0
  · subst hn; exact At.zero
  · exact hA.block (h.block g (hA.lt hk hk0 hn))
theorem Mk.keeps {w w' : World} {K : Nat → Prop} {s : Sl} {x : α} (h : Mk enc k w K s x) (hK : Keeps enc k w w' x) : Mk enc k w' K s x := ⟨h.1, h.2.imp id fun ⟨g, h1, h2, h3⟩ => ⟨g, h1, h2, hK g _ h3⟩⟩

/-- One to three marks appended to a list that is marked. -/
theorem append_m (E : El enc k bytes S T) (w : World) {ops : Array Oper} {rest : List Oper} {o : Oper} {a : Act} {Q : Exit → Act → World → Prop}
    (hgd : o.guard = none) (s x : Operand) (hop : o.op = Op.call { callee := Callee.builtin Builtin.append, args := #[s, x], argTypes := #[S, S] })
    (ao : Option Addr) (n cap : Nat) (x0 : α) (hs : a.eval s = .slice ao n cap) (hL : LS enc k T w ao n n cap x0)
    (B m c : Nat) (cs : Array Value) (t : TypeId) (hx : a.eval x = .slice (some ⟨B, 0, none⟩) m c) (hb : w.heap[B]? = some (.cells cs t (0, 0))) (hc : cs.toList = pat enc x0 m) (hn : n ≤ 999000) (hm : 0 < m) (hm3 : m ≤ 3)
    (h : ∀ (s' : Sl) (w' : World), Mk enc k w' (fun g => ao = some ⟨g, 0, none⟩ ∨ w.heap.size ≤ g) s' x0 → Keeps enc k w w' x0 → LS enc k T w' ao n n cap x0 → Fr (fun g => ao = some ⟨g, 0, none⟩) w w' → wpList Try.prog ops Q rest (a.put o.dst (.slice s'.ao s'.n s'.cap)) w') : wpList Try.prog ops Q (o :: rest) a w := by
  obtain ⟨i0, z0, hinf, hz0, hz1, hz2, hz3⟩ := E.info
  have hbd : (n + m) * bytes ≤ 140737488355328 := by
    have := Nat.mul_le_mul (show n + m ≤ 1000000 by omega) E.small
    omega
  have hcw : ∀ j u, (pat enc x0 m)[j]? = some u → w.cell? ((⟨B, 0, none⟩ : Addr).add j) = some u := by rw [← hc]; exact news_at hb
  have grow : ∀ v' w', w'.ownsRow w.heap.size T k v' (n + m) (pat enc x0 n ++ pat enc x0 m) → w.grownBy w' none → wpList Try.prog ops Q rest (a.put o.dst v') w' := by
    intro v' w' ho hg
    have hb : Below w.heap.size w w' := ⟨hg.os, hg.tape, hg.output, hg.size, fun k hk => hg.block k hk (by simp)⟩
    rw [pat_append] at ho
    rcases ho.2 with ⟨_, h2⟩ | ⟨g, cp, cur, rfl, hge, hh, _, _, _, ht⟩
    · omega
    · refine h ⟨some ⟨g, 0, none⟩, n + m, cp⟩ w' ⟨by show n + m ≤ _; omega, .inr ⟨g, rfl, .inr hge, fun j hj => ?_⟩⟩ (Keeps.of_below E.len E.pos hb) (hL.below hb) (Fr.of_below hb)
      rw [cell_of_heap hh]
      have := pat_at E.len E.pos x0 (n + m) j hj
      rw [← ht, List.getElem?_take_of_lt hj] at this
      simpa using this
  rcases hL with ⟨rfl, rfl, rfl⟩ | ⟨g, rfl, hnc, hA, hSp⟩
  · exact wpList_append_grows w hgd s x S hop T i0 z0 k bytes E.under hinf hz0 hz1 hz2 hz3 E.pos none 0 0 (pat enc x0 0) hs (fun _ => ⟨rfl, rfl⟩) (pat_len E.len x0 0) (fun b hb => by cases hb) ⟨B, 0, none⟩ m c (pat enc x0 m) hx (pat_len E.len x0 m) hcw (pat_ones E.ones x0 m) (by omega) (by unfold maxLen; omega) hbd grow
  · refine wpList_append_arg w hgd s x S hop T i0 z0 k bytes E.under hinf hz0 hz1 hz2 hz3 E.pos g 0 n cap (pat enc x0 n) hs (pat_len E.len x0 n) ?_ ⟨B, 0, none⟩ m c (pat enc x0 m) hx (pat_len E.len x0 m) hcw (pat_ones E.ones x0 m) ?_ (by unfold maxLen; omega) hbd ?_ (fun _ => grow)
    · intro j u hj
      have hl := (List.getElem?_eq_some_iff.1 hj).1
      rw [pat_len E.len] at hl
      rw [pat_at E.len E.pos x0 n j hl] at hj
      rw [Nat.zero_add, hA j hl]; exact hj
    · intro hr j hj
      rw [pat_len E.len] at hj
      rw [Nat.zero_add]
      have hq : n * k + j < cap * k := by
        have := Nat.mul_le_mul_right k hr
        rw [Nat.add_mul] at this
        omega
      exact ⟨hSp.some _ hq, hSp.free _⟩
    · intro hr
      have hq : ∀ j, j < m * k → n * k + j < cap * k := fun j hj => by
        have := Nat.mul_le_mul_right k hr
        rw [Nat.add_mul] at this
        omega
      have hsome : ∀ j, j < (pat enc x0 m).length → (w.cell? ⟨g, 0 + n * k + j, none⟩).isSome = true := by
        intro j hj
        rw [pat_len E.len] at hj
        rw [Nat.zero_add]
        exact hSp.some _ (hq j hj)
      have hin : ∀ j, j < m * k → (w.setCells g (0 + n * k) (pat enc x0 m)).cell? ⟨g, n * k + j, none⟩ = (enc x0)[(n * k + j) % k]? := by
        intro j hj
        have hjl : j < (pat enc x0 m).length := by rw [pat_len E.len]; exact hj
        have h1 := World.cell?_setCells_in g (pat enc x0 m) (0 + n * k) w hsome j hjl
        rw [Nat.zero_add] at h1 ⊢
        rw [h1, Nat.mul_comm n k, Nat.mul_add_mod_self_left]
        have h2 := pat_at E.len E.pos x0 m j hj
        rw [List.getElem?_eq_getElem hjl] at h2
        exact h2
      have hK : Keeps enc k w (w.setCells g (0 + n * k) (pat enc x0 m)) x0 := by
        intro g' q hA' j hj
        by_cases hcase : g' = g ∧ n * k ≤ j ∧ j < n * k + m * k
        · obtain ⟨rfl, h1, h2⟩ := hcase
          have := hin (j - n * k) (by omega)
          rw [show n * k + (j - n * k) = j by omega] at this
          exact this
        · rw [World.cell?_setCells_out g (pat enc x0 m) (0 + n * k) w ⟨g', j, none⟩ (fun h1 _ => by
            have h1' : g' = g := h1
            rw [pat_len E.len]
            show j < 0 + n * k ∨ 0 + n * k + m * k ≤ j
            rw [Nat.zero_add]
            omega)]
          exact hA' j hj
      have hA2 : At enc k (w.setCells g (0 + n * k) (pat enc x0 m)) g (n + m) x0 := by
        intro j hj
        rw [Nat.add_mul] at hj
        by_cases hjn : j < n * k
        · exact hK g n hA j hjn
        · have := hin (j - n * k) (by omega)
          rw [show n * k + (j - n * k) = j by omega] at this
          exact this
      refine h ⟨some ⟨g, 0, none⟩, n + m, cap⟩ _ ⟨by show n + m ≤ _; omega, .inr ⟨g, rfl, .inl rfl, hA2⟩⟩ hK (.inr ⟨g, rfl, hnc, hK g n hA, Sh.setCells _ _ _ hSp⟩) (Fr.setCells (D := fun b => some (⟨g, 0, none⟩ : Addr) = some ⟨b, 0, none⟩) (.inl rfl) _ _ _ (Fr.refl _ _))
end

set_option maxHeartbeats 2000000 in
theorem sameInts_true (w : World) (ao bo : Option Addr) (ca cb : Nat) (xs : List Int) (h1 : Rd il 1 w ao xs) (h2 : Rd il 1 w bo xs) (hn : xs.length ≤ 1000000) :
    Calls Try.prog 23 #[.slice ao xs.length ca, .slice bo xs.length cb] w fun e w' => e = .returned (.bool true) ∧ Below w.heap.size w w' := by
  have R1 : Hid (Rd il 1 w ao xs) := h1
  have R2 : Hid (Rd il 1 w bo xs) := h2
  clear h1 h2
  go_enter Try.func23, Try.ntmps23
  go_wp2
  go_loopw [5] (fun s5 wr => ∃ k : Nat, k ≤ xs.length ∧ s5 = .int .i64 k ∧ Hid (Below w.heap.size w wr)) (fun s5 _ => xs.length - (intOf s5).toNat)
  case atStart => exact ⟨0, Nat.zero_le _, rfl, Below.refl _ _⟩
  case round =>
    obtain ⟨k, hk, rfl, BW⟩ := hrel
    by_cases hlt : k < xs.length
    · obtain ⟨b1, o1, rfl, hb1, hc1⟩ := R1.out.resolve_left (by intro e; rw [e] at hlt; simp at hlt)
      obtain ⟨b2, o2, rfl, hb2, hc2⟩ := R2.out.resolve_left (by intro e; rw [e] at hlt; simp at hlt)
      have p0 := (hc1.block (BW.out.block b1 hb1)) k hlt 0 _ rfl
      have q0 := (hc2.block (BW.out.block b2 hb2)) k hlt 0 _ rfl
      rw [Nat.mul_one, Nat.add_zero] at p0 q0
      have hki : (k : Int) < (xs.length : Int) := by omega
      clear hc1 hc2
      generalize xs[k] = x at *
      go_wp2_with fail
      go_quiet (fail)
      generalize hw5 : wr.drewN _ = w5
      have B5 : Hid (Below w.heap.size w w5) := by rw [← hw5]; exact BW.out.trans ((below_dN _ _).mono BW.out.size)
      clear hw5 p0 q0
      go_wp2
      go_roundw
      case rel => exact ⟨k + 1, by omega, by go_num, B5⟩
      case measure => simp [intOf]; omega
    · have hki : ¬ (k : Int) < (xs.length : Int) := by omega
      go_wp2
      go_ret
      exact ⟨rfl, BW.out⟩

set_option maxHeartbeats 2000000 in
theorem sameGrants_true (w : World) (ao bo : Option Addr) (ca cb : Nat) (xs : List G) (h1 : Rd gl 2 w ao xs) (h2 : Rd gl 2 w bo xs) (hn : xs.length ≤ 1000000) :
    Calls Try.prog 24 #[.slice ao xs.length ca, .slice bo xs.length cb] w fun e w' => e = .returned (.bool true) ∧ Below w.heap.size w w' := by
  have R1 : Hid (Rd gl 2 w ao xs) := h1
  have R2 : Hid (Rd gl 2 w bo xs) := h2
  clear h1 h2
  go_enter Try.func24, Try.ntmps24
  go_wp2
  go_loopw [5] (fun s5 wr => ∃ k : Nat, k ≤ xs.length ∧ s5 = .int .i64 k ∧ Hid (Below w.heap.size w wr)) (fun s5 _ => xs.length - (intOf s5).toNat)
  case atStart => exact ⟨0, Nat.zero_le _, rfl, Below.refl _ _⟩
  case round =>
    obtain ⟨k, hk, rfl, BW⟩ := hrel
    by_cases hlt : k < xs.length
    · obtain ⟨b1, o1, rfl, hb1, hc1⟩ := R1.out.resolve_left (by intro e; rw [e] at hlt; simp at hlt)
      obtain ⟨b2, o2, rfl, hb2, hc2⟩ := R2.out.resolve_left (by intro e; rw [e] at hlt; simp at hlt)
      have p0 : wr.cell? ⟨b1, o1 + k * 2, none⟩ = some (.int .i64 xs[k].a) := (hc1.block (BW.out.block b1 hb1)) k hlt 0 _ rfl
      have p1 : wr.cell? ⟨b1, o1 + k * 2 + 1, none⟩ = some (.int .i64 xs[k].b) := (hc1.block (BW.out.block b1 hb1)) k hlt 1 _ rfl
      have q0 : wr.cell? ⟨b2, o2 + k * 2, none⟩ = some (.int .i64 xs[k].a) := (hc2.block (BW.out.block b2 hb2)) k hlt 0 _ rfl
      have q1 : wr.cell? ⟨b2, o2 + k * 2 + 1, none⟩ = some (.int .i64 xs[k].b) := (hc2.block (BW.out.block b2 hb2)) k hlt 1 _ rfl
      have hki : (k : Int) < (xs.length : Int) := by omega
      clear hc1 hc2
      generalize xs[k].a = x at *
      generalize xs[k].b = y at *
      go_wp2_with fail
      go_quiet (fail)
      generalize hw5 : wr.drewN _ = w5
      have B5 : Hid (Below w.heap.size w w5) := by rw [← hw5]; exact BW.out.trans ((below_dN _ _).mono BW.out.size)
      clear hw5 p0 p1 q0 q1
      go_wp2
      go_roundw
      case rel => exact ⟨k + 1, by omega, by go_num, B5⟩
      case measure => simp [intOf]; omega
    · have hki : ¬ (k : Int) < (xs.length : Int) := by omega
      go_wp2
      go_ret
      exact ⟨rfl, BW.out⟩

set_option maxHeartbeats 2000000 in
theorem sameWaits_true (w : World) (ao bo : Option Addr) (ca cb : Nat) (xs : List G) (h1 : Rd gl 2 w ao xs) (h2 : Rd gl 2 w bo xs) (hn : xs.length ≤ 1000000) :
    Calls Try.prog 30 #[.slice ao xs.length ca, .slice bo xs.length cb] w fun e w' => e = .returned (.bool true) ∧ Below w.heap.size w w' := by
  have R1 : Hid (Rd gl 2 w ao xs) := h1
  have R2 : Hid (Rd gl 2 w bo xs) := h2
  clear h1 h2
  go_enter Try.func30, Try.ntmps30
  go_wp2
  go_loopw [5] (fun s5 wr => ∃ k : Nat, k ≤ xs.length ∧ s5 = .int .i64 k ∧ Hid (Below w.heap.size w wr)) (fun s5 _ => xs.length - (intOf s5).toNat)
  case atStart => exact ⟨0, Nat.zero_le _, rfl, Below.refl _ _⟩
  case round =>
    obtain ⟨k, hk, rfl, BW⟩ := hrel
    by_cases hlt : k < xs.length
    · obtain ⟨b1, o1, rfl, hb1, hc1⟩ := R1.out.resolve_left (by intro e; rw [e] at hlt; simp at hlt)
      obtain ⟨b2, o2, rfl, hb2, hc2⟩ := R2.out.resolve_left (by intro e; rw [e] at hlt; simp at hlt)
      have p0 : wr.cell? ⟨b1, o1 + k * 2, none⟩ = some (.int .i64 xs[k].a) := (hc1.block (BW.out.block b1 hb1)) k hlt 0 _ rfl
      have p1 : wr.cell? ⟨b1, o1 + k * 2 + 1, none⟩ = some (.int .i64 xs[k].b) := (hc1.block (BW.out.block b1 hb1)) k hlt 1 _ rfl
      have q0 : wr.cell? ⟨b2, o2 + k * 2, none⟩ = some (.int .i64 xs[k].a) := (hc2.block (BW.out.block b2 hb2)) k hlt 0 _ rfl
      have q1 : wr.cell? ⟨b2, o2 + k * 2 + 1, none⟩ = some (.int .i64 xs[k].b) := (hc2.block (BW.out.block b2 hb2)) k hlt 1 _ rfl
      have hki : (k : Int) < (xs.length : Int) := by omega
      clear hc1 hc2
      generalize xs[k].a = x at *
      generalize xs[k].b = y at *
      go_wp2_with fail
      go_quiet (fail)
      generalize hw5 : wr.drewN _ = w5
      have B5 : Hid (Below w.heap.size w w5) := by rw [← hw5]; exact BW.out.trans ((below_dN _ _).mono BW.out.size)
      clear hw5 p0 p1 q0 q1
      go_wp2
      go_roundw
      case rel => exact ⟨k + 1, by omega, by go_num, B5⟩
      case measure => simp [intOf]; omega
    · have hki : ¬ (k : Int) < (xs.length : Int) := by omega
      go_wp2
      go_ret
      exact ⟨rfl, BW.out⟩
end Go.Proofs.Ytlagmbieaicmgaa
