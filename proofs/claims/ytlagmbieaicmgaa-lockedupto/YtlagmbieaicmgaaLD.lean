/- Tables of locks: the table in memory; waiting, holding, has, againstAny. -/
import Derived.Test.YtlagmbieaicmgaaLC
namespace Go.Proofs.Ytlagmbieaicmgaa
open Go.RowKit Lk

/-- A table's plain data. -/
structure T4 where
  most : Int
  held : List C
  waits : List C
  prep : List Int

/-- A table in memory: its box, and three rows of its own, apart from each other. -/
structure Tab (w : World) (a : Nat) (t : T4) (vh vw vp : Value) : Prop where
  box : w.heap[a]? = some (.cells #[.int .i64 t.most, vh, vw, vp] 68 (0, 0))
  held : Own cl 3 97 w vh t.held
  waits : Own cl 3 97 w vw t.waits
  prep : Own il 1 3 w vp t.prep
  ha : vh.ownBlock ≠ some a
  wa : vw.ownBlock ≠ some a
  pa : vp.ownBlock ≠ some a
  hw : ∀ g, vh.ownBlock = some g → vw.ownBlock ≠ some g
  hp : ∀ g, vh.ownBlock = some g → vp.ownBlock ≠ some g
  wp : ∀ g, vw.ownBlock = some g → vp.ownBlock ≠ some g

/-- The blocks of a table. -/
def Dm (a : Nat) (vh vw vp : Value) (g : Nat) : Prop := g = a ∨ vh.ownBlock = some g ∨ vw.ownBlock = some g ∨ vp.ownBlock = some g

theorem Tab.cells {w : World} {a : Nat} {t : T4} {vh vw vp : Value} (h : Tab w a t vh vw vp) : w.cell? ⟨a, 0, none⟩ = some (.int .i64 t.most) ∧ w.cell? ⟨a, 1, none⟩ = some vh ∧ w.cell? ⟨a, 2, none⟩ = some vw ∧ w.cell? ⟨a, 3, none⟩ = some vp := by
  refine ⟨?_, ?_, ?_, ?_⟩ <;> rw [cell_of_heap h.box] <;> rfl
theorem Tab.lt {w : World} {a : Nat} {t : T4} {vh vw vp : Value} (h : Tab w a t vh vw vp) : a < w.heap.size := (Array.getElem?_eq_some_iff.1 h.box).1
theorem Tab.fr {D : Nat → Prop} {w w' : World} {a : Nat} {t : T4} {vh vw vp : Value} (h : Tab w a t vh vw vp) (hf : Fr D w w') (hD : ∀ g, Dm a vh vw vp g → ¬ D g) : Tab w' a t vh vw vp :=
  ⟨by rw [hf.block a h.lt (hD a (.inl rfl))]; exact h.box, h.held.fr hf fun g e => hD g (.inr (.inl e)), h.waits.fr hf fun g e => hD g (.inr (.inr (.inl e))), h.prep.fr hf fun g e => hD g (.inr (.inr (.inr e))), h.ha, h.wa, h.pa, h.hw, h.hp, h.wp⟩
theorem Tab.below {w w' : World} {a : Nat} {t : T4} {vh vw vp : Value} (h : Tab w a t vh vw vp) (hb : Below w.heap.size w w') : Tab w' a t vh vw vp := h.fr (D := fun _ => False) (Fr.of_below hb) fun _ _ e => e
theorem Tab.dlt {w : World} {a : Nat} {t : T4} {vh vw vp : Value} (h : Tab w a t vh vw vp) {g : Nat} (hg : Dm a vh vw vp g) : g < w.heap.size := by
  rcases hg with rfl | e | e | e
  · exact h.lt
  · exact h.held.lt e
  · exact h.waits.lt e
  · exact h.prep.lt e

theorem cell_new (w : World) (cur : Array Value) (T : TypeId) (j : Nat) : (w.alloc (.cells cur T)).cell? ⟨w.heap.size, j, none⟩ = cur[j]? := cell_of_heap (heap_new _ _) j
theorem cell_new2 (w : World) (o : Obj) (cur : Array Value) (T : TypeId) (j : Nat) : ((w.alloc o).alloc (.cells cur T)).cell? ⟨w.heap.size + 1, j, none⟩ = cur[j]? := cell_of_heap (by have := heap_new (w.alloc o) (.cells cur T); simpa using this) j

theorem eg_waiting1 : ∀ args w, (callFunc 65 args).run Try.prog w = .ok (.enter 65 args) w := enters_of Try.func65 (by kernel_rfl) rfl
theorem eg_strip1 : ∀ args w, (callFunc 79 args).run Try.prog w = .ok (.enter 79 args) w := enters_of Try.func79 (by kernel_rfl) rfl
theorem eg_holding1 : ∀ args w, (callFunc 84 args).run Try.prog w = .ok (.enter 84 args) w := enters_of Try.func84 (by kernel_rfl) rfl
theorem eg_against : ∀ args w, (callFunc 67 args).run Try.prog w = .ok (.enter 67 args) w := enters_of Try.func67 (by kernel_rfl) rfl

theorem pred_waiting {w : World} {b : Nat} {tx : Int} (h : w.cell? ⟨b, 0, none⟩ = some (.int .i64 tx)) : PredC 65 #[] #[.pointer (some ⟨b, 0, none⟩)] (fun c => decide (c.tx = tx)) w :=
  fun W c hW => waiting1_any c b tx W ((hW.cell (p := ⟨b, 0, none⟩) (cell_lt h)).trans h)
theorem pred_strip {w : World} {b : Nat} {tx : Int} (h : w.cell? ⟨b, 0, none⟩ = some (.int .i64 tx)) : PredC 79 #[] #[.pointer (some ⟨b, 0, none⟩)] (fun c => decide (c.tx = tx)) w :=
  fun W c hW => strip1_any c b tx W ((hW.cell (p := ⟨b, 0, none⟩) (cell_lt h)).trans h)
theorem pred_holding {w : World} {b d : Nat} {tx key : Int} (h : w.cell? ⟨b, 0, none⟩ = some (.int .i64 tx)) (k : w.cell? ⟨d, 0, none⟩ = some (.int .i64 key)) : PredC 84 #[] #[.pointer (some ⟨b, 0, none⟩), .pointer (some ⟨d, 0, none⟩)] (fun c => decide (c.tx = tx) && decide (c.key = key)) w :=
  fun W c hW => holding1_any c b d tx key W ((hW.cell (p := ⟨b, 0, none⟩) (cell_lt h)).trans h) ((hW.cell (p := ⟨d, 0, none⟩) (cell_lt k)).trans k)
theorem pred_against (w : World) (c : C) : PredC 67 #[clV c] #[] (fun d => ag c d) w :=
  fun W d _ => against_any c d W

/-- Does a transaction wait? -/
def waitB (ws : List C) (tx : Int) : Bool := ws.any fun c => decide (c.tx = tx)
/-- Where its hold of the key stands, or -1. -/
def holdI (hs : List C) (tx key : Int) : Int := ix (fun c => decide (c.tx = tx) && decide (c.key = key)) hs
/-- Is it in the way of any of these? -/
def agAny (c : C) (l : List C) : Bool := l.any fun d => ag c d

set_option maxHeartbeats 1000000 in
theorem waiting_any (w : World) (a : Nat) (t : T4) (vh vw vp : Value) (tx : Int) (h : Tab w a t vh vw vp) (hn : t.waits.length ≤ 1000) :
    Calls Try.prog 48 #[.pointer (some ⟨a, 0, none⟩), .int .i64 tx] w fun e w' => e = .returned (.bool (waitB t.waits tx)) ∧ Below w.heap.size w w' := by
  obtain ⟨ao, cap, rfl, hr, _, _⟩ := h.waits.rd cl_len
  have b0 : ∀ o : Obj, Below w.heap.size w (w.alloc o) := fun o => (Below.refl _ _).alloc (Nat.le_refl _) o
  have h1 := fun o => (h.below (b0 o)).cells.2.2.1
  have hr1 := fun o => hr.below (b0 o)
  go_enter Try.func48, Try.ntmps48
  go_wp2_with (go_at_call 64; refine (contains_any _ _ _ _ eg_waiting1 ao cap t.waits _ (hr1 _) hn (pred_waiting (tx := tx) (by rw [cell_of_heap (heap_new _ _)]; rfl))).mono ?_; rintro e w' ⟨rfl, hb'⟩)
  go_ret
  exact ⟨rfl, (b0 _).trans (hb'.mono (b0 _).size)⟩

set_option maxHeartbeats 1000000 in
theorem holding_any (w : World) (a : Nat) (t : T4) (vh vw vp : Value) (tx key : Int) (h : Tab w a t vh vw vp) (hn : t.held.length ≤ 1000) :
    Calls Try.prog 66 #[.pointer (some ⟨a, 0, none⟩), .int .i64 tx, .int .i64 key] w fun e w' => e = .returned (.int .i64 (holdI t.held tx key)) ∧ Below w.heap.size w w' := by
  obtain ⟨ao, cap, rfl, hr, _, _⟩ := h.held.rd cl_len
  have b0 : ∀ o p : Obj, Below w.heap.size w ((w.alloc o).alloc p) := fun o p => ((Below.refl _ _).alloc (Nat.le_refl _) o).alloc (by simp) p
  have h1 := fun o p => (h.below (b0 o p)).cells.2.1
  have hr1 := fun o p => hr.below (b0 o p)
  go_enter Try.func66, Try.ntmps66
  go_wp2_with (go_at_call 83; refine (index_any _ _ _ _ eg_holding1 ao cap t.held _ (hr1 _ _) hn (pred_holding (tx := tx) (key := key) ?c1 ?c2)).mono ?_)
  case c1 => rw [World.cell?_of_block (RowKit.Below.heap_alloc _ _ _ (by simp)), cell_of_heap (heap_new _ _)]; rfl
  case c2 => rw [cell_new2]; rfl
  rintro e w' ⟨rfl, hb'⟩
  go_wp2
  go_ret
  exact ⟨rfl, (b0 _ _).trans (hb'.mono (b0 _ _).size)⟩

set_option maxHeartbeats 1000000 in
theorem againstAny_any (w : World) (c : C) (ao : Option Addr) (cap : Nat) (cs : List C) (hr : Rd cl 3 w ao cs) (hn : cs.length ≤ 1000) :
    Calls Try.prog 72 #[clV c, .slice ao cs.length cap] w fun e w' => e = .returned (.bool (agAny c cs)) ∧ Below w.heap.size w w' := by
  have b0 : ∀ o : Obj, Below w.heap.size w (w.alloc o) := fun o => (Below.refl _ _).alloc (Nat.le_refl _) o
  have hr1 := fun o => hr.below (b0 o)
  obtain ⟨x, y, z⟩ := c
  go_enter Try.func72, Try.ntmps72
  go_wp2_with (go_at_call 64; refine (contains_any _ _ _ _ eg_against ao cap cs _ (hr1 _) hn (pred_against _ ⟨x, y, z⟩)).mono ?_; rintro e w' ⟨rfl, hb'⟩)
  go_ret
  exact ⟨rfl, (b0 _).trans (hb'.mono (b0 _).size)⟩

/-- Is what is asked for held, to write or as it is asked for? -/
def hasB (hs : List C) (ask : C) : Bool := match hs.find? fun c => decide (c.tx = ask.tx) && decide (c.key = ask.key) with
  | some h => h.wr || !ask.wr
  | none => false
theorem find_miss {α : Type} {p : α → Bool} {cs : List α} (h : ∀ x ∈ cs, p x = false) : cs.find? p = none := List.find?_eq_none.2 fun x hx => by rw [h x hx]; simp
theorem find_hit {α : Type} {p : α → Bool} {cs : List α} {k : Nat} (hk : k < cs.length) (h1 : p cs[k] = true) (h0 : ∀ j (h : j < cs.length), j < k → p cs[j] = false) : cs.find? p = some cs[k] := by
  rw [List.find?_eq_some_iff_getElem]
  exact ⟨h1, k, hk, rfl, fun j hj => by rw [h0 j (by omega) hj]; rfl⟩

set_option maxHeartbeats 1000000 in
theorem has_any (w : World) (a : Nat) (t : T4) (vh vw vp : Value) (ask : C) (h : Tab w a t vh vw vp) (hn : t.held.length ≤ 1000) :
    Calls Try.prog 49 #[.pointer (some ⟨a, 0, none⟩), clV ask] w fun e w' => e = .returned (.bool (hasB t.held ask)) ∧ Below w.heap.size w w' := by
  have b0 : ∀ o : Obj, Below w.heap.size w (w.alloc o) := fun o => (Below.refl _ _).alloc (Nat.le_refl _) o
  have h1 := fun o => h.below (b0 o)
  obtain ⟨x, y, z⟩ := ask
  have hI := holding_any (w.alloc (.cells #[.int .i64 x, .int .i64 y, .bool z] 97)) a t vh vw vp x y (h1 _) hn
  have hc := fun j => cell_new w #[.int .i64 x, .int .i64 y, .bool z] 97 j
  have hlt : w.heap.size < (w.alloc (.cells #[.int .i64 x, .int .i64 y, .bool z] 97)).heap.size := by simp
  unfold hasB
  rcases ix_spec (fun c : C => decide (c.tx = x) && decide (c.key = y)) t.held with ⟨e1, hall⟩ | ⟨k, hk, e1, ht, hall⟩
  · rw [find_miss hall]
    rw [show holdI t.held x y = -1 from e1] at hI
    clear e1 hall h1 h
    go_enter Try.func49, Try.ntmps49
    go_wp2_with (go_at_call 66; refine hI.mono ?_; rintro e w' ⟨rfl, hb'⟩)
    go_ret
    exact ⟨rfl, (b0 _).trans (hb'.mono (b0 _).size)⟩
  · rw [find_hit hk ht hall]
    rw [show holdI t.held x y = k from e1] at hI
    clear e1 hall ht
    obtain ⟨ao, cap, rfl, hr, hlc, _⟩ := h.held.rd cl_len
    obtain ⟨b, off, rfl, hb, hra⟩ := hr.resolve_left (by intro e; rw [e] at hk; simp at hk)
    have q2 : ∀ w', Below w.heap.size w w' → w'.cell? ⟨b, off + k * 3 + 2, none⟩ = some (.bool t.held[k].wr) := fun w' hw' => (hra.block (hw'.block b hb)) k hk 2 _ rfl
    have qa : ∀ w', Below w.heap.size w w' → w'.cell? ⟨a, 1, none⟩ = some (.slice (some ⟨b, off, none⟩) t.held.length cap) := fun w' hw' => (h.below hw').cells.2.1
    clear hra h h1
    have hklt : (k : Int) < (t.held.length : Int) := by omega
    generalize hu : t.held[k].wr = u at *
    go_enter Try.func49, Try.ntmps49
    go_wp2_with (go_at_call 66; refine hI.mono ?_)
    rintro e w' ⟨rfl, hb'⟩
    have hB := (b0 (.cells #[.int .i64 x, .int .i64 y, .bool z] 97)).trans (hb'.mono (b0 _).size)
    have p1 := q2 _ hB
    have p2 := qa _ hB
    have p3 : w'.cell? ⟨w.heap.size, 2, none⟩ = some (.bool z) := ((hb'.cell (p := ⟨w.heap.size, 2, none⟩) hlt).trans (hc 2)).trans rfl
    clear q2 qa
    cases u
    · go_wp2
      go_ret
      exact ⟨by rw [hu]; rfl, hB⟩
    · go_wp2
      go_ret
      exact ⟨by rw [hu]; rfl, hB⟩
end Go.Proofs.Ytlagmbieaicmgaa
