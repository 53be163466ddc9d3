/- The book of marks: a list of numbers goes into it. -/
import Derived.Test.YtlagmbieaicmgaaQO
namespace Go.Proofs.Ytlagmbieaicmgaa
open Go.RowKit Lk Go.Shelf

theorem Bk.cells {w : World} {d : Nat} {xi xg xw : List Sl} {vi vg vw : Value} (h : Bk w d xi xg xw vi vg vw) : w.cell? ⟨d, 0, none⟩ = some vi ∧ w.cell? ⟨d, 1, none⟩ = some vg ∧ w.cell? ⟨d, 2, none⟩ = some vw := by
  refine ⟨?_, ?_, ?_⟩ <;> rw [cell_of_heap h.box] <;> rfl

/-- The four lists behind a take, and what has become of memory. -/
structure Four {α : Type} (enc : α → List Value) (k : Nat) (w w' : World) (ao : Option Addr) (n cap : Nat) (x : α) (s6 s7 s8 : Sl) : Prop where
  a : Mk enc k w' (fun g => (ao = some ⟨g, 0, none⟩ ∨ w.heap.size ≤ g) ∧ g < w'.heap.size) ⟨ao, n, cap⟩ x
  b : Mk enc k w' (fun g => (ao = some ⟨g, 0, none⟩ ∨ w.heap.size ≤ g) ∧ g < w'.heap.size) s6 x
  c : Mk enc k w' (fun g => (ao = some ⟨g, 0, none⟩ ∨ w.heap.size ≤ g) ∧ g < w'.heap.size) s7 x
  d : Mk enc k w' (fun g => (ao = some ⟨g, 0, none⟩ ∨ w.heap.size ≤ g) ∧ g < w'.heap.size) s8 x
  fr : Fr (fun g => ao = some ⟨g, 0, none⟩) w w'
theorem Four.mk' {α : Type} {enc : α → List Value} {k bytes : Nat} {S T : TypeId} (E : El enc k bytes S T) {w w1 w2 w3 w4 v1 v2 v3 : World} {ao : Option Addr} {n cap : Nat} {x : α} {s6 s7 s8 : Sl} (hn : n ≤ 1000000)
    (f1 : Fr (fun g => ao = some ⟨g, 0, none⟩) w w1) (b1 : Below w1.heap.size w1 v1) (m6 : Mk enc k w2 (fun g => ao = some ⟨g, 0, none⟩ ∨ w1.heap.size ≤ g) s6 x) (f2 : Fr (fun g => ao = some ⟨g, 0, none⟩) v1 w2)
    (b2 : Below w2.heap.size w2 v2) (m7 : Mk enc k w3 (fun g => ao = some ⟨g, 0, none⟩ ∨ w2.heap.size ≤ g) s7 x) (k2 : Keeps enc k v2 w3 x) (f3 : Fr (fun g => ao = some ⟨g, 0, none⟩) v2 w3)
    (b3 : Below w3.heap.size w3 v3) (m8 : Mk enc k w4 (fun g => ao = some ⟨g, 0, none⟩ ∨ w3.heap.size ≤ g) s8 x) (k3 : Keeps enc k v3 w4 x) (f4 : Fr (fun g => ao = some ⟨g, 0, none⟩) v3 w4) (hL : LS enc k T w4 ao n n cap x) : Four enc k w w4 ao n cap x s6 s7 s8 := by
  have z1 := f1.size
  have z2 := b1.size
  have z3 := f2.size
  have z4 := b2.size
  have z5 := f3.size
  have z6 := b3.size
  have kp2 : Keeps enc k w2 w4 x := ((Keeps.of_below E.len E.pos b2).trans k2).trans ((Keeps.of_below E.len E.pos b3).trans k3)
  have kp3 : Keeps enc k w3 w4 x := (Keeps.of_below E.len E.pos b3).trans k3
  refine ⟨((hL.mk E hn).imp fun g e => .inl e).bound E, ((m6.keeps kp2).imp fun g e => e.imp id fun q => by omega).bound E, ((m7.keeps kp3).imp fun g e => e.imp id fun q => by omega).bound E, (m8.imp fun g e => e.imp id fun q => by omega).bound E, ?_⟩
  exact (((((f1.below b1).trans f2 fun g _ e => e).below b2).trans f3 fun g _ e => e).below b3).trans f4 fun g _ e => e

theorem Bk.put0 {w4 w5 : World} {d : Nat} {xi xg xw xs : List Sl} {vi vg vw v : Value} (h : Bk w4 d xi xg xw vi vg vw) (hf : Fr (fun b => vi.ownBlock = some b) w4 w5) (ho : Own sl 1 42 w5 v xs) (hb : ∀ b, v.ownBlock = some b → vi.ownBlock = some b ∨ w4.heap.size ≤ b) :
    Bk (w5.setCell ⟨d, 0, none⟩ v) d xs xg xw v vg vw ∧ Fr (Db d vi vg vw) w4 (w5.setCell ⟨d, 0, none⟩ v) ∧ ∀ b, Db d v vg vw b → Db d vi vg vw b ∨ w4.heap.size ≤ b := by
  have f1 := fr_set w5 d 0 v
  have hbx : w5.heap[d]? = some (.cells #[vi, vg, vw, .slice none 0 0, .slice none 0 0, .int .i64 0] 30 (0, 0)) := by rw [hf.block d h.lt h.id]; exact h.box
  have nd : ∀ b, v.ownBlock = some b → b ≠ d := fun b e q => by
    subst q
    rcases hb b e with r | r
    · exact h.id r
    · have := h.lt; omega
  refine ⟨⟨?_, ho.fr f1 nd, (h.g.fr hf fun b e q => h.ig b q e).fr f1 fun b e q => h.gd (by rw [e, q]), (h.h.fr hf fun b e q => h.ih b q e).fr f1 fun b e q => h.hd (by rw [e, q]), fun e => nd d e rfl, h.gd, h.hd, fun b e q => ?_, fun b e q => ?_, h.gh⟩, (hf.mono (E := Db d vi vg vw) fun b _ e => .inr (.inl e)).trans f1 fun b _ e => .inl e, fun b e => ?_⟩
  · simp [World.setCell, Array.getElem?_modify, hbx]
  · rcases hb b e with r | r
    · exact h.ig b r q
    · have := h.g.lt q; omega
  · rcases hb b e with r | r
    · exact h.ih b r q
    · have := h.h.lt q; omega
  · rcases e with e | e | e | e
    · exact .inl (.inl e)
    · exact (hb b e).imp (fun q => .inr (.inl q)) (fun q => q)
    · exact .inl (.inr (.inr (.inl e)))
    · exact .inl (.inr (.inr (.inr e)))
theorem Bk.put1 {w4 w5 : World} {d : Nat} {xi xg xw xs : List Sl} {vi vg vw v : Value} (h : Bk w4 d xi xg xw vi vg vw) (hf : Fr (fun b => vg.ownBlock = some b) w4 w5) (ho : Own sl 1 43 w5 v xs) (hb : ∀ b, v.ownBlock = some b → vg.ownBlock = some b ∨ w4.heap.size ≤ b) :
    Bk (w5.setCell ⟨d, 1, none⟩ v) d xi xs xw vi v vw ∧ Fr (Db d vi vg vw) w4 (w5.setCell ⟨d, 1, none⟩ v) ∧ ∀ b, Db d vi v vw b → Db d vi vg vw b ∨ w4.heap.size ≤ b := by
  have f1 := fr_set w5 d 1 v
  have hbx : w5.heap[d]? = some (.cells #[vi, vg, vw, .slice none 0 0, .slice none 0 0, .int .i64 0] 30 (0, 0)) := by rw [hf.block d h.lt h.gd]; exact h.box
  have nd : ∀ b, v.ownBlock = some b → b ≠ d := fun b e q => by
    subst q
    rcases hb b e with r | r
    · exact h.gd r
    · have := h.lt; omega
  refine ⟨⟨?_, (h.i.fr hf fun b e q => h.ig b e q).fr f1 fun b e q => h.id (by rw [e, q]), ho.fr f1 nd, (h.h.fr hf fun b e q => h.gh b q e).fr f1 fun b e q => h.hd (by rw [e, q]), h.id, fun e => nd d e rfl, h.hd, fun b e q => ?_, h.ih, fun b e q => ?_⟩, (hf.mono (E := Db d vi vg vw) fun b _ e => .inr (.inr (.inl e))).trans f1 fun b _ e => .inl e, fun b e => ?_⟩
  · simp [World.setCell, Array.getElem?_modify, hbx]
  · rcases hb b q with r | r
    · exact h.ig b e r
    · have := h.i.lt e; omega
  · rcases hb b e with r | r
    · exact h.gh b r q
    · have := h.h.lt q; omega
  · rcases e with e | e | e | e
    · exact .inl (.inl e)
    · exact .inl (.inr (.inl e))
    · exact (hb b e).imp (fun q => .inr (.inr (.inl q))) (fun q => q)
    · exact .inl (.inr (.inr (.inr e)))
theorem Bk.put2 {w4 w5 : World} {d : Nat} {xi xg xw xs : List Sl} {vi vg vw v : Value} (h : Bk w4 d xi xg xw vi vg vw) (hf : Fr (fun b => vw.ownBlock = some b) w4 w5) (ho : Own sl 1 59 w5 v xs) (hb : ∀ b, v.ownBlock = some b → vw.ownBlock = some b ∨ w4.heap.size ≤ b) :
    Bk (w5.setCell ⟨d, 2, none⟩ v) d xi xg xs vi vg v ∧ Fr (Db d vi vg vw) w4 (w5.setCell ⟨d, 2, none⟩ v) ∧ ∀ b, Db d vi vg v b → Db d vi vg vw b ∨ w4.heap.size ≤ b := by
  have f1 := fr_set w5 d 2 v
  have hbx : w5.heap[d]? = some (.cells #[vi, vg, vw, .slice none 0 0, .slice none 0 0, .int .i64 0] 30 (0, 0)) := by rw [hf.block d h.lt h.hd]; exact h.box
  have nd : ∀ b, v.ownBlock = some b → b ≠ d := fun b e q => by
    subst q
    rcases hb b e with r | r
    · exact h.hd r
    · have := h.lt; omega
  refine ⟨⟨?_, (h.i.fr hf fun b e q => h.ih b e q).fr f1 fun b e q => h.id (by rw [e, q]), (h.g.fr hf fun b e q => h.gh b e q).fr f1 fun b e q => h.gd (by rw [e, q]), ho.fr f1 nd, h.id, h.gd, fun e => nd d e rfl, h.ig, fun b e q => ?_, fun b e q => ?_⟩, (hf.mono (E := Db d vi vg vw) fun b _ e => .inr (.inr (.inr e))).trans f1 fun b _ e => .inl e, fun b e => ?_⟩
  · simp [World.setCell, Array.getElem?_modify, hbx]
  · rcases hb b q with r | r
    · exact h.ih b e r
    · have := h.i.lt e; omega
  · rcases hb b q with r | r
    · exact h.gh b e r
    · have := h.g.lt e; omega
  · rcases e with e | e | e | e
    · exact .inl (.inl e)
    · exact .inl (.inr (.inl e))
    · exact .inl (.inr (.inr (.inl e)))
    · exact (hb b e).imp (fun q => .inr (.inr (.inr q))) (fun q => q)

/-- The blocks of the lists that bear a mark, behind a take. -/
def Knew (K : Nat → Prop) (ao : Option Addr) (w w4 : World) (g : Nat) : Prop := K g ∨ ((ao = some ⟨g, 0, none⟩ ∨ w.heap.size ≤ g) ∧ g < w4.heap.size)
theorem Knew.ok {K D D' : Nat → Prop} {ao : Option Addr} {w w4 W : World} (hD : ∀ g, D g → g < w.heap.size) (hK : ∀ g, K g → ¬ D g ∧ g < w.heap.size) (hao : ∀ g, ao = some ⟨g, 0, none⟩ → ¬ D g ∧ ¬ K g) (hs : w.heap.size ≤ w4.heap.size) (hW : w4.heap.size ≤ W.heap.size) (hD' : ∀ g, D' g → D g ∨ w4.heap.size ≤ g) : ∀ g, Knew K ao w w4 g → ¬ D' g ∧ g < W.heap.size := by
  intro g hg
  rcases hg with q | ⟨q, r⟩
  · have := hK g q
    refine ⟨fun e => ?_, by omega⟩
    rcases hD' g e with s | s
    · exact this.1 s
    · omega
  · refine ⟨fun e => ?_, by omega⟩
    rcases hD' g e with s | s
    · rcases q with q | q
      · exact (hao g q).1 s
      · have := hD g s; omega
    · omega

set_option maxRecDepth 20000 in
set_option maxHeartbeats 8000000 in
theorem takeInts_any (w : World) (d ni ng nw : Nat) (D K : Nat → Prop) (ao : Option Addr) (n cap : Nat) (ys : List Int) (h : BK w d ni ng nw D K) (ho : Own il 1 3 w (.slice ao n cap) ys) (hn : n ≤ 900000) (hN : ni ≤ 2000000) (hao : ∀ g, ao = some ⟨g, 0, none⟩ → ¬ D g ∧ ¬ K g) :
    Calls Try.prog 25 #[.pointer (some ⟨d, 0, none⟩), .slice ao n cap] w fun e w' => e = .returned (.tuple #[]) ∧ BG w d (ni + 1) ng nw D K ao w' := by
  obtain ⟨xi, xg, xw, vi, vg, vw, hb, hD, m1, m2, m3, hK, l1, l2, l3⟩ := h
  obtain ⟨-, hLS⟩ := LS.of_own il_len (-7 - ((4 * ni : Nat) : Int) / 4) ho
  obtain ⟨ai, ci, hvi, -, -, -⟩ := hb.i.rd sl_len
  rw [l1] at hvi
  have c0 := hb.cells.1
  rw [hvi] at c0
  have HB : Hid (Bk w d xi xg xw vi vg vw ∧ (∀ g, Db d vi vg vw g ↔ D g) ∧ MI w K xi ∧ MG w K xg ∧ MG w K xw ∧ (∀ g, K g → ¬ D g ∧ g < w.heap.size) ∧ xi.length = 4 * ni ∧ xg.length = 4 * ng ∧ xw.length = 4 * nw) := ⟨hb, hD, m1, m2, m3, hK, l1, l2, l3⟩
  have HVI : Hid (vi = .slice ai (4 * ni) ci) := hvi
  have HAO : Hid (∀ g, ao = some ⟨g, 0, none⟩ → ¬ D g ∧ ¬ K g) := hao
  have HLS : Hid (LS il 1 3 w ao 0 n cap (-7 - ((4 * ni : Nat) : Int) / 4)) := hLS
  have HMK : Hid (-7 - ((4 * ni : Nat) : Int) / 4 = markI (4 * ni)) := by show _ = _; unfold markI; omega
  have HNI : Hid (ni ≤ 2000000) := hN
  generalize hn0 : 4 * ni = n0 at *
  have hn0' : n0 ≤ 8000000 := by omega
  have HN0 : Hid (4 * ni = n0) := hn0
  clear hb hD m1 m2 m3 hK l1 l2 l3 hvi hao hLS ho hn0 hN
  go_enter Try.func25, Try.ntmps25
  go_wp2
  generalize -7 - (n0 : Int) / 4 = mk at *
  go_loopw [5] (fun s5 wr => ∃ i : Nat, i ≤ n ∧ s5 = .int .i64 i ∧ Hid (LS il 1 3 wr ao i n cap mk) ∧ Hid (Fr (fun g => ao = some ⟨g, 0, none⟩) w wr)) (fun s5 _ => n - (intOf s5).toNat)
  case atStart => exact ⟨0, Nat.zero_le _, rfl, HLS, Fr.refl _ _⟩
  case round =>
    obtain ⟨i, hi, rfl, HL, HF⟩ := hrel
    by_cases hlt : i < n
    · obtain ⟨g, hg, hcell⟩ := HL.out.cell el_int hlt
      subst hg
      obtain ⟨⟨v0, q0⟩, f0⟩ := hcell 0 (by omega)
      rw [Nat.mul_one, Nat.add_zero] at q0 f0
      have hii : (i : Int) < (n : Int) := by omega
      have Y1 : Hid (LS il 1 3 (wr.setCell ⟨g, i, none⟩ (.int .i64 mk)) (some ⟨g, 0, none⟩) (i + 1) n cap mk) := by
        have := HL.out.step el_int hlt
        rw [Nat.mul_one] at this
        exact this
      have Y2 : Hid (Fr (fun b => some (⟨g, 0, none⟩ : Addr) = some ⟨b, 0, none⟩) w (wr.setCell ⟨g, i, none⟩ (.int .i64 mk))) := HF.out.setCell (.inl rfl) _
      clear hcell
      go_wp2
      go_roundw
      case rel => exact ⟨i + 1, by omega, by go_num, Y1, Y2⟩
      case measure => simp [intOf]; omega
    · have hii : ¬ (i : Int) < (n : Int) := by omega
      have hin : i = n := by omega
      subst hin
      generalize wr = w1 at *
      have L1 : Hid (LS il 1 3 (w1.alloc (.cells #[.int .i64 mk] 3)) ao i i cap mk) := HL.out.below ((Below.refl _ _).alloc (Nat.le_refl _) _)
      go_wp2_with (at_builtin; refine append_m el_int _ rfl _ _ rfl ao i cap mk rfl L1.out w1.heap.size 1 1 #[.int .i64 mk] 3 rfl (heap_new _ _) rfl (by omega) (by omega) (by omega) ?_)
      intro s6 w2 m6 k6 l6 f6
      have L2 : Hid (LS il 1 3 (w2.alloc (.cells #[.int .i64 mk, .int .i64 mk] 3)) ao i i cap mk) := l6.below ((Below.refl _ _).alloc (Nat.le_refl _) _)
      have M6 : Hid (Mk il 1 w2 (fun g => ao = some ⟨g, 0, none⟩ ∨ w1.heap.size ≤ g) s6 mk ∧ Fr (fun g => ao = some ⟨g, 0, none⟩) (w1.alloc (.cells #[.int .i64 mk] 3)) w2) := ⟨m6.imp fun g e => e.imp id fun q => by omega, f6⟩
      clear m6 k6 l6 f6 L1
      obtain ⟨a6, n6, c6⟩ := s6
      go_wp2_with (at_builtin; refine append_m el_int _ rfl _ _ rfl ao i cap mk rfl L2.out w2.heap.size 2 2 #[.int .i64 mk, .int .i64 mk] 3 rfl (heap_new _ _) rfl (by omega) (by omega) (by omega) ?_)
      intro s7 w3 m7 k7 l7 f7
      have L3 : Hid (LS il 1 3 (w3.alloc (.cells #[.int .i64 mk, .int .i64 mk, .int .i64 mk] 3)) ao i i cap mk) := l7.below ((Below.refl _ _).alloc (Nat.le_refl _) _)
      have M7 : Hid (Mk il 1 w3 (fun g => ao = some ⟨g, 0, none⟩ ∨ w2.heap.size ≤ g) s7 mk ∧ Keeps il 1 (w2.alloc (.cells #[.int .i64 mk, .int .i64 mk] 3)) w3 mk ∧ Fr (fun g => ao = some ⟨g, 0, none⟩) (w2.alloc (.cells #[.int .i64 mk, .int .i64 mk] 3)) w3) := ⟨m7.imp fun g e => e.imp id fun q => by omega, k7, f7⟩
      clear m7 k7 l7 f7 L2
      obtain ⟨a7, n7, c7⟩ := s7
      go_wp2_with (at_builtin; refine append_m el_int _ rfl _ _ rfl ao i cap mk rfl L3.out w3.heap.size 3 3 #[.int .i64 mk, .int .i64 mk, .int .i64 mk] 3 rfl (heap_new _ _) rfl (by omega) (by omega) (by omega) ?_)
      intro s8 w4 m8 k8 l8 f8
      have F4 : Hid (Four il 1 w w4 ao i cap mk ⟨a6, n6, c6⟩ ⟨a7, n7, c7⟩ s8) := Four.mk' el_int (by omega) HF.out ((Below.refl _ _).alloc (Nat.le_refl _) _) M6.out.1 M6.out.2 ((Below.refl _ _).alloc (Nat.le_refl _) _) M7.out.1 M7.out.2.1 M7.out.2.2 ((Below.refl _ _).alloc (Nat.le_refl _) _) (m8.imp fun g e => e.imp id fun q => by omega) k8 f8 l8
      clear m8 k8 l8 f8 L3 M6 M7
      obtain ⟨a8, n8, c8⟩ := s8
      have hdo : ∀ g, ao = some ⟨g, 0, none⟩ → ¬ Db d vi vg vw g := fun g e q => (HAO.out g e).1 ((HB.out.2.1 g).1 q)
      have B4 : Hid (Bk w4 d xi xg xw vi vg vw) := HB.out.1.fr F4.out.fr fun g e q => hdo g q e
      have hbx := B4.out.box
      have c4 : w4.cell? ⟨d, 0, none⟩ = some (.slice ai n0 ci) := by rw [← HVI.out]; exact B4.out.cells.1
      have f4 := Sh.free (n := 6) ⟨_, hbx, rfl⟩ 0
      have HLX : Hid (xi.length = n0) := HB.out.2.2.2.2.2.2.1
      have O4 : Hid (Own sl 1 42 (w4.alloc (.cells #[.slice ao i cap, .slice a6 n6 c6, .slice a7 n7 c7, .slice a8 n8 c8] 42)) (.slice ai n0 ci) xi) := by
        rw [← HVI.out]
        exact own_below B4.out.i ((Below.refl _ _).alloc (Nat.le_refl _) _)
      clear hbx hdo c0
      go_wp2_with (at_builtin; refine app_many el_ints _ rfl _ _ rfl (.slice ai n0 ci) xi rfl O4.out w4.heap.size [⟨ao, i, cap⟩, ⟨a6, n6, c6⟩, ⟨a7, n7, c7⟩, ⟨a8, n8, c8⟩] 4 4 rfl #[.slice ao i cap, .slice a6 n6 c6, .slice a7 n7 c7, .slice a8 n8 c8] 42 rfl (heap_new _ _) rfl (by omega) (by omega) (by have := HLX.out; omega) ?_)
      intro g cap' w5 ho hf hat hgl
      have ba := (Below.refl w4.heap.size w4).alloc (Nat.le_refl _) (.cells #[.slice ao i cap, .slice a6 n6 c6, .slice a7 n7 c7, .slice a8 n8 c8] 42)
      have hv2 : vi.ownBlock = (Value.slice ai n0 ci).ownBlock := by rw [HVI.out]
      have hf2 : Fr (fun b => vi.ownBlock = some b) w4 w5 := (Fr.of_below (D := fun b => vi.ownBlock = some b) ba).trans hf fun b _ e => by rw [hv2]; exact e
      have hat2 : vi.ownBlock = some g ∨ w4.heap.size ≤ g := by
        rcases hat with q | q
        · exact .inl (by rw [hv2]; exact q)
        · have q' : w4.heap.size + 1 ≤ g := by simpa using q
          exact .inr (by omega)
      have hbx5 : w5.heap[d]? = some (.cells #[vi, vg, vw, .slice none 0 0, .slice none 0 0, .int .i64 0] 30 (0, 0)) := by rw [hf2.block d B4.out.lt B4.out.id]; exact B4.out.box
      have c5 : w5.cell? ⟨d, 0, none⟩ = some vi := by rw [cell_of_heap hbx5]; rfl
      have g5 := Sh.free (n := 6) ⟨_, hbx5, rfl⟩ 0
      have HH : Hid (w5.heap[d]? = some (.cells #[vi, vg, vw, .slice none 0 0, .slice none 0 0, .int .i64 0] 30 (0, 0)) ∧ Fr (fun b => vi.ownBlock = some b) w4 w5 ∧ (vi.ownBlock = some g ∨ w4.heap.size ≤ g) ∧ Own sl 1 42 w5 (.slice (some ⟨g, 0, none⟩) (xi.length + 4) cap') (xi ++ [⟨ao, i, cap⟩, ⟨a6, n6, c6⟩, ⟨a7, n7, c7⟩, ⟨a8, n8, c8⟩])) := ⟨hbx5, hf2, hat2, ho⟩
      clear ho hf hat ba hv2 hf2 hat2 hbx5 c4 f4 O4
      generalize xi.length + 4 = nn at *
      go_wp2
      go_end0
      obtain ⟨hbx, hf2, hat2, ho⟩ := HH.out
      obtain ⟨h0, hD, m1, m2, m3, hK, l1, l2, l3⟩ := HB.out
      obtain ⟨nb, nf, ns⟩ := B4.out.put0 hf2 ho fun b e => by
        have e2 : g = b := by simpa [Value.ownBlock] using e
        rw [← e2]; exact hat2
      have F := F4.out
      have hDl : ∀ g, D g → g < w.heap.size := fun g e => h0.dlt ((hD g).2 e)
      have hD'' : ∀ b, Db d (.slice (some ⟨g, 0, none⟩) nn cap') vg vw b → D b ∨ w4.heap.size ≤ b := fun b e => (ns b e).imp (hD b).1 id
      have hKn := Knew.ok (D' := Db d (.slice (some ⟨g, 0, none⟩) nn cap') vg vw) hDl hK HAO.out F.fr.size nf.size hD''
      have hnX : ∀ b, Knew K ao w w4 b → ¬ Db d vi vg vw b := fun b e q => by
        rcases e with e | ⟨e | e, _⟩
        · exact (hK b e).1 ((hD b).1 q)
        · exact (HAO.out b e).1 ((hD b).1 q)
        · have := hDl b ((hD b).1 q); omega
      have HM4 : ∀ j, j < 4 → markI (xi.length + j) = mk := fun j hj => by
        rw [l1, ← HN0.out, markI_four hj, HN0.out]; exact HMK.out.symm
      have hKa : ∀ b, K b → ¬ ao = some ⟨b, 0, none⟩ := fun b e q => (HAO.out b q).2 e
      refine ⟨rfl, Db d (.slice (some ⟨g, 0, none⟩) nn cap') vg vw, Knew K ao w w4, ⟨_, xg, xw, _, vg, vw, nb, fun _ => Iff.rfl, ?_, ((m2.fr F.fr hKa).imp fun b e => .inl e).fr nf hnX, ((m3.fr F.fr hKa).imp fun b e => .inl e).fr nf hnX, hKn, by rw [List.length_append, l1, ← HN0.out]; show 4 * ni + 4 = _; omega, l2, l3⟩, (F.fr.mono fun b _ e => .inr e).trans nf fun b _ e => .inl ((hD b).1 e), fun b e => (hD'' b e).imp id fun q => Nat.le_trans F.fr.size q, fun b e => ?_⟩
      · refine four_at (P := fun n s => Mk il 1 _ (Knew K ao w w4) s (markI n)) (((m1.fr F.fr hKa).imp fun b e => .inl e).fr nf hnX) ?_ ?_ ?_ ?_
        · have := (F.a.imp (K' := Knew K ao w w4) fun b e => .inr e).fr il_len (by omega) nf hnX
          rw [show markI xi.length = mk from HM4 0 (by omega)]; exact this
        · have := (F.b.imp (K' := Knew K ao w w4) fun b e => .inr e).fr il_len (by omega) nf hnX
          rw [HM4 1 (by omega)]; exact this
        · have := (F.c.imp (K' := Knew K ao w w4) fun b e => .inr e).fr il_len (by omega) nf hnX
          rw [HM4 2 (by omega)]; exact this
        · have := (F.d.imp (K' := Knew K ao w w4) fun b e => .inr e).fr il_len (by omega) nf hnX
          rw [HM4 3 (by omega)]; exact this
      · rcases e with e | ⟨e, _⟩
        · exact .inl e
        · exact .inr e
end Go.Proofs.Ytlagmbieaicmgaa
