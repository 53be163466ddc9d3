/- The document's own answer: Decode. -/
import Derived.Test.YtlagmbieaicmgaaDoorRefI
import Derived.Test.YtlagmbieaicmgaaDoorWalkJ
namespace Go.Proofs.YtlagmbieaicmgaaDoor
open Go.RowKit Pact

/-- Where Decode stands: what it reads, the message so far. -/
def DSt (s : ByteArray) (N : Nat) (m : Msg) (ao : Option Addr) (cap j : Nat) (sh : Bool) (w0 w : World) : Prop :=
  w.heap[N + 1]? = some (txO s j sh) ∧ w.heap[N + 1 + 1]? = some (boxO 24 m ao cap) ∧ w.heap[N]? = some zeroMsg ∧ j ≤ s.size ∧ Below N w0 w

theorem set_keep {w : World} {b k off : Nat} {x : Value} {o : Obj} (h : w.heap[b]? = some o) (hk : k ≠ b) : (w.setCell ⟨k, off, none⟩ x).heap[b]? = some o := by
  simp only [World.setCell, Array.getElem?_modify]
  simp [h, hk]

theorem DSt.num {s : ByteArray} {N : Nat} {m : Msg} {ao : Option Addr} {cap j j' : Nat} {sh sh' : Bool} {w0 w w' : World} (h : DSt s N m ao cap j sh w0 w) (st : Step (N + 1) w w') (hx : w'.heap[N + 1]? = some (txO s j' sh')) (hj : j' ≤ s.size) :
    DSt s N m ao cap j' sh' w0 w' := by
  obtain ⟨h1, h2, h3, h4, h5⟩ := h
  have k2 := (Array.getElem?_eq_some_iff.1 h2).1
  exact ⟨hx, (st.block _ k2 (by omega)).trans h2, (st.block _ (by omega) (by omega)).trans h3, hj, h5.trans ((st.below (by omega)).mono (by omega))⟩

theorem DSt.set {s : ByteArray} {N : Nat} {m m' : Msg} {ao ao' : Option Addr} {cap cap' j : Nat} {sh : Bool} {w0 w : World} (h : DSt s N m ao cap j sh w0 w) (off : Nat) (x : Value)
    (hm : some (Obj.cells ((#[.int .i64 m.kind, .int .i64 m.fr, .int .i64 m.to, .string m.group, .int .i64 m.ballot, .int .i64 m.slot, .string m.value, .slice ao m.ents.length cap] : Array Value).setIfInBounds off x) 24 (0, 0)) = some (boxO 24 m' ao' cap')) : DSt s N m' ao' cap' j sh w0 (w.setCell ⟨N + 1 + 1, off, none⟩ x) := by
  obtain ⟨h1, h2, h3, h4, h5⟩ := h
  refine ⟨set_keep h1 (by omega), ?_, set_keep h3 (by omega), h4, h5.setCell (show N ≤ N + 1 + 1 by omega) _⟩
  rw [← hm]
  exact set_heap h2 off x

theorem DSt.free {s : ByteArray} {N : Nat} {m : Msg} {ao : Option Addr} {cap j : Nat} {sh : Bool} {w0 w : World} (h : DSt s N m ao cap j sh w0 w) : ∀ i, w.frozen? ⟨N + 1 + 1, i, none⟩ = false := free_of_heap h.2.1

theorem heap3 (w : World) (o1 o2 o3 : Obj) : (((w.alloc o1).alloc o2).alloc o3).heap[w.heap.size]? = some o1 ∧ (((w.alloc o1).alloc o2).alloc o3).heap[w.heap.size + 1]? = some o2 ∧ (((w.alloc o1).alloc o2).alloc o3).heap[w.heap.size + 1 + 1]? = some o3 := by
  refine ⟨?_, ?_, ?_⟩
  · rw [Below.heap_alloc _ _ _ (by simp; omega)]; exact heap2 _ _ _
  · rw [Below.heap_alloc _ _ _ (by simp)]; exact heap2b _ _ _
  · have := heap_new ((w.alloc o1).alloc o2) o3
    simpa using this

def msg0 : Msg := ⟨0, 0, 0, ⟨#[]⟩, 0, 0, ⟨#[]⟩, []⟩

theorem DSt.start (s : ByteArray) (w : World) : DSt s w.heap.size msg0 none 0 0 false w (((w.alloc zeroMsg).alloc (txO s 0 false)).alloc (boxO 24 msg0 none 0)) := by
  obtain ⟨h1, h2, h3⟩ := heap3 w zeroMsg (txO s 0 false) (boxO 24 msg0 none 0)
  exact ⟨h2, h3, h1, Nat.zero_le _, below3 _ _ _ _⟩

theorem DSt.grown {s : ByteArray} {N : Nat} {m : Msg} {ao : Option Addr} {cap j : Nat} {sh : Bool} {w0 w w' : World} {T : TypeId} {size n : Nat} {v : Value} {xs : List Value} (h : DSt s N m ao cap j sh w0 w) (hg : w.grownBy w' v.ownBlock) (ho : w.ownsRow (N + 3) T size v n xs) (hN : N = w0.heap.size) :
    DSt s N m ao cap j sh w0 w' := by
  obtain ⟨h1, h2, h3, h4, h5⟩ := h
  have k2 := (Array.getElem?_eq_some_iff.1 h2).1
  refine ⟨(grown_at hg ho (by omega) (by omega)).trans h1, (grown_at hg ho (by omega) (by omega)).trans h2, (grown_at hg ho (by omega) (by omega)).trans h3, h4, ?_⟩
  exact ⟨hg.os.trans h5.os, hg.tape.trans h5.tape, hg.output.trans h5.output, Nat.le_trans h5.size hg.size, fun k hk => (grown_at hg ho (by omega) (by omega)).trans (h5.block k hk)⟩

theorem keep_alloc {w : World} {b : Nat} {o : Obj} (h : w.heap[b]? = some o) (o' : Obj) : (w.alloc o').heap[b]? = some o := (Below.heap_alloc _ _ _ (Array.getElem?_eq_some_iff.1 h).1).trans h

theorem DSt.alloc {s : ByteArray} {N : Nat} {m : Msg} {ao : Option Addr} {cap j : Nat} {sh : Bool} {w0 w : World} (h : DSt s N m ao cap j sh w0 w) (hN : N = w0.heap.size) (o : Obj) : DSt s N m ao cap j sh w0 (w.alloc o) := by
  obtain ⟨h1, h2, h3, h4, h5⟩ := h
  exact ⟨keep_alloc h1 _, keep_alloc h2 _, keep_alloc h3 _, h4, h5.alloc (by have := h5.size; omega) _⟩


def eO (a b : Int) (t : ByteArray) : Obj := .cells #[.int .i64 a, .int .i64 b, .string t] 53 (0, 0)
theorem e_cells {w : World} {E : Nat} {a b : Int} {t : ByteArray} (h : w.heap[E]? = some (eO a b t)) : w.cell? ⟨E, 0, none⟩ = some (.int .i64 a) ∧ w.cell? ⟨E, 1, none⟩ = some (.int .i64 b) ∧ w.cell? ⟨E, 2, none⟩ = some (.string t) := by
  refine ⟨?_, ?_, ?_⟩ <;> rw [cell_of_heap h] <;> rfl

abbrev BelS (w0 w : World) : Prop := Below w0.heap.size w0 w
theorem BelS.below {w0 w w' : World} (h : BelS w0 w) (hb : Below w.heap.size w w') : BelS w0 w' := Below.trans h (hb.mono h.size)
theorem sum_bel (s : ByteArray) (w : World) (hs : s.size ≤ maxLen) :
    Calls Tryd.prog 29 #[.string s] w fun e w' => e = .returned (.int .i64 ((4294967295 - crc 4294967295 s.data.toList : Nat) : Int)) ∧ Below w.heap.size w w' :=
  (sum_any s w hs).mono fun _ _ h => ⟨h.1, by rw [h.2]; exact Below.refl _ _⟩

theorem fin_no {s : ByteArray} {hd : Nat} {m : Msg} {j : Nat} (hh : (!(s.extract j ((j : Int) + 4).toNat).toList == low4 (4294967295 - crc 4294967295 (List.take j s.data.toList))) = true) : kFin s hd m j = .inl 3 := by
  have e : (s.extract 0 j).data.toList = s.data.toList.take j := by simp
  have e1 : ((j : Int) + 4).toNat = j + 4 := by omega
  rw [e1] at hh
  have e2 : ((s.extract j (j + 4)).data.toList == sumOf (s.extract 0 j).data.toList) = false := by rw [e, ← ByteArray.toList_eq]; unfold sumOf; simpa using hh
  unfold kFin
  rw [if_pos e2]
theorem fin_yes {s : ByteArray} {hd : Nat} {m : Msg} {j : Nat} (hh : (!(s.extract j ((j : Int) + 4).toNat).toList == low4 (4294967295 - crc 4294967295 (List.take j s.data.toList))) = false) :
    kFin s hd m j = if (hd = 77 ∧ j + 4 = s.size) ∧ sendB m = true then .inr m else .inl 4 := by
  have e : (s.extract 0 j).data.toList = s.data.toList.take j := by simp
  have e1 : ((j : Int) + 4).toNat = j + 4 := by omega
  rw [e1] at hh
  have e2 : ¬ ((s.extract j (j + 4)).data.toList == sumOf (s.extract 0 j).data.toList) = false := by rw [e, ← ByteArray.toList_eq]; unfold sumOf; simpa using hh
  unfold kFin
  rw [if_neg e2]

theorem start_step {R X : Sum Int Msg} (h : R = X) : R = if false = true then .inl 2 else X := by rw [if_neg (by simp)]; exact h

set_option maxHeartbeats 2000000 in
theorem rdecode_any (s : ByteArray) (w : World) (hs : s.size ≤ 1048576) :
    Calls Tryd.prog 17 #[.string s] w fun e w' =>
      (∃ m ao cap, decR s = .inr m ∧ e = .returned (.tuple #[msgV m ao cap, .int .i64 0]) ∧ Below w.heap.size w w' ∧ EntsIn w' ao m.ents) ∨
      (∃ n, decR s = .inl n ∧ e = .returned (.tuple #[zeroV, .int .i64 n]) ∧ Below w.heap.size w w') := by
  have hm : s.size ≤ maxLen := by unfold maxLen; omega
  have HD0 : Hid _ := start_step (decR_k s)
  go_enter Tryd.func17, Tryd.ntmps17
  go_wp2_with fail
  have S0 := DSt.start s w
  refine (tnumber_any s (w.heap.size + 1) 0 1 false _ hm S0.1 S0.2.2.2.1 (by omega)).mono ?_
  rintro e w1 ⟨hd, j1, sh1, rfl, hx, hj, hv, hst, hy, hn, hsh⟩
  have HD1 : Hid _ := num_step HD0.out hy hn hsh
  have S1 := S0.num hst hx hj
  clear S0 HD0 hx hj hst hy hn hsh
  have hd9 : hd < 256 := by simpa using hv
  clear hv
  go_wp2_with fail
  refine (tnumber_any s (w.heap.size + 1) j1 1 sh1 _ hm S1.1 S1.2.2.2.1 (by omega)).mono ?_
  rintro e w2 ⟨ka, j2, sh2, rfl, hx, hj, hv, hst, hy, hn, hsh⟩
  have HD2 : Hid _ := num_step HD1.out hy hn hsh
  have S2 := S1.num hst hx hj
  have hka : ka < 256 := by simpa using hv
  clear S1 HD1 hx hj hst hy hn hsh hv
  have fz := S2.free
  have cz := (box_cells S2.2.1).1
  have X2 := S2.set 0 (.int .i64 ka) (m' := ⟨ka, 0, 0, ⟨#[]⟩, 0, 0, ⟨#[]⟩, []⟩) rfl
  clear S2
  have S2 := X2
  clear X2
  go_wp2_with fail
  clear fz cz
  refine (tnumber_any s (w.heap.size + 1) j2 1 sh2 _ hm S2.1 S2.2.2.2.1 (by omega)).mono ?_
  rintro e w3 ⟨kb, j3, sh3, rfl, hx, hj, hv, hst, hy, hn, hsh⟩
  have HD3 : Hid _ := num_step HD2.out hy hn hsh
  have S3 := S2.num hst hx hj
  have hkb : kb < 256 := by simpa using hv
  clear S2 HD2 hx hj hst hy hn hsh hv
  have fz := S3.free
  have cz := (box_cells S3.2.1).2.1
  have X3 := S3.set 1 (.int .i64 kb) (m' := ⟨ka, kb, 0, ⟨#[]⟩, 0, 0, ⟨#[]⟩, []⟩) rfl
  clear S3
  have S3 := X3
  clear X3
  go_wp2_with fail
  clear fz cz
  refine (tnumber_any s (w.heap.size + 1) j3 1 sh3 _ hm S3.1 S3.2.2.2.1 (by omega)).mono ?_
  rintro e w4 ⟨kc, j4, sh4, rfl, hx, hj, hv, hst, hy, hn, hsh⟩
  have HD4 : Hid _ := num_step HD3.out hy hn hsh
  have S4 := S3.num hst hx hj
  have hkc : kc < 256 := by simpa using hv
  clear S3 HD3 hx hj hst hy hn hsh hv
  have fz := S4.free
  have cz := (box_cells S4.2.1).2.2.1
  have X4 := S4.set 2 (.int .i64 kc) (m' := ⟨ka, kb, kc, ⟨#[]⟩, 0, 0, ⟨#[]⟩, []⟩) rfl
  clear S4
  have S4 := X4
  clear X4
  go_wp2_with fail
  clear fz cz
  refine (tpart_any s (w.heap.size + 1) j4 sh4 _ hs S4.1 S4.2.2.2.1).mono ?_
  rintro e w5 ⟨kg, j5, sh5, rfl, hx, hj, hst, hy, hn⟩
  have HD5 : Hid _ := text_step HD4.out hy hn
  have S5 := S4.num hst hx hj
  clear S4 HD4 hx hj hst hy hn
  have fz := S5.free
  have cz := (box_cells S5.2.1).2.2.2.1
  have X5 := S5.set 3 (.string kg) (m' := ⟨ka, kb, kc, kg, 0, 0, ⟨#[]⟩, []⟩) rfl
  clear S5
  have S5 := X5
  clear X5
  go_wp2_with fail
  clear fz cz
  refine (tnumber_any s (w.heap.size + 1) j5 3 sh5 _ hm S5.1 S5.2.2.2.1 (by omega)).mono ?_
  rintro e w6 ⟨kd, j6, sh6, rfl, hx, hj, hv, hst, hy, hn, hsh⟩
  have HD6 : Hid _ := num_step HD5.out hy hn hsh
  have S6 := S5.num hst hx hj
  have hkd : kd < 16777216 := by simpa using hv
  clear S5 HD5 hx hj hst hy hn hsh hv
  have fz := S6.free
  have cz := (box_cells S6.2.1).2.2.2.2.1
  have X6 := S6.set 4 (.int .i64 kd) (m' := ⟨ka, kb, kc, kg, kd, 0, ⟨#[]⟩, []⟩) rfl
  clear S6
  have S6 := X6
  clear X6
  go_wp2_with fail
  clear fz cz
  refine (tnumber_any s (w.heap.size + 1) j6 2 sh6 _ hm S6.1 S6.2.2.2.1 (by omega)).mono ?_
  rintro e w7 ⟨ke, j7, sh7, rfl, hx, hj, hv, hst, hy, hn, hsh⟩
  have HD7 : Hid _ := num_step HD6.out hy hn hsh
  have S7 := S6.num hst hx hj
  have hke : ke < 65536 := by simpa using hv
  clear S6 HD6 hx hj hst hy hn hsh hv
  have fz := S7.free
  have cz := (box_cells S7.2.1).2.2.2.2.2.1
  have X7 := S7.set 5 (.int .i64 ke) (m' := ⟨ka, kb, kc, kg, kd, ke, ⟨#[]⟩, []⟩) rfl
  clear S7
  have S7 := X7
  clear X7
  go_wp2_with fail
  clear fz cz
  refine (tpart_any s (w.heap.size + 1) j7 sh7 _ hs S7.1 S7.2.2.2.1).mono ?_
  rintro e w8 ⟨kv, j8, sh8, rfl, hx, hj, hst, hy, hn⟩
  have HD8 : Hid _ := text_step HD7.out hy hn
  have S8 := S7.num hst hx hj
  clear S7 HD7 hx hj hst hy hn
  have fz := S8.free
  have cz := (box_cells S8.2.1).2.2.2.2.2.2.1
  have X8 := S8.set 6 (.string kv) (m' := ⟨ka, kb, kc, kg, kd, ke, kv, []⟩) rfl
  clear S8
  have S8 := X8
  clear X8
  go_wp2_with fail
  clear fz cz
  refine (tnumber_any s (w.heap.size + 1) j8 1 sh8 _ hm S8.1 S8.2.2.2.1 (by omega)).mono ?_
  rintro e w9 ⟨kn, j9, sh9, rfl, hx, hj, hv, hst, hy, hn, hsh⟩
  have HD9 : Hid _ := num_step HD8.out hy hn hsh
  have S9 := S8.num hst hx hj
  have hkn : kn < 256 := by simpa using hv
  clear S8 HD8 hx hj hst hy hn hsh hv
  generalize hF : (fun (es : List Ent) (j : Nat) => kNum s j 4 fun _ _ => kFin s hd ⟨(ka : Int), (kb : Int), (kc : Int), kg, (kd : Int), (ke : Int), kv, es⟩ j) = F at HD9
  have HF : Hid (_ = F) := hF
  clear hF
  obtain ⟨i0, hinf, hz0, hz1, hz2⟩ := info_parts Tryd.info_ent
  go_wp2
  go_loopw [8, 9] (fun i _ wr => ∃ (k : Nat) (es : List Ent) (ao : Option Addr) (cap j : Nat) (sh : Bool), k ≤ kn ∧ es.length = k ∧ i = .int .i64 k ∧ DSt s w.heap.size ⟨ka, kb, kc, kg, kd, ke, kv, es⟩ ao cap j sh w wr ∧ Hid (decR s = if sh = true then .inl 2 else kEnts s j (kn - k) es F) ∧
    wr.ownsRow (w.heap.size + 3) 53 3 (.slice ao es.length cap) es.length (ecs es)) (fun i _ _ => kn - (intOf i).toNat)
  case atStart => exact ⟨0, [], none, 0, j9, sh9, Nat.zero_le _, rfl, rfl, S9, HD9, World.ownsRow_nil _ _ _ _⟩
  case round =>
    clear HD9 S9
    obtain ⟨k, es, ao, cap, j, sh, hk, hes, rfl, S, HD, hown⟩ := hrel
    have HES : Hid (es.length = k) := hes
    have hlen : es.length ≤ 255 := by omega
    clear hes
    obtain ⟨c0, c1, c2, z1, z2⟩ := tx_cells S.1
    cases sh with
    | true =>
      have HE : Hid (decR s = .inl 2) := HD.out
      clear HD hown
      by_cases hlt : k < kn
      all_goals
        go_wp2_with fail
        refine (tnumber_any s (w.heap.size + 1) j 4 true _ hm S.1 S.2.2.2.1 (by omega)).mono ?_
        rintro e w2 ⟨v, j2, sh2, rfl, hx, hj, hv, hst, hy, hn, hsh⟩
        have hsh2 := hsh rfl
        subst hsh2
        have S2 := S.num hst hx hj
        clear S hx hj hst hy hn hsh hv c0 c1 c2 z1 z2
        obtain ⟨c0, c1, c2, z1, z2⟩ := tx_cells S2.1
        have d0 := cell_of_heap S2.2.2.1 0
        have d1 := cell_of_heap S2.2.2.1 1
        have d2 := cell_of_heap S2.2.2.1 2
        have d3 := cell_of_heap S2.2.2.1 3
        have d4 := cell_of_heap S2.2.2.1 4
        have d5 := cell_of_heap S2.2.2.1 5
        have d6 := cell_of_heap S2.2.2.1 6
        have d7 := cell_of_heap S2.2.2.1 7
        simp at d0 d1 d2 d3 d4 d5 d6 d7
        have fz := free_of_heap S2.2.2.1
        have hb := S2.2.2.2.2
        clear S2
        go_wp2
        refine bodyPost_ret (v := .tuple #[zeroV, .int .i64 2]) (by simp [results, Tryd.results17, go_sem, zeroV, d0, d1, d2, d3, d4, d5, d6, d7]) rfl (.inr ⟨2, HE.out, rfl, ?_⟩)
        exact ((((((((hb.setCell (Nat.le_refl _) _).setCell (Nat.le_refl _) _).setCell (Nat.le_refl _) _).setCell (Nat.le_refl _) _).setCell (Nat.le_refl _) _).setCell (Nat.le_refl _) _).setCell (Nat.le_refl _) _).setCell (Nat.le_refl _) _)
    | false =>
      by_cases hlt : k < kn
      · skip
        have hr : kn - k = (kn - (k + 1)) + 1 := by omega
        have HE : Hid (decR s = if false = true then .inl 2 else (kNum s j 1 fun a j => kNum s j 3 fun b j => kText s j fun t j => kEnts s j (kn - (k + 1)) (es ++ [⟨(a : Int), (b : Int), t⟩]) F)) := by have := HD.out; rw [hr] at this; exact this
        clear hr HD
        go_wp2_with fail
        have W0 : Step (w.heap.size + 1) wr (wr.alloc (eO 0 0 ⟨#[]⟩)) := (Step.refl _ _).alloc _
        have hNr : w.heap.size + 1 + 1 < wr.heap.size := (Array.getElem?_eq_some_iff.1 S.2.1).1
        refine (tnumber_any s (w.heap.size + 1) j 1 false _ hm (keep_alloc S.1 _) S.2.2.2.1 (by omega)).mono ?_
        rintro e w1 ⟨v1, j1, sh1, rfl, hx, hj, hv1, hst, hy, hn, hsh⟩
        have H1 : Hid _ := num_step HE.out hy hn hsh
        have E1 : w1.heap[wr.heap.size]? = some (eO 0 0 ⟨#[]⟩) := (hst.block _ (by simp) (by omega)).trans (heap_new _ _)
        have W1 := W0.trans hst
        have X1 := hx
        have J1 := hj
        clear HE W0 hst hx hj hy hn hsh hv1 c0 c1 c2 z1 z2
        obtain ⟨c0, c1, c2⟩ := e_cells E1
        have fz := free_of_heap E1
        go_wp2_with fail
        clear fz c0 c1 c2
        refine (tnumber_any s (w.heap.size + 1) j1 3 sh1 _ hm (set_keep X1 (by omega)) J1 (by omega)).mono ?_
        rintro e w2 ⟨v2, j2, sh2, rfl, hx, hj, hv2, hst, hy, hn, hsh⟩
        have H2 : Hid _ := num_step H1.out hy hn hsh
        have E2 : w2.heap[wr.heap.size]? = some (eO v1 0 ⟨#[]⟩) := (hst.block _ (by have := (Array.getElem?_eq_some_iff.1 E1).1; simpa [World.setCell] using this) (by omega)).trans (set_heap E1 0 _)
        have W2 := (W1.setNew (p := ⟨wr.heap.size, 0, none⟩) (Nat.le_refl _) _).trans hst
        have X2 := hx
        have J2 := hj
        clear H1 W1 X1 J1 E1 hst hx hj hy hn hsh hv2
        obtain ⟨c0, c1, c2⟩ := e_cells E2
        have fz := free_of_heap E2
        go_wp2_with fail
        clear fz c0 c1 c2
        refine (tpart_any s (w.heap.size + 1) j2 sh2 _ hs (set_keep X2 (by omega)) J2).mono ?_
        rintro e w3 ⟨t, j3, sh3, rfl, hx, hj, hst, hy, hn⟩
        have H3 : Hid _ := text_step H2.out hy hn
        have E3 : w3.heap[wr.heap.size]? = some (eO v1 v2 ⟨#[]⟩) := (hst.block _ (by have := (Array.getElem?_eq_some_iff.1 E2).1; simpa [World.setCell] using this) (by omega)).trans (set_heap E2 1 _)
        have W3 := (W2.setNew (p := ⟨wr.heap.size, 1, none⟩) (Nat.le_refl _) _).trans hst
        have W4 := W3.setNew (p := ⟨wr.heap.size, 2, none⟩) (Nat.le_refl _) (.string t)
        have S4 := S.num W4 (set_keep hx (by omega)) hj
        have E4 : (w3.setCell ⟨wr.heap.size, 2, none⟩ (.string t)).heap[wr.heap.size]? = some (eO v1 v2 t) := set_heap E3 2 _
        have o4 := owns_step hown W4 (by omega)
        clear H2 W2 X2 J2 E2 W3 W4 hst hx hj hy hn hown S
        obtain ⟨c0, c1, c2⟩ := e_cells E3
        obtain ⟨d0, d1, d2⟩ := e_cells E4
        have fz := free_of_heap E3
        have cl := (box_cells S4.2.1).2.2.2.2.2.2.2
        have fm := S4.free
        have hE4 := (Array.getElem?_eq_some_iff.1 E4).1
        generalize hw4 : w3.setCell ⟨wr.heap.size, 2, none⟩ (.string t) = u4 at S4 E4 o4 d0 d1 d2 cl fm hE4
        go_wp2_with (at_builtin; refine wpList_append_own _ rfl _ _ 22 rfl (w.heap.size + 3) 53 i0 (.agg #[.int .i64 0, .int .i64 0, .string ⟨#[]⟩]) 3 32 Tryd.underlying22 hinf hz0 hz1 hz2 rfl (by decide) (.slice ao es.length cap) es.length (ecs es) rfl (o4.alloc _) ⟨u4.heap.size, 0, none⟩ 1 1 [.int .i64 v1, .int .i64 v2, .string t] rfl rfl ?ca ?cb (by unfold maxLen; omega) (by omega) (by simp; omega) ?_)
        case ca => exact cells_new _ _ _ _ rfl
        case cb => intro u hu; simp at hu; rcases hu with rfl | rfl | rfl <;> rfl
        intro v5 w5 hown5 hg5 _
        have o5 : w5.ownsRow (w.heap.size + 3) 53 3 v5 (es ++ [(⟨(v1 : Int), (v2 : Int), t⟩ : Ent)]).length (ecs (es ++ [(⟨(v1 : Int), (v2 : Int), t⟩ : Ent)])) := by rw [ecs_snoc, List.length_append]; exact hown5
        have S5 := (S4.alloc rfl _).grown hg5 (o4.alloc _) rfl
        obtain ⟨ao5, cap5, hv5⟩ := owns_shape o5
        subst hv5
        clear hown5 hg5 o4 S4 E4 d0 d1 d2 cl fm hE4 hw4 c0 c1 c2 fz E3
        have cl := (box_cells S5.2.1).2.2.2.2.2.2.2
        have fm := S5.free
        have S6 := S5.set 7 (.slice ao5 (es.length + 1) cap5) (m' := ⟨ka, kb, kc, kg, kd, ke, kv, es ++ [⟨(v1 : Int), (v2 : Int), t⟩]⟩) (ao' := ao5) (cap' := cap5) (by simp [boxO])
        have o6 := ownsRow_setCell_below o5 (a := ⟨w.heap.size + 1 + 1, 7, none⟩) (show w.heap.size + 1 + 1 < w.heap.size + 3 by omega) (.slice ao5 (es.length + 1) cap5)
        clear o5
        go_wp2
        go_roundw
        case rel => exact ⟨k + 1, _, ao5, cap5, j3, sh3, by omega, by have := HES.out; simp; omega, by go_num, S6, H3, o6⟩
        case measure => simp [intOf]; omega
      · have HE : Hid (decR s = if false = true then .inl 2 else (kNum s j 4 fun _ _ => kFin s hd ⟨(ka : Int), (kb : Int), (kc : Int), kg, (kd : Int), (ke : Int), kv, es⟩ j)) := by
          have h1 := HD.out
          rw [show kn - k = 0 by omega] at h1
          have h2 : decR s = if false = true then .inl 2 else F es j := h1
          rw [← HF.out] at h2
          exact h2
        clear HD HF
        go_wp2_with fail
        refine (tnumber_any s (w.heap.size + 1) j 4 false _ hm S.1 S.2.2.2.1 (by omega)).mono ?_
        rintro e w2 ⟨v, j2, sh2, rfl, hx, hj, hv, hst, hy, hn, hsh⟩
        have HG := num_step HE.out hy hn hsh
        have S2 := S.num hst hx hj
        have o2 := owns_step hown hst (by omega)
        clear HE
        cases sh2 with
        | true =>
          have HE : Hid (decR s = .inl 2) := HG
          clear S hx hj hst hy hn hsh hv c0 c1 c2 z1 z2 o2 hown HG
          obtain ⟨c0, c1, c2, z1, z2⟩ := tx_cells S2.1
          have d0 := cell_of_heap S2.2.2.1 0
          have d1 := cell_of_heap S2.2.2.1 1
          have d2 := cell_of_heap S2.2.2.1 2
          have d3 := cell_of_heap S2.2.2.1 3
          have d4 := cell_of_heap S2.2.2.1 4
          have d5 := cell_of_heap S2.2.2.1 5
          have d6 := cell_of_heap S2.2.2.1 6
          have d7 := cell_of_heap S2.2.2.1 7
          simp at d0 d1 d2 d3 d4 d5 d6 d7
          have fz := free_of_heap S2.2.2.1
          have hb := S2.2.2.2.2
          clear S2
          go_wp2
          refine bodyPost_ret (v := .tuple #[zeroV, .int .i64 2]) (by simp [results, Tryd.results17, go_sem, zeroV, d0, d1, d2, d3, d4, d5, d6, d7]) rfl (.inr ⟨2, HE.out, rfl, ?_⟩)
          exact ((((((((hb.setCell (Nat.le_refl _) _).setCell (Nat.le_refl _) _).setCell (Nat.le_refl _) _).setCell (Nat.le_refl _) _).setCell (Nat.le_refl _) _).setCell (Nat.le_refl _) _).setCell (Nat.le_refl _) _).setCell (Nat.le_refl _) _)
        | false =>
          have HE : Hid (decR s = kFin s hd ⟨(ka : Int), (kb : Int), (kc : Int), kg, (kd : Int), (ke : Int), kv, es⟩ j) := HG
          have hle : j + 4 ≤ s.size := by
            by_cases hc : j + 4 ≤ s.size
            · exact hc
            · have := hn (by omega); cases this
          obtain ⟨_, hj2, _⟩ := hy hle
          subst hj2
          clear S hx hj hst hy hn hsh hv c0 c1 c2 z1 z2 hown HG
          obtain ⟨c0, c1, c2, z1, z2⟩ := tx_cells S2.1
          have hleI : (j : Int) + 4 ≤ s.size := by omega
          have q1 : (0 : Int) ≤ (j : Int) := by omega
          have q2 : (j : Int) ≤ (s.size : Int) := by omega
          have q3 : IntKind.i64.wrap ((j : Int) + 4) = (j : Int) + 4 := by rw [IntKind.wrap_i64]; omega
          have q4 : (j : Int) ≤ (j : Int) + 4 := by omega
          have q5 : (0 : Int) ≤ (j : Int) + 4 := by omega
          have hex : (s.extract 0 j).size ≤ maxLen := by unfold maxLen; simp; omega
          go_wp2_with fail
          have b0 : BelS w2 w2 := Below.refl _ _
          go_region_held3 (fun w' => BelS w2 w') (first | exact b0.drew | (refine BelS.below ?_ (by assumption); assumption)) (first | (go_at_call 29; refine (sum_bel _ _ (by assumption)).mono ?_; rintro e w' ⟨rfl, hb⟩) | (go_at_call 30; refine (low_any _ _ (by omega)).mono ?_; rintro e w' ⟨rfl, hb⟩))
          have b1 := (by assumption : BelS w2 _)
          have S3 := S2.num (Step.of_below b1) ((b1.block _ (Array.getElem?_eq_some_iff.1 S2.1).1).trans S2.1) S2.2.2.2.1
          have o3 := owns_step o2 (Step.of_below (b := w.heap.size + 1) b1) (by omega)
          clear c0 c1 c2 z1 z2 S2 o2 b0 b1
          obtain ⟨c0, c1, c2, z1, z2⟩ := tx_cells S3.1
          obtain ⟨m0, m1, m2, m3, m4, m5, m6, m7⟩ := box_cells S3.2.1
          have d0 := cell_of_heap S3.2.2.1 0
          have d1 := cell_of_heap S3.2.2.1 1
          have d2 := cell_of_heap S3.2.2.1 2
          have d3 := cell_of_heap S3.2.2.1 3
          have d4 := cell_of_heap S3.2.2.1 4
          have d5 := cell_of_heap S3.2.2.1 5
          have d6 := cell_of_heap S3.2.2.1 6
          have d7 := cell_of_heap S3.2.2.1 7
          simp at d0 d1 d2 d3 d4 d5 d6 d7
          have fz := free_of_heap S3.2.2.1
          go_wp2_with fail
          · have hh := (by assumption : (!(s.extract j ((j : Int) + 4).toNat).toList == low4 (4294967295 - crc 4294967295 (List.take j s.data.toList))) = true)
            have HD3 : Hid (decR s = .inl 3) := HE.out.trans (fin_no hh)
            have hb := S3.2.2.2.2
            refine bodyPost_ret (v := .tuple #[zeroV, .int .i64 3]) (by simp [results, Tryd.results17, go_sem, zeroV, d0, d1, d2, d3, d4, d5, d6, d7]) rfl (.inr ⟨3, HD3.out, rfl, ?_⟩)
            exact ((((((((hb.setCell (Nat.le_refl _) _).setCell (Nat.le_refl _) _).setCell (Nat.le_refl _) _).setCell (Nat.le_refl _) _).setCell (Nat.le_refl _) _).setCell (Nat.le_refl _) _).setCell (Nat.le_refl _) _).setCell (Nat.le_refl _) _)
          · have hh := (by assumption : (!(s.extract j ((j : Int) + 4).toNat).toList == low4 (4294967295 - crc 4294967295 (List.take j s.data.toList))) = false)
            have HG := HE.out.trans (fin_yes hh)
            clear HE hh
            refine (can_any ⟨ka, kb, kc, kg, kd, ke, kv, es⟩ ao cap _ (ents_of_owns o3)).mono ?_
            rintro e w4 ⟨rfl, hb4⟩
            have S4 := S3.num (Step.of_below hb4) ((hb4.block _ (Array.getElem?_eq_some_iff.1 S3.1).1).trans S3.1) S3.2.2.2.1
            have o4 := owns_step o3 (Step.of_below (b := w.heap.size + 1) hb4) (by omega)
            clear c0 c1 c2 z1 z2 S3 o3 m0 m1 m2 m3 m4 m5 m6 m7 d0 d1 d2 d3 d4 d5 d6 d7 fz hb4
            obtain ⟨c0, c1, c2, z1, z2⟩ := tx_cells S4.1
            obtain ⟨m0, m1, m2, m3, m4, m5, m6, m7⟩ := box_cells S4.2.1
            have d0 := cell_of_heap S4.2.2.1 0
            have d1 := cell_of_heap S4.2.2.1 1
            have d2 := cell_of_heap S4.2.2.1 2
            have d3 := cell_of_heap S4.2.2.1 3
            have d4 := cell_of_heap S4.2.2.1 4
            have d5 := cell_of_heap S4.2.2.1 5
            have d6 := cell_of_heap S4.2.2.1 6
            have d7 := cell_of_heap S4.2.2.1 7
            simp at d0 d1 d2 d3 d4 d5 d6 d7
            have fz := free_of_heap S4.2.2.1
            have hb := S4.2.2.2.2
            clear S4
            by_cases hgood : (hd = 77 ∧ j + 4 = s.size) ∧ sendB ⟨ka, kb, kc, kg, kd, ke, kv, es⟩ = true
            · rw [if_pos hgood] at HG
              obtain ⟨⟨g1, g2⟩, g3⟩ := hgood
              have HS : Hid (decR s = .inr _) := HG
              have g4 : (j : Int) + 4 = (s.size : Int) := by omega
              clear HG
              subst g1
              rw [g3]
              go_wp2
              refine bodyPost_ret (v := .tuple #[msgV ⟨ka, kb, kc, kg, kd, ke, kv, es⟩ ao cap, .int .i64 0]) (by simp [results, Tryd.results17, go_sem, msgV, d0, d1, d2, d3, d4, d5, d6, d7]) rfl (.inl ⟨_, ao, cap, HS.out, rfl, ?_, ?_⟩)
              · exact ((((((((hb.setCell (Nat.le_refl _) _).setCell (Nat.le_refl _) _).setCell (Nat.le_refl _) _).setCell (Nat.le_refl _) _).setCell (Nat.le_refl _) _).setCell (Nat.le_refl _) _).setCell (Nat.le_refl _) _).setCell (Nat.le_refl _) _)
              · refine ents_of_owns (base := w.heap.size + 3) (cap := cap) ?_
                have hz7 : w.heap.size < w.heap.size + 3 := by omega
                exact ownsRow_setCell_below (ownsRow_setCell_below (ownsRow_setCell_below (ownsRow_setCell_below (ownsRow_setCell_below (ownsRow_setCell_below (ownsRow_setCell_below (ownsRow_setCell_below o4 hz7 _) hz7 _) hz7 _) hz7 _) hz7 _) hz7 _) hz7 _) hz7 _
            · rw [if_neg hgood] at HG
              have HS : Hid (decR s = .inl 4) := HG
              clear HG
              cases hsd : sendB ⟨ka, kb, kc, kg, kd, ke, kv, es⟩ with
              | false =>
                clear hgood o4
                go_wp2
                refine bodyPost_ret (v := .tuple #[zeroV, .int .i64 4]) (by simp [results, Tryd.results17, go_sem, zeroV, d0, d1, d2, d3, d4, d5, d6, d7]) rfl (.inr ⟨4, HS.out, rfl, ?_⟩)
                exact ((((((((hb.setCell (Nat.le_refl _) _).setCell (Nat.le_refl _) _).setCell (Nat.le_refl _) _).setCell (Nat.le_refl _) _).setCell (Nat.le_refl _) _).setCell (Nat.le_refl _) _).setCell (Nat.le_refl _) _).setCell (Nat.le_refl _) _)
              | true =>
                by_cases g1 : hd = 77
                · have g4 : ¬ (j : Int) + 4 = (s.size : Int) := fun h => hgood ⟨⟨g1, by omega⟩, hsd⟩
                  clear hgood o4
                  subst g1
                  go_wp2
                  refine bodyPost_ret (v := .tuple #[zeroV, .int .i64 4]) (by simp [results, Tryd.results17, go_sem, zeroV, d0, d1, d2, d3, d4, d5, d6, d7]) rfl (.inr ⟨4, HS.out, rfl, ?_⟩)
                  exact ((((((((hb.setCell (Nat.le_refl _) _).setCell (Nat.le_refl _) _).setCell (Nat.le_refl _) _).setCell (Nat.le_refl _) _).setCell (Nat.le_refl _) _).setCell (Nat.le_refl _) _).setCell (Nat.le_refl _) _).setCell (Nat.le_refl _) _)
                · have g4 : ¬ (hd : Int) = 77 := by omega
                  clear hgood o4
                  go_wp2
                  refine bodyPost_ret (v := .tuple #[zeroV, .int .i64 4]) (by simp [results, Tryd.results17, go_sem, zeroV, d0, d1, d2, d3, d4, d5, d6, d7]) rfl (.inr ⟨4, HS.out, rfl, ?_⟩)
                  exact ((((((((hb.setCell (Nat.le_refl _) _).setCell (Nat.le_refl _) _).setCell (Nat.le_refl _) _).setCell (Nat.le_refl _) _).setCell (Nat.le_refl _) _).setCell (Nat.le_refl _) _).setCell (Nat.le_refl _) _).setCell (Nat.le_refl _) _)
end Go.Proofs.YtlagmbieaicmgaaDoor
