/- Codes over nothing at all; and what came in, with how much of it there is. -/
import Derived.Test.YtlagmbieaicmgaaDoorRefQ
import Derived.Test.YtlagmbieaicmgaaDoorOpen
import Derived.Test.YtlagmbieaicmgaaDoorRows
namespace Go.Proofs.YtlagmbieaicmgaaDoor
open Go.ChangeShapes Go.WideShapes Go.ChangeAt Go.RowKit Go.Deep Pact

set_option maxHeartbeats 1000000 in
theorem codes_none (m : Msg) (ao : Option Addr) (cap : Nat) (lo : Option Addr) (cap2 : Nat) (w : World) (hn : m.ents.length ≤ 1048576) (he : EntsIn w ao m.ents) (hT : TabAt w) :
    Calls Tryd.prog 3 #[msgV m ao cap, .slice lo 0 cap2] w fun e w' => e = .returned (.bool true) ∧ Below w.heap.size w w' := by
  have hb0 : 0 < w.heap.size := cell_lt (hT 0 (by omega))
  go_enter Tryd.func3, Tryd.ntmps3
  go_wp2_with fail
  refine (encoded_any m ao cap _ hn (he.below (bel_alloc _ _)) (hT.below (bel_alloc _ _) hb0)).mono ?_
  rintro e w1 ⟨rfl, hb⟩
  have Bl : Below w.heap.size w w1 := (bel_alloc _ _).trans (hb.mono (by simp))
  clear hb
  go_wp2_with fail
  refine wp_loop_rounds 1 ?_
  rw [rounds_succ]
  go_wp2_with fail
  refine (decode_u ⟨#[77]⟩ w1 (by unfold maxLen; decide) (hT.below Bl hb0)).mono ?_
  have hd : decM ⟨#[77]⟩ = (msg0, 2) := by
    have h1 : decR ⟨#[77]⟩ = .inl 2 := by rfl
    unfold decM
    rw [h1]
  rw [hd]
  rintro e w2 ⟨ao2, cap3, rfl, hb2, _⟩
  have B2 := Bl.trans (hb2.mono Bl.size)
  clear Bl hb2
  unfold msgV msg0
  go_wp2
  go_ret
  exact ⟨rfl, B2.alloc B2.size _⟩

theorem codes_any (m : Msg) (ao : Option Addr) (cap : Nat) (ss : List ByteArray) (lo : Option Addr) (cap2 : Nat) (w : World) (hn : m.ents.length ≤ 1048576) (he : EntsIn w ao m.ents) (hT : TabAt w) (hl : ss.length ≤ 1048576) (hs : ∀ s ∈ ss, s.size ≤ 1048576) (hc : StrsIn w lo ss) :
    Calls Tryd.prog 3 #[msgV m ao cap, .slice lo ss.length cap2] w fun e w' => e = .returned (.bool true) ∧ Below w.heap.size w w' := by
  by_cases h0 : ss = []
  · subst h0; exact codes_none m ao cap lo cap2 w hn he hT
  · obtain ⟨b, off, rfl, hc2⟩ := hc.resolve_left h0
    exact codes_some m ao cap ss b off cap2 w hn he hT hl hs hc2

section
variable {H : Type}
theorem bulk_pos (d : DataW H) : 0 < Rows.uptoBulk d := by
  cases d with
  | lit l => cases l <;> simp [Rows.uptoBulk]
  | _ => simp [Rows.uptoBulk]
theorem bulk_mem : ∀ {l : List (DataW H)} {d : DataW H}, d ∈ l → Rows.uptoBulk d ≤ Rows.uptoBulkAll l
  | x :: r, d, h => by
    simp only [Rows.uptoBulkAll]
    rcases List.mem_cons.1 h with e | e
    · rw [e]; omega
    · have := bulk_mem e; omega
theorem bulk_len : ∀ (l : List (DataW H)), l.length ≤ Rows.uptoBulkAll l
  | [] => Nat.zero_le _
  | x :: r => by
    have h1 := bulk_pos x
    have h2 := bulk_len r
    simp only [Rows.uptoBulkAll, List.length_cons]
    omega
variable {enc : TypeId × Value → H} {w : World} {base : Nat} {sp : Nat → Bool} {held : Bool}

theorem ents_bulk {fuel : Nat} {ao : Option Addr} {n cap : Nat} {x : DataW H × List MemPlace} (h : DataW.trod enc Tryd.prog w base sp held fuel 22 [.slice ao n cap] = some x) : n ≤ Rows.uptoBulk x.1 := by
  rcases open_slice Tryd.underlying22 h with ⟨hc, _⟩ | ⟨a, len, cp, m, k, D, Pl, hc, _, _, _, _, hx, _⟩
  · injection hc with hc
    injection hc with _ h2 _
    omega
  · injection hc with hc
    injection hc with _ h2 _
    rw [hx]
    have := bulk_len ((List.range len).map D)
    simp only [List.length_map, List.length_range] at this
    show n ≤ Rows.uptoBulkAll ((List.range len).map D) + _ + 1
    omega

theorem msg_bulk {m : Msg} {ao : Option Addr} {cap : Nat} {d : DataW H} {p : List MemPlace} (h : DataW.Trod enc Tryd.prog w base sp held 24 (msgV m ao cap) d p) : m.ents.length ≤ Rows.uptoBulk d := by
  obtain ⟨fuel, hf⟩ := h
  obtain ⟨xs, k, _, hx, hl, hxl, hf⟩ := DataW.trod_struct Tryd.underlying24 hf
  have hx8 : xs.length = 8 := hxl
  have f7 : DataW.trod enc Tryd.prog w base sp held k 22 (([.int .i64 m.kind, .int .i64 m.fr, .int .i64 m.to, .string m.group, .int .i64 m.ballot, .int .i64 m.slot, .string m.value, .slice ao m.ents.length cap] : List Value).drop 7 |>.take (Tryd.prog.cellsOf 22)) = xs[7]? := hf 7 _ rfl
  rw [cellsS, List.getElem?_eq_getElem (by omega)] at f7
  have h1 := ents_bulk f7
  injection hx with hx _
  rw [hx]
  have h2 := bulk_mem (List.mem_map_of_mem (f := (·.1)) (List.getElem_mem (l := xs) (n := 7) (by omega)))
  show _ ≤ Rows.uptoBulkAll _ + 1
  omega

theorem open_strs {r : Reach} {b0 : Nat} {v : Value} {d : DataW H} {p : List MemPlace} (hv : Value.okWide Tryd.prog w r b0 25 v) (h : DataW.Trod enc Tryd.prog w base sp held 25 v d p) :
    ∃ (ss : List ByteArray) (lo : Option Addr) (cap : Nat), v = .slice lo ss.length cap ∧ StrsIn w lo ss ∧ ss.length ≤ Rows.uptoBulk d ∧ ∀ s ∈ ss, s.size ≤ Rows.uptoBulk d := by
  obtain ⟨ao, n, cap, rfl⟩ : ∃ ao n cap, v = .slice ao n cap := okWide_slice Tryd.underlying25 hv
  obtain ⟨fuel, hf⟩ := h
  rcases open_slice1 Tryd.underlying25 cells9 hf with ⟨hc, hx⟩ | ⟨a, len, cp, m, k, V, D, Pl, hc, _, hlc, _, hm, hx, hel⟩
  · have hc' : Value.slice ao n cap = .slice none 0 0 := List.head_eq_of_cons_eq (show [Value.slice ao n cap] = [.slice none 0 0] from hc)
    exact ⟨[], none, 0, hc', .inl rfl, Nat.zero_le _, fun s hs => by simp at hs⟩
  · have hc' : Value.slice ao n cap = .slice (some a) len cp := List.head_eq_of_cons_eq (show [Value.slice ao n cap] = [.slice (some a) len cp] from hc)
    rw [hc']
    have hlm : len ≤ m := by rw [hm]; split <;> omega
    have each : ∀ i, ∃ s : ByteArray, i < len → w.cell? (a.add i) = some (.string s) ∧ D i = .lit (.string s.data.toList) := by
      intro i
      by_cases hi : i < len
      · obtain ⟨h1, h2⟩ := hel i (by omega)
        obtain ⟨s, e1, e2, _⟩ := DataW.trod_string Tryd.underlying9 h2
        refine ⟨s, fun _ => ⟨?_, ?_⟩⟩
        · have : V i = .string s := by simpa using e1
          rw [h1, this]
        · injection e2
      · exact ⟨.empty, fun h => absurd h hi⟩
    obtain ⟨f, hf2⟩ : ∃ f : Nat → ByteArray, ∀ i, i < len → w.cell? (a.add i) = some (.string (f i)) ∧ D i = .lit (.string (f i).data.toList) := ⟨fun i => (each i).choose, fun i => (each i).choose_spec⟩
    have hlen : ((List.range len).map f).length = len := by simp
    injection hx with hx _
    have hb := bulk_len ((List.range len).map D)
    simp only [List.length_map, List.length_range] at hb
    have hd : Rows.uptoBulkAll ((List.range len).map D) ≤ Rows.uptoBulk d := by
      rw [hx]
      show _ ≤ Rows.uptoBulkAll _ + _ + 1
      omega
    refine ⟨(List.range len).map f, some a, cp, by rw [hlen], ?_, by rw [hlen]; omega, ?_⟩
    · by_cases h0 : len = 0
      · left; subst h0; rfl
      · right
        obtain ⟨b, off, spot⟩ := a
        have hs0 := (hf2 0 (by omega)).1
        have hspot : spot = none := by simpa [Addr.add] using World.cell?_spot hs0
        subst hspot
        refine ⟨b, off, rfl, fun i hi => ?_⟩
        rw [hlen] at hi
        have g0 := (hf2 i hi).1
        rw [addr_add] at g0
        have hget : ((List.range len).map f)[i]'(by rw [hlen]; exact hi) = f i := by simp
        rw [hget]
        exact g0
    · intro s hs
      obtain ⟨i, hi, rfl⟩ := List.mem_map.1 hs
      have hi' : i < len := List.mem_range.1 hi
      have h1 := bulk_mem (List.mem_map_of_mem (f := D) hi)
      rw [(hf2 i hi').2] at h1
      have h2 : (f i).data.toList.length + 1 ≤ Rows.uptoBulkAll ((List.range len).map D) := by simpa [Rows.uptoBulk] using h1
      have h3 : (f i).data.toList.length = (f i).size := by simp
      omega
end
end Go.Proofs.YtlagmbieaicmgaaDoor
