/- The book of marks: does each list still read as its owner left it? -/
import Derived.Test.YtlagmbieaicmgaaQQ
namespace Go.Proofs.Ytlagmbieaicmgaa
open Go.RowKit Lk Go.Shelf

theorem markI_eq (n : Nat) : markI n = -7 - (n : Int) / 4 := by unfold markI; omega
/-- A row of lists: each place's head, and the cells that it tells. -/
def RowI (w : World) (ao : Option Addr) (xs : List Sl) : Prop := ∀ n (hn : n < xs.length), ∃ b o, ao = some ⟨b, o, none⟩ ∧ w.cell? ⟨b, o + n, none⟩ = some (.slice xs[n].ao xs[n].n xs[n].cap) ∧ xs[n].n ≤ 1000000 ∧ (xs[n].n = 0 ∨ ∃ g, xs[n].ao = some ⟨g, 0, none⟩ ∧ ∀ i, i < xs[n].n → w.cell? ⟨g, i, none⟩ = some (.int .i64 (-7 - (n : Int) / 4)))
def RowG (w : World) (ao : Option Addr) (xs : List Sl) : Prop := ∀ n (hn : n < xs.length), ∃ b o, ao = some ⟨b, o, none⟩ ∧ w.cell? ⟨b, o + n, none⟩ = some (.slice xs[n].ao xs[n].n xs[n].cap) ∧ xs[n].n ≤ 1000000 ∧ (xs[n].n = 0 ∨ ∃ g, xs[n].ao = some ⟨g, 0, none⟩ ∧ ∀ i, i < xs[n].n → w.cell? ⟨g, i * 2, none⟩ = some (.int .i64 (-7 - (n : Int) / 4)) ∧ w.cell? ⟨g, i * 2 + 1, none⟩ = some (.int .i64 0))
theorem MI.row {w : World} {K : Nat → Prop} {xs : List Sl} {ao : Option Addr} (h : MI w K xs) (hr : Rd sl 1 w ao xs) : RowI w ao xs := by
  intro n hn
  obtain ⟨b, o, e, _, hc⟩ := hr.resolve_left (by intro e; rw [e] at hn; simp at hn)
  have q := hc n hn 0 _ rfl
  rw [Nat.mul_one, Nat.add_zero] at q
  refine ⟨b, o, e, q, (h n hn).1, (h n hn).2.imp id fun ⟨g, e1, _, hA⟩ => ⟨g, e1, fun i hi => ?_⟩⟩
  have := hA i (by omega)
  rw [Nat.mod_one, markI_eq] at this
  exact this
theorem MG.row {w : World} {K : Nat → Prop} {xs : List Sl} {ao : Option Addr} (h : MG w K xs) (hr : Rd sl 1 w ao xs) : RowG w ao xs := by
  intro n hn
  obtain ⟨b, o, e, _, hc⟩ := hr.resolve_left (by intro e; rw [e] at hn; simp at hn)
  have q := hc n hn 0 _ rfl
  rw [Nat.mul_one, Nat.add_zero] at q
  refine ⟨b, o, e, q, (h n hn).1, (h n hn).2.imp id fun ⟨g, e1, _, hA⟩ => ⟨g, e1, fun i hi => ⟨?_, ?_⟩⟩⟩
  · have := hA (i * 2) (by omega)
    rw [show i * 2 % 2 = 0 by omega, markI_eq] at this
    exact this
  · have := hA (i * 2 + 1) (by omega)
    rw [show (i * 2 + 1) % 2 = 1 by omega] at this
    exact this

set_option maxRecDepth 20000 in
set_option maxHeartbeats 16000000 in
theorem kept_true (w : World) (d ni ng nw : Nat) (D K : Nat → Prop) (h : BK w d ni ng nw D K) (h1 : ni ≤ 2000000) (h2 : ng ≤ 2000000) (h3 : nw ≤ 2000000) :
    Calls Try.prog 9 #[.pointer (some ⟨d, 0, none⟩)] w fun e w' => e = .returned (.bool true) ∧ Below w.heap.size w w' := by
  obtain ⟨xi, xg, xw, vi, vg, vw, hb, hD, m1, m2, m3, hK, l1, l2, l3⟩ := h
  obtain ⟨ai, ci, hvi, ri, -, -⟩ := hb.i.rd sl_len
  obtain ⟨ag', cg, hvg, rg, -, -⟩ := hb.g.rd sl_len
  obtain ⟨aw, cw, hvw, rw', -, -⟩ := hb.h.rd sl_len
  have c0 : w.cell? ⟨d, 0, none⟩ = some (.slice ai xi.length ci) := by rw [← hvi]; exact hb.cells.1
  have c1 : w.cell? ⟨d, 1, none⟩ = some (.slice ag' xg.length cg) := by rw [← hvg]; exact hb.cells.2.1
  have c2 : w.cell? ⟨d, 2, none⟩ = some (.slice aw xw.length cw) := by rw [← hvw]; exact hb.cells.2.2
  have c3 : w.cell? ⟨d, 3, none⟩ = some (.slice none 0 0) := by rw [cell_of_heap hb.box]; rfl
  have RI : Hid (RowI w ai xi) := m1.row ri
  have RG : Hid (RowG w ag' xg) := m2.row rg
  have RW : Hid (RowG w aw xw) := m3.row rw'
  have hl1 : xi.length ≤ 8000000 := by omega
  have hl2 : xg.length ≤ 8000000 := by omega
  have hl3 : xw.length ≤ 8000000 := by omega
  clear hb hD m1 m2 m3 hK l1 l2 l3 hvi hvg hvw ri rg rw' h1 h2 h3
  go_enter Try.func9, Try.ntmps9
  go_wp2
  go_loopw [3, 4] (fun s3 _ wr => ∃ n : Nat, n ≤ xi.length ∧ s3 = .int .i64 n ∧ Hid (wr = w)) (fun s3 _ _ => xi.length - (intOf s3).toNat)
  case atStart => exact ⟨0, Nat.zero_le _, rfl, rfl⟩
  case round =>
    obtain ⟨n, hn, rfl, HWR⟩ := hrel
    have hwr : wr = w := HWR.out
    clear HWR
    subst wr
    by_cases hlt : n < xi.length
    · have hni : (n : Int) < (xi.length : Int) := by omega
      obtain ⟨b, o, rfl, q, hsn, hcs⟩ := RI.out n hlt
      have HCS : Hid (xi[n].n = 0 ∨ ∃ g, xi[n].ao = some ⟨g, 0, none⟩ ∧ ∀ i, i < xi[n].n → w.cell? ⟨g, i, none⟩ = some (.int .i64 (-7 - (n : Int) / 4))) := hcs
      clear hcs
      generalize xi[n] = s at *
      obtain ⟨sa, sn, sc⟩ := s
      go_wp2
      go_loopw [4] (fun s4 wr => ∃ i : Nat, i ≤ sn ∧ s4 = .int .i64 i ∧ Hid (wr = w)) (fun s4 _ => sn - (intOf s4).toNat)
      case atStart => exact ⟨0, Nat.zero_le _, rfl, rfl⟩
      case round =>
        obtain ⟨i, hi, rfl, HWR⟩ := hrel
        have hwr : wr = w := HWR.out
        clear HWR
        subst wr
        by_cases hil : i < sn
        · have hii : (i : Int) < (sn : Int) := by omega
          obtain ⟨g, e, hc⟩ := HCS.out.resolve_left (by show ¬ sn = 0; omega)
          have e' : sa = some ⟨g, 0, none⟩ := e
          subst e'
          have p0 := hc i hil
          clear hc e HCS
          go_wp2
          go_roundw
          case rel => exact ⟨i + 1, by omega, by go_num, by first | exact True.intro | rfl⟩
          case measure => simp [intOf]; omega
        · have hii : ¬ (i : Int) < (sn : Int) := by omega
          go_wp2
          go_roundw
          case rel => exact ⟨n + 1, by omega, by go_num, by first | exact True.intro | rfl⟩
          case measure => simp [intOf]; omega
    · have hni : ¬ (n : Int) < (xi.length : Int) := by omega
      clear RI
      go_wp2
      go_loopw [5, 6] (fun s3 _ wr => ∃ n : Nat, n ≤ xg.length ∧ s3 = .int .i64 n ∧ Hid (wr = w)) (fun s3 _ _ => xg.length - (intOf s3).toNat)
      case atStart => exact ⟨0, Nat.zero_le _, rfl, rfl⟩
      case round =>
        clear hn hni
        obtain ⟨n, hn, rfl, HWR⟩ := hrel
        have hwr : wr = w := HWR.out
        clear HWR
        subst wr
        by_cases hlt : n < xg.length
        · have hni : (n : Int) < (xg.length : Int) := by omega
          obtain ⟨b, o, rfl, q, hsn, hcs⟩ := RG.out n hlt
          have HCS : Hid (xg[n].n = 0 ∨ ∃ g, xg[n].ao = some ⟨g, 0, none⟩ ∧ ∀ i, i < xg[n].n → w.cell? ⟨g, i * 2, none⟩ = some (.int .i64 (-7 - (n : Int) / 4)) ∧ w.cell? ⟨g, i * 2 + 1, none⟩ = some (.int .i64 0)) := hcs
          clear hcs
          generalize xg[n] = s at *
          obtain ⟨sa, sn, sc⟩ := s
          go_wp2
          go_loopw [6] (fun s4 wr => ∃ i : Nat, i ≤ sn ∧ s4 = .int .i64 i ∧ Hid (wr = w)) (fun s4 _ => sn - (intOf s4).toNat)
          case atStart => exact ⟨0, Nat.zero_le _, rfl, rfl⟩
          case round =>
            obtain ⟨i, hi, rfl, HWR⟩ := hrel
            have hwr : wr = w := HWR.out
            clear HWR
            subst wr
            by_cases hil : i < sn
            · have hii : (i : Int) < (sn : Int) := by omega
              obtain ⟨g, e, hc⟩ := HCS.out.resolve_left (by show ¬ sn = 0; omega)
              have e' : sa = some ⟨g, 0, none⟩ := e
              subst e'
              obtain ⟨p0, p1⟩ := hc i hil
              clear hc e HCS
              go_wp2
              go_roundw
              case rel => exact ⟨i + 1, by omega, by go_num, by first | exact True.intro | rfl⟩
              case measure => simp [intOf]; omega
            · have hii : ¬ (i : Int) < (sn : Int) := by omega
              go_wp2
              go_roundw
              case rel => exact ⟨n + 1, by omega, by go_num, by first | exact True.intro | rfl⟩
              case measure => simp [intOf]; omega
        · have hni : ¬ (n : Int) < (xg.length : Int) := by omega
          clear RG
          go_wp2
          go_loopw [7, 8] (fun s3 _ wr => ∃ n : Nat, n ≤ xw.length ∧ s3 = .int .i64 n ∧ Hid (wr = w)) (fun s3 _ _ => xw.length - (intOf s3).toNat)
          case atStart => exact ⟨0, Nat.zero_le _, rfl, rfl⟩
          case round =>
            clear hn hni
            obtain ⟨n, hn, rfl, HWR⟩ := hrel
            have hwr : wr = w := HWR.out
            clear HWR
            subst wr
            by_cases hlt : n < xw.length
            · have hni : (n : Int) < (xw.length : Int) := by omega
              obtain ⟨b, o, rfl, q, hsn, hcs⟩ := RW.out n hlt
              have HCS : Hid (xw[n].n = 0 ∨ ∃ g, xw[n].ao = some ⟨g, 0, none⟩ ∧ ∀ i, i < xw[n].n → w.cell? ⟨g, i * 2, none⟩ = some (.int .i64 (-7 - (n : Int) / 4)) ∧ w.cell? ⟨g, i * 2 + 1, none⟩ = some (.int .i64 0)) := hcs
              clear hcs
              generalize xw[n] = s at *
              obtain ⟨sa, sn, sc⟩ := s
              go_wp2
              go_loopw [8] (fun s4 wr => ∃ i : Nat, i ≤ sn ∧ s4 = .int .i64 i ∧ Hid (wr = w)) (fun s4 _ => sn - (intOf s4).toNat)
              case atStart => exact ⟨0, Nat.zero_le _, rfl, rfl⟩
              case round =>
                obtain ⟨i, hi, rfl, HWR⟩ := hrel
                have hwr : wr = w := HWR.out
                clear HWR
                subst wr
                by_cases hil : i < sn
                · have hii : (i : Int) < (sn : Int) := by omega
                  obtain ⟨g, e, hc⟩ := HCS.out.resolve_left (by show ¬ sn = 0; omega)
                  have e' : sa = some ⟨g, 0, none⟩ := e
                  subst e'
                  obtain ⟨p0, p1⟩ := hc i hil
                  clear hc e HCS
                  go_wp2
                  go_roundw
                  case rel => exact ⟨i + 1, by omega, by go_num, by first | exact True.intro | rfl⟩
                  case measure => simp [intOf]; omega
                · have hii : ¬ (i : Int) < (sn : Int) := by omega
                  go_wp2
                  go_roundw
                  case rel => exact ⟨n + 1, by omega, by go_num, by first | exact True.intro | rfl⟩
                  case measure => simp [intOf]; omega
            · have hni : ¬ (n : Int) < (xw.length : Int) := by omega
              clear RW
              go_wp2
              go_loopw [9, 10] (fun s9 _ wr => s9 = .int .i64 0 ∧ Hid (wr = w)) (fun _ _ _ => 0)
              case atStart => exact ⟨rfl, rfl⟩
              case round =>
                clear hn hni
                obtain ⟨rfl, HWR⟩ := hrel
                have hwr : wr = w := HWR.out
                clear HWR
                subst wr
                go_wp2
                go_ret
                exact ⟨rfl, Below.refl _ _⟩
end Go.Proofs.Ytlagmbieaicmgaa
