/- The ledger: apart, got. -/
import Derived.Test.YtlagmbieaicmgaaKA
namespace Go.Proofs.Ytlagmbieaicmgaa
open Go.RowKit Lk Go.Shelf

def bad (a b : L4) : Bool := !decide (a.tx = b.tx) && (decide (a.key = b.key) && (!a.wt && (!b.wt && (a.wr || b.wr))))

set_option maxHeartbeats 4000000 in
theorem apart_true (w : World) (d : Nat) (L : List L4) (F : List Int) (vl vf : Value) (h : Led w d L F vl vf) (hn : L.length ≤ 4398046511104) (hok : ∀ a ∈ L, ∀ b ∈ L, bad a b = false) :
    Calls Try.prog 20 #[.pointer (some ⟨d, 0, none⟩)] w fun e w' => e = .returned (.bool true) ∧ Below w.heap.size w w' := by
  obtain ⟨ao, cap, hv, hr, _, _⟩ := h.l.rd ll_len
  have c0 : ∀ W, Below w.heap.size w W → W.cell? ⟨d, 0, none⟩ = some (.slice ao L.length cap) := fun W hW => by rw [← hv]; exact (h.below hW).cells.1
  have HC : Hid _ := c0
  have RW : Hid (Rd ll 4 w ao L) := hr
  have OK : Hid (∀ (i j : Nat) (hi : i < L.length) (hj : j < L.length), bad L[i] L[j] = false) := fun i j hi hj => hok _ (List.getElem_mem hi) _ (List.getElem_mem hj)
  clear h hv hr hok c0
  go_enter Try.func20, Try.ntmps20
  go_wp2
  go_loopw [3, 4, 5, 6] (fun s3 _ _ _ wr => ∃ i : Nat, i ≤ L.length ∧ s3 = .int .i64 i ∧ Hid (Below w.heap.size w wr)) (fun s3 _ _ _ _ => L.length - (intOf s3).toNat)
  case atStart => exact ⟨0, Nat.zero_le _, rfl, Below.refl _ _⟩
  case round =>
    obtain ⟨i, hi, rfl, BW⟩ := hrel
    have c0 := HC.out wr BW.out
    by_cases hlt : i < L.length
    · have hii : (i : Int) < (L.length : Int) := by omega
      have HLT : Hid (i < L.length) := hlt
      generalize wr = wv at *
      go_wp2
      go_loopw [4, 5, 6] (fun s4 _ _ wr => ∃ j : Nat, j ≤ L.length ∧ s4 = .int .i64 j ∧ Hid (Below w.heap.size w wr)) (fun s4 _ _ _ => L.length - (intOf s4).toNat)
      case atStart => exact ⟨0, Nat.zero_le _, rfl, BW⟩
      case round =>
        clear c0 BW
        obtain ⟨j, hj, rfl, BW⟩ := hrel
        have c0 := HC.out wr BW.out
        by_cases hjl : j < L.length
        · obtain ⟨b, off, rfl, hb, hc⟩ := RW.out.resolve_left (by intro e; rw [e] at hlt; simp at hlt)
          have hcr := hc.block (BW.out.block b hb)
          have p0 := hcr i hlt 0 _ rfl
          have p1 := hcr i hlt 1 _ rfl
          have p2 := hcr i hlt 2 _ rfl
          have p3 := hcr i hlt 3 _ rfl
          have q0 := hcr j hjl 0 _ rfl
          have q1 := hcr j hjl 1 _ rfl
          have q2 := hcr j hjl 2 _ rfl
          have q3 := hcr j hjl 3 _ rfl
          rw [Nat.add_zero] at p0 q0
          have hji : (j : Int) < (L.length : Int) := by omega
          have hbad := OK.out i j hlt hjl
          clear hcr hc
          generalize L[i] = A at *
          generalize L[j] = B at *
          obtain ⟨x1, k1, r1, t1⟩ := A
          obtain ⟨x2, k2, r2, t2⟩ := B
          have p0' : ∀ o, (wr.alloc o).cell? ⟨b, off + i * 4, none⟩ = some (.int .i64 x1) := fun o => Lib.cell?_alloc_some o p0
          have p1' : ∀ o, (wr.alloc o).cell? ⟨b, off + i * 4 + 1, none⟩ = some (.int .i64 k1) := fun o => Lib.cell?_alloc_some o p1
          have p2' : ∀ o, (wr.alloc o).cell? ⟨b, off + i * 4 + 2, none⟩ = some (.bool r1) := fun o => Lib.cell?_alloc_some o p2
          have p3' : ∀ o, (wr.alloc o).cell? ⟨b, off + i * 4 + 3, none⟩ = some (.bool t1) := fun o => Lib.cell?_alloc_some o p3
          have q0' : ∀ o, (wr.alloc o).cell? ⟨b, off + j * 4, none⟩ = some (.int .i64 x2) := fun o => Lib.cell?_alloc_some o q0
          have q1' : ∀ o, (wr.alloc o).cell? ⟨b, off + j * 4 + 1, none⟩ = some (.int .i64 k2) := fun o => Lib.cell?_alloc_some o q1
          have q2' : ∀ o, (wr.alloc o).cell? ⟨b, off + j * 4 + 2, none⟩ = some (.bool r2) := fun o => Lib.cell?_alloc_some o q2
          have q3' : ∀ o, (wr.alloc o).cell? ⟨b, off + j * 4 + 3, none⟩ = some (.bool t2) := fun o => Lib.cell?_alloc_some o q3
          have c0' : ∀ o, (wr.alloc o).cell? ⟨d, 0, none⟩ = some (.slice (some ⟨b, off, none⟩) L.length cap) := fun o => Lib.cell?_alloc_some o c0
          have X : Hid (∀ o1 o2, Below w.heap.size w ((wr.alloc o1).alloc o2)) := fun o1 o2 => BW.out.trans ((((Below.refl wr.heap.size wr).alloc (Nat.le_refl _) o1).alloc (by simp) o2).mono BW.out.size)
          by_cases hx : x1 = x2
          · clear hbad
            go_wp2
            go_roundw
            case rel => exact ⟨j + 1, by omega, by go_num, X.out _ _⟩
            case measure => simp [intOf]; omega
          · by_cases hk : k1 = k2
            · cases t1
              · cases t2
                · cases r1
                  · cases r2
                    · clear hbad
                      go_wp2
                      go_roundw
                      case rel => exact ⟨j + 1, by omega, by go_num, X.out _ _⟩
                      case measure => simp [intOf]; omega
                    · simp [bad, hx, hk] at hbad
                  · simp [bad, hx, hk] at hbad
                · clear hbad
                  go_wp2
                  go_roundw
                  case rel => exact ⟨j + 1, by omega, by go_num, X.out _ _⟩
                  case measure => simp [intOf]; omega
              · clear hbad
                go_wp2
                go_roundw
                case rel => exact ⟨j + 1, by omega, by go_num, X.out _ _⟩
                case measure => simp [intOf]; omega
            · clear hbad
              go_wp2
              go_roundw
              case rel => exact ⟨j + 1, by omega, by go_num, X.out _ _⟩
              case measure => simp [intOf]; omega
        · have hji : ¬ (j : Int) < (L.length : Int) := by omega
          go_wp2
          go_roundw
          case rel => exact ⟨i + 1, by omega, by go_num, BW⟩
          case measure => simp [intOf]; omega
    · have hii : ¬ (i : Int) < (L.length : Int) := by omega
      go_wp2
      go_ret
      exact ⟨rfl, BW.out⟩

def gotP (tx key : Int) (l : L4) : Bool := decide (l.tx = tx) && (decide (l.key = key) && l.wt)
/-- The first that waits so has its lock. -/
def gotL (L : List L4) (tx key : Int) : List L4 := match L.findIdx? (gotP tx key) with
  | some k => L.set k { (L.getD k default) with wt := false }
  | none => L
theorem gotL_hit {L : List L4} {tx key : Int} {k : Nat} (hk : k < L.length) (h1 : gotP tx key L[k] = true) (h0 : ∀ j (h : j < L.length), j < k → gotP tx key L[j] = false) : gotL L tx key = L.set k ⟨L[k].tx, L[k].key, L[k].wr, false⟩ := by
  have : L.findIdx? (gotP tx key) = some k := List.findIdx?_eq_some_iff_getElem.2 ⟨hk, h1, fun j hj => by rw [h0 j (by omega) hj]; simp⟩
  unfold gotL
  rw [this]
  simp [List.getD, List.getElem?_eq_getElem hk]

/-- A ledger's row whose last cell of a record turns. -/
theorem rw_last4 {w : World} {g cap : Nat} {cs : List L4} (h : Rw ll 4 88 w g cap cs) (k : Nat) (hk : k < cs.length) (b : Bool) :
    Rw ll 4 88 (w.setCell ⟨g, k * 4 + 3, none⟩ (.bool b)) g cap (cs.set k ⟨cs[k].tx, cs[k].key, cs[k].wr, b⟩) := by
  refine ⟨h.sh.setCell _ _, by simpa using h.len, h.max, ?_⟩
  intro j hj r u hu
  have hj' : j < cs.length := by simpa using hj
  have hr : r < 4 := (List.getElem?_eq_some_iff.1 hu).1
  have e1 : w.setCell ⟨g, k * 4 + 3, none⟩ (.bool b) = w.setCells g (k * 4 + 3) [.bool b] := rfl
  by_cases hjk : k = j ∧ r = 3
  · obtain ⟨rfl, rfl⟩ := hjk
    rw [List.getElem_set_self] at hu
    have hs := h.sh.some (k * 4 + 3) (by have := h.len; omega)
    rw [e1, Nat.zero_add, World.cell?_setCells_in g [.bool b] (k * 4 + 3) w (fun t ht => by rw [show t = 0 by simpa using ht]; exact hs) 0 (by simp)]
    exact hu
  · rw [e1, World.cell?_setCells_out g _ _ _ _ (fun _ _ => by show 0 + j * 4 + r < k * 4 + 3 ∨ k * 4 + 3 + 1 ≤ 0 + j * 4 + r; omega)]
    refine h.at' j hj' r u ?_
    by_cases hk2 : k = j
    · subst hk2
      rw [List.getElem_set_self] at hu
      rcases (show r = 0 ∨ r = 1 ∨ r = 2 by omega) with rfl | rfl | rfl
      · exact hu
      · exact hu
      · exact hu
    · rw [List.getElem_set_ne hk2] at hu; exact hu

set_option maxHeartbeats 4000000 in
theorem got_true (w : World) (d : Nat) (L : List L4) (F : List Int) (vl vf : Value) (tx key : Int) (h : Led w d L F vl vf) (hn : L.length ≤ 4398046511104) (hex : ∃ l ∈ L, gotP tx key l = true) :
    Calls Try.prog 39 #[.pointer (some ⟨d, 0, none⟩), .int .i64 tx, .int .i64 key] w fun e w' => e = .returned (.bool true) ∧ Led w' d (gotL L tx key) F vl vf ∧ Fr (fun b => vl.ownBlock = some b) w w' := by
  obtain ⟨l0, hl0, hp0⟩ := hex
  rcases h.l.cases ll_len with ⟨_, e⟩ | ⟨g, cap, hv, hr⟩
  · rw [e] at hl0; simp at hl0
  have c0 := h.cells.1
  rw [hv] at c0
  have HR : Hid (Rw ll 4 88 w g cap L) := hr
  have H0 : Hid (Led w d L F vl vf) := h
  have HV : Hid (vl = .slice (some ⟨g, 0, none⟩) L.length cap) := hv
  have HEX : Hid (∃ (k : Nat) (hk : k < L.length), gotP tx key L[k] = true) := by
    obtain ⟨k, hk, e⟩ := List.getElem_of_mem hl0
    exact ⟨k, hk, by rw [e]; exact hp0⟩
  clear h hv hr hl0 hp0
  go_enter Try.func39, Try.ntmps39
  go_wp2
  go_loopw [7] (fun i wr => ∃ k : Nat, k ≤ L.length ∧ i = .int .i64 k ∧ Hid (wr = w) ∧ Hid (∀ j (hj : j < L.length), j < k → gotP tx key L[j] = false)) (fun i _ => L.length - (intOf i).toNat)
  case atStart => exact ⟨0, Nat.zero_le _, rfl, rfl, fun j _ h => absurd h (Nat.not_lt_zero _)⟩
  case round =>
    obtain ⟨k, hk, rfl, HWR, A⟩ := hrel
    have hwr : wr = w := HWR.out
    clear HWR
    subst wr
    by_cases hlt : k < L.length
    · have q0 := HR.out.at' k hlt 0 _ rfl
      have q1 := HR.out.at' k hlt 1 _ rfl
      have q3 := HR.out.at' k hlt 3 _ rfl
      rw [Nat.add_zero] at q0
      rw [Nat.zero_add] at q0 q1 q3
      have f3 := HR.out.sh.free (k * 4 + 3)
      have hki : (k : Int) < (L.length : Int) := by omega
      have NO : Hid (gotP tx key L[k] = false → ∀ j (hj : j < L.length), j < k + 1 → gotP tx key L[j] = false) := fun e j hj hjk => by
        by_cases ej : j = k
        · subst ej; exact e
        · exact A.out j hj (by omega)
      have YES : Hid (gotP tx key L[k] = true → Led (w.setCell ⟨g, k * 4 + 3, none⟩ (.bool false)) d (gotL L tx key) F vl vf ∧ Fr (fun b => vl.ownBlock = some b) w (w.setCell ⟨g, k * 4 + 3, none⟩ (.bool false))) := fun e => by
        have hg : vl.ownBlock = some g := by rw [HV.out]; rfl
        have f1 := fr_set w g (k * 4 + 3) (.bool false)
        have ow := (rw_last4 HR.out k hlt false).own ll_len (by omega)
        rw [List.length_set, ← HV.out] at ow
        have h := H0.out
        rw [gotL_hit hlt e A.out]
        exact ⟨⟨by rw [f1.block d h.lt (fun q => h.ld (by rw [hg, q]))]; exact h.box, ow, h.f.fr f1 fun b hb q => h.lf g hg (by rw [hb, q]), h.ld, h.fd, h.lf⟩, f1.mono fun b _ q => by rw [q]; exact hg⟩
      have PD : Hid (gotP tx key L[k] = (decide (L[k].tx = tx) && (decide (L[k].key = key) && L[k].wt))) := rfl
      generalize gotP tx key L[k] = gb at *
      generalize L[k].tx = x at *
      generalize L[k].key = y at *
      generalize L[k].wt = z at *
      by_cases hx : x = tx
      · by_cases hy : y = key
        · cases z
          · have e := PD.out
            simp at e
            go_wp2
            go_roundw
            case rel => exact ⟨k + 1, by omega, by go_num, by first | exact True.intro | rfl, NO.out (by simpa using PD.out)⟩
            case measure => simp [intOf]; omega
          · have Y : Hid _ := YES.out (by rw [PD.out]; simp [hx, hy])
            go_wp2
            go_ret
            exact ⟨rfl, Y.out⟩
        · go_wp2
          go_roundw
          case rel => exact ⟨k + 1, by omega, by go_num, by first | exact True.intro | rfl, NO.out (by rw [PD.out]; simp [hy])⟩
          case measure => simp [intOf]; omega
      · go_wp2
        go_roundw
        case rel => exact ⟨k + 1, by omega, by go_num, by first | exact True.intro | rfl, NO.out (by rw [PD.out]; simp [hx])⟩
        case measure => simp [intOf]; omega
    · obtain ⟨m, hm, e⟩ := HEX.out
      rw [A.out m hm (by omega)] at e
      cases e
end Go.Proofs.Ytlagmbieaicmgaa
