/- The ledger: waiting. -/
import Derived.Test.YtlagmbieaicmgaaKD
namespace Go.Proofs.Ytlagmbieaicmgaa
open Go.RowKit Lk Go.Shelf

def inB (ps : List G) (tx : Int) : Bool := ps.any fun p => decide (p.a = tx)
theorem in_next {ps : List G} {tx : Int} {k : Nat} (hk : k < ps.length) : inB (ps.take (k + 1)) tx = (inB (ps.take k) tx || decide (ps[k].a = tx)) := by
  unfold inB
  rw [take_next hk, List.any_append]; simp

set_option maxHeartbeats 8000000 in
theorem waiting_true (w : World) (d : Nat) (L : List L4) (F : List Int) (vl vf : Value) (ao : Option Addr) (cap : Nat) (ps : List G) (h : Led w d L F vl vf) (hn : L.length ≤ 4398046511104) (hm : F.length ≤ 4398046511104) (hr : Rd gl 2 w ao ps) (hg : ps.length ≤ 1000000)
    (h1 : ∀ p ∈ ps, busyB L p.a = true ∧ (p.a ≤ p.b → firmB F p.b = true)) (h2 : ∀ l ∈ L, l.wt = true → inB ps l.tx = true) :
    Calls Try.prog 19 #[.pointer (some ⟨d, 0, none⟩), .slice ao ps.length cap] w fun e w' => e = .returned (.bool true) ∧ Below w.heap.size w w' := by
  obtain ⟨al, cl', hv, hrl, _, _⟩ := h.l.rd ll_len
  have HC : Hid (∀ W, Below w.heap.size w W → W.cell? ⟨d, 0, none⟩ = some (.slice al L.length cl')) := fun W hW => by rw [← hv]; exact (h.below hW).cells.1
  have RP : Hid (Rd gl 2 w ao ps) := hr
  have RL : Hid (Rd ll 4 w al L) := hrl
  have P1 : Hid (∀ k (hk : k < ps.length), busyB L ps[k].a = true ∧ (ps[k].a ≤ ps[k].b → firmB F ps[k].b = true)) := fun k hk => h1 _ (List.getElem_mem hk)
  have P2 : Hid (∀ k (hk : k < L.length), L[k].wt = true → inB ps L[k].tx = true) := fun k hk => h2 _ (List.getElem_mem hk)
  have H0 : Hid (Led w d L F vl vf) := h
  clear h hr hrl hv h1 h2
  go_enter Try.func19, Try.ntmps19
  go_wp2
  go_loopw [5, 6, 7] (fun s5 _ _ wr => ∃ k : Nat, k ≤ ps.length ∧ s5 = .int .i64 k ∧ Hid (Below w.heap.size w wr)) (fun s5 _ _ _ => ps.length - (intOf s5).toNat)
  case atStart => exact ⟨0, Nat.zero_le _, rfl, Below.refl _ _⟩
  case round =>
    obtain ⟨k, hk, rfl, BW⟩ := hrel
    by_cases hlt : k < ps.length
    · obtain ⟨b, off, rfl, hb, hc⟩ := RP.out.resolve_left (by intro e; rw [e] at hlt; simp at hlt)
      have QC : Hid (∀ W, Below w.heap.size w W → W.cell? ⟨b, off + k * 2, none⟩ = some (.int .i64 ps[k].a) ∧ W.cell? ⟨b, off + k * 2 + 1, none⟩ = some (.int .i64 ps[k].b)) := fun W hW => ⟨(hc.block (hW.block b hb)) k hlt 0 _ rfl, (hc.block (hW.block b hb)) k hlt 1 _ rfl⟩
      have hki : (k : Int) < (ps.length : Int) := by omega
      obtain ⟨hbz, hfm⟩ := P1.out k hlt
      clear hc
      generalize ps[k] = p at *
      obtain ⟨x, y⟩ := p
      obtain ⟨q0, q1⟩ := QC.out wr BW.out
      have hbu := busy_any wr d L F vl vf x (H0.out.below BW.out) hn
      rw [hbz] at hbu
      have HFM : Hid (x ≤ y → firmB F y = true) := hfm
      clear hfm hbz
      go_wp2_with fail
      refine hbu.mono ?_
      rintro e w2 ⟨rfl, hb2⟩
      have BW2 : Hid (Below w.heap.size w w2) := BW.out.trans (hb2.mono BW.out.size)
      have hhe := held_any w2 d L F vl vf y (H0.out.below BW2.out) hm
      clear hbu q0 q1 hb2
      obtain ⟨q0, q1⟩ := QC.out w2 BW2.out
      generalize firmB F y = fy at *
      go_wp2_with fail
      refine hhe.mono ?_
      rintro e w3 ⟨rfl, hb3⟩
      have BW3 : Hid (Below w.heap.size w w3) := BW2.out.trans (hb3.mono BW2.out.size)
      clear hhe q0 q1 hb3
      obtain ⟨q0, q1⟩ := QC.out w3 BW3.out
      have X : Hid (∀ n, Below w.heap.size w (w3.drewN n)) := fun n => BW3.out.trans ((below_dN w3 n).mono BW3.out.size)
      by_cases hge : x ≤ y
      · have e := HFM.out hge
        subst e
        go_wp2_with fail
        go_quiet (fail)
        go_wp2
        go_roundw
        case rel => exact ⟨k + 1, by omega, by go_num, X.out _⟩
        case measure => simp [intOf]; omega
      · have hgd : decide (x ≤ y) = false := by simpa using hge
        go_wp2_with fail
        go_quiet (fail)
        go_wp2
        go_roundw
        case rel => exact ⟨k + 1, by omega, by go_num, X.out _⟩
        case measure => simp [intOf]; omega
    · have hki : ¬ (k : Int) < (ps.length : Int) := by omega
      generalize wr = wv at *
      go_wp2
      go_loopw [8, 9, 10] (fun s8 _ _ wr => ∃ i : Nat, i ≤ L.length ∧ s8 = .int .i64 i ∧ Hid (Below w.heap.size w wr)) (fun s8 _ _ _ => L.length - (intOf s8).toNat)
      case atStart => exact ⟨0, Nat.zero_le _, rfl, BW⟩
      case round =>
        clear BW
        obtain ⟨i, hi, rfl, BW⟩ := hrel
        have c0 := HC.out wr BW.out
        by_cases hil : i < L.length
        · have hii : (i : Int) < (L.length : Int) := by omega
          obtain ⟨bl, ol, rfl, hbl, hcl⟩ := RL.out.resolve_left (by intro e; rw [e] at hil; simp at hil)
          have QL : Hid (∀ W, Below w.heap.size w W → W.cell? ⟨bl, ol + i * 4, none⟩ = some (.int .i64 L[i].tx) ∧ W.cell? ⟨bl, ol + i * 4 + 3, none⟩ = some (.bool L[i].wt)) := fun W hW => ⟨(hcl.block (hW.block bl hbl)) i hil 0 _ rfl, (hcl.block (hW.block bl hbl)) i hil 3 _ rfl⟩
          have hin := P2.out i hil
          have HIN : Hid (L[i].wt = true → inB ps L[i].tx = true) := hin
          clear hcl hin
          generalize L[i].tx = lx at *
          generalize L[i].wt = lw at *
          generalize wr = wz at *
          go_wp2
          go_loopw [9, 10] (fun s9 s10 wr => ∃ j : Nat, j ≤ ps.length ∧ s10 = .int .i64 j ∧ s9 = .bool (inB (ps.take j) lx) ∧ Hid (Below w.heap.size w wr)) (fun _ s10 _ => ps.length - (intOf s10).toNat)
          case atStart => exact ⟨0, Nat.zero_le _, rfl, rfl, BW⟩
          case round =>
            clear BW c0
            obtain ⟨j, hj, rfl, rfl, BW⟩ := hrel
            have c0 := HC.out wr BW.out
            obtain ⟨l0, l3⟩ := QL.out wr BW.out
            have X : Hid (∀ n, Below w.heap.size w (wr.drewN n)) := fun n => BW.out.trans ((below_dN wr n).mono BW.out.size)
            by_cases hjl : j < ps.length
            · have hji : (j : Int) < (ps.length : Int) := by omega
              obtain ⟨b, off, rfl, hb, hc⟩ := RP.out.resolve_left (by intro e; rw [e] at hjl; simp at hjl)
              have q0 := (hc.block (BW.out.block b hb)) j hjl 0 _ rfl
              rw [Nat.add_zero] at q0
              have NX : Hid (inB (ps.take (j + 1)) lx = (inB (ps.take j) lx || decide (ps[j].a = lx))) := in_next hjl
              clear hc
              generalize ps[j].a = pa at *
              generalize inB (ps.take j) lx = cb at *
              cases cb
              · go_wp2_with fail
                go_quiet (fail)
                go_wp2
                go_roundw
                case rel => exact ⟨j + 1, by omega, by go_num, by rw [NX.out]; rfl, X.out _⟩
                case measure => simp [intOf]; omega
              · go_wp2_with fail
                go_quiet (fail)
                go_wp2
                go_roundw
                case rel => exact ⟨j + 1, by omega, by go_num, by rw [NX.out]; rfl, X.out _⟩
                case measure => simp [intOf]; omega
            · have hji : ¬ (j : Int) < (ps.length : Int) := by omega
              have hkk : Hid (ps.take j = ps) := by show _ = _; rw [show j = ps.length by omega, List.take_length]
              have hlw : lw = true → inB (ps.take j) lx = true := fun e => by rw [hkk.out]; exact HIN.out e
              generalize inB (ps.take j) lx = cb at *
              cases lw
              · go_wp2
                go_roundw
                case rel => exact ⟨i + 1, by omega, by go_num, BW⟩
                case measure => simp [intOf]; omega
              · have e := hlw rfl
                subst e
                clear hlw
                go_wp2
                go_roundw
                case rel => exact ⟨i + 1, by omega, by go_num, BW⟩
                case measure => simp [intOf]; omega
        · have hii : ¬ (i : Int) < (L.length : Int) := by omega
          go_wp2
          go_ret
          exact ⟨rfl, BW.out⟩
end Go.Proofs.Ytlagmbieaicmgaa
