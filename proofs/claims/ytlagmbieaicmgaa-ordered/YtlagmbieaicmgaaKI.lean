/- Ordered, walked. -/
import Derived.Test.YtlagmbieaicmgaaKH
namespace Go.Proofs.Ytlagmbieaicmgaa
open Go.RowKit Lk Go.Shelf

def OBx (W : World) (B : Nat) (kd x y : Int) (z : Bool) : Prop := W.heap[B]? = some (.cells #[.int .i64 kd, .int .i64 x, .int .i64 y, .bool z] 53 (0, 0))
theorem OBx.cells {W : World} {B : Nat} {kd x y : Int} {z : Bool} (h : OBx W B kd x y z) : W.cell? ⟨B, 0, none⟩ = some (.int .i64 kd) ∧ W.cell? ⟨B, 1, none⟩ = some (.int .i64 x) ∧ W.cell? ⟨B, 2, none⟩ = some (.int .i64 y) ∧ W.cell? ⟨B, 3, none⟩ = some (.bool z) := by
  have h2 := h
  unfold OBx at h2
  refine ⟨?_, ?_, ?_, ?_⟩ <;> (rw [cell_of_heap h2]; rfl)
theorem OBx.free {W : World} {B : Nat} {kd x y : Int} {z : Bool} (h : OBx W B kd x y z) (j : Nat) : W.frozen? ⟨B, j, none⟩ = false := Sh.free (n := 4) ⟨_, h, rfl⟩ j
theorem OBx.lt {W : World} {B : Nat} {kd x y : Int} {z : Bool} (h : OBx W B kd x y z) : B < W.heap.size := (Array.getElem?_eq_some_iff.1 h).1
theorem OBx.set1 {W : World} {B : Nat} {kd x y : Int} {z : Bool} (h : OBx W B kd x y z) (x' : Int) : OBx (W.setCell ⟨B, 1, none⟩ (.int .i64 x')) B kd x' y z := by
  unfold OBx at h ⊢
  simp [World.setCell, Array.getElem?_modify, h]
theorem OBx.set2 {W : World} {B : Nat} {kd x y : Int} {z : Bool} (h : OBx W B kd x y z) (y' : Int) : OBx (W.setCell ⟨B, 2, none⟩ (.int .i64 y')) B kd x y' z := by
  unfold OBx at h ⊢
  simp [World.setCell, Array.getElem?_modify, h]
theorem OBx.fr {W W' : World} {B : Nat} {kd x y : Int} {z : Bool} {D : Nat → Prop} (h : OBx W B kd x y z) (hf : Fr D W W') (hD : ¬ D B) : OBx W' B kd x y z := (hf.block B h.lt hD).trans h

set_option maxRecDepth 20000 in
set_option maxHeartbeats 16000000 in
theorem ordered_any (w : World) (sz : Int) (ao : Option Addr) (cap : Nat) (qs : List Q4) (hr : Rd ql 4 w ao qs) (hn : qs.length ≤ 4398046511104) (hq : ∀ q ∈ qs, (-9223372036854775808 ≤ q.tx ∧ q.tx < 9223372036854775808) ∧ -9223372036854775808 ≤ q.key ∧ q.key < 9223372036854775808) (hs1 : -9223372036854775808 ≤ sz) (hs2 : sz < 9223372036854775808) :
    Calls Try.prog 4 #[.int .i64 sz, .slice ao qs.length cap] w fun e w' => e = .returned (.bool true) ∧ Below w.heap.size w w' := by
  have RQ : Hid (Rd ql 4 w ao qs) := hr
  have HQ : Hid (∀ q ∈ qs, (-9223372036854775808 ≤ q.tx ∧ q.tx < 9223372036854775808) ∧ -9223372036854775808 ≤ q.key ∧ q.key < 9223372036854775808) := hq
  have hpk := pick_any sz 24 w hs1 hs2 (by omega) (by omega)
  clear hr hq
  go_enter Try.func4, Try.ntmps4
  go_wp2_with fail
  refine hpk.mono ?_
  rintro e w' ⟨⟨p, hp, rfl⟩, hw'⟩
  subst w'
  clear hpk
  have hnl := newLocks_any (1 + (p : Int)) w (by omega) (by omega)
  have hpi : (p : Int) < 24 := by omega
  go_wp2_with fail
  refine hnl.mono ?_
  rintro e w1 ⟨a, rfl, ha, hT, hB⟩
  have HRK : Hid (RK w a w1.heap.size 0 (w1.alloc (.cells #[.slice none 0 0, .slice none 0 0] 51))) := RK.init (by omega) (by omega) ha hT hB
  clear hnl hT hB
  go_wp2
  generalize w1.heap.size = d at *
  go_loopw [7] (fun s7 wr => ∃ k : Nat, k ≤ qs.length ∧ s7 = .int .i64 k ∧ Hid (RK w a d k wr)) (fun s7 _ => qs.length - (intOf s7).toNat)
  case atStart => exact ⟨0, Nat.zero_le _, rfl, HRK⟩
  case round =>
    obtain ⟨k, hk, rfl, HK⟩ := hrel
    clear HRK
    by_cases hlt : k < qs.length
    · obtain ⟨b, off, rfl, hb, hc⟩ := RQ.out.resolve_left (by intro e; rw [e] at hlt; simp at hlt)
      obtain ⟨t, L, F, D, hS, hi, hl, hf, hD, hBw⟩ := HK.out
      have hcw : Ra ql 4 wr b off qs := hc.block (hBw.block b hb)
      have q0 := hcw k hlt 0 _ rfl
      have q1 := hcw k hlt 1 _ rfl
      have q2 := hcw k hlt 2 _ rfl
      have q3 := hcw k hlt 3 _ rfl
      rw [Nat.add_zero] at q0
      obtain ⟨⟨x1, x2⟩, y1, y2⟩ := HQ.out _ (List.getElem_mem hlt)
      have hki : (k : Int) < (qs.length : Int) := by omega
      have HS : Hid (SS wr a t d L F D) := hS
      have HI : Hid (Inv t L F) := hi
      have HLF : Hid (L.length ≤ k ∧ F.length ≤ k) := ⟨hl, hf⟩
      have HD : Hid (∀ g, D g → w.heap.size ≤ g) := hD
      have HBw : Hid (Below w.heap.size w wr) := hBw
      have nDB : Hid (¬ D wr.heap.size) := fun e => absurd (hS.lt e) (Nat.lt_irrefl _)
      clear hc hcw hS hi hl hf hD hBw
      generalize qs[k].kd = kd at *
      generalize qs[k].tx = qx at *
      generalize qs[k].key = qy at *
      generalize qs[k].wr = z at *
      obtain ⟨W1, hW1⟩ : ∃ W1, W1 = wr.alloc (.cells #[.int .i64 kd, .int .i64 qx, .int .i64 qy, .bool z] 53) := ⟨_, rfl⟩
      have b1 : Below wr.heap.size wr W1 := by rw [hW1]; exact (Below.refl _ _).alloc (Nat.le_refl _) _
      have o1 : OBx W1 wr.heap.size kd qx qy z := by rw [hW1]; exact heap_new _ _
      go_wp2_with fail
      rw [← hW1]
      clear hW1
      refine (pick_any qx 12 W1 x1 x2 (by omega) (by omega)).mono ?_
      rintro e w' ⟨⟨px, hpx, rfl⟩, hw'⟩
      subst w'
      obtain ⟨c0, c1, c2, c3⟩ := o1.cells
      have f1 := o1.free 1
      have hpxi : (px : Int) < 12 := by omega
      have O2 : Hid (OBx (W1.setCell ⟨wr.heap.size, 1, none⟩ (.int .i64 (1 + (px : Int)))) wr.heap.size kd (1 + (px : Int)) qy z) := o1.set1 _
      have B2 : Hid (Below wr.heap.size wr (W1.setCell ⟨wr.heap.size, 1, none⟩ (.int .i64 (1 + (px : Int))))) := b1.setCell (p := ⟨wr.heap.size, 1, none⟩) (Nat.le_refl _) _
      clear o1 b1
      obtain ⟨cc0, cc1, cc2, cc3⟩ := O2.out.cells
      have f2 := O2.out.free 2
      go_wp2_with fail
      generalize W1.setCell ⟨wr.heap.size, 1, none⟩ (.int .i64 (1 + (px : Int))) = W2 at *
      clear c0 c1 c2 c3 f1 W1
      refine (pick_any qy 6 W2 y1 y2 (by omega) (by omega)).mono ?_
      rintro e w' ⟨⟨py, hpy, rfl⟩, hw'⟩
      subst w'
      have hpyi : (py : Int) < 6 := by omega
      have O3 : Hid (OBx (W2.setCell ⟨wr.heap.size, 2, none⟩ (.int .i64 (py : Int))) wr.heap.size kd (1 + (px : Int)) (py : Int) z) := O2.out.set2 _
      have B3 : Hid (Below wr.heap.size wr (W2.setCell ⟨wr.heap.size, 2, none⟩ (.int .i64 (py : Int)))) := B2.out.setCell (p := ⟨wr.heap.size, 2, none⟩) (Nat.le_refl _) _
      clear O2 B2
      obtain ⟨k0, k1, k2, k3⟩ := O3.out.cells
      have S3 : Hid (SS (W2.setCell ⟨wr.heap.size, 2, none⟩ (.int .i64 (py : Int))) a t d L F D) := HS.out.below B3.out
      have BW3 : Hid (Below w.heap.size w (W2.setCell ⟨wr.heap.size, 2, none⟩ (.int .i64 (py : Int)))) := HBw.out.trans (B3.out.mono HBw.out.size)
      have K3 : Hid (RK w a d k (W2.setCell ⟨wr.heap.size, 2, none⟩ (.int .i64 (py : Int)))) := HK.out.below B3.out
      have hx1 : (1 : Int) ≤ 1 + (px : Int) := by omega
      have hx2 : 1 + (px : Int) ≤ 12 := by omega
      by_cases e1 : kd = 1
      · subst e1
        go_wp2_with fail
        generalize W2.setCell ⟨wr.heap.size, 2, none⟩ (.int .i64 (py : Int)) = W3 at *
        clear cc0 cc1 cc2 cc3 f2 W2
        refine (take_rk w a d k W3 K3.out (by omega) 1 (1 + (px : Int)) (py : Int) z hx1 hx2 (by omega) (by omega)).mono ?_
        rintro e w4 ⟨rfl, hN⟩
        have HN : Hid (RK w a d (k + 1) w4) := hN
        clear k0 k1 k2 k3 hN
        have har := apart_rk w a d (k + 1) w4 HN.out (by omega)
        go_wp2_with fail
        refine har.mono ?_
        rintro e w9 ⟨rfl, hk9⟩
        have HK9 : Hid (RK w a d (k + 1) w9) := hk9
        clear har hk9 hx1 hx2 hpx hpy hpyi hpxi x1 x2 y1 y2 hp hpi q0 q1 q2 q3
        go_wp2
        go_roundw
        case rel => exact ⟨k + 1, by omega, by go_num, HK9⟩
        case measure => simp [intOf]; omega
      · by_cases e2 : kd = 2
        · subst e2
          go_wp2_with fail
          generalize W2.setCell ⟨wr.heap.size, 2, none⟩ (.int .i64 (py : Int)) = W3 at *
          clear cc0 cc1 cc2 cc3 f2 W2
          refine (hold_ss W3 a t d L F D (1 + (px : Int)) S3.out HI.out.fit hx1 (by omega)).mono ?_
          rintro e w4 ⟨rfl, D4, s4, fr4, sub4⟩
          have S4 : Hid (SS w4 a { t with prep := holdP t.prep t.waits (1 + (px : Int)) } d L F D4) := s4
          have O4 : Hid (OBx w4 wr.heap.size 2 (1 + (px : Int)) (py : Int) z) := O3.out.fr fr4 nDB.out
          have BW4 : Hid (Below w.heap.size w w4) := below_fr BW3.out (Nat.le_refl _) fr4 HD.out
          have HD4 : Hid ((∀ g, D4 g → w.heap.size ≤ g) ∧ ¬ D4 wr.heap.size) := ⟨fun g hg => (sub4 g hg).elim (HD.out g) (fun q => Nat.le_trans BW3.out.size q), fun e => (sub4 _ e).elim nDB.out (fun q => absurd O3.out.lt (by omega))⟩
          clear k0 k1 k2 k3 s4 fr4 sub4
          obtain ⟨k0, k1, k2, k3⟩ := O4.out.cells
          go_wp2_with fail
          have hIH := HI.out.hold (1 + (px : Int)) hx1 hx2
          refine (busy_ss w4 a _ d L F D4 (1 + (px : Int)) S4.out (by have := HLF.out.1; omega)).mono ?_
          rintro e w5 ⟨rfl, hb5⟩
          have S5 : Hid (SS w5 a { t with prep := holdP t.prep t.waits (1 + (px : Int)) } d L F D4) := S4.out.below hb5
          have O5 : Hid (OBx w5 wr.heap.size 2 (1 + (px : Int)) (py : Int) z) := O4.out.fr (Fr.of_below (D := fun _ => False) hb5) id
          have BW5 : Hid (Below w.heap.size w w5) := BW4.out.trans (hb5.mono BW4.out.size)
          have HIH : Hid (Inv { t with prep := holdP t.prep t.waits (1 + (px : Int)) } L (if busyB L (1 + (px : Int)) then F else F ++ [1 + (px : Int)])) := hIH
          clear k0 k1 k2 k3 hb5 hIH
          obtain ⟨k0, k1, k2, k3⟩ := O5.out.cells
          cases hbz : busyB L (1 + (px : Int))
          · have SK0 := S5.out.led
            obtain ⟨vl, vf, hL5, hk5⟩ := SK0
            have SK : Hid (∀ W' L' F' vl' vf', Led W' d L' F' vl' vf' → Fr (Dl4 d vl vf) w5 W' → (∀ g, Dl4 d vl' vf' g → Dl4 d vl vf g ∨ w5.heap.size ≤ g) → SG w5 D4 W' a { t with prep := holdP t.prep t.waits (1 + (px : Int)) } d L' F') := hk5
            have HL5 : Hid (Led w5 d L F vl vf) := hL5
            obtain ⟨-, c1⟩ := hL5.cells
            have f1 := Sh.free (n := 2) ⟨_, hL5.box, rfl⟩ 1
            have c1' : ∀ o, (w5.alloc o).cell? ⟨d, 1, none⟩ = some vf := fun o => Lib.cell?_alloc_some o c1
            have nfd : Hid (¬ vf.ownBlock = some d) := hL5.fd
            have own' : Hid (Own il 1 3 w5 vf F) := hL5.f
            have HFL : Hid (F.length ≤ 4398046511104) := by have := HLF.out.2; show _ ≤ _; omega
            rw [hbz] at HIH
            have HIH2 : Hid (Inv { t with prep := holdP t.prep t.waits (1 + (px : Int)) } L (F ++ [1 + (px : Int)])) := HIH.out
            clear hL5 hk5 HIH
            go_wp2_with fail
            go_region_law (refine app_stepb el_int _ rfl (.tmp 68) (.tmp 71) rfl vf F (by simp [Act.eval]) (own'.out.block fun g hg => Below.heap_alloc _ _ _ (own'.out.lt hg)) w5.heap.size (1 + (px : Int)) #[.int .i64 (1 + (px : Int))] 3 (by simp [Act.eval]) (heap_new _ _) rfl (by have := HFL.out; omega) (by omega) ?_; intro g cp w7 ho hf hat hgl; obtain ⟨d1, d2⟩ := store_ok hf c1 f1 nfd.out (fun hl => Below.heap_alloc _ _ _ hl))
            all_goals
              have FWr : Fr (fun b => vf.ownBlock = some b) w5 w7 := ((Fr.refl (fun b => vf.ownBlock = some b) w5).alloc _).drew.trans hf fun g _ e => e
              have hat2 : vf.ownBlock = some g ∨ w5.heap.size ≤ g := hat.imp id fun q => by
                have q2 : w5.heap.size + 1 ≤ g := by simpa using q
                omega
              obtain ⟨l7, fr7, sb7⟩ := firm_app HL5.out ho FWr hat2
              have g7 := SK.out _ _ _ _ _ l7 fr7 sb7
              have HN : Hid (RK w a d (k + 1) (w7.setCell ⟨d, 1, none⟩ (.slice (some ⟨g, 0, none⟩) (F.length + 1) cp))) := RK.step HD4.out.1 BW5.out BW5.out.size g7 HIH2.out (by have := HLF.out.1; omega) (by have := HLF.out.2; simp; omega)
              clear k0 k1 k2 k3 c1 c1' f1 d1 d2 ho hf hat hat2 l7 fr7 sb7 g7 FWr
              have har := apart_rk w a d (k + 1) _ HN.out (by omega)
              go_wp2_with fail
              refine har.mono ?_
              rintro e w9 ⟨rfl, hk9⟩
              have HK9 : Hid (RK w a d (k + 1) w9) := hk9
              clear har hk9 hx1 hx2 hpx hpy hpyi hpxi x1 x2 y1 y2 hp hpi q0 q1 q2 q3
              go_wp2
              go_roundw
              case rel => exact ⟨k + 1, by omega, by go_num, HK9⟩
              case measure => simp [intOf]; omega
          · rw [hbz] at HIH
            have HN : Hid (RK w a d (k + 1) w5) := ⟨_, L, F, D4, S5.out, HIH.out, by have := HLF.out.1; omega, by have := HLF.out.2; omega, HD4.out.1, BW5.out⟩
            clear k0 k1 k2 k3
            have har := apart_rk w a d (k + 1) w5 HN.out (by omega)
            go_wp2_with fail
            refine har.mono ?_
            rintro e w9 ⟨rfl, hk9⟩
            have HK9 : Hid (RK w a d (k + 1) w9) := hk9
            clear har hk9 hx1 hx2 hpx hpy hpyi hpxi x1 x2 y1 y2 hp hpi q0 q1 q2 q3
            go_wp2
            go_roundw
            case rel => exact ⟨k + 1, by omega, by go_num, HK9⟩
            case measure => simp [intOf]; omega
        · by_cases e3 : kd = 3
          · subst e3
            go_wp2_with fail
            generalize W2.setCell ⟨wr.heap.size, 2, none⟩ (.int .i64 (py : Int)) = W3 at *
            clear cc0 cc1 cc2 cc3 f2 W2
            refine (drop_ss W3 a t d L F D (1 + (px : Int)) S3.out (by have := HLF.out.1; omega) (by have := HLF.out.2; omega)).mono ?_
            rintro e w4 ⟨rfl, D4, s4, fr4, sub4⟩
            have S4 : Hid (SS w4 a t d (L.filter (dropB (1 + (px : Int)))) (F.filter (dropI (1 + (px : Int)))) D4) := s4
            have O4 : Hid (OBx w4 wr.heap.size 3 (1 + (px : Int)) (py : Int) z) := O3.out.fr fr4 nDB.out
            have BW4 : Hid (Below w.heap.size w w4) := below_fr BW3.out (Nat.le_refl _) fr4 HD.out
            have HD4 : Hid (∀ g, D4 g → w.heap.size ≤ g) := fun g hg => (sub4 g hg).elim (HD.out g) (fun q => Nat.le_trans BW3.out.size q)
            clear k0 k1 k2 k3 s4 fr4 sub4
            obtain ⟨k0, k1, k2, k3⟩ := O4.out.cells
            go_wp2_with fail
            refine (free_ss w4 a t d _ _ D4 (1 + (px : Int)) S4.out HI.out.fit hx1 (by omega)).mono ?_
            rintro e w5 ⟨ao, cp, rfl, D5, s5, fr5, sub5, rd5, nd5⟩
            have BW5 : Hid (Below w.heap.size w w5) := below_fr BW4.out (Nat.le_refl _) fr5 HD4.out
            have HD5 : Hid (∀ g, D5 g → w.heap.size ≤ g) := fun g hg => (sub5 g hg).elim (HD4.out g) (fun q => Nat.le_trans BW4.out.size q)
            obtain ⟨hok, hIF⟩ := HI.out.free (1 + (px : Int))
            have hal := all_ss w5 a _ d _ _ D5 ao cp _ s5 (by have := HLF.out.1; have := List.length_filter_le (dropB (1 + (px : Int))) L; omega) rd5 (gots_len t (1 + (px : Int)) HI.out.fit) nd5 hok
            have HIF : Hid _ := hIF
            clear k0 k1 k2 k3 s5 fr5 sub5 rd5 nd5 hok hIF
            go_wp2_with fail
            refine hal.mono ?_
            rintro e w6 ⟨rfl, g6⟩
            have HN : Hid (RK w a d (k + 1) w6) := RK.step HD5.out BW5.out BW5.out.size g6 HIF.out (by rw [allL_len]; have := HLF.out.1; have := List.length_filter_le (dropB (1 + (px : Int))) L; omega) (by have := HLF.out.2; have := List.length_filter_le (dropI (1 + (px : Int))) F; omega)
            clear hal g6
            have har := apart_rk w a d (k + 1) w6 HN.out (by omega)
            go_wp2_with fail
            refine har.mono ?_
            rintro e w9 ⟨rfl, hk9⟩
            have HK9 : Hid (RK w a d (k + 1) w9) := hk9
            clear har hk9 hx1 hx2 hpx hpy hpyi hpxi x1 x2 y1 y2 hp hpi q0 q1 q2 q3
            go_wp2
            go_roundw
            case rel => exact ⟨k + 1, by omega, by go_num, HK9⟩
            case measure => simp [intOf]; omega
          · by_cases e4 : kd = 4
            · subst e4
              go_wp2_with fail
              generalize W2.setCell ⟨wr.heap.size, 2, none⟩ (.int .i64 (py : Int)) = W3 at *
              clear cc0 cc1 cc2 cc3 f2 W2
              refine (waits_ss W3 a t d L F D S3.out HI.out.fit).mono ?_
              rintro e w4 ⟨ao, cp, rfl, rd4, hb4⟩
              have hwt := waiting_ss w4 a t d L F D ao cp (S3.out.below hb4) HI.out (by have := HLF.out.1; omega) (by have := HLF.out.2; omega) rd4
              have K4 : Hid (RK w a d k w4) := K3.out.below hb4
              clear k0 k1 k2 k3 rd4 hb4
              go_wp2_with fail
              refine hwt.mono ?_
              rintro e w5 ⟨rfl, hb5⟩
              have HN : Hid (RK w a d (k + 1) w5) := (K4.out.below hb5).le (by omega)
              clear hwt hb5
              have har := apart_rk w a d (k + 1) w5 HN.out (by omega)
              go_wp2_with fail
              refine har.mono ?_
              rintro e w9 ⟨rfl, hk9⟩
              have HK9 : Hid (RK w a d (k + 1) w9) := hk9
              clear har hk9 hx1 hx2 hpx hpy hpyi hpxi x1 x2 y1 y2 hp hpi q0 q1 q2 q3
              go_wp2
              go_roundw
              case rel => exact ⟨k + 1, by omega, by go_num, HK9⟩
              case measure => simp [intOf]; omega
            · go_wp2_with fail
              generalize W2.setCell ⟨wr.heap.size, 2, none⟩ (.int .i64 (py : Int)) = W3 at *
              clear cc0 cc1 cc2 cc3 f2 W2
              have HN : Hid (RK w a d (k + 1) W3) := K3.out.le (by omega)
              clear k0 k1 k2 k3
              have har := apart_rk w a d (k + 1) W3 HN.out (by omega)
              refine har.mono ?_
              rintro e w9 ⟨rfl, hk9⟩
              have HK9 : Hid (RK w a d (k + 1) w9) := hk9
              clear har hk9 hx1 hx2 hpx hpy hpyi hpxi x1 x2 y1 y2 hp hpi q0 q1 q2 q3
              go_wp2
              go_roundw
              case rel => exact ⟨k + 1, by omega, by go_num, HK9⟩
              case measure => simp [intOf]; omega
    · have hki : ¬ (k : Int) < (qs.length : Int) := by omega
      obtain ⟨t, L, F, D, hS, hi, hl, hf, hD, hBw⟩ := HK.out
      have HBw : Hid (Below w.heap.size w wr) := hBw
      clear hS hi hl hf hD hBw
      have hnl := newLocks_any 1 wr (by omega) (by omega)
      go_wp2_with fail
      refine hnl.mono ?_
      rintro e w2 ⟨a2, rfl, ha2, hT2, hB2⟩
      have hpt := pTake_any w2 a2 ⟨1, [], [], []⟩ (fun g => g = a2) 1 0 true hT2 (Inv.init (by omega) (by omega)).fit (by omega) (by omega) (by omega) (by omega)
      have HB2 : Hid (Below wr.heap.size wr w2) := hB2
      have HA2 : Hid (wr.heap.size ≤ a2) := ha2
      have hans : (takeT ⟨1, [], [], []⟩ ⟨1, 0, true⟩).ans = 1 := by decide
      rw [hans] at hpt
      clear hnl hT2 hB2 ha2 hans
      go_wp2_with fail
      refine hpt.mono ?_
      rintro e w3 ⟨vu, vg, rfl, -, -, E3, -, F3, -, -, -⟩
      have HB3 : Hid (Below w.heap.size w w3) := below_fr (HBw.out.trans (HB2.out.mono HBw.out.size)) (Nat.le_refl _) F3 (fun g e => by have := HBw.out.size; have := HA2.out; omega)
      clear hpt F3
      go_wp2
      go_ret
      exact ⟨rfl, HB3.out⟩
end Go.Proofs.Ytlagmbieaicmgaa
