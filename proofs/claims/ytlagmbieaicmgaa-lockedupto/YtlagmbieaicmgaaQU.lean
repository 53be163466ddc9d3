/- One step with a table and the document's, and the book: asked. -/
import Derived.Test.YtlagmbieaicmgaaQR
import Derived.Test.YtlagmbieaicmgaaQS
namespace Go.Proofs.Ytlagmbieaicmgaa
open Go.RowKit Lk Go.Shelf

/-- Both tables and the book, apart from each other. -/
def SA (w : World) (vx vy : Value) (d0 ni ng nw : Nat) (D B K : Nat → Prop) : Prop := TP w vx vy D ∧ BK w d0 ni ng nw B K ∧ ∀ g, D g → ¬ B g ∧ ¬ K g
theorem SA.below {w w' : World} {vx vy : Value} {d0 ni ng nw : Nat} {D B K : Nat → Prop} (h : SA w vx vy d0 ni ng nw D B K) (hb : Below w.heap.size w w') : SA w' vx vy d0 ni ng nw D B K := ⟨h.1.below hb, h.2.1.below hb, h.2.2⟩
theorem SA.tp {w w' : World} {vx vy : Value} {d0 ni ng nw : Nat} {D D' B K : Nat → Prop} (h : SA w vx vy d0 ni ng nw D B K) (hG : TPG w vx vy D D' w') : SA w' vx vy d0 ni ng nw D' B K := by
  obtain ⟨h1, h2, h3⟩ := h
  refine ⟨hG.1, h2.fr hG.2.1 fun g e q => e.elim (h3 g q).1 (h3 g q).2, fun g e => ?_⟩
  rcases hG.2.2 g e with q | q
  · exact h3 g q
  · exact ⟨fun r => by have := h2.lt (.inl r); omega, fun r => by have := h2.lt (.inr r); omega⟩
theorem SA.bg {w w' : World} {vx vy : Value} {d0 ni ng nw ni' ng' nw' : Nat} {D B K : Nat → Prop} {ao : Option Addr} (h : SA w vx vy d0 ni ng nw D B K) (hG : BG w d0 ni' ng' nw' B K ao w') (hao : ∀ g, ao = some ⟨g, 0, none⟩ → ¬ D g) :
    ∃ B' K', SA w' vx vy d0 ni' ng' nw' D B' K' ∧ Fr (fun g => B g ∨ ao = some ⟨g, 0, none⟩) w w' ∧ (∀ g, B' g → B g ∨ w.heap.size ≤ g) ∧ ∀ g, K' g → K g ∨ ao = some ⟨g, 0, none⟩ ∨ w.heap.size ≤ g := by
  obtain ⟨h1, h2, h3⟩ := h
  obtain ⟨B', K', g1, g2, g3, g4⟩ := hG
  refine ⟨B', K', ⟨h1.fr g2 fun g e q => q.elim (h3 g e).1 fun r => hao g r e, g1, fun g e => ⟨fun q => ?_, fun q => ?_⟩⟩, g2, g3, g4⟩
  · rcases g3 g q with r | r
    · exact (h3 g e).1 r
    · have := h1.lt e; omega
  · rcases g4 g q with r | r | r
    · exact (h3 g e).2 r
    · exact hao g r e
    · have := h1.lt e; omega
/-- What a step leaves. -/
def AG (w : World) (vx vy : Value) (d0 N : Nat) (D B K : Nat → Prop) (w' : World) : Prop :=
  ∃ D' B' K' ni ng nw, SA w' vx vy d0 ni ng nw D' B' K' ∧ (ni ≤ N ∧ ng ≤ N ∧ nw ≤ N) ∧ Fr (fun g => D g ∨ B g) w w' ∧ (∀ g, D' g ∨ B' g → (D g ∨ B g) ∨ w.heap.size ≤ g) ∧ ∀ g, K' g → K g ∨ w.heap.size ≤ g
theorem AG.same {w w' : World} {vx vy : Value} {d0 ni ng nw N : Nat} {D B K : Nat → Prop} (h : SA w vx vy d0 ni ng nw D B K) (hN : ni ≤ N ∧ ng ≤ N ∧ nw ≤ N) (hb : Below w.heap.size w w') : AG w vx vy d0 N D B K w' :=
  ⟨D, B, K, ni, ng, nw, h.below hb, hN, Fr.of_below hb, fun _ e => .inl e, fun _ e => .inl e⟩
/-- A call on both tables. -/
theorem AG.tp {w w0 w' w2 : World} {vx vy : Value} {d0 ni ng nw N : Nat} {D D' B K : Nat → Prop} (h : SA w vx vy d0 ni ng nw D B K) (hN : ni ≤ N ∧ ng ≤ N ∧ nw ≤ N) (hb : Below w.heap.size w w0) (hG : TPG w0 vx vy D D' w2) (hb2 : Below w2.heap.size w2 w') : AG w vx vy d0 N D B K w' :=
  ⟨D', B, K, ni, ng, nw, ((h.below hb).tp hG).below hb2, hN, ((Fr.of_below (D := fun g => D g ∨ B g) hb).trans hG.2.1 fun g _ e => .inl e).below hb2, fun g e => by
    rcases e with e | e
    · exact (hG.2.2 g e).imp (fun q => .inl q) fun q => Nat.le_trans hb.size q
    · exact .inl (.inr e), fun g e => .inl e⟩
/-- A call on both tables, and a list that goes into the book. -/
theorem AG.one {w w0 w2 w3 w4 w' : World} {vx vy : Value} {d0 ni ng nw ni' ng' nw' N : Nat} {D D' B K : Nat → Prop} {ao : Option Addr} (h : SA w vx vy d0 ni ng nw D B K) (hN : ni' ≤ N ∧ ng' ≤ N ∧ nw' ≤ N) (hb : Below w.heap.size w w0) (hG : TPG w0 vx vy D D' w2) (hb2 : Below w2.heap.size w2 w3) (hBG : BG w3 d0 ni' ng' nw' B K ao w4) (hb3 : Below w4.heap.size w4 w')
    (hao : ∀ g, ao = some ⟨g, 0, none⟩ → w0.heap.size ≤ g ∧ ¬ D' g) : AG w vx vy d0 N D B K w' := by
  obtain ⟨B', K', s, f, sb, sk⟩ := (((h.below hb).tp hG).below hb2).bg hBG fun g e => (hao g e).2
  have z0 := hb.size
  have z1 := hG.2.1.size
  have z2 := hb2.size
  refine ⟨D', B', K', ni', ng', nw', s.below hb3, hN, ((((Fr.of_below (D := fun g => D g ∨ B g) hb).trans hG.2.1 fun g _ e => .inl e).below hb2).trans f fun g hg e => ?_).below hb3, fun g e => ?_, fun g e => ?_⟩
  · rcases e with e | e
    · exact .inr e
    · have := (hao g e).1; omega
  · rcases e with e | e
    · exact (hG.2.2 g e).imp (fun q => .inl q) fun q => Nat.le_trans z0 q
    · exact (sb g e).imp (fun q => .inr q) fun q => by omega
  · rcases sk g e with q | q | q
    · exact .inl q
    · exact .inr (by have := (hao g q).1; omega)
    · exact .inr (by omega)
/-- A call on both tables, and two lists that go into the book. -/
theorem AG.two {w w0 w2 w3 w4 w5 w' : World} {vx vy : Value} {d0 ni ng nw ni1 ng1 nw1 ni' ng' nw' N : Nat} {D D' B K B' K' : Nat → Prop} {ao bo : Option Addr} (_h : SA w vx vy d0 ni ng nw D B K) (hN : ni' ≤ N ∧ ng' ≤ N ∧ nw' ≤ N) (hb : Below w.heap.size w w0) (hG : TPG w0 vx vy D D' w2) (hb2 : Below w2.heap.size w2 w3)
    (s : SA w4 vx vy d0 ni1 ng1 nw1 D' B' K') (f : Fr (fun g => B g ∨ ao = some ⟨g, 0, none⟩) w3 w4) (sb : ∀ g, B' g → B g ∨ w3.heap.size ≤ g) (sk : ∀ g, K' g → K g ∨ ao = some ⟨g, 0, none⟩ ∨ w3.heap.size ≤ g) (hBG : BG w4 d0 ni' ng' nw' B' K' bo w5) (hb3 : Below w5.heap.size w5 w')
    (hao : ∀ g, ao = some ⟨g, 0, none⟩ → w0.heap.size ≤ g ∧ ¬ D' g) (hbo : ∀ g, bo = some ⟨g, 0, none⟩ → w0.heap.size ≤ g ∧ ¬ D' g) : AG w vx vy d0 N D B K w' := by
  obtain ⟨B2, K2, s2, f2, sb2, sk2⟩ := s.bg hBG fun g e => (hbo g e).2
  have z0 := hb.size
  have z1 := hG.2.1.size
  have z2 := hb2.size
  have z3 := f.size
  refine ⟨D', B2, K2, ni', ng', nw', s2.below hb3, hN, (((((Fr.of_below (D := fun g => D g ∨ B g) hb).trans hG.2.1 fun g _ e => .inl e).below hb2).trans f fun g hg e => ?_).trans f2 fun g hg e => ?_).below hb3, fun g e => ?_, fun g e => ?_⟩
  · rcases e with e | e
    · exact .inr e
    · have := (hao g e).1; omega
  · rcases e with e | e
    · rcases sb g e with q | q
      · exact .inr q
      · omega
    · have := (hbo g e).1; omega
  · rcases e with e | e
    · exact (hG.2.2 g e).imp (fun q => .inl q) fun q => Nat.le_trans z0 q
    · rcases sb2 g e with q | q
      · exact (sb g q).imp (fun q => .inr q) fun q => by omega
      · exact .inr (by omega)
  · rcases sk2 g e with q | q | q
    · rcases sk g q with r | r | r
      · exact .inl r
      · exact .inr (by have := (hao g r).1; omega)
      · exact .inr (by omega)
    · exact .inr (by have := (hbo g q).1; omega)
    · exact .inr (by omega)

/-- The step, as it lies in memory. -/
abbrev AskS (b : Nat) (kd x y : Int) (z : Bool) (w : World) : Prop := w.cell? ⟨b, 0, none⟩ = some (.int .i64 kd) ∧ w.cell? ⟨b, 2, none⟩ = some (.int .i64 x) ∧ w.cell? ⟨b, 3, none⟩ = some (.int .i64 y) ∧ w.cell? ⟨b, 4, none⟩ = some (.bool z)
theorem AskS.fr {D : Nat → Prop} {b : Nat} {kd x y : Int} {z : Bool} {w w' : World} (h : AskS b kd x y z w) (hf : Fr D w w') (hD : ¬ D b) : AskS b kd x y z w' := ⟨hf.cell h.1 hD, hf.cell h.2.1 hD, hf.cell h.2.2.1 hD, hf.cell h.2.2.2 hD⟩
theorem ownBlock_ao {ao : Option Addr} {n cap g : Nat} (e : ao = some ⟨g, 0, none⟩) : (Value.slice ao n cap).ownBlock = some g := by rw [e]; rfl

set_option maxRecDepth 20000 in
set_option maxHeartbeats 16000000 in
theorem asked_take (w : World) (vx vy : Value) (d0 ni ng nw N : Nat) (D B K : Nat → Prop) (tb x y : Int) (z : Bool) (h : SA w vx vy d0 ni ng nw D B K) (hN : ni ≤ N ∧ ng ≤ N ∧ nw ≤ N) (hM : N ≤ 1500000) :
    Calls Try.prog 8 #[.pointer (some ⟨d0, 0, none⟩), vx, vy, .agg #[.int .i64 1, .int .i64 tb, .int .i64 x, .int .i64 y, .bool z]] w fun e w' => e = .returned (.bool true) ∧ AG w vx vy d0 (N + 1) D B K w' := by
  obtain ⟨W0, hW0⟩ : ∃ W0, W0 = w.alloc (.cells #[.int .i64 1, .int .i64 tb, .int .i64 x, .int .i64 y, .bool z] 39) := ⟨_, rfl⟩
  have b0 : Below w.heap.size w W0 := by rw [hW0]; exact (Below.refl _ _).alloc (Nat.le_refl _) _
  have S0 : AskS w.heap.size 1 x y z W0 := by
    rw [hW0]
    refine ⟨?_, ?_, ?_, ?_⟩ <;> (rw [cell_new]; rfl)
  have hsa := h.below b0
  obtain ⟨an, hu, gt, MID, hul, gtl, c1, c2⟩ := takes_u W0 vx vy D x y z hsa.1
  have H0 : Hid (SA w vx vy d0 ni ng nw D B K ∧ Below w.heap.size w W0 ∧ SA W0 vx vy d0 ni ng nw D B K) := ⟨h, b0, hsa⟩
  have HND : Hid (¬ D w.heap.size) := fun e => absurd (h.1.lt e) (Nat.lt_irrefl _)
  have HS0 : Hid (AskS w.heap.size 1 x y z W0) := S0
  have C2 : Hid (∀ w1 vu vg, MID w1 vu vg → Calls Try.prog 22 #[vy, .int .i64 x, .int .i64 y, .bool z] w1 fun e w2 => ∃ vu' vg', e = .returned (.tuple #[.int .i64 an, vu', vg']) ∧ Fr D w1 w2 ∧ Takes W0 vx vy D hu gt vu vg vu' vg' w2) := c2
  obtain ⟨s0, s1, s2, s3⟩ := S0
  clear h b0 hsa c2
  go_enter Try.func8, Try.ntmps8
  go_wp2_with fail
  rw [← hW0]
  clear hW0
  refine c1.mono ?_
  rintro e w1 ⟨vu, vg, rfl, z1, f1, hm⟩
  have c2 := C2.out w1 vu vg hm
  have HS1 : Hid (AskS w.heap.size 1 x y z w1) := HS0.out.fr f1 HND.out
  clear c1 s0 s1 s2 s3 hm C2 f1 z1
  obtain ⟨s0, s1, s2, s3⟩ := HS1.out
  go_wp2_with fail
  refine c2.mono ?_
  rintro e w2 ⟨vu', vg', rfl, f2, ou, og, ou', og', D', hG, fu, fg⟩
  obtain ⟨au, cu, hvu, ru, -, -⟩ := ou.rd il_len
  obtain ⟨ag', cg, hvg, rg, -, -⟩ := og.rd gl_len
  obtain ⟨au', cu', hvu', ru', -, -⟩ := ou'.rd il_len
  obtain ⟨ag2, cg', hvg', rg', -, -⟩ := og'.rd gl_len
  subst hvu
  subst hvg
  subst hvu'
  subst hvg'
  have hsi := sameInts_true w2 au au' cu cu' hu ru ru' (by omega)
  have HG : Hid (TPG W0 vx vy D D' w2) := hG
  have HOU : Hid (Own il 1 3 w2 (.slice au hu.length cu) hu ∧ ∀ g, (Value.slice au hu.length cu).ownBlock = some g → W0.heap.size ≤ g ∧ ¬ D' g) := ⟨ou, fu⟩
  have HOG : Hid (Own gl 2 79 w2 (.slice ag' gt.length cg) gt ∧ (∀ g, (Value.slice ag' gt.length cg).ownBlock = some g → W0.heap.size ≤ g ∧ ¬ D' g ∧ (Value.slice au hu.length cu).ownBlock ≠ some g) ∧ Rd gl 2 w2 ag' gt ∧ Rd gl 2 w2 ag2 gt) := ⟨og, fg, rg, rg'⟩
  clear c2 f2 ou og ou' og' fu fg ru rg ru' rg' hG s0 s1 s2 s3
  go_wp2_with fail
  refine hsi.mono ?_
  rintro e w3 ⟨rfl, hb3⟩
  have hsg := sameGrants_true w3 ag' ag2 cg cg' gt (HOG.out.2.2.1.below hb3) (HOG.out.2.2.2.below hb3) (by omega)
  have B3 : Hid (Below w2.heap.size w2 w3) := hb3
  clear hsi hb3
  go_wp2_with fail
  refine hsg.mono ?_
  rintro e w4 ⟨rfl, hb4⟩
  have B4 : Hid (Below w2.heap.size w2 w4) := B3.out.trans (hb4.mono B3.out.size)
  have S4 : Hid (SA w4 vx vy d0 ni ng nw D' B K) := (H0.out.2.2.tp HG.out).below B4.out
  have hz : W0.heap.size ≤ w2.heap.size ∧ w2.heap.size ≤ w4.heap.size := ⟨HG.out.2.1.size, B4.out.size⟩
  have hBl : ∀ g, B g ∨ K g → g < W0.heap.size := fun g e => H0.out.2.2.2.1.lt e
  have hti := takeInts_any w4 d0 ni ng nw B K au hu.length cu hu S4.out.2.1 (own_below HOU.out.1 B4.out) (by omega) (by omega) fun g e => ⟨fun q => by have := (HOU.out.2 g (ownBlock_ao e)).1; have := hBl g (.inl q); omega, fun q => by have := (HOU.out.2 g (ownBlock_ao e)).1; have := hBl g (.inr q); omega⟩
  have HZ : Hid (W0.heap.size ≤ w2.heap.size ∧ w2.heap.size ≤ w4.heap.size ∧ ∀ g, B g ∨ K g → g < W0.heap.size) := ⟨hz.1, hz.2, hBl⟩
  clear hsg hb4 hz hBl
  go_wp2_with fail
  refine hti.mono ?_
  rintro e w5 ⟨rfl, hbg⟩
  obtain ⟨B', K', sA, f5, sb, sk⟩ := S4.out.bg hbg fun g e => (HOU.out.2 g (ownBlock_ao e)).2
  have og4 := own_below HOG.out.1 B4.out
  have ng4 : ∀ g, (Value.slice ag' gt.length cg).ownBlock = some g → ¬ (B g ∨ au = some ⟨g, 0, none⟩) := fun g e q => by
    obtain ⟨q1, q2, q3⟩ := HOG.out.2.1 g e
    rcases q with q | q
    · have := HZ.out.2.2 g (.inl q); omega
    · exact q3 (ownBlock_ao q)
  have og5 : Own gl 2 79 w5 (.slice ag' gt.length cg) gt := og4.fr f5 ng4
  have htg := takeGrants_any w5 d0 (ni + 1) ng nw B' K' ag' gt.length cg gt sA.2.1 og5 (by omega) (by omega) fun g e => by
    have hob := ownBlock_ao (n := gt.length) (cap := cg) e
    have hlt := og4.lt hob
    obtain ⟨q1, q2, q3⟩ := HOG.out.2.1 g hob
    refine ⟨fun q => ?_, fun q => ?_⟩
    · rcases sb g q with r | r
      · exact ng4 g hob (.inl r)
      · omega
    · rcases sk g q with r | r | r
      · have := HZ.out.2.2 g (.inr r); omega
      · exact ng4 g hob (.inr r)
      · omega
  have FIN : Hid (∀ W W', BG w5 d0 (ni + 1) (ng + 1) nw B' K' ag' W → Below W.heap.size W W' → AG w vx vy d0 (N + 1) D B K W') := fun W W' hb hb' =>
    AG.two H0.out.1 (by omega) H0.out.2.1 HG.out B4.out sA f5 sb sk hb hb' (fun g e => HOU.out.2 g (ownBlock_ao e)) fun g e => ⟨(HOG.out.2.1 g (ownBlock_ao e)).1, (HOG.out.2.1 g (ownBlock_ao e)).2.1⟩
  clear hti hbg sA f5 sb sk og4 ng4 og5
  go_wp2_with fail
  refine htg.mono ?_
  rintro e w6 ⟨rfl, hbg⟩
  have HB6 : Hid (BG w5 d0 (ni + 1) (ng + 1) nw B' K' ag' w6) := hbg
  clear htg hbg
  go_wp2
  go_ret
  exact ⟨rfl, FIN.out _ _ HB6.out (Below.refl _ _)⟩

set_option maxRecDepth 20000 in
set_option maxHeartbeats 16000000 in
theorem asked_hold (w : World) (vx vy : Value) (d0 ni ng nw N : Nat) (D B K : Nat → Prop) (tb x y : Int) (z : Bool) (h : SA w vx vy d0 ni ng nw D B K) (hN : ni ≤ N ∧ ng ≤ N ∧ nw ≤ N) :
    Calls Try.prog 8 #[.pointer (some ⟨d0, 0, none⟩), vx, vy, .agg #[.int .i64 2, .int .i64 tb, .int .i64 x, .int .i64 y, .bool z]] w fun e w' => e = .returned (.bool true) ∧ AG w vx vy d0 (N + 1) D B K w' := by
  obtain ⟨W0, hW0⟩ : ∃ W0, W0 = w.alloc (.cells #[.int .i64 2, .int .i64 tb, .int .i64 x, .int .i64 y, .bool z] 39) := ⟨_, rfl⟩
  have b0 : Below w.heap.size w W0 := by rw [hW0]; exact (Below.refl _ _).alloc (Nat.le_refl _) _
  have S0 : AskS w.heap.size 2 x y z W0 := by
    rw [hW0]
    refine ⟨?_, ?_, ?_, ?_⟩ <;> (rw [cell_new]; rfl)
  have hsa := h.below b0
  obtain ⟨MID, c1, c2⟩ := holds_u W0 vx vy D x hsa.1
  have H0 : Hid (SA w vx vy d0 ni ng nw D B K ∧ Below w.heap.size w W0) := ⟨h, b0⟩
  have HND : Hid (¬ D w.heap.size) := fun e => absurd (h.1.lt e) (Nat.lt_irrefl _)
  have HS0 : Hid (AskS w.heap.size 2 x y z W0) := S0
  have C2 : Hid (∀ w1, MID w1 → Calls Try.prog 27 #[vy, .int .i64 x] w1 fun e w2 => e = .returned (.tuple #[]) ∧ ∃ D', TPG W0 vx vy D D' w2) := c2
  obtain ⟨s0, s1, s2, s3⟩ := S0
  clear h b0 hsa c2
  go_enter Try.func8, Try.ntmps8
  go_wp2_with fail
  rw [← hW0]
  clear hW0
  refine c1.mono ?_
  rintro e w1 ⟨rfl, f1, hm⟩
  have c2 := C2.out w1 hm
  have HS1 : Hid (AskS w.heap.size 2 x y z w1) := HS0.out.fr f1 HND.out
  clear c1 s0 s1 s2 s3 hm C2 f1
  obtain ⟨s0, s1, s2, s3⟩ := HS1.out
  go_wp2_with fail
  refine c2.mono ?_
  rintro e w2 ⟨rfl, D', hG⟩
  have HG : Hid (TPG W0 vx vy D D' w2) := hG
  clear c2 hG s0 s1 s2 s3
  go_wp2
  go_ret
  exact ⟨rfl, AG.tp H0.out.1 (by omega) H0.out.2 HG.out (Below.refl _ _)⟩

set_option maxRecDepth 20000 in
set_option maxHeartbeats 16000000 in
theorem asked_free (w : World) (vx vy : Value) (d0 ni ng nw N : Nat) (D B K : Nat → Prop) (tb x y : Int) (z : Bool) (h : SA w vx vy d0 ni ng nw D B K) (hN : ni ≤ N ∧ ng ≤ N ∧ nw ≤ N) (hM : N ≤ 1500000) :
    Calls Try.prog 8 #[.pointer (some ⟨d0, 0, none⟩), vx, vy, .agg #[.int .i64 3, .int .i64 tb, .int .i64 x, .int .i64 y, .bool z]] w fun e w' => e = .returned (.bool true) ∧ AG w vx vy d0 (N + 1) D B K w' := by
  obtain ⟨W0, hW0⟩ : ∃ W0, W0 = w.alloc (.cells #[.int .i64 3, .int .i64 tb, .int .i64 x, .int .i64 y, .bool z] 39) := ⟨_, rfl⟩
  have b0 : Below w.heap.size w W0 := by rw [hW0]; exact (Below.refl _ _).alloc (Nat.le_refl _) _
  have S0 : AskS w.heap.size 3 x y z W0 := by
    rw [hW0]
    refine ⟨?_, ?_, ?_, ?_⟩ <;> (rw [cell_new]; rfl)
  have hsa := h.below b0
  obtain ⟨gt, MID, gtl, c1, c2⟩ := frees_u W0 vx vy D x hsa.1
  have H0 : Hid (SA w vx vy d0 ni ng nw D B K ∧ Below w.heap.size w W0 ∧ SA W0 vx vy d0 ni ng nw D B K) := ⟨h, b0, hsa⟩
  have HND : Hid (¬ D w.heap.size) := fun e => absurd (h.1.lt e) (Nat.lt_irrefl _)
  have HS0 : Hid (AskS w.heap.size 3 x y z W0) := S0
  have C2 : Hid (∀ w1 vg, MID w1 vg → Calls Try.prog 28 #[vy, .int .i64 x] w1 fun e w2 => ∃ vg', e = .returned vg' ∧ Fr D w1 w2 ∧ Frees W0 vx vy D gt vg vg' w2) := c2
  obtain ⟨s0, s1, s2, s3⟩ := S0
  clear h b0 hsa c2
  go_enter Try.func8, Try.ntmps8
  go_wp2_with fail
  rw [← hW0]
  clear hW0
  refine c1.mono ?_
  rintro e w1 ⟨vg, rfl, f1, hm⟩
  have c2 := C2.out w1 vg hm
  have HS1 : Hid (AskS w.heap.size 3 x y z w1) := HS0.out.fr f1 HND.out
  clear c1 s0 s1 s2 s3 hm C2 f1
  obtain ⟨s0, s1, s2, s3⟩ := HS1.out
  go_wp2_with fail
  refine c2.mono ?_
  rintro e w2 ⟨vg', rfl, f2, og, og', D', hG, fg⟩
  obtain ⟨ag', cg, hvg, rg, -, -⟩ := og.rd gl_len
  obtain ⟨ag2, cg', hvg', rg', -, -⟩ := og'.rd gl_len
  subst hvg
  subst hvg'
  have hsg := sameGrants_true w2 ag' ag2 cg cg' gt rg rg' (by omega)
  have HG : Hid (TPG W0 vx vy D D' w2) := hG
  have HOG : Hid (Own gl 2 79 w2 (.slice ag' gt.length cg) gt ∧ ∀ g, (Value.slice ag' gt.length cg).ownBlock = some g → W0.heap.size ≤ g ∧ ¬ D' g) := ⟨og, fg⟩
  clear c2 f2 og og' fg rg rg' hG s0 s1 s2 s3
  go_wp2_with fail
  refine hsg.mono ?_
  rintro e w4 ⟨rfl, hb4⟩
  have B4 : Hid (Below w2.heap.size w2 w4) := hb4
  have S4 : Hid (SA w4 vx vy d0 ni ng nw D' B K) := (H0.out.2.2.tp HG.out).below B4.out
  have hBl : ∀ g, B g ∨ K g → g < W0.heap.size := fun g e => H0.out.2.2.2.1.lt e
  have htg := takeGrants_any w4 d0 ni ng nw B K ag' gt.length cg gt S4.out.2.1 (own_below HOG.out.1 B4.out) (by omega) (by omega) fun g e => ⟨fun q => by have := (HOG.out.2 g (ownBlock_ao e)).1; have := hBl g (.inl q); omega, fun q => by have := (HOG.out.2 g (ownBlock_ao e)).1; have := hBl g (.inr q); omega⟩
  clear hsg hb4 hBl
  go_wp2_with fail
  refine htg.mono ?_
  rintro e w5 ⟨rfl, hbg⟩
  have HB5 : Hid (BG w4 d0 ni (ng + 1) nw B K ag' w5) := hbg
  clear htg hbg
  go_wp2
  go_ret
  exact ⟨rfl, AG.one H0.out.1 (by omega) H0.out.2.1 HG.out B4.out HB5.out (Below.refl _ _) fun g e => HOG.out.2 g (ownBlock_ao e)⟩

set_option maxRecDepth 20000 in
set_option maxHeartbeats 16000000 in
theorem asked_waits (w : World) (vx vy : Value) (d0 ni ng nw N : Nat) (D B K : Nat → Prop) (tb x y : Int) (z : Bool) (h : SA w vx vy d0 ni ng nw D B K) (hN : ni ≤ N ∧ ng ≤ N ∧ nw ≤ N) (hM : N ≤ 1500000) :
    Calls Try.prog 8 #[.pointer (some ⟨d0, 0, none⟩), vx, vy, .agg #[.int .i64 4, .int .i64 tb, .int .i64 x, .int .i64 y, .bool z]] w fun e w' => e = .returned (.bool true) ∧ AG w vx vy d0 (N + 1) D B K w' := by
  obtain ⟨W0, hW0⟩ : ∃ W0, W0 = w.alloc (.cells #[.int .i64 4, .int .i64 tb, .int .i64 x, .int .i64 y, .bool z] 39) := ⟨_, rfl⟩
  have b0 : Below w.heap.size w W0 := by rw [hW0]; exact (Below.refl _ _).alloc (Nat.le_refl _) _
  have S0 : AskS w.heap.size 4 x y z W0 := by
    rw [hW0]
    refine ⟨?_, ?_, ?_, ?_⟩ <;> (rw [cell_new]; rfl)
  have hsa := h.below b0
  obtain ⟨ps, MID, gtl, c1, c2⟩ := waits_u W0 vx vy D hsa.1
  have H0 : Hid (SA w vx vy d0 ni ng nw D B K ∧ Below w.heap.size w W0 ∧ SA W0 vx vy d0 ni ng nw D B K) := ⟨h, b0, hsa⟩
  have C2 : Hid (∀ w1 vg, MID w1 vg → Calls Try.prog 29 #[vy] w1 fun e w2 => ∃ vg', e = .returned vg' ∧ Own gl 2 81 w2 vg ps ∧ Own gl 2 81 w2 vg' ps ∧ Below W0.heap.size W0 w2 ∧ ∀ g, vg.ownBlock = some g → W0.heap.size ≤ g) := c2
  obtain ⟨s0, s1, s2, s3⟩ := S0
  clear h b0 hsa c2
  go_enter Try.func8, Try.ntmps8
  go_wp2_with fail
  rw [← hW0]
  clear hW0
  refine c1.mono ?_
  rintro e w1 ⟨vg, rfl, hm⟩
  have c2 := C2.out w1 vg hm
  clear c1 s0 s1 s2 s3 hm C2
  go_wp2_with fail
  refine c2.mono ?_
  rintro e w2 ⟨vg', rfl, og, og', hb2, fg⟩
  obtain ⟨ag', cg, hvg, rg, -, -⟩ := og.rd gl_len
  obtain ⟨ag2, cg', hvg', rg', -, -⟩ := og'.rd gl_len
  subst hvg
  subst hvg'
  have hsg := sameWaits_true w2 ag' ag2 cg cg' ps rg rg' (by omega)
  have HG : Hid (TPG W0 vx vy D D w2) := TPG.same H0.out.2.2.1 hb2
  have HOG : Hid (Own gl 2 81 w2 (.slice ag' ps.length cg) ps ∧ ∀ g, (Value.slice ag' ps.length cg).ownBlock = some g → W0.heap.size ≤ g ∧ ¬ D g) := ⟨og, fun g e => ⟨fg g e, fun q => by have := H0.out.2.2.1.lt q; have := fg g e; omega⟩⟩
  clear c2 og og' fg rg rg' hb2
  go_wp2_with fail
  refine hsg.mono ?_
  rintro e w4 ⟨rfl, hb4⟩
  have B4 : Hid (Below w2.heap.size w2 w4) := hb4
  have S4 : Hid (SA w4 vx vy d0 ni ng nw D B K) := (H0.out.2.2.tp HG.out).below B4.out
  have hBl : ∀ g, B g ∨ K g → g < W0.heap.size := fun g e => H0.out.2.2.2.1.lt e
  have hpl : ps.length ≤ 900000 := by omega
  have htg := takeWaits_any w4 d0 ni ng nw B K ag' ps.length cg ps S4.out.2.1 (own_below HOG.out.1 B4.out) hpl (by omega) fun g e => ⟨fun q => by have := (HOG.out.2 g (ownBlock_ao e)).1; have := hBl g (.inl q); omega, fun q => by have := (HOG.out.2 g (ownBlock_ao e)).1; have := hBl g (.inr q); omega⟩
  clear hsg hb4 hBl hpl
  go_wp2_with fail
  refine htg.mono ?_
  rintro e w5 ⟨rfl, hbg⟩
  have HB5 : Hid (BG w4 d0 ni ng (nw + 1) B K ag' w5) := hbg
  clear htg hbg
  go_wp2
  go_ret
  exact ⟨rfl, AG.one H0.out.1 (by omega) H0.out.2.1 HG.out B4.out HB5.out (Below.refl _ _) fun g e => HOG.out.2 g (ownBlock_ao e)⟩

set_option maxRecDepth 20000 in
set_option maxHeartbeats 16000000 in
theorem asked_none (w : World) (vx vy : Value) (d0 ni ng nw N : Nat) (D B K : Nat → Prop) (kd tb x y : Int) (z : Bool) (h : SA w vx vy d0 ni ng nw D B K) (hN : ni ≤ N ∧ ng ≤ N ∧ nw ≤ N) (h1 : ¬ kd = 1) (h2 : ¬ kd = 2) (h3 : ¬ kd = 3) (h4 : ¬ kd = 4) :
    Calls Try.prog 8 #[.pointer (some ⟨d0, 0, none⟩), vx, vy, .agg #[.int .i64 kd, .int .i64 tb, .int .i64 x, .int .i64 y, .bool z]] w fun e w' => e = .returned (.bool true) ∧ AG w vx vy d0 (N + 1) D B K w' := by
  have H0 : Hid (SA w vx vy d0 ni ng nw D B K) := h
  clear h
  go_enter Try.func8, Try.ntmps8
  go_wp2
  go_ret
  exact ⟨rfl, AG.same H0.out (by omega) ((Below.refl _ _).alloc (Nat.le_refl _) _)⟩

theorem asked_true (w : World) (vx vy : Value) (d0 ni ng nw N : Nat) (D B K : Nat → Prop) (kd tb x y : Int) (z : Bool) (h : SA w vx vy d0 ni ng nw D B K) (hN : ni ≤ N ∧ ng ≤ N ∧ nw ≤ N) (hM : N ≤ 1500000) :
    Calls Try.prog 8 #[.pointer (some ⟨d0, 0, none⟩), vx, vy, .agg #[.int .i64 kd, .int .i64 tb, .int .i64 x, .int .i64 y, .bool z]] w fun e w' => e = .returned (.bool true) ∧ AG w vx vy d0 (N + 1) D B K w' := by
  by_cases h1 : kd = 1
  · subst h1; exact asked_take w vx vy d0 ni ng nw N D B K tb x y z h hN hM
  by_cases h2 : kd = 2
  · subst h2; exact asked_hold w vx vy d0 ni ng nw N D B K tb x y z h hN
  by_cases h3 : kd = 3
  · subst h3; exact asked_free w vx vy d0 ni ng nw N D B K tb x y z h hN hM
  by_cases h4 : kd = 4
  · subst h4; exact asked_waits w vx vy d0 ni ng nw N D B K tb x y z h hN hM
  exact asked_none w vx vy d0 ni ng nw N D B K kd tb x y z h hN h1 h2 h3 h4
end Go.Proofs.Ytlagmbieaicmgaa
