/- The check sum as plain mathematics: one step a bit; a burst of at most 32 bits turned is always seen. -/
import Derived.WalkKit
namespace Pact

def tab : List Nat := [0, 498536548, 997073096, 651767980, 1994146192, 1802195444, 1303535960, 1342533948, 3988292384, 4027552580, 3604390888, 3412177804, 2607071920, 2262029012, 2685067896, 3183342108]

/-- One bit of the division. -/
def st (c : Nat) : Nat := (c >>> 1) ^^^ (if c % 2 = 1 then 3988292384 else 0)
def sts : Nat → Nat → Nat
  | 0, c => c
  | n + 1, c => sts n (st c)

theorem mod2_xor (a b : Nat) : (a ^^^ b) % 2 = (a % 2) ^^^ (b % 2) := by
  have := Nat.xor_mod_two_pow (a := a) (b := b) (n := 1)
  simpa using this

theorem st_xor (a b : Nat) : st (a ^^^ b) = st a ^^^ st b := by
  unfold st
  rw [Nat.shiftRight_xor_distrib, mod2_xor]
  rcases Nat.mod_two_eq_zero_or_one a with ha | ha <;> rcases Nat.mod_two_eq_zero_or_one b with hb | hb <;> simp [ha, hb]
  · rw [Nat.xor_assoc]
  · rw [Nat.xor_assoc, Nat.xor_assoc, Nat.xor_comm 3988292384]
  · rw [Nat.xor_assoc, Nat.xor_comm 3988292384, Nat.xor_assoc, Nat.xor_self]; simp

theorem sts_xor (n : Nat) : ∀ a b, sts n (a ^^^ b) = sts n a ^^^ sts n b := by
  induction n with
  | zero => intro a b; rfl
  | succ n ih => intro a b; simp only [sts]; rw [st_xor, ih]

theorem sts_add (n m : Nat) : ∀ a, sts (n + m) a = sts m (sts n a) := by
  induction n with
  | zero => intro a; simp [sts]
  | succ n ih => intro a; rw [Nat.succ_add]; simp only [sts]; exact ih _

theorem st_double (a : Nat) : st (2 * a) = a := by
  unfold st
  have h : (2 * a) % 2 = 0 := by omega
  simp [h, Nat.shiftRight_succ]

theorem sts_shift (n : Nat) : ∀ a, sts n (a <<< n) = a := by
  induction n with
  | zero => intro a; simp [sts]
  | succ n ih =>
    intro a
    have h : a <<< (n + 1) = 2 * (a <<< n) := by simp [Nat.shiftLeft_eq, Nat.pow_succ]; rw [← Nat.mul_assoc, Nat.mul_comm 2]
    simp only [sts]
    rw [h, st_double, ih]

theorem st_lt (c : Nat) (h : c < 2 ^ 32) : st c < 2 ^ 32 := by
  unfold st
  refine Nat.xor_lt_two_pow ?_ ?_
  · simp [Nat.shiftRight_succ]; omega
  · split <;> omega

theorem sts_lt (n : Nat) : ∀ c, c < 2 ^ 32 → sts n c < 2 ^ 32 := by
  induction n with
  | zero => intro c h; exact h
  | succ n ih => intro c h; exact ih _ (st_lt c h)

theorem xor_eq_zero {a b : Nat} (h : a ^^^ b = 0) : a = b := by
  have : (a ^^^ b) ^^^ b = b := by rw [h]; simp
  rwa [Nat.xor_assoc, Nat.xor_self, Nat.xor_zero] at this

theorem st_zero (c : Nat) (h : c < 2 ^ 32) (h0 : st c = 0) : c = 0 := by
  unfold st at h0
  have h1 := xor_eq_zero h0
  have h2 : c >>> 1 = c / 2 := by simp [Nat.shiftRight_succ]
  rw [h2] at h1
  split at h1 <;> omega

theorem sts_zero (n : Nat) : ∀ c, c < 2 ^ 32 → sts n c = 0 → c = 0 := by
  induction n with
  | zero => intro c _ h; exact h
  | succ n ih => intro c h h0; exact st_zero c h (ih _ (st_lt c h) h0)

theorem join4 (c : Nat) : ((c / 16) <<< 4) ^^^ (c % 16) = c := by
  apply Nat.eq_of_testBit_eq
  intro i
  rw [Nat.testBit_xor, Nat.testBit_shiftLeft, show (16 : Nat) = 2 ^ 4 from rfl, Nat.testBit_mod_two_pow, ← Nat.shiftRight_eq_div_pow, Nat.testBit_shiftRight]
  by_cases h : 4 ≤ i
  · have h' : ¬ i < 4 := by omega
    simp [h, h']
  · have h' : i < 4 := by omega
    simp [h, h']

theorem join8 (c : Nat) : (c % 256) ^^^ ((c / 256) <<< 8) = c := by
  apply Nat.eq_of_testBit_eq
  intro i
  rw [Nat.testBit_xor, Nat.testBit_shiftLeft, show (256 : Nat) = 2 ^ 8 from rfl, Nat.testBit_mod_two_pow, ← Nat.shiftRight_eq_div_pow, Nat.testBit_shiftRight]
  by_cases h : 8 ≤ i
  · have h' : ¬ i < 8 := by omega
    simp [h, h']
  · have h' : i < 8 := by omega
    simp [h, h']

theorem tab4 : ∀ x : Fin 16, sts 4 x.val = tab.getD x.val 0 := by decide +kernel

theorem half (c : Nat) : (c / 16) ^^^ tab.getD (c % 16) 0 = sts 4 c := by
  have h := tab4 ⟨c % 16, Nat.mod_lt _ (by omega)⟩
  simp only at h
  rw [← h]
  have h2 := sts_xor 4 ((c / 16) <<< 4) (c % 16)
  rw [join4, sts_shift] at h2
  exact h2.symm

/-- One byte, as the program reckons it. -/
def crcStep (c b : Nat) : Nat := (((c ^^^ b) / 16 ^^^ tab.getD ((c ^^^ b) % 16) 0) / 16) ^^^ tab.getD (((c ^^^ b) / 16 ^^^ tab.getD ((c ^^^ b) % 16) 0) % 16) 0

theorem crcStep_eq (c b : Nat) : crcStep c b = sts 8 (c ^^^ b) := by
  unfold crcStep
  rw [half, half, show 8 = 4 + 4 from rfl, sts_add]

def crc (c : Nat) (l : List UInt8) : Nat := l.foldl (fun c b => crcStep c b.toNat) c

def num : List UInt8 → Nat
  | [] => 0
  | b :: l => b.toNat ^^^ (num l <<< 8)

theorem num_cons (b : UInt8) (l : List UInt8) : num (b :: l) = b.toNat + 256 * num l := by
  have h := join8 (b.toNat + 256 * num l)
  have hb := b.toNat_lt
  rw [show (b.toNat + 256 * num l) % 256 = b.toNat from by omega, show (b.toNat + 256 * num l) / 256 = num l from by omega] at h
  exact h

theorem num_inj : ∀ (l k : List UInt8), l.length = k.length → num l = num k → l = k
  | [], [], _, _ => rfl
  | a :: l, b :: k, h, hn => by
    rw [num_cons, num_cons] at hn
    have ha := a.toNat_lt
    have hb := b.toNat_lt
    have h1 : a.toNat = b.toNat := by omega
    have h2 : num l = num k := by omega
    rw [num_inj l k (by simpa using h) h2, UInt8.toNat_inj.1 h1]

theorem crc_eq : ∀ (l : List UInt8) (c : Nat), crc c l = sts (8 * l.length) (c ^^^ num l)
  | [], c => by simp [crc, num, sts]
  | b :: l, c => by
    have ih := crc_eq l (crcStep c b.toNat)
    show crc (crcStep c b.toNat) l = _
    rw [ih, crcStep_eq, num, List.length_cons, show 8 * (l.length + 1) = 8 + 8 * l.length from by omega, sts_add, ← Nat.xor_assoc, sts_xor 8 (c ^^^ b.toNat) (num l <<< 8), sts_shift]

theorem crc_lt (l : List UInt8) (c : Nat) (h : c < 2 ^ 32) : crc c l < 2 ^ 32 := by
  induction l generalizing c with
  | nil => exact h
  | cons b l ih =>
    refine ih _ ?_
    show crcStep c b.toNat < 2 ^ 32
    rw [crcStep_eq]
    refine sts_lt _ _ (Nat.xor_lt_two_pow h ?_)
    have := b.toNat_lt; omega

theorem crc_append (l k : List UInt8) (c : Nat) : crc c (l ++ k) = crc (crc c l) k := by simp [crc, List.foldl_append]

theorem compl32 (x : Nat) (h : x < 2 ^ 32) : 4294967295 - x = 4294967295 ^^^ x := by
  apply Nat.eq_of_testBit_eq
  intro i
  rw [Nat.testBit_xor, show (4294967295 - x : Nat) = 2 ^ 32 - (x + 1) from by omega, Nat.testBit_two_pow_sub_succ h, show (4294967295 : Nat) = 2 ^ 32 - 1 from rfl, Nat.testBit_two_pow_sub_one]
  by_cases hi : i < 32
  · simp [hi]
  · have : x.testBit i = false := Nat.testBit_lt_two_pow (Nat.lt_of_lt_of_le h (Nat.pow_le_pow_right (by omega) (by omega)))
    simp [hi, this]

/-- The four bytes of a number, the low byte first. -/
def low4 (x : Nat) : List UInt8 := [UInt8.ofNat x, UInt8.ofNat (x / 256), UInt8.ofNat (x / 65536), UInt8.ofNat (x / 16777216)]

theorem num_low4 (x : Nat) (h : x < 2 ^ 32) : num (low4 x) = x := by
  have h0 : num [] = 0 := rfl
  unfold low4
  rw [num_cons, num_cons, num_cons, num_cons, h0]
  simp only [UInt8.toNat_ofNat']
  omega

/-- The check sum's bytes. -/
def sumOf (l : List UInt8) : List UInt8 := low4 (4294967295 - crc 4294967295 l)

theorem sumOf_length (l : List UInt8) : (sumOf l).length = 4 := rfl

theorem crc_whole (l : List UInt8) : crc 4294967295 (l ++ sumOf l) = sts 32 4294967295 := by
  have hc := crc_lt l 4294967295 (by omega)
  rw [crc_append, crc_eq, sumOf, num_low4 _ (by omega), compl32 _ hc, Nat.xor_comm 4294967295, ← Nat.xor_assoc, Nat.xor_self, Nat.zero_xor]
  rfl

/-- Two texts of one length, each with its check sum behind it, that part within 32 bits, are one. -/
theorem burst (s t p q : List UInt8) (hs : s = p ++ sumOf p) (ht : t = q ++ sumOf q) (hlen : s.length = t.length) (a m : Nat) (hm : m < 2 ^ 32) (ha : a ≤ 8 * s.length)
    (hd : num t = num s ^^^ (m <<< a)) : s = t := by
  have h1 : crc 4294967295 s = crc 4294967295 t := by rw [hs, ht, crc_whole, crc_whole]
  rw [crc_eq, crc_eq, ← hlen, hd, ← Nat.xor_assoc, sts_xor _ _ (m <<< a)] at h1
  have h2 : sts (8 * s.length) (m <<< a) = 0 := by
    have := congrArg (fun z => sts (8 * s.length) (4294967295 ^^^ num s) ^^^ z) h1
    simp only [Nat.xor_self] at this
    rw [← Nat.xor_assoc, Nat.xor_self, Nat.zero_xor] at this
    exact this.symm
  rw [show 8 * s.length = a + (8 * s.length - a) from by omega, sts_add, sts_shift] at h2
  have h3 := sts_zero _ m hm h2
  subst h3
  refine num_inj s t hlen ?_
  rw [hd]; simp

#print axioms burst
end Pact
