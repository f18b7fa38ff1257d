/-
  Plain facts on whole numbers, no Go in sight: the bits of a number counted by masks and sums are its set bits; exactly one is set just if the number is a power of two; a quotient by multiplication is the quotient.
-/
import Derived.Laws.MathBits
namespace Go.Proofs.Ytnhllnepnpmegaa

/-- How many bits are set. -/
def pc (n : Nat) : Nat := if _h : n = 0 then 0 else n % 2 + pc (n / 2)

/-- A power of two, as halving tells it. -/
def isPow (n : Nat) : Bool := if _h : 1 < n ∧ n % 2 = 0 then isPow (n / 2) else n == 1

theorem pc_zero : pc 0 = 0 := by unfold pc; simp
theorem pc_step (n : Nat) : pc n = n % 2 + pc (n / 2) := by
  by_cases h : n = 0
  · subst h; simp [pc_zero]
  · rw [pc]; simp [h]

theorem pc_pos : ∀ n : Nat, 0 < n → 0 < pc n := by
  intro n
  induction n using Nat.strongRecOn with
  | _ n ih =>
    intro h
    rw [pc_step]
    by_cases h2 : n % 2 = 0
    · have := ih (n / 2) (by omega) (by omega); omega
    · omega

theorem pc_isPow : ∀ n : Nat, (pc n == 1) = isPow n := by
  intro n
  induction n using Nat.strongRecOn with
  | _ n ih =>
    rw [isPow]
    split
    · rename_i h
      rw [← ih (n / 2) (by omega), pc_step, h.2]; simp
    · rename_i h
      by_cases h0 : n = 0
      · subst h0; simp [pc_zero]
      · by_cases h1 : n = 1
        · subst h1; rw [pc_step]; simp [pc_zero]
        · have hp := pc_pos (n / 2) (by omega)
          have hs := pc_step n
          have : n % 2 = 1 := by omega
          have e1 : (pc n == 1) = false := by simp only [beq_eq_false_iff_ne]; omega
          have e2 : (n == 1) = false := by simp only [beq_eq_false_iff_ne]; omega
          rw [e1, e2]

/-! ### The masks, byte by byte -/
theorem and_split (h a hm am : Nat) (ha : a < 256) (ham : am < 256) : (256 * h + a) &&& (256 * hm + am) = 256 * (h &&& hm) + (a &&& am) := by
  apply Nat.eq_of_testBit_eq
  intro j
  have hx : a &&& am < 2 ^ 8 := Nat.lt_of_le_of_lt Nat.and_le_left (by omega)
  rw [Nat.testBit_and]
  have e : (256 : Nat) = 2 ^ 8 := by decide
  rw [e, Nat.testBit_two_pow_mul_add _ (by omega), Nat.testBit_two_pow_mul_add _ (by omega), Nat.testBit_two_pow_mul_add _ hx]
  split <;> simp [Nat.testBit_and]

/-- k bytes, each c. -/
def rep (c : Nat) : Nat → Nat
  | 0 => 0
  | k + 1 => 256 * rep c k + c

/-- What the first three steps make of one byte. -/
def t1 (a : Nat) : Nat := (a / 2 &&& 85) + (a &&& 85)
def t2 (a : Nat) : Nat := (a / 4 &&& 51) + (a &&& 51)
def t3 (a : Nat) : Nat := (a / 16 + a) &&& 15
def s1 (k x : Nat) : Nat := (x / 2 &&& rep 85 k) + (x &&& rep 85 k)
def s2 (k x : Nat) : Nat := (x / 4 &&& rep 51 k) + (x &&& rep 51 k)
def s3 (k x : Nat) : Nat := (x / 16 + x) &&& rep 15 k

theorem mask85 : ∀ (b : Fin 2) (a : Fin 256), (b.val * 128 + a.val / 2) &&& 85 = a.val / 2 &&& 85 := by decide +kernel
theorem mask51 : ∀ (b : Fin 4) (a : Fin 256), (b.val * 64 + a.val / 4) &&& 51 = a.val / 4 &&& 51 := by decide +kernel
theorem t1_lt : ∀ a : Fin 256, t1 a.val < 256 := by decide +kernel
theorem t2_lt : ∀ a : Fin 256, t2 (t1 a.val) ≤ 68 ∧ t2 (t1 a.val) % 16 ≤ 4 := by decide +kernel
/-- The set bits of the lowest f. -/
def pcf : Nat → Nat → Nat
  | 0, _ => 0
  | f + 1, n => n % 2 + pcf f (n / 2)
theorem t3_pc : ∀ a : Fin 256, t3 (t2 (t1 a.val)) = pcf 8 a.val := by decide +kernel
theorem pcf_le : ∀ f n, pcf f n ≤ f := by
  intro f
  induction f with
  | zero => intro n; simp [pcf]
  | succ f ih => intro n; have := ih (n / 2); rw [pcf]; omega
theorem pc_split : ∀ f h a, a < 2 ^ f → pc (2 ^ f * h + a) = pcf f a + pc h := by
  intro f
  induction f with
  | zero => intro h a ha; simp at ha; subst ha; simp [pcf]
  | succ f ih =>
    intro h a ha
    rw [Nat.pow_succ] at ha
    have e : 2 ^ (f + 1) * h + a = 2 * (2 ^ f * h + a / 2) + a % 2 := by
      rw [Nat.pow_succ, Nat.mul_assoc, Nat.mul_left_comm]; omega
    have h1 : (2 * (2 ^ f * h + a / 2) + a % 2) % 2 = a % 2 := by omega
    have h2 : (2 * (2 ^ f * h + a / 2) + a % 2) / 2 = 2 ^ f * h + a / 2 := by omega
    rw [e, pc_step, h1, h2, ih h (a / 2) (by omega), pcf]
    omega

theorem s1_step (k h a : Nat) (ha : a < 256) : s1 (k + 1) (256 * h + a) = 256 * s1 k h + t1 a := by
  have e : (256 * h + a) / 2 = 256 * (h / 2) + (h % 2 * 128 + a / 2) := by omega
  have m := mask85 ⟨h % 2, by omega⟩ ⟨a, ha⟩
  simp only at m
  unfold s1 t1
  rw [rep, e, and_split _ _ _ _ (by omega) (by decide), and_split _ _ _ _ ha (by decide), m]
  omega
theorem s2_step (k h a : Nat) (ha : a < 256) : s2 (k + 1) (256 * h + a) = 256 * s2 k h + t2 a := by
  have e : (256 * h + a) / 4 = 256 * (h / 4) + (h % 4 * 64 + a / 4) := by omega
  have m := mask51 ⟨h % 4, by omega⟩ ⟨a, ha⟩
  simp only at m
  unfold s2 t2
  rw [rep, e, and_split _ _ _ _ (by omega) (by decide), and_split _ _ _ _ ha (by decide), m]
  omega
theorem s3_step (k h a : Nat) (ha : a ≤ 68) (hh : h % 16 ≤ 4) : s3 (k + 1) (256 * h + a) = 256 * s3 k h + t3 a := by
  have e : (256 * h + a) / 16 + (256 * h + a) = 256 * (h / 16 + h) + (h % 16 * 16 + a / 16 + a) := by omega
  have m : (h % 16 * 16 + a / 16 + a) &&& 15 = (a / 16 + a) &&& 15 := by
    rw [Nat.and_two_pow_sub_one_eq_mod _ 4, Nat.and_two_pow_sub_one_eq_mod _ 4]; omega
  unfold s3 t3
  rw [rep, e, and_split _ _ _ _ (by omega) (by decide), m]
theorem s12_small (k y : Nat) : s2 k (s1 k y) % 16 ≤ 4 := by
  cases k with
  | zero => simp [s2, rep]
  | succ k =>
    have e : y = 256 * (y / 256) + y % 256 := by omega
    have hb := t1_lt ⟨y % 256, by omega⟩
    have ht := t2_lt ⟨y % 256, by omega⟩
    simp only at hb ht
    rw [e, s1_step _ _ _ (by omega), s2_step _ _ _ hb]
    omega

/-- The three steps on k bytes. -/
def S (k x : Nat) : Nat := s3 k (s2 k (s1 k x))
theorem S_step (k h a : Nat) (ha : a < 256) : S (k + 1) (256 * h + a) = 256 * S k h + t3 (t2 (t1 a)) := by
  have hb := t1_lt ⟨a, ha⟩
  have ht := t2_lt ⟨a, ha⟩
  simp only at hb ht
  unfold S
  rw [s1_step _ _ _ ha, s2_step _ _ _ hb, s3_step _ _ _ ht.1 (s12_small k h)]
theorem S_zero (x : Nat) : S 0 x = 0 := by simp [S, s3, rep]

theorem pc_byte (h a : Nat) (ha : a < 256) : pc (256 * h + a) = pc h + t3 (t2 (t1 a)) := by
  have ht := t3_pc ⟨a, ha⟩
  simp only at ht
  have := pc_split 8 h a ha
  rw [ht, show 256 * h = 2 ^ 8 * h from rfl, this, Nat.add_comm]
theorem t3_le (a : Nat) (ha : a < 256) : t3 (t2 (t1 a)) ≤ 8 := by
  have ht := t3_pc ⟨a, ha⟩
  simp only at ht
  rw [ht]; exact pcf_le 8 a
theorem S_next (k y : Nat) : S (k + 1) y = t3 (t2 (t1 (y % 256))) + 256 * S k (y / 256) := by
  have e : y = 256 * (y / 256) + y % 256 := by omega
  have := S_step k (y / 256) (y % 256) (by omega)
  rw [← e] at this; omega
theorem pc_next (y : Nat) : pc y = t3 (t2 (t1 (y % 256))) + pc (y / 256) := by
  have e : y = 256 * (y / 256) + y % 256 := by omega
  have := pc_byte (y / 256) (y % 256) (by omega)
  rw [← e] at this; omega
theorem t3_low (y : Nat) : t3 (t2 (t1 (y % 256))) ≤ 8 := t3_le _ (by omega)

/-- One byte off: how S and pc go on together. -/
theorem S_pc (k y : Nat) : ∃ p, p ≤ 8 ∧ S (k + 1) y = p + 256 * S k (y / 256) ∧ pc y = p + pc (y / 256) := ⟨_, t3_low y, S_next k y, pc_next y⟩

/-- EIGHT BYTES: what the three steps leave, and how many bits are set, of one number. -/
theorem S_eight (x : Nat) (hx : x < 18446744073709551616) :
    ∃ p0 p1 p2 p3 p4 p5 p6 p7 r1 r2 r3 r4 r5 r6 : Nat, p0 ≤ 8 ∧ p1 ≤ 8 ∧ p2 ≤ 8 ∧ p3 ≤ 8 ∧ p4 ≤ 8 ∧ p5 ≤ 8 ∧ p6 ≤ 8 ∧ p7 ≤ 8 ∧
      S 8 x = p0 + 256 * r1 ∧ r1 = p1 + 256 * r2 ∧ r2 = p2 + 256 * r3 ∧ r3 = p3 + 256 * r4 ∧ r4 = p4 + 256 * r5 ∧ r5 = p5 + 256 * r6 ∧ r6 = p6 + 256 * p7 ∧ pc x = p0 + p1 + p2 + p3 + p4 + p5 + p6 + p7 := by
  have hz : x / 256 / 256 / 256 / 256 / 256 / 256 / 256 / 256 = 0 := by
    simp only [Nat.div_div_eq_div_mul]
    exact Nat.div_eq_of_lt hx
  obtain ⟨p0, l0, a0, b0⟩ := S_pc 7 x
  obtain ⟨p1, l1, a1, b1⟩ := S_pc 6 (x / 256)
  obtain ⟨p2, l2, a2, b2⟩ := S_pc 5 (x / 256 / 256)
  obtain ⟨p3, l3, a3, b3⟩ := S_pc 4 (x / 256 / 256 / 256)
  obtain ⟨p4, l4, a4, b4⟩ := S_pc 3 (x / 256 / 256 / 256 / 256)
  obtain ⟨p5, l5, a5, b5⟩ := S_pc 2 (x / 256 / 256 / 256 / 256 / 256)
  obtain ⟨p6, l6, a6, b6⟩ := S_pc 1 (x / 256 / 256 / 256 / 256 / 256 / 256)
  obtain ⟨p7, l7, a7, b7⟩ := S_pc 0 (x / 256 / 256 / 256 / 256 / 256 / 256 / 256)
  rw [hz, S_zero, Nat.mul_zero, Nat.add_zero] at a7
  rw [hz, pc_zero, Nat.add_zero] at b7
  rw [a7] at a6
  refine ⟨p0, p1, p2, p3, p4, p5, p6, p7, _, _, _, _, _, _, l0, l1, l2, l3, l4, l5, l6, l7, a0, a1, a2, a3, a4, a5, a6, ?_⟩
  rw [b0, b1, b2, b3, b4, b5, b6, b7]
  simp only [Nat.add_assoc]

/-- The last three sums, and the cut to seven bits. -/
theorem sums (x y1 y2 y3 : Nat) (hx : x < 18446744073709551616) (h1 : y1 = S 8 x + S 8 x / 256) (h2 : y2 = y1 + y1 / 65536) (h3 : y3 = y2 + y2 / 4294967296) :
    y1 < 9223372036854775808 ∧ y2 < 9223372036854775808 ∧ y3 < 9223372036854775808 ∧ y3 % 128 = pc x := by
  obtain ⟨p0, p1, p2, p3, p4, p5, p6, p7, r1, r2, r3, r4, r5, r6, l0, l1, l2, l3, l4, l5, l6, l7, e0, e1, e2, e3, e4, e5, e6, hp⟩ := S_eight x hx
  have d1 : S 8 x / 256 = r1 := by clear h1 h2 h3 e1 e2 e3 e4 e5 e6 hp; omega
  have q1 : y1 = (p0 + p1 + 256 * (p1 + p2)) + 65536 * (r2 + r3) := by rw [d1, e0] at h1; clear h2 h3 e3 e4 e5 e6 hp d1 e0; omega
  have d2 : y1 / 65536 = r2 + r3 := by clear h1 h2 h3 e0 e1 e2 e3 e4 e5 e6 hp d1; omega
  have q2 : y2 = (p0 + p1 + p2 + p3 + 256 * (p1 + p2 + p3 + p4) + 65536 * (p2 + p3 + p4 + p5) + 16777216 * (p3 + p4 + p5 + p6)) + 4294967296 * (r4 + r5 + r6 + p7) := by
    rw [d2, q1] at h2; clear h1 h3 hp d1 d2 q1 e0 e1; omega
  have d3 : y2 / 4294967296 = r4 + r5 + r6 + p7 := by clear h1 h2 h3 e0 e1 e2 e3 e4 e5 e6 hp d1 d2 q1; omega
  have m6 : r6 ≤ 2056 := by clear h1 h2 h3 e0 e1 e2 e3 e4 e5 hp d1 d2 q1 q2 d3; omega
  have m5 : r5 ≤ 526344 := by clear h1 h2 h3 e0 e1 e2 e3 e4 e6 hp d1 d2 q1 q2 d3; omega
  have m4 : r4 ≤ 134744072 := by clear h1 h2 h3 e0 e1 e2 e3 e5 e6 hp d1 d2 q1 q2 d3; omega
  have m3 : r3 ≤ 34494482440 := by clear h1 h2 h3 e0 e1 e2 e4 e5 e6 hp d1 d2 q1 q2 d3; omega
  have m2 : r2 ≤ 8830587504648 := by clear h1 h2 h3 e0 e1 e3 e4 e5 e6 hp d1 d2 q1 q2 d3; omega
  clear h1 h2 e0 d1 d2
  refine ⟨by clear h3 q2 d3 hp e1 e2 e3 e4 e5 e6; omega, by clear h3 q1 d3 hp e1 e2 e3 e4 e5 e6; omega, by clear q1 hp e1 e2 e3 e4 e5 e6; omega, ?_⟩
  rw [hp, h3, d3, q2]
  clear h3 d3 q2 hp q1 e1 e2 e3
  omega

end Go.Proofs.Ytnhllnepnpmegaa
