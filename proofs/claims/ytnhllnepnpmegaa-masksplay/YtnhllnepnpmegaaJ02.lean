/- J02 of the proof of both laws: texts Hq, Math, Oc, one behind the other. -/
import Derived.Test.YtnhllnepnpmegaaJ01
import Derived.Deep.AppendLies
import Derived.Laws.OwnMore
import Derived.Lib.SmallJoins
import Derived.Deep.Draws
import Derived.BigGuard
import Derived.BigCall
import Derived.WalkSmall
import Derived.Laws.MathBits
import Derived.WalkKit
import Derived.ProofKit
import Derived.OpenShut
import Derived.WalkLawsBesides
import Derived.Laws.Bits128
import Derived.Laws.BitsAllLaws
import Derived.Lib.BitFns
/- What calls leave: To; rows of our own; appends whose run is known. -/
namespace Go.Proofs.Ytnhllnepnpmegaa
open Go.ChangeShapes Go.WideShapes Go.ChangeAt Go.RowKit Go.Shelf Go.Proofs.Rx Go.Maps
set_option linter.unusedVariables false
set_option linter.unusedSimpArgs false

theorem below_alloc (w : World) (o : Obj) : Below w.heap.size w (w.alloc o) := (Below.refl _ _).alloc (Nat.le_refl _) _
theorem drewN_below (W : World) (n : Nat) : Below W.heap.size W (W.drewN n) := ⟨rfl, rfl, rfl, Nat.le_refl _, fun _ _ => rfl⟩
theorem kept_drewN (F : Nat → Prop) (W : World) (n : Nat) : Kept F W (W.drewN n) := Kept.of_below (drewN_below W n)
/-- What a call leaves: nothing old has turned but F; what is its own now was, or is new. -/
def To (W W' : World) (F F' : Nat → Prop) : Prop := Kept F W W' ∧ ∀ z, F' z → F z ∨ W.heap.size ≤ z
theorem To.refl (W : World) (F : Nat → Prop) : To W W F F := ⟨Kept.refl _ _, fun _ h => .inl h⟩
theorem To.of_below {W W' : World} (h : Below W.heap.size W W') (F : Nat → Prop) : To W W' F F := ⟨Kept.of_below h, fun _ h => .inl h⟩
theorem To.trans {A B C : World} {F G H : Nat → Prop} (h : To A B F G) (k : To B C G H) : To A C F H :=
  ⟨h.1.trans k.1 (fun x hx g => (h.2 x g).resolve_right (by omega)), fun z hz => by
    rcases k.2 z hz with u | u
    · exact h.2 z u
    · exact .inr (Nat.le_trans h.1.size u)⟩
theorem owns_kept {F : Nat → Prop} {W W' : World} {M e sz n : Nat} {v : Value} {xs : List Value} (h : W.ownsRow M e sz v n xs) (k : Kept F W W') (hF : ∀ g, v.ownBlock = some g → ¬ F g) : W'.ownsRow M e sz v n xs := by
  refine ⟨h.1, ?_⟩
  rcases h.2 with ⟨a, b⟩ | ⟨g, cap, cur, a, b, c, d⟩
  · exact .inl ⟨a, b⟩
  · exact .inr ⟨g, cap, cur, a, b, kept_at k c (hF g (by rw [a]; rfl)), d⟩
theorem own_lt {W : World} {M e n z : Nat} {v : Value} {xs : List Value} (h : W.ownsRow M e 1 v n xs) (hz : v.ownBlock = some z) : z < W.heap.size := (h.lt z hz).2
theorem row_form {W : World} {M e n : Nat} {v : Value} {xs : List Value} (h : W.ownsRow M e 1 v n xs) : ∃ o cap, v = .slice o n cap := by
  rcases h.2 with ⟨a, b⟩ | ⟨g, cap, cur, a, _⟩
  · exact ⟨none, 0, by rw [a, b]⟩
  · exact ⟨_, cap, a⟩
/-- An append whose run is known. -/
theorem wp_append_run {P : Program} {w w' : World} {o : Oper} {a : Act} {K : Act → World → Prop} {Q : Exit → Act → World → Prop} (s x : Operand) (t : TypeId)
    (ho : o.op = .call { callee := .builtin .append, args := #[s, x], argTypes := #[t, t] }) {v u v' : Value} (hs : a.eval s = v) (hx : a.eval x = u) (hr : (Builtin.append_ #[t, t] o.type #[v, u]).run P w = .ok v' w') (h : K (a.put o.dst v') w') : o.wp P a w K Q := by
  unfold Oper.wp execOp
  simp only [ho, resolve, invoke, builtin, Sem.run_bind, Sem.run_pure, Result.andThen_ok, List.map_toArray, List.map_cons, List.map_nil, hs, hx, hr]
  exact h
theorem list_append_run {P : Program} {w w' : World} {ops : Array Oper} {rest : List Oper} {o : Oper} {a : Act} {Q : Exit → Act → World → Prop} (hgd : o.guard = none) (s x : Operand) (t : TypeId)
    (ho : o.op = .call { callee := .builtin .append, args := #[s, x], argTypes := #[t, t] }) {v u v' : Value} (hs : a.eval s = v) (hx : a.eval x = u) (hr : (Builtin.append_ #[t, t] o.type #[v, u]).run P w = .ok v' w') (h : wpList P ops Q rest (a.put o.dst v') w') : wpList P ops Q (o :: rest) a w :=
  wpList_plain hgd fun _ hK => wp_append_run s x t ho hs hx hr (hK _ _ h)
end Go.Proofs.Ytnhllnepnpmegaa

/-
  Plain facts on whole numbers, no Go in sight: the bits of a number counted by masks and sums are its set bits; exactly one is set just if the number is a power of two; a quotient by multiplication is the quotient.
-/
namespace Go.Proofs.Ytnhllnepnpmegaa

/-- How many bits are set. -/
def pc (n : Nat) : Nat := if _h : n = 0 then 0 else n % 2 + pc (n / 2)

/-- A power of two, as halving tells it. -/
def isPow (n : Nat) : Bool := if _h : 1 < n ∧ n % 2 = 0 then isPow (n / 2) else n == 1

theorem pc_zero : pc 0 = 0 := by unfold pc; simp
theorem pc_step (n : Nat) : pc n = n % 2 + pc (n / 2) := by
  by_cases h : n = 0
  · subst h; simp [pc_zero]
  · rw [pc]; simp [h]

theorem pc_pos : ∀ n : Nat, 0 < n → 0 < pc n := by
  intro n
  induction n using Nat.strongRecOn with
  | _ n ih =>
    intro h
    rw [pc_step]
    by_cases h2 : n % 2 = 0
    · have := ih (n / 2) (by omega) (by omega); omega
    · omega

theorem pc_isPow : ∀ n : Nat, (pc n == 1) = isPow n := by
  intro n
  induction n using Nat.strongRecOn with
  | _ n ih =>
    rw [isPow]
    split
    · rename_i h
      rw [← ih (n / 2) (by omega), pc_step, h.2]; simp
    · rename_i h
      by_cases h0 : n = 0
      · subst h0; simp [pc_zero]
      · by_cases h1 : n = 1
        · subst h1; rw [pc_step]; simp [pc_zero]
        · have hp := pc_pos (n / 2) (by omega)
          have hs := pc_step n
          have : n % 2 = 1 := by omega
          have e1 : (pc n == 1) = false := by simp only [beq_eq_false_iff_ne]; omega
          have e2 : (n == 1) = false := by simp only [beq_eq_false_iff_ne]; omega
          rw [e1, e2]

/-! ### The masks, byte by byte -/
theorem and_split (h a hm am : Nat) (ha : a < 256) (ham : am < 256) : (256 * h + a) &&& (256 * hm + am) = 256 * (h &&& hm) + (a &&& am) := by
  apply Nat.eq_of_testBit_eq
  intro j
  have hx : a &&& am < 2 ^ 8 := Nat.lt_of_le_of_lt Nat.and_le_left (by omega)
  rw [Nat.testBit_and]
  have e : (256 : Nat) = 2 ^ 8 := by decide
  rw [e, Nat.testBit_two_pow_mul_add _ (by omega), Nat.testBit_two_pow_mul_add _ (by omega), Nat.testBit_two_pow_mul_add _ hx]
  split <;> simp [Nat.testBit_and]

/-- k bytes, each c. -/
def rep (c : Nat) : Nat → Nat
  | 0 => 0
  | k + 1 => 256 * rep c k + c

/-- What the first three steps make of one byte. -/
def t1 (a : Nat) : Nat := (a / 2 &&& 85) + (a &&& 85)
def t2 (a : Nat) : Nat := (a / 4 &&& 51) + (a &&& 51)
def t3 (a : Nat) : Nat := (a / 16 + a) &&& 15
def s1 (k x : Nat) : Nat := (x / 2 &&& rep 85 k) + (x &&& rep 85 k)
def s2 (k x : Nat) : Nat := (x / 4 &&& rep 51 k) + (x &&& rep 51 k)
def s3 (k x : Nat) : Nat := (x / 16 + x) &&& rep 15 k

theorem mask85 : ∀ (b : Fin 2) (a : Fin 256), (b.val * 128 + a.val / 2) &&& 85 = a.val / 2 &&& 85 := by decide +kernel
theorem mask51 : ∀ (b : Fin 4) (a : Fin 256), (b.val * 64 + a.val / 4) &&& 51 = a.val / 4 &&& 51 := by decide +kernel
theorem t1_lt : ∀ a : Fin 256, t1 a.val < 256 := by decide +kernel
theorem t2_lt : ∀ a : Fin 256, t2 (t1 a.val) ≤ 68 ∧ t2 (t1 a.val) % 16 ≤ 4 := by decide +kernel
/-- The set bits of the lowest f. -/
def pcf : Nat → Nat → Nat
  | 0, _ => 0
  | f + 1, n => n % 2 + pcf f (n / 2)
theorem t3_pc : ∀ a : Fin 256, t3 (t2 (t1 a.val)) = pcf 8 a.val := by decide +kernel
theorem pcf_le : ∀ f n, pcf f n ≤ f := by
  intro f
  induction f with
  | zero => intro n; simp [pcf]
  | succ f ih => intro n; have := ih (n / 2); rw [pcf]; omega
theorem pc_split : ∀ f h a, a < 2 ^ f → pc (2 ^ f * h + a) = pcf f a + pc h := by
  intro f
  induction f with
  | zero => intro h a ha; simp at ha; subst ha; simp [pcf]
  | succ f ih =>
    intro h a ha
    rw [Nat.pow_succ] at ha
    have e : 2 ^ (f + 1) * h + a = 2 * (2 ^ f * h + a / 2) + a % 2 := by
      rw [Nat.pow_succ, Nat.mul_assoc, Nat.mul_left_comm]; omega
    have h1 : (2 * (2 ^ f * h + a / 2) + a % 2) % 2 = a % 2 := by omega
    have h2 : (2 * (2 ^ f * h + a / 2) + a % 2) / 2 = 2 ^ f * h + a / 2 := by omega
    rw [e, pc_step, h1, h2, ih h (a / 2) (by omega), pcf]
    omega

theorem s1_step (k h a : Nat) (ha : a < 256) : s1 (k + 1) (256 * h + a) = 256 * s1 k h + t1 a := by
  have e : (256 * h + a) / 2 = 256 * (h / 2) + (h % 2 * 128 + a / 2) := by omega
  have m := mask85 ⟨h % 2, by omega⟩ ⟨a, ha⟩
  simp only at m
  unfold s1 t1
  rw [rep, e, and_split _ _ _ _ (by omega) (by decide), and_split _ _ _ _ ha (by decide), m]
  omega
theorem s2_step (k h a : Nat) (ha : a < 256) : s2 (k + 1) (256 * h + a) = 256 * s2 k h + t2 a := by
  have e : (256 * h + a) / 4 = 256 * (h / 4) + (h % 4 * 64 + a / 4) := by omega
  have m := mask51 ⟨h % 4, by omega⟩ ⟨a, ha⟩
  simp only at m
  unfold s2 t2
  rw [rep, e, and_split _ _ _ _ (by omega) (by decide), and_split _ _ _ _ ha (by decide), m]
  omega
theorem s3_step (k h a : Nat) (ha : a ≤ 68) (hh : h % 16 ≤ 4) : s3 (k + 1) (256 * h + a) = 256 * s3 k h + t3 a := by
  have e : (256 * h + a) / 16 + (256 * h + a) = 256 * (h / 16 + h) + (h % 16 * 16 + a / 16 + a) := by omega
  have m : (h % 16 * 16 + a / 16 + a) &&& 15 = (a / 16 + a) &&& 15 := by
    rw [Nat.and_two_pow_sub_one_eq_mod _ 4, Nat.and_two_pow_sub_one_eq_mod _ 4]; omega
  unfold s3 t3
  rw [rep, e, and_split _ _ _ _ (by omega) (by decide), m]
theorem s12_small (k y : Nat) : s2 k (s1 k y) % 16 ≤ 4 := by
  cases k with
  | zero => simp [s2, rep]
  | succ k =>
    have e : y = 256 * (y / 256) + y % 256 := by omega
    have hb := t1_lt ⟨y % 256, by omega⟩
    have ht := t2_lt ⟨y % 256, by omega⟩
    simp only at hb ht
    rw [e, s1_step _ _ _ (by omega), s2_step _ _ _ hb]
    omega

/-- The three steps on k bytes. -/
def S (k x : Nat) : Nat := s3 k (s2 k (s1 k x))
theorem S_step (k h a : Nat) (ha : a < 256) : S (k + 1) (256 * h + a) = 256 * S k h + t3 (t2 (t1 a)) := by
  have hb := t1_lt ⟨a, ha⟩
  have ht := t2_lt ⟨a, ha⟩
  simp only at hb ht
  unfold S
  rw [s1_step _ _ _ ha, s2_step _ _ _ hb, s3_step _ _ _ ht.1 (s12_small k h)]
theorem S_zero (x : Nat) : S 0 x = 0 := by simp [S, s3, rep]

theorem pc_byte (h a : Nat) (ha : a < 256) : pc (256 * h + a) = pc h + t3 (t2 (t1 a)) := by
  have ht := t3_pc ⟨a, ha⟩
  simp only at ht
  have := pc_split 8 h a ha
  rw [ht, show 256 * h = 2 ^ 8 * h from rfl, this, Nat.add_comm]
theorem t3_le (a : Nat) (ha : a < 256) : t3 (t2 (t1 a)) ≤ 8 := by
  have ht := t3_pc ⟨a, ha⟩
  simp only at ht
  rw [ht]; exact pcf_le 8 a
theorem S_next (k y : Nat) : S (k + 1) y = t3 (t2 (t1 (y % 256))) + 256 * S k (y / 256) := by
  have e : y = 256 * (y / 256) + y % 256 := by omega
  have := S_step k (y / 256) (y % 256) (by omega)
  rw [← e] at this; omega
theorem pc_next (y : Nat) : pc y = t3 (t2 (t1 (y % 256))) + pc (y / 256) := by
  have e : y = 256 * (y / 256) + y % 256 := by omega
  have := pc_byte (y / 256) (y % 256) (by omega)
  rw [← e] at this; omega
theorem t3_low (y : Nat) : t3 (t2 (t1 (y % 256))) ≤ 8 := t3_le _ (by omega)

/-- One byte off: how S and pc go on together. -/
theorem S_pc (k y : Nat) : ∃ p, p ≤ 8 ∧ S (k + 1) y = p + 256 * S k (y / 256) ∧ pc y = p + pc (y / 256) := ⟨_, t3_low y, S_next k y, pc_next y⟩

/-- EIGHT BYTES: what the three steps leave, and how many bits are set, of one number. -/
theorem S_eight (x : Nat) (hx : x < 18446744073709551616) :
    ∃ p0 p1 p2 p3 p4 p5 p6 p7 r1 r2 r3 r4 r5 r6 : Nat, p0 ≤ 8 ∧ p1 ≤ 8 ∧ p2 ≤ 8 ∧ p3 ≤ 8 ∧ p4 ≤ 8 ∧ p5 ≤ 8 ∧ p6 ≤ 8 ∧ p7 ≤ 8 ∧
      S 8 x = p0 + 256 * r1 ∧ r1 = p1 + 256 * r2 ∧ r2 = p2 + 256 * r3 ∧ r3 = p3 + 256 * r4 ∧ r4 = p4 + 256 * r5 ∧ r5 = p5 + 256 * r6 ∧ r6 = p6 + 256 * p7 ∧ pc x = p0 + p1 + p2 + p3 + p4 + p5 + p6 + p7 := by
  have hz : x / 256 / 256 / 256 / 256 / 256 / 256 / 256 / 256 = 0 := by
    simp only [Nat.div_div_eq_div_mul]
    exact Nat.div_eq_of_lt hx
  obtain ⟨p0, l0, a0, b0⟩ := S_pc 7 x
  obtain ⟨p1, l1, a1, b1⟩ := S_pc 6 (x / 256)
  obtain ⟨p2, l2, a2, b2⟩ := S_pc 5 (x / 256 / 256)
  obtain ⟨p3, l3, a3, b3⟩ := S_pc 4 (x / 256 / 256 / 256)
  obtain ⟨p4, l4, a4, b4⟩ := S_pc 3 (x / 256 / 256 / 256 / 256)
  obtain ⟨p5, l5, a5, b5⟩ := S_pc 2 (x / 256 / 256 / 256 / 256 / 256)
  obtain ⟨p6, l6, a6, b6⟩ := S_pc 1 (x / 256 / 256 / 256 / 256 / 256 / 256)
  obtain ⟨p7, l7, a7, b7⟩ := S_pc 0 (x / 256 / 256 / 256 / 256 / 256 / 256 / 256)
  rw [hz, S_zero, Nat.mul_zero, Nat.add_zero] at a7
  rw [hz, pc_zero, Nat.add_zero] at b7
  rw [a7] at a6
  refine ⟨p0, p1, p2, p3, p4, p5, p6, p7, _, _, _, _, _, _, l0, l1, l2, l3, l4, l5, l6, l7, a0, a1, a2, a3, a4, a5, a6, ?_⟩
  rw [b0, b1, b2, b3, b4, b5, b6, b7]
  simp only [Nat.add_assoc]

/-- The last three sums, and the cut to seven bits. -/
theorem sums (x y1 y2 y3 : Nat) (hx : x < 18446744073709551616) (h1 : y1 = S 8 x + S 8 x / 256) (h2 : y2 = y1 + y1 / 65536) (h3 : y3 = y2 + y2 / 4294967296) :
    y1 < 9223372036854775808 ∧ y2 < 9223372036854775808 ∧ y3 < 9223372036854775808 ∧ y3 % 128 = pc x := by
  obtain ⟨p0, p1, p2, p3, p4, p5, p6, p7, r1, r2, r3, r4, r5, r6, l0, l1, l2, l3, l4, l5, l6, l7, e0, e1, e2, e3, e4, e5, e6, hp⟩ := S_eight x hx
  have d1 : S 8 x / 256 = r1 := by clear h1 h2 h3 e1 e2 e3 e4 e5 e6 hp; omega
  have q1 : y1 = (p0 + p1 + 256 * (p1 + p2)) + 65536 * (r2 + r3) := by rw [d1, e0] at h1; clear h2 h3 e3 e4 e5 e6 hp d1 e0; omega
  have d2 : y1 / 65536 = r2 + r3 := by clear h1 h2 h3 e0 e1 e2 e3 e4 e5 e6 hp d1; omega
  have q2 : y2 = (p0 + p1 + p2 + p3 + 256 * (p1 + p2 + p3 + p4) + 65536 * (p2 + p3 + p4 + p5) + 16777216 * (p3 + p4 + p5 + p6)) + 4294967296 * (r4 + r5 + r6 + p7) := by
    rw [d2, q1] at h2; clear h1 h3 hp d1 d2 q1 e0 e1; omega
  have d3 : y2 / 4294967296 = r4 + r5 + r6 + p7 := by clear h1 h2 h3 e0 e1 e2 e3 e4 e5 e6 hp d1 d2 q1; omega
  have m6 : r6 ≤ 2056 := by clear h1 h2 h3 e0 e1 e2 e3 e4 e5 hp d1 d2 q1 q2 d3; omega
  have m5 : r5 ≤ 526344 := by clear h1 h2 h3 e0 e1 e2 e3 e4 e6 hp d1 d2 q1 q2 d3; omega
  have m4 : r4 ≤ 134744072 := by clear h1 h2 h3 e0 e1 e2 e3 e5 e6 hp d1 d2 q1 q2 d3; omega
  have m3 : r3 ≤ 34494482440 := by clear h1 h2 h3 e0 e1 e2 e4 e5 e6 hp d1 d2 q1 q2 d3; omega
  have m2 : r2 ≤ 8830587504648 := by clear h1 h2 h3 e0 e1 e3 e4 e5 e6 hp d1 d2 q1 q2 d3; omega
  clear h1 h2 e0 d1 d2
  refine ⟨by clear h3 q2 d3 hp e1 e2 e3 e4 e5 e6; omega, by clear h3 q1 d3 hp e1 e2 e3 e4 e5 e6; omega, by clear q1 hp e1 e2 e3 e4 e5 e6; omega, ?_⟩
  rw [hp, h3, d3, q2]
  clear h3 d3 q2 hp q1 e1 e2 e3
  omega

end Go.Proofs.Ytnhllnepnpmegaa

/- math/bits.OnesCount64: its contract. -/
namespace Go.Proofs.Ytnhllnepnpmegaa
open Go.ChangeShapes Go.WideShapes Go.ChangeAt Go.RowKit
set_option linter.unusedSimpArgs false

def f1 (x : Int) : Int := IntKind.u64.wrap (bits .and .u64 (x / 2) 6148914691236517205 + bits .and .u64 x 6148914691236517205)
def f2 (x : Int) : Int := IntKind.u64.wrap (bits .and .u64 (x / 4) 3689348814741910323 + bits .and .u64 x 3689348814741910323)
def f3 (x : Int) : Int := bits .and .u64 (IntKind.u64.wrap (x / 16 + x)) 1085102592571150095
def f4 (x : Int) : Int := IntKind.u64.wrap (x + x / 256)
def f5 (x : Int) : Int := IntKind.u64.wrap (x + x / 65536)
def f6 (x : Int) : Int := IntKind.u64.wrap (x + x / 4294967296)
theorem rep85 : rep 85 8 = 6148914691236517205 := by decide
theorem rep51 : rep 51 8 = 3689348814741910323 := by decide
theorem rep15 : rep 15 8 = 1085102592571150095 := by decide
theorem f1_nat (x : Nat) (hx : x < 18446744073709551616) : f1 (x : Int) = (s1 8 x : Int) ∧ s1 8 x < 18446744073709551616 := by
  have l1 : x / 2 &&& rep 85 8 ≤ rep 85 8 := Nat.and_le_right
  have l2 : x &&& rep 85 8 ≤ rep 85 8 := Nat.and_le_right
  rw [rep85] at l1 l2
  unfold f1 s1
  rw [rep85, show ((x : Int) / 2) = ((x / 2 : Nat) : Int) by omega, show (6148914691236517205 : Int) = ((6148914691236517205 : Nat) : Int) from rfl,
    u64_and_nat _ _ (by omega) (by decide), u64_and_nat _ _ hx (by decide), IntKind.wrap_u64]
  omega
theorem f2_nat (x : Nat) (hx : x < 18446744073709551616) : f2 (x : Int) = (s2 8 x : Int) ∧ s2 8 x ≤ 7378697629483820646 := by
  have l1 : x / 4 &&& rep 51 8 ≤ rep 51 8 := Nat.and_le_right
  have l2 : x &&& rep 51 8 ≤ rep 51 8 := Nat.and_le_right
  rw [rep51] at l1 l2
  unfold f2 s2
  rw [rep51, show ((x : Int) / 4) = ((x / 4 : Nat) : Int) by omega, show (3689348814741910323 : Int) = ((3689348814741910323 : Nat) : Int) from rfl,
    u64_and_nat _ _ (by omega) (by decide), u64_and_nat _ _ hx (by decide), IntKind.wrap_u64]
  omega
theorem f3_nat (x : Nat) (hx : x ≤ 7378697629483820646) : f3 (x : Int) = (s3 8 x : Int) := by
  unfold f3 s3
  rw [rep15, IntKind.wrap_u64, show ((x : Int) / 16 + (x : Int)) % 18446744073709551616 = ((x / 16 + x : Nat) : Int) by omega, show (1085102592571150095 : Int) = ((1085102592571150095 : Nat) : Int) from rfl,
    u64_and_nat _ _ (by omega) (by decide)]
theorem f4_nat (y : Nat) (h : y + y / 256 < 9223372036854775808) : f4 (y : Int) = ((y + y / 256 : Nat) : Int) := by
  unfold f4; rw [IntKind.wrap_u64]; omega
theorem f5_nat (y : Nat) (h : y + y / 65536 < 9223372036854775808) : f5 (y : Int) = ((y + y / 65536 : Nat) : Int) := by
  unfold f5; rw [IntKind.wrap_u64]; omega
theorem f6_nat (y : Nat) (h : y + y / 4294967296 < 9223372036854775808) : f6 (y : Int) = ((y + y / 4294967296 : Nat) : Int) := by
  unfold f6; rw [IntKind.wrap_u64]; omega
theorem cut_nat (y : Nat) : bits .and .i64 (wrap64 (y : Int)) 127 = ((y % 128 : Nat) : Int) := by
  rw [i64_and127]; unfold wrap64; omega
theorem S_eq (x : Nat) : s3 8 (s2 8 (s1 8 x)) = S 8 x := by unfold S; rfl
theorem ones_sum (y y1 y2 y3 p : Nat) (h1 : y1 = y + y / 256) (h2 : y2 = y1 + y1 / 65536) (h3 : y3 = y2 + y2 / 4294967296) (b1 : y1 < 9223372036854775808) (b2 : y2 < 9223372036854775808) (b3 : y3 < 9223372036854775808) (hp : y3 % 128 = p) :
    bits .and .i64 (wrap64 (f6 (f5 (f4 (y : Int))))) 127 = (p : Int) := by
  subst h1 h2 h3
  rw [f4_nat _ b1, f5_nat _ b2, f6_nat _ b3, cut_nat _, hp]
theorem ones_arith (x : Nat) (hx : x < 18446744073709551616) : bits .and .i64 (wrap64 (f6 (f5 (f4 (f3 (f2 (f1 (x : Int)))))))) 127 = (pc x : Int) := by
  obtain ⟨e1, b1⟩ := f1_nat x hx
  obtain ⟨e2, b2⟩ := f2_nat (s1 8 x) b1
  have e3 := f3_nat (s2 8 (s1 8 x)) b2
  rw [e1, e2, e3, S_eq]
  obtain ⟨y1, hy1⟩ : ∃ y, y = S 8 x + S 8 x / 256 := ⟨_, rfl⟩
  obtain ⟨y2, hy2⟩ : ∃ y, y = y1 + y1 / 65536 := ⟨_, rfl⟩
  obtain ⟨y3, hy3⟩ : ∃ y, y = y2 + y2 / 4294967296 := ⟨_, rfl⟩
  obtain ⟨c1, c2, c3, c4⟩ := sums x y1 y2 y3 hx hy1 hy2 hy3
  exact ones_sum _ y1 y2 y3 _ hy1 hy2 hy3 c1 c2 c3 c4
theorem ones_any (x : Nat) (hx : x < 18446744073709551616) (w : World) :
    Calls Try.prog 73 #[.int .u64 x] w fun e w' => e = .returned (.int .i64 (pc x)) ∧ w' = w := by
  rw [← ones_arith x hx]
  have hid : Hid (x < 18446744073709551616) := hx
  clear hx
  go_enter Try.func73, Try.ntmps73
  go_wp2
  go_ret
  exact ⟨rfl, rfl⟩
