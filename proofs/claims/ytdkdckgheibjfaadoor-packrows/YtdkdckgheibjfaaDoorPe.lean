/- Pack, Unpack. -/
import Derived.Test.YtdkdckgheibjfaaDoorPc
import Derived.Lib.BitFns
import Derived.Laws.Bits64b
import Derived.Laws.BitsAllLaws
import Derived.Laws.Bits128
namespace Go.Proofs.YtdkdckgheibjfaaDoor
open Go.ChangeShapes Go.WideShapes Go.ChangeAt Go.RowKit Go.Proofs.Pk Go.Maps
set_option linter.unusedVariables false
set_option linter.unusedSimpArgs false

theorem or_at (k : Nat) (a b : Int) (ha : 0 ≤ a) (hb : 0 ≤ b) (h : a < ((2 ^ k : Nat) : Int)) (h2 : a + b * ((2 ^ k : Nat) : Int) < 18446744073709551616) : bits .or .u64 a (b * ((2 ^ k : Nat) : Int)) = a + b * ((2 ^ k : Nat) : Int) := by
  obtain ⟨x, rfl⟩ := Int.eq_ofNat_of_zero_le ha
  obtain ⟨y, rfl⟩ := Int.eq_ofNat_of_zero_le hb
  have e : ((y : Int) * ((2 ^ k : Nat) : Int)) = ((y * 2 ^ k : Nat) : Int) := by rw [Int.natCast_mul]
  rw [e] at h2 ⊢
  rw [bits_or_u64_nat x (y * 2 ^ k) (by omega) (by omega)]
  have := Nat.two_pow_add_eq_or_of_lt (i := k) (b := x) (by omega) y
  rw [Nat.or_comm, Nat.mul_comm y, ← this]
  rw [Int.natCast_add]; omega
theorem or21 (a b : Int) (ha : 0 ≤ a) (hb : 0 ≤ b) (h : a < 2097152) (h2 : b < 2097152) : bits .or .u64 a (b * 2097152) = a + b * 2097152 := or_at 21 a b ha hb h (by show a + b * 2097152 < _; omega)
theorem or42 (a b : Int) (ha : 0 ≤ a) (hb : 0 ≤ b) (h : a < 4398046511104) (h2 : b < 2097152) : bits .or .u64 a (b * 4398046511104) = a + b * 4398046511104 := or_at 42 a b ha hb h (by show a + b * 4398046511104 < _; omega)
theorem and21 (x : Int) (h : 0 ≤ x) (h2 : x < 18446744073709551616) : bits .and .u64 x 2097151 = x % 2097152 := by
  obtain ⟨y, rfl⟩ := Int.eq_ofNat_of_zero_le h
  have := bits_and_u64_nat y 2097151 (by omega) (by omega)
  rw [show ((2097151 : Nat) : Int) = 2097151 from rfl] at this
  rw [this, show (2097151 : Nat) = 2 ^ 21 - 1 by decide, Nat.and_two_pow_sub_one_eq_mod]
  omega
theorem and63_low (x : Int) (h : 0 ≤ x) (h2 : x < 9223372036854775808) : bits .and .u64 x 9223372036854775808 = 0 := by
  obtain ⟨y, rfl⟩ := Int.eq_ofNat_of_zero_le h
  have := bits_and_u64_nat y 9223372036854775808 (by omega) (by omega)
  rw [show ((9223372036854775808 : Nat) : Int) = 9223372036854775808 from rfl] at this
  rw [this]
  have : y &&& 9223372036854775808 = 0 := by
    apply Nat.eq_of_testBit_eq
    intro i
    rw [Nat.testBit_and, show (9223372036854775808 : Nat) = 2 ^ 63 by decide, Nat.testBit_two_pow, Nat.zero_testBit]
    by_cases e : 63 = i
    · subst e
      rw [Nat.testBit_lt_two_pow (show y < 2 ^ 63 by omega)]; rfl
    · rw [decide_eq_false e, Bool.and_false]
  rw [this]; rfl
theorem and63_high (x : Int) (h : 9223372036854775808 ≤ x) (h2 : x < 18446744073709551616) : bits .and .u64 x 9223372036854775808 = 9223372036854775808 := by
  obtain ⟨y, rfl⟩ := Int.eq_ofNat_of_zero_le (show 0 ≤ x by omega)
  have := bits_and_u64_nat y 9223372036854775808 (by omega) (by omega)
  rw [show ((9223372036854775808 : Nat) : Int) = 9223372036854775808 from rfl] at this
  rw [this]
  have hb : y.testBit 63 = true := by
    rw [Nat.testBit_eq_decide_div_mod_eq, show (2 : Nat) ^ 63 = 9223372036854775808 by decide]
    exact decide_eq_true (by omega)
  have : y &&& 9223372036854775808 = 9223372036854775808 := by
    apply Nat.eq_of_testBit_eq
    intro i
    rw [Nat.testBit_and, show (9223372036854775808 : Nat) = 2 ^ 63 by decide, Nat.testBit_two_pow]
    by_cases e : 63 = i
    · subst e
      rw [hb]; rfl
    · rw [decide_eq_false e, Bool.and_false]
  rw [this]; rfl

/-- What Pack answers. -/
inductive PackV (a : Sm) : Int → Int → Prop
  | no (h : ¬ Bnd a 2097152) : PackV a 0 1
  | full (h : Bnd a 2097152) (hm : a.m = 2097152) : PackV a 9223372036854775808 0
  | low (h : Bnd a 2097152) (hm : a.m < 2097152) : PackV a (a.s + a.m * 2097152 + a.e * 4398046511104) 0
theorem PackV.some (a : Sm) : ∃ v e, PackV a v e := by
  by_cases h : Bnd a 2097152
  · by_cases hm : a.m = 2097152
    · exact ⟨_, _, .full h hm⟩
    · exact ⟨_, _, .low h (by have := h.2.2.2.2.1; omega)⟩
  · exact ⟨_, _, .no h⟩
/-- The three parts of a word. -/
def parts (x : Int) : Sm := ⟨x % 2097152, x / 2097152 % 2097152, x / 4398046511104⟩
/-- What Unpack answers. -/
inductive UnV (x : Int) : Sm → Int → Prop
  | full (h : x = 9223372036854775808) : UnV x ⟨2097152, 2097152, 2097152⟩ 0
  | high (h : 9223372036854775808 < x) : UnV x ⟨0, 0, 0⟩ 1
  | bad (h : x < 9223372036854775808) (hn : ¬ Bnd (parts x) 2097152) : UnV x ⟨0, 0, 0⟩ 1
  | low (h : x < 9223372036854775808) (hb : Bnd (parts x) 2097152) : UnV x (parts x) 0
theorem UnV.some (x : Int) : ∃ a e, UnV x a e := by
  rcases Int.lt_trichotomy x 9223372036854775808 with h | h | h
  · by_cases hb : Bnd (parts x) 2097152
    · exact ⟨_, _, .low h hb⟩
    · exact ⟨_, _, .bad h hb⟩
  · exact ⟨_, _, .full h⟩
  · exact ⟨_, _, .high h⟩
theorem pack_any (a : Sm) (v e : Int) (h : PackV a v e) (w : World) : Calls Tryd.prog 12 #[sumV a] w fun r w' => r = .returned (.tuple #[.int .u64 v, .int .i64 e]) ∧ Below w.heap.size w w' := by
  obtain ⟨s, m, y⟩ := a
  cases h with
  | no h =>
    have CB := fun w => hide (bounded_no ⟨s, m, y⟩ 2097152 h w)
    unfold sumV at CB ⊢
    dsimp only at CB ⊢
    clear h
    go_enter Tryd.func12, Tryd.ntmps12
    go_wp2_with fail
    refine (CB _).out.mono ?_
    rintro e w' ⟨rfl, hb⟩
    obtain ⟨B, x0, x1, x2⟩ := box_cells hb
    have HB := hide B
    clear hb B CB
    go_wp2_with fail
    refine bodyPost_ret (results_tmp2 Tryd.results12 _ _ _) rfl ⟨rfl, HB.out⟩
  | full h hm =>
    have CB := fun w => hide (bounded_yes ⟨s, m, y⟩ 2097152 h w)
    have d : (m == 2097152) = true := beq_iff_eq.2 hm
    unfold sumV at CB ⊢
    dsimp only at CB ⊢
    clear h hm
    go_enter Tryd.func12, Tryd.ntmps12
    go_wp2_with fail
    refine (CB _).out.mono ?_
    rintro e w' ⟨rfl, hb⟩
    obtain ⟨B, x0, x1, x2⟩ := box_cells hb
    have HB := hide B
    clear hb B CB
    go_wp2_with fail
    refine bodyPost_ret (results_tmp2 Tryd.results12 _ _ _) rfl ⟨rfl, HB.out⟩
  | low h hm =>
    have CB := fun w => hide (bounded_yes ⟨s, m, y⟩ 2097152 h w)
    obtain ⟨h1, h2, h3, h4, h5, h6⟩ := h
    dsimp only at h1 h2 h3 h4 h5 h6 hm
    have b1 : s < 2097152 := by omega
    have b2 : y < 2097152 := by omega
    have b3 : 0 ≤ m := by omega
    have d : (m == 2097152) = false := beq_eq_false_iff_ne.2 (by omega)
    have o1 := or21 s m h1 b3 b1 hm
    have o2 := or42 (s + m * 2097152) y (by omega) h2 (by omega) b2
    unfold sumV at CB ⊢
    dsimp only at CB ⊢
    clear h5 h6
    go_enter Tryd.func12, Tryd.ntmps12
    go_wp2_with fail
    refine (CB _).out.mono ?_
    rintro e w' ⟨rfl, hb⟩
    obtain ⟨B, x0, x1, x2⟩ := box_cells hb
    have HB := hide B
    have O1 := hide o1
    have O2 := hide o2
    clear hb B CB o1 o2
    go_wp2_with fail
    rw [O1.out, O2.out]
    refine bodyPost_ret (results_tmp2 Tryd.results12 _ _ _) rfl ⟨rfl, HB.out⟩
theorem wrap64_small (x : Int) (h : 0 ≤ x) (h2 : x < 9223372036854775808) : wrap64 x = x := by
  unfold wrap64; omega
theorem ret_ce {fn : Func} {p u : Tmp} (hf : fn.results = #[.cell p 28, .tmp u]) {N Q : Nat} {w W : World} {x y z e : Int} {tmps : Array Value} (hp : tmps.getD p undef = .pointer (some ⟨Q, 0, none⟩)) (hu : tmps.getD u undef = .int .i64 e) (h : Bx N Q w W x y z) :
    (results fn tmps).run Tryd.prog W = .ok (.tuple #[sumV ⟨x, y, z⟩, .int .i64 e]) W := by
  have e0 := h.c0
  have e1 := h.c1
  have e2 := h.c2
  have hp' : tmps[p]?.getD undef = .pointer (some ⟨Q, 0, none⟩) := by simpa using hp
  have hu' : tmps[u]?.getD undef = .int .i64 e := by simpa using hu
  simp [results, hf, hp', hu', go_sem, sumV, Nat.add_assoc, e0, e1, e2, Result.andThen]
end Go.Proofs.YtdkdckgheibjfaaDoor
