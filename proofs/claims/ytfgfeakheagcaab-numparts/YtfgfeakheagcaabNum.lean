/-
  What each function of package num, answers: contracts over whole numbers, for every input; the world is as it was.
-/
import Derived.Test.YtfgfeakheagcaabRows
import Derived.Test.YtfgfeakheagcaabShelf
import Derived.WalkKit
import Derived.ProofKit
import Derived.OpenShut
import Derived.WalkLawsBesides
import Derived.Lib.BitFns
import Derived.Laws.MathBits
import Derived.Laws.BitsAllLaws
namespace Go.Proofs.Ytfgfeakheagcaab
open Go.ChangeShapes Go.WideShapes Go.ChangeAt Go.RowKit

def upOk (n a : Int) : Bool := decide (a ≠ 0) && (decide (n % a = 0) || decide (n - n % a + a ≤ 18446744073709551615))
def upV (n a : Int) : Int := if upOk n a then (if n % a = 0 then n else n - n % a + a) else 0
def downV (n a : Int) : Int := if a = 0 then 0 else n - n % a
def ceilV (n a : Int) : Int := if a = 0 then 0 else if n % a = 0 then n / a else n / a + 1


theorem mod_facts (n a : Int) (hn : 0 ≤ n) (ha : 0 ≤ a) (h0 : ¬ a = 0) : n.tmod a = n % a ∧ n.tdiv a = n / a ∧ 0 ≤ n % a ∧ n % a < a ∧ n % a ≤ n ∧ 0 ≤ n / a ∧ n / a ≤ n := by
  have hpos : 0 < a := by omega
  refine ⟨Int.tmod_eq_emod_of_nonneg hn, Int.tdiv_eq_ediv_of_nonneg hn, Int.emod_nonneg _ h0, Int.emod_lt_of_pos _ hpos, ?_, Int.ediv_nonneg hn ha, Int.ediv_le_self _ hn⟩
  have h1 := Int.mul_ediv_add_emod n a
  have h2 : 0 ≤ a * (n / a) := Int.mul_nonneg ha (Int.ediv_nonneg hn ha)
  omega

def magicV (d : Int) : Int := if d < 2 then 0 else 4294967295 / d + 1
def quotV (x m : Int) : Int := x * m / 4294967296

theorem magic_fits (d : Int) (hd : 2 ≤ d) : 0 ≤ 4294967295 / d ∧ 4294967295 / d ≤ 2147483647 := by
  refine ⟨Int.ediv_nonneg (by decide) (by omega), ?_⟩
  have h2 := Int.mul_ediv_add_emod 4294967295 d
  have h3 : 0 ≤ 4294967295 / d := Int.ediv_nonneg (by decide) (by omega)
  have h4 : 2 * (4294967295 / d) ≤ d * (4294967295 / d) := Int.mul_le_mul_of_nonneg_right hd h3
  have h5 := Int.emod_nonneg 4294967295 (show d ≠ 0 by omega)
  omega

theorem ceil_fits (n a : Int) (hn : 0 ≤ n ∧ n ≤ 18446744073709551615) (ha : 0 ≤ a ∧ a ≤ 18446744073709551615) (hm : ¬ n % a = 0) (h0 : ¬ a = 0) : n / a + 1 ≤ 18446744073709551615 := by
  have h1 : a ≠ 1 := by intro h; subst h; simp at hm
  have h2 := Int.mul_ediv_add_emod n a
  have h3 : 0 ≤ n / a := Int.ediv_nonneg hn.1 ha.1
  have h4 : 2 * (n / a) ≤ a * (n / a) := Int.mul_le_mul_of_nonneg_right (by omega) h3
  have h5 := Int.emod_nonneg n h0
  omega

theorem up_any (n a : Int) (hn : 0 ≤ n ∧ n ≤ 18446744073709551615) (ha : 0 ≤ a ∧ a ≤ 18446744073709551615) (w : World) :
    Calls Try.prog 6 #[.int .u64 n, .int .u64 a] w fun e w' => e = .returned (.tuple #[.int .u64 (upV n a), .bool (upOk n a)]) ∧ w' = w := by
  by_cases h0 : a = 0
  · subst h0
    go_enter Try.func6, Try.ntmps6
    go_wp2
    go_ret2
    exact ⟨rfl, rfl⟩
  · obtain ⟨e1, e2, f1, f2, f3, f4, f5⟩ := mod_facts n a hn.1 ha.1 h0
    have z : (a == 0) = false := by simpa using h0
    clear e1 e2 f4 f5
    by_cases hm : n % a = 0
    · have eV : upV n a = n := by simp [upV, upOk, h0, hm]
      have eO : upOk n a = true := by simp [upOk, h0, hm]
      rw [eV, eO]
      have t : (n % a == 0) = true := by simpa using hm
      clear eV eO hm f1 f2 f3
      go_enter Try.func6, Try.ntmps6
      go_wp2
      go_ret2
      exact ⟨rfl, rfl⟩
    · have t : (n % a == 0) = false := by simpa using hm
      by_cases hl : n - n % a + a ≤ 18446744073709551615
      · have eV : upV n a = n - n % a + a := by simp [upV, upOk, h0, hm, hl]
        have eO : upOk n a = true := by simp [upOk, h0, hm, hl]
        have eS : n - n % a + a = n + (a - n % a) := by omega
        rw [eV, eO, eS]
        clear eV eO hm eS
        go_enter Try.func6, Try.ntmps6
        go_wp2
        go_ret2
        exact ⟨rfl, rfl⟩
      · have eO : upOk n a = false := by simp [upOk, h0, hm]; omega
        have eV : upV n a = 0 := by simp [upV, eO]
        rw [eV, eO]
        clear eV eO hm
        go_enter Try.func6, Try.ntmps6
        go_wp2
        go_ret2
        exact ⟨rfl, rfl⟩
theorem down_any (n a : Int) (hn : 0 ≤ n ∧ n ≤ 18446744073709551615) (ha : 0 ≤ a ∧ a ≤ 18446744073709551615) (w : World) :
    Calls Try.prog 5 #[.int .u64 n, .int .u64 a] w fun e w' => e = .returned (.tuple #[.int .u64 (downV n a), .bool (decide (a ≠ 0))]) ∧ w' = w := by
  by_cases h0 : a = 0
  · subst h0
    go_enter Try.func5, Try.ntmps5
    go_wp2
    go_ret2
    exact ⟨rfl, rfl⟩
  · obtain ⟨e1, e2, f1, f2, f3, f4, f5⟩ := mod_facts n a hn.1 ha.1 h0
    have z : (a == 0) = false := by simpa using h0
    have eV : downV n a = n - n % a := by simp [downV, h0]
    have eO : decide (a ≠ 0) = true := by simpa using h0
    rw [eV, eO]
    clear e1 e2 f4 f5 eV eO
    go_enter Try.func5, Try.ntmps5
    go_wp2
    go_ret2
    exact ⟨rfl, rfl⟩
theorem ceil_any (n a : Int) (hn : 0 ≤ n ∧ n ≤ 18446744073709551615) (ha : 0 ≤ a ∧ a ≤ 18446744073709551615) (w : World) :
    Calls Try.prog 8 #[.int .u64 n, .int .u64 a] w fun e w' => e = .returned (.tuple #[.int .u64 (ceilV n a), .bool (decide (a ≠ 0))]) ∧ w' = w := by
  by_cases h0 : a = 0
  · subst h0
    go_enter Try.func8, Try.ntmps8
    go_wp2
    go_ret2
    exact ⟨rfl, rfl⟩
  · obtain ⟨e1, e2, f1, f2, f3, f4, f5⟩ := mod_facts n a hn.1 ha.1 h0
    have z : (a == 0) = false := by simpa using h0
    have eO : decide (a ≠ 0) = true := by simpa using h0
    rw [eO]
    clear e1 e2 eO
    by_cases hm : n % a = 0
    · have eV : ceilV n a = n / a := by simp [ceilV, h0, hm]
      rw [eV]
      have t : (n % a == 0) = true := by simpa using hm
      clear eV hm
      go_enter Try.func8, Try.ntmps8
      go_wp2
      go_ret2
      exact ⟨rfl, rfl⟩
    · have eV : ceilV n a = n / a + 1 := by simp [ceilV, h0, hm]
      have small : n / a + 1 ≤ 18446744073709551615 := ceil_fits n a hn ha hm h0
      rw [eV]
      have t : (n % a == 0) = false := by simpa using hm
      clear eV hm
      go_enter Try.func8, Try.ntmps8
      go_wp2
      go_ret2
      exact ⟨rfl, rfl⟩
theorem magic_any (d : Int) (hd : 0 ≤ d ∧ d ≤ 4294967295) (w : World) :
    Calls Try.prog 10 #[.int .u32 d] w fun e w' => e = .returned (.int .u32 (magicV d)) ∧ w' = w := by
  by_cases h0 : d < 2
  · have eV : magicV d = 0 := by simp [magicV, h0]
    rw [eV]
    clear eV
    go_enter Try.func10, Try.ntmps10
    go_wp2
    go_ret
    exact ⟨rfl, rfl⟩
  · have eV : magicV d = 4294967295 / d + 1 := by simp [magicV, h0]
    have z : (d == 0) = false := by simp; omega
    obtain ⟨f1, f2⟩ := magic_fits d (by omega)
    rw [eV]
    clear eV
    go_enter Try.func10, Try.ntmps10
    go_wp2
    go_ret
    exact ⟨rfl, rfl⟩
theorem quot_any (x m : Int) (hx : 0 ≤ x ∧ x ≤ 4294967295) (hm : 0 ≤ m ∧ m ≤ 4294967295) (w : World) :
    Calls Try.prog 9 #[.int .u32 x, .int .u32 m] w fun e w' => e = .returned (.int .u32 (quotV x m)) ∧ w' = w := by
  have hp := prod_bound x m hx.1 hx.2 hm.1 hm.2
  unfold quotV
  go_enter Try.func9, Try.ntmps9
  go_wp2
  go_ret
  exact ⟨rfl, rfl⟩
theorem log_any (x : Nat) (hx : x < 18446744073709551616) (w : World) :
    Calls Try.prog 11 #[.int .u64 x] w fun e w' => e = .returned (.int .i64 ((Lib.bitLen x : Int) - 1)) ∧ w' = w := by
  have b := Lib.bitLen_le x 64 (by decide) hx
  have c0 := fun w => Try.bits_Len64 (x : Int) w (by omega) (by omega)
  rw [Int.toNat_natCast] at c0
  generalize Lib.bitLen x = p at *
  go_enter Try.func11, Try.ntmps11
  go_wp2_with (go_at_call 12; refine (c0 _).mono ?_; rintro e w' ⟨rfl, rfl⟩)
  go_ret
  exact ⟨rfl, rfl⟩

theorem awake_any (w : World) : Calls Try.prog 7 #[] w fun e w' => e = .returned (.bool true) ∧ w' = w := by
  have c1 : ∀ w : World, Calls Try.prog 6 #[.int .u64 5, .int .u64 4] w fun e w' => e = .returned (.tuple #[.int .u64 8, .bool true]) ∧ w' = w := fun w => up_any 5 4 (by decide) (by decide) w
  have c2 : ∀ w : World, Calls Try.prog 10 #[.int .u32 48] w fun e w' => e = .returned (.int .u32 89478486) ∧ w' = w := fun w => magic_any 48 (by decide) w
  have c3 : ∀ w : World, Calls Try.prog 9 #[.int .u32 100, .int .u32 89478486] w fun e w' => e = .returned (.int .u32 2) ∧ w' = w := fun w => quot_any 100 89478486 (by decide) (by decide) w
  have c4 : ∀ w : World, Calls Try.prog 11 #[.int .u64 9] w fun e w' => e = .returned (.int .i64 3) ∧ w' = w := fun w => log_any 9 (by decide) w
  go_enter Try.func7, Try.ntmps7
  go_wp2_with (first
    | (go_at_call 6; refine (c1 _).mono ?_; rintro e w' ⟨rfl, rfl⟩)
    | (go_at_call 10; refine (c2 _).mono ?_; rintro e w' ⟨rfl, rfl⟩)
    | (go_at_call 9; refine (c3 _).mono ?_; rintro e w' ⟨rfl, rfl⟩)
    | (go_at_call 11; refine (c4 _).mono ?_; rintro e w' ⟨rfl, rfl⟩))
  go_ret
  exact ⟨rfl, rfl⟩


end Go.Proofs.Ytfgfeakheagcaab
