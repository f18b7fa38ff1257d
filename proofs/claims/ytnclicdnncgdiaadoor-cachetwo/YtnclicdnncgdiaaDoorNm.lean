/- Plain values, small functions of package bits and of math/bits: contracts; the world is as it was. -/
import Derived.Test.YtnclicdnncgdiaaDoorMath
import Derived.Test.YtnclicdnncgdiaaDoorBu
import Derived.Test.YtnclicdnncgdiaaDoorXa
import Derived.Test.YtnclicdnncgdiaaDoorRows
import Derived.WalkKit
import Derived.ProofKit
import Derived.OpenShut
import Derived.Carry
import Derived.ChangeSlices
import Derived.Lib.BitFns
import Derived.Laws.Bits64b
import Derived.Laws.BitsAllLaws
import Derived.WalkLawsBesides
import Derived.Shelf.Abstract
import Derived.Deep.QuietTactic
import Derived.BigQuiet
import Derived.Outline
import Derived.Laws.Bits128
namespace Go.Proofs.YtnclicdnncgdiaaDoor
open Go.ChangeShapes Go.WideShapes Go.ChangeAt Go.RowKit Go.Proofs.Bt
set_option linter.unusedVariables false
set_option linter.unusedSimpArgs false

theorem hide {p : Prop} (h : p) : Hid p := h

/-! ### OnesCount64 -/
def f1 (x : Int) : Int := IntKind.u64.wrap (bits .and .u64 (x / 2) 6148914691236517205 + bits .and .u64 x 6148914691236517205)
def f2 (x : Int) : Int := IntKind.u64.wrap (bits .and .u64 (x / 4) 3689348814741910323 + bits .and .u64 x 3689348814741910323)
def f3 (x : Int) : Int := bits .and .u64 (IntKind.u64.wrap (x / 16 + x)) 1085102592571150095
def f4 (x : Int) : Int := IntKind.u64.wrap (x + x / 256)
def f5 (x : Int) : Int := IntKind.u64.wrap (x + x / 65536)
def f6 (x : Int) : Int := IntKind.u64.wrap (x + x / 4294967296)
theorem rep85 : rep 85 8 = 6148914691236517205 := by decide
theorem rep51 : rep 51 8 = 3689348814741910323 := by decide
theorem rep15 : rep 15 8 = 1085102592571150095 := by decide
theorem f1_nat (x : Nat) (hx : x < 18446744073709551616) : f1 (x : Int) = (s1 8 x : Int) ∧ s1 8 x < 18446744073709551616 := by
  have l1 : x / 2 &&& rep 85 8 ≤ rep 85 8 := Nat.and_le_right
  have l2 : x &&& rep 85 8 ≤ rep 85 8 := Nat.and_le_right
  rw [rep85] at l1 l2
  unfold f1 s1
  rw [rep85, show ((x : Int) / 2) = ((x / 2 : Nat) : Int) by omega, show (6148914691236517205 : Int) = ((6148914691236517205 : Nat) : Int) from rfl,
    u64_and_nat _ _ (by omega) (by decide), u64_and_nat _ _ hx (by decide), IntKind.wrap_u64]
  omega
theorem f2_nat (x : Nat) (hx : x < 18446744073709551616) : f2 (x : Int) = (s2 8 x : Int) ∧ s2 8 x ≤ 7378697629483820646 := by
  have l1 : x / 4 &&& rep 51 8 ≤ rep 51 8 := Nat.and_le_right
  have l2 : x &&& rep 51 8 ≤ rep 51 8 := Nat.and_le_right
  rw [rep51] at l1 l2
  unfold f2 s2
  rw [rep51, show ((x : Int) / 4) = ((x / 4 : Nat) : Int) by omega, show (3689348814741910323 : Int) = ((3689348814741910323 : Nat) : Int) from rfl,
    u64_and_nat _ _ (by omega) (by decide), u64_and_nat _ _ hx (by decide), IntKind.wrap_u64]
  omega
theorem f3_nat (x : Nat) (hx : x ≤ 7378697629483820646) : f3 (x : Int) = (s3 8 x : Int) := by
  unfold f3 s3
  rw [rep15, IntKind.wrap_u64, show ((x : Int) / 16 + (x : Int)) % 18446744073709551616 = ((x / 16 + x : Nat) : Int) by omega, show (1085102592571150095 : Int) = ((1085102592571150095 : Nat) : Int) from rfl,
    u64_and_nat _ _ (by omega) (by decide)]
theorem f4_nat (y : Nat) (h : y + y / 256 < 9223372036854775808) : f4 (y : Int) = ((y + y / 256 : Nat) : Int) := by
  unfold f4; rw [IntKind.wrap_u64]; omega
theorem f5_nat (y : Nat) (h : y + y / 65536 < 9223372036854775808) : f5 (y : Int) = ((y + y / 65536 : Nat) : Int) := by
  unfold f5; rw [IntKind.wrap_u64]; omega
theorem f6_nat (y : Nat) (h : y + y / 4294967296 < 9223372036854775808) : f6 (y : Int) = ((y + y / 4294967296 : Nat) : Int) := by
  unfold f6; rw [IntKind.wrap_u64]; omega
theorem cut_nat (y : Nat) : bits .and .i64 (wrap64 (y : Int)) 127 = ((y % 128 : Nat) : Int) := by
  rw [i64_and127]; unfold wrap64; omega
theorem S_eq (x : Nat) : s3 8 (s2 8 (s1 8 x)) = S 8 x := by unfold S; rfl
theorem ones_sum (y y1 y2 y3 p : Nat) (h1 : y1 = y + y / 256) (h2 : y2 = y1 + y1 / 65536) (h3 : y3 = y2 + y2 / 4294967296) (b1 : y1 < 9223372036854775808) (b2 : y2 < 9223372036854775808) (b3 : y3 < 9223372036854775808) (hp : y3 % 128 = p) :
    bits .and .i64 (wrap64 (f6 (f5 (f4 (y : Int))))) 127 = (p : Int) := by
  subst h1 h2 h3
  rw [f4_nat _ b1, f5_nat _ b2, f6_nat _ b3, cut_nat _, hp]
theorem ones_arith (x : Nat) (hx : x < 18446744073709551616) : bits .and .i64 (wrap64 (f6 (f5 (f4 (f3 (f2 (f1 (x : Int)))))))) 127 = (pc x : Int) := by
  obtain ⟨e1, b1⟩ := f1_nat x hx
  obtain ⟨e2, b2⟩ := f2_nat (s1 8 x) b1
  have e3 := f3_nat (s2 8 (s1 8 x)) b2
  rw [e1, e2, e3, S_eq]
  obtain ⟨y1, hy1⟩ : ∃ y, y = S 8 x + S 8 x / 256 := ⟨_, rfl⟩
  obtain ⟨y2, hy2⟩ : ∃ y, y = y1 + y1 / 65536 := ⟨_, rfl⟩
  obtain ⟨y3, hy3⟩ : ∃ y, y = y2 + y2 / 4294967296 := ⟨_, rfl⟩
  obtain ⟨c1, c2, c3, c4⟩ := sums x y1 y2 y3 hx hy1 hy2 hy3
  exact ones_sum _ y1 y2 y3 _ hy1 hy2 hy3 c1 c2 c3 c4
theorem ones_any (x : Nat) (hx : x < 18446744073709551616) (w : World) :
    Calls Tryd.prog 34 #[.int .u64 x] w fun e w' => e = .returned (.int .i64 (pc x)) ∧ w' = w := by
  rw [← ones_arith x hx]
  have hid : Hid (x < 18446744073709551616) := hx
  clear hx
  go_enter Tryd.func34, Tryd.ntmps34
  go_wp2
  go_ret
  exact ⟨rfl, rfl⟩

/-! ### The words' operations -/
theorem andn_inv (a b : Nat) (ha : a < 18446744073709551616) (hb : b < 18446744073709551616) : a &&& (18446744073709551615 - b) = andn a b := by
  refine eq_of_bits (and_lt _ ha) (andn_lt _ ha) fun k hk => ?_
  have := inv_bit hb hk
  unfold inv at this
  rw [Nat.testBit_and, andn_bit, this]
theorem w_andNot (a b : Nat) (ha : a < 18446744073709551616) (hb : b < 18446744073709551616) : bits .andNot .u64 (a : Int) (b : Int) = ((andn a b : Nat) : Int) := by
  rw [u64_andNot_nat a b ha hb, andn_inv a b ha hb]
theorem w_or (a b : Nat) (ha : a < 18446744073709551616) (hb : b < 18446744073709551616) : bits .or .u64 (a : Int) (b : Int) = ((a ||| b : Nat) : Int) := bits_or_u64_nat a b ha hb
theorem w_and (a b : Nat) (ha : a < 18446744073709551616) (hb : b < 18446744073709551616) : bits .and .u64 (a : Int) (b : Int) = ((a &&& b : Nat) : Int) := bits_and_u64_nat a b ha hb

/-! ### lowest, part, right -/
theorem lowest_neg (n : Int) (h : n < 0) (w : World) : Calls Tryd.prog 78 #[.int .i64 n] w fun e w' => e = .returned (.int .u64 0) ∧ w' = w := by
  go_enter Tryd.func78, Tryd.ntmps78
  go_wp2
  go_ret
  exact ⟨rfl, rfl⟩
theorem low_wrap (m : Nat) (hm : m ≤ 64) : IntKind.u64.wrap (IntKind.u64.wrap (2 ^ m) - 1) = ((2 ^ m - 1 : Nat) : Int) := by
  rw [IntKind.wrap_u64, IntKind.wrap_u64]
  have e : ((2 : Int) ^ m) = ((2 ^ m : Nat) : Int) := by simp
  have h1 : 2 ^ m ≤ 2 ^ 64 := Nat.pow_le_pow_right (by decide) hm
  have h2 : 0 < 2 ^ m := Nat.two_pow_pos _
  have e2 : (2 : Nat) ^ 64 = 18446744073709551616 := by decide
  rw [e]
  generalize 2 ^ m = x at *
  omega
theorem lowest_nat (n : Int) (h : 0 ≤ n) (h' : n ≤ 9223372036854775807) (w : World) : Calls Tryd.prog 78 #[.int .i64 n] w fun e w' => e = .returned (.int .u64 (low n.toNat : Nat)) ∧ w' = w := by
  have h2 : ¬ n < 0 := by omega
  go_enter Tryd.func78, Tryd.ntmps78
  go_wp2
  go_ret
  exact ⟨by rw [low_wrap _ (Nat.min_le_right _ _)]; rfl, rfl⟩
theorem lowest_any (n : Int) (h' : n ≤ 9223372036854775807) (w : World) : Calls Tryd.prog 78 #[.int .i64 n] w fun e w' => e = .returned (.int .u64 (low n.toNat : Nat)) ∧ w' = w := by
  by_cases h : n < 0
  · have := lowest_neg n h w
    rw [show n.toNat = 0 by omega]
    exact this
  · exact lowest_nat n (by omega) h' w
theorem part_core (k : Nat) (a b : Int) (hk : k < 8) (ha : 0 ≤ a) (hb : 0 ≤ b) (ha' : a ≤ 9223372036854775807) (hb' : b ≤ 9223372036854775807) (x y : Nat) (hx : x < 18446744073709551616) (hy : y < 18446744073709551616) (w : World)
    (cx : Calls Tryd.prog 78 #[.int .i64 (b - 64 * k)] w fun e w' => e = .returned (.int .u64 (x : Nat)) ∧ w' = w)
    (cy : Calls Tryd.prog 78 #[.int .i64 (a - 64 * k)] w fun e w' => e = .returned (.int .u64 (y : Nat)) ∧ w' = w) :
    Calls Tryd.prog 68 #[.int .i64 (k : Nat), .int .i64 a, .int .i64 b] w fun e w' => e = .returned (.int .u64 (andn x y : Nat)) ∧ w' = w := by
  obtain ⟨K, hK⟩ : ∃ K : Int, (k : Int) = K := ⟨_, rfl⟩
  have k0 : 0 ≤ K := by omega
  have k8 : K < 8 := by omega
  rw [hK] at cx cy ⊢
  clear hK
  have e1 : K * 64 = 64 * K := by omega
  have l1 : -9223372036854775808 ≤ b - 64 * K := by omega
  have l2 : b - 64 * K ≤ 9223372036854775807 := by omega
  have l3 : -9223372036854775808 ≤ a - 64 * K := by omega
  have l4 : a - 64 * K ≤ 9223372036854775807 := by omega
  rw [← w_andNot x y hx hy]
  have HX := hide hx
  have HY := hide hy
  clear hx hy
  rw [← e1] at cx cy l1 l2 l3 l4
  clear e1
  go_enter Tryd.func68, Tryd.ntmps68
  go_wp2_with fail
  go_at_call 78
  refine cx.mono ?_
  rintro e w' ⟨rfl, hw'⟩; rw [hw']; clear hw' w'
  go_wp2_with fail
  go_at_call 78
  refine cy.mono ?_
  rintro e w' ⟨rfl, hw'⟩; rw [hw']; clear hw' w'
  go_wp2
  go_ret
  exact ⟨rfl, rfl⟩
theorem part_any (k a b : Nat) (hk : k < 8) (ha : a ≤ 9223372036854775807) (hb : b ≤ 9223372036854775807) (w : World) :
    Calls Tryd.prog 68 #[.int .i64 (k : Nat), .int .i64 (a : Nat), .int .i64 (b : Nat)] w fun e w' => e = .returned (.int .u64 (prt k a b : Nat)) ∧ w' = w := by
  have h1 := lowest_any ((b : Int) - 64 * k) (by omega) w
  have h2 := lowest_any ((a : Int) - 64 * k) (by omega) w
  rw [show ((b : Int) - 64 * k).toNat = b - 64 * k by omega] at h1
  rw [show ((a : Int) - 64 * k).toNat = a - 64 * k by omega] at h2
  exact part_core k a b hk (by omega) (by omega) (by omega) (by omega) _ _ (low_lt _) (low_lt _) w h1 h2

/-- A span that is right. -/
def Right (i n : Int) : Prop := 0 ≤ i ∧ i ≤ 512 ∧ 0 ≤ n ∧ n ≤ 512 - i
theorem right_any (i n : Int) (hi : -9223372036854775808 ≤ i) (w : World) :
    (Right i n → Calls Tryd.prog 67 #[.int .i64 i, .int .i64 n] w fun e w' => e = .returned (.bool true) ∧ w' = w) ∧
    (¬ Right i n → Calls Tryd.prog 67 #[.int .i64 i, .int .i64 n] w fun e w' => e = .returned (.bool false) ∧ w' = w) := by
  unfold Right
  constructor
  · rintro ⟨h1, h2, h3, h4⟩
    go_enter Tryd.func67, Tryd.ntmps67
    go_wp2
    go_ret
    exact ⟨rfl, rfl⟩
  · intro h
    by_cases h1 : 0 ≤ i
    · by_cases h2 : i ≤ 512
      · by_cases h3 : 0 ≤ n
        · have h4 : decide (n ≤ 512 - i) = false := decide_eq_false (by omega)
          clear h
          go_enter Tryd.func67, Tryd.ntmps67
          go_wp2
          go_ret
          exact ⟨rfl, rfl⟩
        · have h3' : n < 0 := by omega
          clear h h3
          go_enter Tryd.func67, Tryd.ntmps67
          go_wp2
          go_ret
          exact ⟨rfl, rfl⟩
      · have h2' : 512 < i := by omega
        clear h h2
        go_enter Tryd.func67, Tryd.ntmps67
        go_wp2
        go_ret
        exact ⟨rfl, rfl⟩
    · have h1' : i < 0 := by omega
      clear h h1
      go_enter Tryd.func67, Tryd.ntmps67
      go_wp2
      go_ret
      exact ⟨rfl, rfl⟩


/-! ### TrailingZeros64 -/
/-- The table lies where the program has it. -/
def TabW (w : World) : Prop := (∀ j, j < 64 → w.cell? ⟨1, j, none⟩ = some (.int .u8 (Lib.deBruijn64tab.getD j 0))) ∧ ∀ j, j < 7 → w.cell? ⟨0, j, none⟩ = some (.int .i64 (Rx.sh j : Nat))
theorem tz_core (x k idx : Nat) (w : World) (hx0 : ((x : Int) == 0) = false)
    (key : IntKind.u64.wrap (bits BinOp.and IntKind.u64 (x : Int) (IntKind.u64.wrap (-(x : Int))) * 285870213051353865) / 288230376151711744 = (idx : Int))
    (hi : idx < 64) (hk : k < 64) (hcell : w.cell? ⟨1, idx, none⟩ = some (.int .u8 k)) :
    Calls Tryd.prog 47 #[.int .u64 x] w fun e w' => e = .returned (.int .i64 k) ∧ w' = w := by
  go_enter Tryd.func47, Tryd.ntmps47
  go_wp2_with (simp only [key])
  go_ret
  exact ⟨rfl, rfl⟩
theorem tz_key (x a : Nat) (hx : x < 18446744073709551616) (hx0 : x ≠ 0) (hlow : x &&& (18446744073709551616 - x) = a) :
    IntKind.u64.wrap (bits BinOp.and IntKind.u64 (x : Int) (IntKind.u64.wrap (-(x : Int))) * 285870213051353865) / 288230376151711744 = ((a * 285870213051353865 % 18446744073709551616 / 288230376151711744 : Nat) : Int) := by
  have e1 : IntKind.u64.wrap (-(x : Int)) = ((18446744073709551616 - x : Nat) : Int) := by rw [IntKind.wrap_u64]; omega
  rw [e1, bits_and_u64_nat x _ hx (by omega), hlow, IntKind.wrap_u64]
  omega
theorem tz_any (x : Nat) (hx0 : x ≠ 0) (hx : x < 18446744073709551616) (w : World) (hT : TabW w) :
    Calls Tryd.prog 47 #[.int .u64 x] w fun e w' => e = .returned (.int .i64 (Lib.ctz 64 x : Nat)) ∧ w' = w := by
  obtain ⟨hlow, hk⟩ := Lib.lowest_bit 64 x hx0 hx
  obtain ⟨hi, htab⟩ := Lib.deBruijn64_at _ hk
  have hcell := hT.1 _ hi
  rw [htab] at hcell
  exact tz_core x _ _ w (by simp; omega) (tz_key x _ hx hx0 hlow) hi hk hcell
end Go.Proofs.YtnclicdnncgdiaaDoor
