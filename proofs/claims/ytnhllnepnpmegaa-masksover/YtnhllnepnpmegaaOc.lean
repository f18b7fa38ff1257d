/- math/bits.OnesCount64: its contract. -/
import Derived.Test.YtnhllnepnpmegaaEx
import Derived.Test.YtnhllnepnpmegaaMath
import Derived.WalkKit
import Derived.ProofKit
import Derived.OpenShut
import Derived.WalkLawsBesides
import Derived.Laws.Bits128
import Derived.Laws.BitsAllLaws
import Derived.Lib.BitFns
namespace Go.Proofs.Ytnhllnepnpmegaa
open Go.ChangeShapes Go.WideShapes Go.ChangeAt Go.RowKit
set_option linter.unusedSimpArgs false

def f1 (x : Int) : Int := IntKind.u64.wrap (bits .and .u64 (x / 2) 6148914691236517205 + bits .and .u64 x 6148914691236517205)
def f2 (x : Int) : Int := IntKind.u64.wrap (bits .and .u64 (x / 4) 3689348814741910323 + bits .and .u64 x 3689348814741910323)
def f3 (x : Int) : Int := bits .and .u64 (IntKind.u64.wrap (x / 16 + x)) 1085102592571150095
def f4 (x : Int) : Int := IntKind.u64.wrap (x + x / 256)
def f5 (x : Int) : Int := IntKind.u64.wrap (x + x / 65536)
def f6 (x : Int) : Int := IntKind.u64.wrap (x + x / 4294967296)
theorem rep85 : rep 85 8 = 6148914691236517205 := by decide
theorem rep51 : rep 51 8 = 3689348814741910323 := by decide
theorem rep15 : rep 15 8 = 1085102592571150095 := by decide
theorem f1_nat (x : Nat) (hx : x < 18446744073709551616) : f1 (x : Int) = (s1 8 x : Int) ∧ s1 8 x < 18446744073709551616 := by
  have l1 : x / 2 &&& rep 85 8 ≤ rep 85 8 := Nat.and_le_right
  have l2 : x &&& rep 85 8 ≤ rep 85 8 := Nat.and_le_right
  rw [rep85] at l1 l2
  unfold f1 s1
  rw [rep85, show ((x : Int) / 2) = ((x / 2 : Nat) : Int) by omega, show (6148914691236517205 : Int) = ((6148914691236517205 : Nat) : Int) from rfl,
    u64_and_nat _ _ (by omega) (by decide), u64_and_nat _ _ hx (by decide), IntKind.wrap_u64]
  omega
theorem f2_nat (x : Nat) (hx : x < 18446744073709551616) : f2 (x : Int) = (s2 8 x : Int) ∧ s2 8 x ≤ 7378697629483820646 := by
  have l1 : x / 4 &&& rep 51 8 ≤ rep 51 8 := Nat.and_le_right
  have l2 : x &&& rep 51 8 ≤ rep 51 8 := Nat.and_le_right
  rw [rep51] at l1 l2
  unfold f2 s2
  rw [rep51, show ((x : Int) / 4) = ((x / 4 : Nat) : Int) by omega, show (3689348814741910323 : Int) = ((3689348814741910323 : Nat) : Int) from rfl,
    u64_and_nat _ _ (by omega) (by decide), u64_and_nat _ _ hx (by decide), IntKind.wrap_u64]
  omega
theorem f3_nat (x : Nat) (hx : x ≤ 7378697629483820646) : f3 (x : Int) = (s3 8 x : Int) := by
  unfold f3 s3
  rw [rep15, IntKind.wrap_u64, show ((x : Int) / 16 + (x : Int)) % 18446744073709551616 = ((x / 16 + x : Nat) : Int) by omega, show (1085102592571150095 : Int) = ((1085102592571150095 : Nat) : Int) from rfl,
    u64_and_nat _ _ (by omega) (by decide)]
theorem f4_nat (y : Nat) (h : y + y / 256 < 9223372036854775808) : f4 (y : Int) = ((y + y / 256 : Nat) : Int) := by
  unfold f4; rw [IntKind.wrap_u64]; omega
theorem f5_nat (y : Nat) (h : y + y / 65536 < 9223372036854775808) : f5 (y : Int) = ((y + y / 65536 : Nat) : Int) := by
  unfold f5; rw [IntKind.wrap_u64]; omega
theorem f6_nat (y : Nat) (h : y + y / 4294967296 < 9223372036854775808) : f6 (y : Int) = ((y + y / 4294967296 : Nat) : Int) := by
  unfold f6; rw [IntKind.wrap_u64]; omega
theorem cut_nat (y : Nat) : bits .and .i64 (wrap64 (y : Int)) 127 = ((y % 128 : Nat) : Int) := by
  rw [i64_and127]; unfold wrap64; omega
theorem S_eq (x : Nat) : s3 8 (s2 8 (s1 8 x)) = S 8 x := by unfold S; rfl
theorem ones_sum (y y1 y2 y3 p : Nat) (h1 : y1 = y + y / 256) (h2 : y2 = y1 + y1 / 65536) (h3 : y3 = y2 + y2 / 4294967296) (b1 : y1 < 9223372036854775808) (b2 : y2 < 9223372036854775808) (b3 : y3 < 9223372036854775808) (hp : y3 % 128 = p) :
    bits .and .i64 (wrap64 (f6 (f5 (f4 (y : Int))))) 127 = (p : Int) := by
  subst h1 h2 h3
  rw [f4_nat _ b1, f5_nat _ b2, f6_nat _ b3, cut_nat _, hp]
theorem ones_arith (x : Nat) (hx : x < 18446744073709551616) : bits .and .i64 (wrap64 (f6 (f5 (f4 (f3 (f2 (f1 (x : Int)))))))) 127 = (pc x : Int) := by
  obtain ⟨e1, b1⟩ := f1_nat x hx
  obtain ⟨e2, b2⟩ := f2_nat (s1 8 x) b1
  have e3 := f3_nat (s2 8 (s1 8 x)) b2
  rw [e1, e2, e3, S_eq]
  obtain ⟨y1, hy1⟩ : ∃ y, y = S 8 x + S 8 x / 256 := ⟨_, rfl⟩
  obtain ⟨y2, hy2⟩ : ∃ y, y = y1 + y1 / 65536 := ⟨_, rfl⟩
  obtain ⟨y3, hy3⟩ : ∃ y, y = y2 + y2 / 4294967296 := ⟨_, rfl⟩
  obtain ⟨c1, c2, c3, c4⟩ := sums x y1 y2 y3 hx hy1 hy2 hy3
  exact ones_sum _ y1 y2 y3 _ hy1 hy2 hy3 c1 c2 c3 c4
theorem ones_any (x : Nat) (hx : x < 18446744073709551616) (w : World) :
    Calls Try.prog 73 #[.int .u64 x] w fun e w' => e = .returned (.int .i64 (pc x)) ∧ w' = w := by
  rw [← ones_arith x hx]
  have hid : Hid (x < 18446744073709551616) := hx
  clear hx
  go_enter Try.func73, Try.ntmps73
  go_wp2
  go_ret
  exact ⟨rfl, rfl⟩
