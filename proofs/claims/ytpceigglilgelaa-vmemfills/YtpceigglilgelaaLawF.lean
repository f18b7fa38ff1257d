/- What turns VmemFills away. -/
import Derived.Test.YtpceigglilgelaaFills
namespace Go.Proofs.Ytpceigglilgelaa
open Go.ChangeShapes Go.WideShapes Go.ChangeAt Go.RowKit Go.Proofs.Sp

/-- What turns VmemFills away. -/
theorem fills_early (o : Option Addr) (len cap : Nat) (r n : Int) (hlen : len ≤ 9223372036854775807) (hr : -9223372036854775808 ≤ r ∧ r ≤ 9223372036854775807) (hn : 0 ≤ n ∧ n ≤ 18446744073709551615) (h : 50 < len ∨ r < 0 ∨ 10 < r ∨ n < 1 ∨ 10 < n) (w : World) :
    Calls Try.prog 3 #[.slice o len cap, .int .i64 r, .int .u64 n] w fun e w' => e = .returned (.bool true) ∧ Below w.heap.size w w' := by
  by_cases h1 : (50 : Int) < (len : Int)
  · have d1 : decide ((50 : Int) < (len : Int)) = true := by simpa using h1
    clear h
    go_enter Try.func3, Try.ntmps3
    go_wp2_with fail
    go_ret
    exact ⟨rfl, Below.refl _ _⟩
  · have d1 : decide ((50 : Int) < (len : Int)) = false := by simpa using h1
    by_cases h2 : r < 0
    · have d2 : decide (r < 0) = true := by simpa using h2
      clear h
      go_enter Try.func3, Try.ntmps3
      go_wp2_with fail
      go_ret
      exact ⟨rfl, Below.refl _ _⟩
    · have d2 : decide (r < 0) = false := by simpa using h2
      by_cases h3 : 10 < r
      · have d3 : decide (10 < r) = true := by simpa using h3
        clear h
        go_enter Try.func3, Try.ntmps3
        go_wp2_with fail
        go_ret
        exact ⟨rfl, Below.refl _ _⟩
      · have d3 : decide (10 < r) = false := by simpa using h3
        by_cases h4 : n < 1
        · have d4 : decide (n < 1) = true := by simpa using h4
          clear h
          go_enter Try.func3, Try.ntmps3
          go_wp2_with fail
          go_ret
          exact ⟨rfl, Below.refl _ _⟩
        · have d4 : decide (n < 1) = false := by simpa using h4
          have h5 : 10 < n := by omega
          have d5 : decide (10 < n) = true := by simpa using h5
          clear h
          go_enter Try.func3, Try.ntmps3
          go_wp2_with fail
          go_ret
          exact ⟨rfl, Below.refl _ _⟩
end Go.Proofs.Ytpceigglilgelaa
