/- VmemRefused for every argument. -/
import Derived.Test.YtpceigglilgelabRefused
import Derived.Test.YtpceigglilgelabVmFc
namespace Go.Proofs.Ytpceigglilgelab
open Go.ChangeShapes Go.WideShapes Go.ChangeAt Go.RowKit Go.Proofs.Sp

theorem refused_law {I : Inv} (Fc : Face vm I) (p n : Int) (hp : 0 ≤ p ∧ p ≤ 18446744073709551615) (hn : -9223372036854775808 ≤ n ∧ n ≤ 9223372036854775807) (w : World) :
    Calls Try.prog 3 #[.int .u64 p, .int .i64 n] w fun e w' => e = .returned (.bool true) ∧ Below w.heap.size w w' := by
  by_cases h1 : p < 1
  · have d1 : decide (p < 1) = true := by simpa using h1
    clear Fc
    go_enter Try.func3, Try.ntmps3
    go_wp2_with fail
    go_ret
    exact ⟨rfl, Below.refl _ _⟩
  · have d1 : decide (p < 1) = false := by simpa using h1
    by_cases h2 : 500 < p
    · have d2 : decide (500 < p) = true := by simpa using h2
      clear Fc
      go_enter Try.func3, Try.ntmps3
      go_wp2_with fail
      go_ret
      exact ⟨rfl, Below.refl _ _⟩
    · have d2 : decide (500 < p) = false := by simpa using h2
      by_cases h3 : n < 0
      · have d3 : decide (n < 0) = true := by simpa using h3
        clear Fc
        go_enter Try.func3, Try.ntmps3
        go_wp2_with fail
        go_ret
        exact ⟨rfl, Below.refl _ _⟩
      · have d3 : decide (n < 0) = false := by simpa using h3
        by_cases h4 : 20 < n
        · have d4 : decide (20 < n) = true := by simpa using h4
          clear Fc
          go_enter Try.func3, Try.ntmps3
          go_wp2_with fail
          go_ret
          exact ⟨rfl, Below.refl _ _⟩
        · exact refusal_core Fc p n (by omega) (by omega) (by omega) (by omega) w
end Go.Proofs.Ytpceigglilgelab
