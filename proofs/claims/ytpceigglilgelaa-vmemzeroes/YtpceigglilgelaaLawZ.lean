/- VmemZeroes for every argument. -/
import Derived.Test.YtpceigglilgelaaZeroes
import Derived.Test.YtpceigglilgelaaVmFc
namespace Go.Proofs.Ytpceigglilgelaa
open Go.ChangeShapes Go.WideShapes Go.ChangeAt Go.RowKit Go.Proofs.Sp

theorem zeroes_law {I : Inv} (Fc : Face vm I) (f a n : Int) (hf : 0 ≤ f ∧ f ≤ 18446744073709551615) (ha : 0 ≤ a ∧ a ≤ 18446744073709551615) (hn : 0 ≤ n ∧ n ≤ 18446744073709551615) (w : World) :
    Calls Try.prog 7 #[.int .u64 f, .int .u64 a, .int .u64 n] w fun e w' => e = .returned (.bool true) ∧ Below w.heap.size w w' := by
  by_cases h1 : 3000 < a
  · have d1 : decide (3000 < a) = true := by simpa using h1
    clear Fc
    go_enter Try.func7, Try.ntmps7
    go_wp2_with fail
    go_ret
    exact ⟨rfl, Below.refl _ _⟩
  · by_cases h2 : 3000 < n
    · have d1 : decide (3000 < a) = false := by simpa using h1
      have d2 : decide (3000 < n) = true := by simpa using h2
      clear Fc
      go_enter Try.func7, Try.ntmps7
      go_wp2_with fail
      go_ret
      exact ⟨rfl, Below.refl _ _⟩
    · by_cases h3 : 4096 < a + n
      · have d1 : decide (3000 < a) = false := by simpa using h1
        have d2 : decide (3000 < n) = false := by simpa using h2
        have d3 : decide (4096 < a + n) = true := by simpa using h3
        clear Fc
        go_enter Try.func7, Try.ntmps7
        go_wp2_with fail
        go_ret
        exact ⟨rfl, Below.refl _ _⟩
      · exact zeroes_core Fc f a n hf ha.1 (by omega) hn.1 (by omega) (by omega) w
end Go.Proofs.Ytpceigglilgelaa
