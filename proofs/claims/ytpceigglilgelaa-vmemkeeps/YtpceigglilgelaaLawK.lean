/- What turns VmemKeeps away. -/
import Derived.Test.YtpceigglilgelaaKeeps
namespace Go.Proofs.Ytpceigglilgelaa
open Go.ChangeShapes Go.WideShapes Go.ChangeAt Go.RowKit Go.Proofs.Sp
set_option linter.unusedVariables false
set_option linter.unusedSimpArgs false

/-- What turns VmemKeeps away. -/
theorem keeps_early (o : Option Addr) (len cap : Nat) (f p : Int) (hlen : len ≤ 9223372036854775807) (hf : 0 ≤ f ∧ f ≤ 18446744073709551615) (hp : -9223372036854775808 ≤ p ∧ p ≤ 9223372036854775807) (h : 100 < len ∨ p < 0 ∨ 7 < p) (w : World) :
    Calls Try.prog 8 #[.slice o len cap, .int .u64 f, .int .i64 p] w fun e w' => e = .returned (.bool true) ∧ Below w.heap.size w w' := by
  by_cases h1 : (100 : Int) < (len : Int)
  · have d1 : decide ((100 : Int) < (len : Int)) = true := by simpa using h1
    clear h
    go_enter Try.func8, Try.ntmps8
    go_wp2_with fail
    go_ret
    exact ⟨rfl, Below.refl _ _⟩
  · have d1 : decide ((100 : Int) < (len : Int)) = false := by simpa using h1
    by_cases h2 : p < 0
    · have d2 : decide (p < 0) = true := by simpa using h2
      clear h
      go_enter Try.func8, Try.ntmps8
      go_wp2_with fail
      go_ret
      exact ⟨rfl, Below.refl _ _⟩
    · have d2 : decide (p < 0) = false := by simpa using h2
      have h3 : 7 < p := by omega
      have d3 : decide (7 < p) = true := by simpa using h3
      clear h
      go_enter Try.func8, Try.ntmps8
      go_wp2_with fail
      go_ret
      exact ⟨rfl, Below.refl _ _⟩
end Go.Proofs.Ytpceigglilgelaa
