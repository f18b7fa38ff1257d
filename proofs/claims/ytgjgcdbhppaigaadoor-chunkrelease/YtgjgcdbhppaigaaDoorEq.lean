/- Eight words held against themselves. -/
import Derived.Test.YtgjgcdbhppaigaaDoorSh
namespace Go.Proofs.YtgjgcdbhppaigaaDoor
open Go.ChangeShapes Go.WideShapes Go.ChangeAt Go.RowKit Go.Proofs.Bt Go.Shelf
set_option linter.unusedVariables false
set_option linter.unusedSimpArgs false

theorem eq8d {t : TypeId} (ht : Tryd.prog.underlying t = some (.array 8 39)) (d : Nat) (a0 a1 a2 a3 a4 a5 a6 a7 : Int) (w : World) :
    (Op.equalIn (d + 1 + 1) t (.agg #[.int .u64 a0, .int .u64 a1, .int .u64 a2, .int .u64 a3, .int .u64 a4, .int .u64 a5, .int .u64 a6, .int .u64 a7]) (.agg #[.int .u64 a0, .int .u64 a1, .int .u64 a2, .int .u64 a3, .int .u64 a4, .int .u64 a5, .int .u64 a6, .int .u64 a7])).run Tryd.prog w = .ok true w := by
  have he := Tryd.underlying39
  have hs := Tryd.sizeOf39
  have ha := Tryd.isAgg39
  have hq : ∀ a b : Int, (Op.equalIn (d + 1) 39 (.int .u64 a) (.int .u64 b)).run Tryd.prog w = .ok (a == b) w := fun a b => run_equalIn_int w d _ _ _ a b he
  rw [Op.equalIn]
  simp only [Sem.run_bind, run_underlying ht, Result.andThen_ok, hs, Nat.mul_one]
  rw [Std.Legacy.Range.forIn_eq_forIn_range', show List.range' (Std.Legacy.Range.mk 0 8 1 (by decide)).start (Std.Legacy.Range.mk 0 8 1 (by decide)).size (Std.Legacy.Range.mk 0 8 1 (by decide)).step = [0, 1, 2, 3, 4, 5, 6, 7] from rfl]
  have hp : ∀ (xs : Array Value) (i : Nat) (v : Value), xs[i]? = some v → (part 39 xs i).run Tryd.prog w = .ok v w := by
    intro xs i v h
    simp [part, ha, go_sem, h]
  simp only [List.forIn_cons, List.forIn_nil, Sem.run_bind, hp #[.int .u64 a0, .int .u64 a1, .int .u64 a2, .int .u64 a3, .int .u64 a4, .int .u64 a5, .int .u64 a6, .int .u64 a7] 0 (.int .u64 a0) rfl, hp #[.int .u64 a0, .int .u64 a1, .int .u64 a2, .int .u64 a3, .int .u64 a4, .int .u64 a5, .int .u64 a6, .int .u64 a7] 1 (.int .u64 a1) rfl, hp #[.int .u64 a0, .int .u64 a1, .int .u64 a2, .int .u64 a3, .int .u64 a4, .int .u64 a5, .int .u64 a6, .int .u64 a7] 2 (.int .u64 a2) rfl, hp #[.int .u64 a0, .int .u64 a1, .int .u64 a2, .int .u64 a3, .int .u64 a4, .int .u64 a5, .int .u64 a6, .int .u64 a7] 3 (.int .u64 a3) rfl, hp #[.int .u64 a0, .int .u64 a1, .int .u64 a2, .int .u64 a3, .int .u64 a4, .int .u64 a5, .int .u64 a6, .int .u64 a7] 4 (.int .u64 a4) rfl, hp #[.int .u64 a0, .int .u64 a1, .int .u64 a2, .int .u64 a3, .int .u64 a4, .int .u64 a5, .int .u64 a6, .int .u64 a7] 5 (.int .u64 a5) rfl, hp #[.int .u64 a0, .int .u64 a1, .int .u64 a2, .int .u64 a3, .int .u64 a4, .int .u64 a5, .int .u64 a6, .int .u64 a7] 6 (.int .u64 a6) rfl, hp #[.int .u64 a0, .int .u64 a1, .int .u64 a2, .int .u64 a3, .int .u64 a4, .int .u64 a5, .int .u64 a6, .int .u64 a7] 7 (.int .u64 a7) rfl, Result.andThen_ok, hq, beq_self_eq_true, Bool.not_true, Bool.false_eq_true, if_false, Sem.run_pure]
/-- Eight words are the same as they are. -/
theorem eq8 {t : TypeId} (ht : Tryd.prog.underlying t = some (.array 8 39)) (a0 a1 a2 a3 a4 a5 a6 a7 : Int) (w : World) :
    (Op.equalIn 10000 t (.agg #[.int .u64 a0, .int .u64 a1, .int .u64 a2, .int .u64 a3, .int .u64 a4, .int .u64 a5, .int .u64 a6, .int .u64 a7]) (.agg #[.int .u64 a0, .int .u64 a1, .int .u64 a2, .int .u64 a3, .int .u64 a4, .int .u64 a5, .int .u64 a6, .int .u64 a7])).run Tryd.prog w = .ok true w := eq8d ht 9998 a0 a1 a2 a3 a4 a5 a6 a7 w
theorem eqRow (a0 a1 a2 a3 a4 a5 a6 a7 : Int) (w : World) : (Op.equalIn 10000 41 (.agg #[.int .u64 a0, .int .u64 a1, .int .u64 a2, .int .u64 a3, .int .u64 a4, .int .u64 a5, .int .u64 a6, .int .u64 a7]) (.agg #[.int .u64 a0, .int .u64 a1, .int .u64 a2, .int .u64 a3, .int .u64 a4, .int .u64 a5, .int .u64 a6, .int .u64 a7])).run Tryd.prog w = .ok true w := eq8 Tryd.underlying41 a0 a1 a2 a3 a4 a5 a6 a7 w
theorem eqWords (a0 a1 a2 a3 a4 a5 a6 a7 : Int) (w : World) : (Op.equalIn 10000 40 (.agg #[.int .u64 a0, .int .u64 a1, .int .u64 a2, .int .u64 a3, .int .u64 a4, .int .u64 a5, .int .u64 a6, .int .u64 a7]) (.agg #[.int .u64 a0, .int .u64 a1, .int .u64 a2, .int .u64 a3, .int .u64 a4, .int .u64 a5, .int .u64 a6, .int .u64 a7])).run Tryd.prog w = .ok true w := eq8 Tryd.underlying40 a0 a1 a2 a3 a4 a5 a6 a7 w
end Go.Proofs.YtgjgcdbhppaigaaDoor
