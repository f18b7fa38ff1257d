/- Package radix: at, Sum: contracts. -/
import Derived.Test.YtnclicdnncgdiaaDoorXy
namespace Go.Proofs.YtnclicdnncgdiaaDoor
open Go.ChangeShapes Go.WideShapes Go.ChangeAt Go.RowKit Go.Proofs.Bt Go.Shelf Go.Proofs.Rx Go.Maps Go.Proofs.Pk
set_option linter.unusedVariables false
set_option linter.unusedSimpArgs false

/-- The row at a depth that a row further down lies in. -/
def up (D i k : Nat) : Nat := i / 2 ^ (sh k - sh D)
theorem sh_le {k D : Nat} (hD : D ≤ 6) (h : k ≤ D) : sh D ≤ sh k := by
  have : ∀ D, D ≤ 6 → ∀ k, k ≤ D → sh D ≤ sh k := by decide
  exact this D hD k h
theorem fan_sh {k : Nat} (h : k < 6) : fan k = 2 ^ (sh k - sh (k + 1)) := by
  have : ∀ k, k < 6 → fan k = 2 ^ (sh k - sh (k + 1)) := by decide
  exact this k h
theorem up_kid {D i k : Nat} (hD : D ≤ 6) (h : k < D) : fan k * up D i k ≤ up D i (k + 1) ∧ up D i (k + 1) < fan k * (up D i k + 1) := by
  have h1 := sh_le hD (show k + 1 ≤ D by omega)
  have h2 := sh_le (show k + 1 ≤ 6 by omega) (show k ≤ k + 1 by omega)
  have e : up D i k = up D i (k + 1) / fan k := by
    unfold up
    rw [fan_sh (by omega), Nat.div_div_eq_div_mul, ← Nat.pow_add]
    congr 2
    omega
  have hp := fan_pos k
  rw [e]
  constructor
  · rw [Nat.mul_comm]; exact Nat.div_mul_le_self _ _
  · rw [Nat.mul_succ, Nat.mul_comm]; exact Nat.lt_div_mul_add hp
theorem up_self (D i : Nat) : up D i D = i := by unfold up; rw [Nat.sub_self, Nat.pow_zero, Nat.div_one]
theorem up_zero {D i : Nat} (hD : D ≤ 6) (hi : (i + 1) * sz D ≤ 34359738368) : up D i 0 = 0 := by
  unfold up
  have e : sz D * 2 ^ (sh 0 - sh D) = 34359738368 := by
    have : ∀ D, D ≤ 6 → sz D * 2 ^ (sh 0 - sh D) = 34359738368 := by decide
    exact this D hD
  apply Nat.div_eq_of_lt
  have hp := sz_pos D
  rw [← e, Nat.mul_comm (sz D)] at hi
  have := Nat.le_of_mul_le_mul_right hi hp
  omega
theorem Good.down {L : Lv} {C : Ch} {st : Nat → Nat} {D i k : Nat} {r : Rw} (hD : D ≤ 6) (h : k < D) (g : Rx.Good L C st (6 - k) k (up D i k) r) : Rx.Good L C st (6 - (k + 1)) (k + 1) (up D i (k + 1)) (row L (k + 1) (up D i (k + 1)) r.rest) := by
  obtain ⟨m, hm⟩ : ∃ m, 6 - k = m + 1 := ⟨6 - k - 1, by omega⟩
  rw [hm] at g
  have := g.kid (up_kid hD h).1 (up_kid hD h).2
  rwa [show 6 - (k + 1) = m by omega]
theorem shr_nat (i n : Nat) (hn : n ≤ 40) (w : World) : Sem.run Tryd.prog (Op.shift BinOp.shr .u64 (i : Int) .i64 ((n : Nat) : Int)) w = .ok (.int .u64 ((i / 2 ^ n : Nat) : Int)) w := by
  unfold Op.shift
  rw [if_neg (by omega)]
  have e : min (((n : Nat) : Int)).toNat (IntKind.u64.bits) = n := by
    have : IntKind.u64.bits = 64 := rfl
    rw [this, Int.toNat_natCast]; omega
  simp only [e, Sem.run_pure]
  congr 2
  rw [Int.fdiv_eq_ediv_of_nonneg _ (by exact Int.pow_nonneg (by decide)), Int.natCast_ediv, Int.natCast_pow]
  rfl
/-- Where at stands between two rounds. -/
structure AtI (N V : Nat) (w X : World) (L : Lv) (C : Ch) (st : Nat → Nat) (D i k : Nat) (r : Rw) : Prop where
  be : Below N w X
  rs : Bk X N 84 #[.int .u64 0, .int .u64 0, .int .u64 0, .int .i64 0, .int .i64 0, .int .i64 0, .int .i64 0]
  rv : Bk X V 84 #[.int .u64 (r.t.p : Nat), .int .u64 (r.t.f : Nat), .int .u64 (r.t.r : Nat), .int .i64 (r.s : Nat), .int .i64 (r.m : Nat), .int .i64 (r.e : Nat), .int .i64 (r.rest : Nat)]
  gd : Rx.Good L C st (6 - k) k (up D i k) r
end Go.Proofs.YtnclicdnncgdiaaDoor
