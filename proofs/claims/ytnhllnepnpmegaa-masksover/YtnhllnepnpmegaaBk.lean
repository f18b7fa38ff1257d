/- MasksBack: what is written, plain. -/
import Derived.Test.YtnhllnepnpmegaaGt
namespace Go.Proofs.Ytnhllnepnpmegaa
open Go.ChangeShapes Go.WideShapes Go.ChangeAt Go.RowKit Go.Shelf Go.Proofs.Rx Go.Maps Go.Proofs.Bt
set_option linter.unusedVariables false
set_option linter.unusedSimpArgs false

def oneX (_ : Nat) : Bool := true
def bk1 (at_ : Nat) : Nat → Bool := writeF (fun _ => false) (8 * at_) 80 1 1 10 oneX
def bk2 (at_ nw : Nat) : Nat → Bool := writeF (bk1 at_) (8 * (at_ + 10 + nw)) 80 1 1 10 oneX
def bk3 (at_ nw : Nat) : Nat → Bool := writeF (bk2 at_ nw) (8 * (at_ + 10)) (8 * nw) 1 1 nw oneX
def bk4 (at_ nw len n : Nat) (X : Nat → Bool) : Nat → Bool := writeF (bk3 at_ nw) (8 * (at_ + 10)) (8 * nw) (len : Int) len n X
theorem wr_ok {a b : Nat} {wd : Int} {len n : Nat} (h : Right a b) (t : RightT wd len) (l : n ≤ b / 8 / len) : writeE a b wd len n = 0 := by
  unfold writeE
  rw [if_pos ⟨h, t⟩, if_neg (by omega)]
theorem wr_f {f : Nat → Bool} {a b : Nat} {wd : Int} {len n : Nat} {X : Nat → Bool} (h : writeE a b wd len n = 0) (x : Nat) : writeF f a b wd len n X x = if a / 8 ≤ x ∧ x < (a + b) / 8 then thF (a / 8) len n (cutF X len) x else f x := by
  unfold writeF
  rw [if_pos h]; rfl
theorem one_f {a n : Nat} (x : Nat) (h : a ≤ x ∧ x < a + n) : thF a 1 n (cutF oneX 1) x = true := by
  unfold thF cutF oneX
  rw [decide_eq_true (by omega), Nat.mod_one]; rfl
section
variable {at_ nw len n : Nat} {X : Nat → Bool}
theorem bk_e1 (h : at_ ≤ 1073741824) : writeE (8 * at_) 80 1 1 10 = 0 := wr_ok ⟨by omega, by decide, by decide, by decide, by omega⟩ ⟨by decide, by decide, by decide⟩ (by decide)
theorem bk_e2 (h : at_ ≤ 1073741824) (hn : nw ≤ 100000) : writeE (8 * (at_ + 10 + nw)) 80 1 1 10 = 0 := wr_ok ⟨by omega, by decide, by decide, by decide, by omega⟩ ⟨by decide, by decide, by decide⟩ (by decide)
theorem bk_e3 (h : at_ ≤ 1073741824) (hn : nw ≤ 100000) (h1 : 1 ≤ nw) : writeE (8 * (at_ + 10)) (8 * nw) 1 1 nw = 0 := wr_ok ⟨by omega, by omega, by omega, by omega, by omega⟩ ⟨by decide, by decide, by decide⟩ (by rw [Nat.div_one]; omega)
theorem bk_e4 (h : at_ ≤ 1073741824) (hn : nw ≤ 100000) (h1 : 1 ≤ len) (h2 : len ≤ 100) (h3 : len * n < nw) : writeE (8 * (at_ + 10)) (8 * nw) (len : Int) len n = 0 := wr_ok ⟨by omega, by omega, by omega, by omega, by omega⟩ ⟨by omega, by omega, rfl⟩ (by
  rw [show 8 * nw / 8 = nw by omega]
  exact (Nat.le_div_iff_mul_le (by omega)).2 (by rw [Nat.mul_comm]; omega))
/-- What each word of the whole is. -/
def bkG (nw len n : Nat) (X : Nat → Bool) (i : Nat) : Bool := if 10 ≤ i ∧ i < 10 + nw then decide (i - 10 < len * n) && X ((i - 10) % len) else true
theorem bk_G (h : at_ ≤ 1073741824) (hn : nw ≤ 100000) (h1 : 1 ≤ len) (h2 : len ≤ 100) (h3 : len * n < nw) (i : Nat) (hi : i < nw + 20) : bk4 at_ nw len n X (at_ + i) = bkG nw len n X i := by
  unfold bk4
  rw [wr_f (bk_e4 h hn h1 h2 h3), show 8 * (at_ + 10) / 8 = at_ + 10 by omega, show (8 * (at_ + 10) + 8 * nw) / 8 = at_ + 10 + nw by omega]
  unfold bkG
  by_cases c : 10 ≤ i ∧ i < 10 + nw
  · rw [if_pos (by omega), if_pos c]
    unfold thF cutF
    rw [show at_ + i - (at_ + 10) = i - 10 by omega, show decide ((i - 10) % len < len) = true from decide_eq_true (Nat.mod_lt _ (by omega)), Bool.true_and]
    congr 1
    rw [decide_eq_decide, Nat.mul_comm n len]
    omega
  · rw [if_neg (by omega), if_neg c]
    unfold bk3
    rw [wr_f (bk_e3 h hn (by omega)), if_neg (by omega)]
    unfold bk2
    rw [wr_f (bk_e2 h hn)]
    by_cases d : i < 10
    · rw [if_neg (by omega)]
      unfold bk1
      rw [wr_f (bk_e1 h), if_pos (by omega), one_f _ (by omega)]
    · rw [if_pos (by omega), one_f _ (by omega)]
end
end Go.Proofs.Ytnhllnepnpmegaa
