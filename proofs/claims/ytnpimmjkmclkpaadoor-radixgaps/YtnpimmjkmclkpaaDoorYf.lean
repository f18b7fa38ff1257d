/- Package radix: Alloc: its contract. -/
import Derived.Test.YtnpimmjkmclkpaaDoorYe
namespace Go.Proofs.YtnpimmjkmclkpaaDoor
open Go.ChangeShapes Go.WideShapes Go.ChangeAt Go.RowKit Go.Proofs.Bt Go.Shelf Go.Proofs.Rx Go.Maps Go.Proofs.Pk
set_option linter.unusedVariables false
set_option linter.unusedSimpArgs false

theorem run_tl {st : Nat → Nat} {p n : Nat} (h : Run st p n) (hn : 1 ≤ n) (ho : ∀ q, 34359738368 ≤ q → st q = 0) : p + n ≤ 34359738368 ∧ (tl st p n).p = n ∧ (tl st p n).f = n := by
  refine ⟨?_, ?_, ?_⟩
  · rcases Nat.lt_or_ge 34359738368 (p + n) with y | y
    · have h1 := h (p + n - 1) (by omega) (by omega)
      have h2 := ho (p + n - 1) (by omega)
      omega
    · exact y
  · show cnt (inU st) p n = n
    exact cnt_full.2 fun k hk => by
      have := h (p + k) (by omega) (by omega)
      unfold inU
      exact decide_eq_true (by omega)
  · show cnt (fre st) p n = n
    exact cnt_full.2 fun k hk => by
      have := h (p + k) (by omega) (by omega)
      unfold fre
      exact decide_eq_true (by omega)
theorem TreeE.find {B : Nat} {O : Nat → Prop} {w : World} {tb : Nat} {st : Nat → Nat} (h : TreeE B O w tb st) (n : Nat) (hn : n < 18446744073709551616) :
    Calls Tryd.prog 9 #[.pointer (some ⟨tb, 0, none⟩), .int .u64 (n : Nat)] w (FindT st n w) := by
  obtain ⟨T, L, C, rfl, rfl, h1, h2⟩ := h
  exact find9_core h1 n hn
/-- What Alloc answers and leaves. -/
def AllocP (B : Nat) (O : Nat → Prop) (w : World) (tb : Nat) (st : Nat → Nat) (n : Nat) (e : Ending) (w' : World) : Prop :=
  (n = 0 ∧ e = .returned (.tuple #[.int .u64 0, .int .u64 0, .int .i64 1]) ∧ Chg B O w tb st w') ∨
  (1 ≤ n ∧ (∀ p, ¬ Run st p n) ∧ e = .returned (.tuple #[.int .u64 0, .int .u64 0, .int .i64 30]) ∧ Chg B O w tb st w') ∨
  (1 ≤ n ∧ ∃ p, p + n ≤ 34359738368 ∧ First st n p ∧ e = .returned (.tuple #[.int .u64 (p : Nat), .int .u64 ((tl st p n).r : Nat), .int .i64 0]) ∧ Chg B O w tb (setSt st p (p + n) 1) w')
set_option maxRecDepth 100000 in
theorem alloc_any {B : Nat} {O : Nat → Prop} {w : World} {tb : Nat} {st : Nat → Nat} (h : TreeE B O w tb st) (n : Nat) (hn : n < 18446744073709551616) :
    Calls Tryd.prog 10 #[.pointer (some ⟨tb, 0, none⟩), .int .u64 (n : Nat)] w (AllocP B O w tb st n) := by
  obtain ⟨R, hR⟩ : ∃ R, R = AllocP B O w tb st n := ⟨_, rfl⟩
  rw [← hR]
  have HR := hide hR
  have HH := hide h
  have CF := hide (h.find n hn)
  by_cases n0 : n = 0
  · have d0 : ((n : Int) == 0) = true := beq_iff_eq.2 (by omega)
    have F := hide (show R (.returned (.tuple #[.int .u64 0, .int .u64 0, .int .i64 1])) w from by
      rw [HR.out]; exact .inl ⟨n0, rfl, Chg.same HH.out (Below.refl _ _)⟩)
    clear hR h CF HR HH n0
    go_enter Tryd.func10, Tryd.ntmps10
    go_wp2_with fail
    first | exact F.out | (refine bodyPost_ret (results_tmp3 Tryd.results10 _ _ _) rfl ?_; exact F.out)
  · have d0 : ((n : Int) == 0) = false := beq_eq_false_iff_ne.2 (by omega)
    have n1 : 1 ≤ n := by omega
    clear hR h n0
    go_enter Tryd.func10, Tryd.ntmps10
    go_wp2_with fail
    refine CF.out.mono ?_
    rintro e w1 ⟨(⟨p, hp, hf, _, rfl⟩ | ⟨hno, rfl⟩), b1⟩
    · have T1 := hide (HH.out.below b1)
      have B1 := hide b1
      obtain ⟨r1, r2, r3⟩ := run_tl hf.1 n1 HH.out.out
      have CK := hide (take9_any T1.out p n (by omega) hn)
      have ec : cntT st p n = tl st p n := by unfold cntT; rw [if_neg (by omega)]
      have F := hide (show ∀ W e, TakeP B O w1 tb st p n e W → e = .returned (.tuple #[.int .u64 ((tl st p n).r : Nat), .int .i64 0]) ∧ R (.returned (.tuple #[.int .u64 (p : Nat), .int .u64 ((tl st p n).r : Nat), .int .i64 0])) W from fun W e hW => by
        obtain ⟨e1, e2⟩ := hW.2.2 (by rw [ec]; omega) (by omega)
        refine ⟨e1, ?_⟩
        rw [HR.out]
        exact .inr (.inr ⟨n1, p, r1, hf, rfl, e2.after B1.out⟩))
      obtain ⟨q, hq⟩ : ∃ q, (tl st p n).r = q := ⟨_, rfl⟩
      rw [hq] at F
      clear CF b1 hf r2 r3 ec hq HR
      go_wp2_with fail
      refine CK.out.mono ?_
      intro e w2 hx
      obtain ⟨rfl, hr⟩ := F.out _ _ hx
      have HF := hide hr
      clear hx hr F CK
      go_wp2_with fail
      first | exact HF.out | (refine bodyPost_ret (results_tmp3 Tryd.results10 _ _ _) rfl ?_; exact HF.out)
    · have F := hide (show R (.returned (.tuple #[.int .u64 0, .int .u64 0, .int .i64 30])) w1 from by
        rw [HR.out]; exact .inr (.inl ⟨n1, hno.resolve_left (by omega), rfl, Chg.same HH.out b1⟩))
      clear CF hno b1 HR
      go_wp2_with fail
      first | exact F.out | (refine bodyPost_ret (results_tmp3 Tryd.results10 _ _ _) rfl ?_; exact F.out)
end Go.Proofs.YtnpimmjkmclkpaaDoor
