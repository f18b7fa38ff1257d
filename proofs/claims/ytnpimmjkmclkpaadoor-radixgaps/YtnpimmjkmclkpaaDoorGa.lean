/- RadixGaps: rows of pages across a gap, or none. -/
import Derived.Test.YtnpimmjkmclkpaaDoorSh
namespace Go.Proofs.YtnpimmjkmclkpaaDoor
open Go.ChangeShapes Go.WideShapes Go.ChangeAt Go.RowKit Go.Proofs.Bt Go.Shelf Go.Proofs.Rx Go.Maps Go.Proofs.Pk
set_option linter.unusedVariables false
set_option linter.unusedSimpArgs false

/-- Two chunks in use, the second g behind the first. -/
def gp (f g : Nat) : Nat → Nat := setSt (setSt (fun _ => 0) ((f + g) * 512) ((f + g) * 512 + 1 * 512) 3) (f * 512) (f * 512 + 1 * 512) 3
theorem gp_at (f g q : Nat) : gp f g q = if f * 512 ≤ q ∧ q < f * 512 + 512 ∨ (f + g) * 512 ≤ q ∧ q < (f + g) * 512 + 512 then 3 else 0 := by
  unfold gp setSt
  simp only [Nat.one_mul]
  by_cases a : f * 512 ≤ q ∧ q < f * 512 + 512
  · rw [if_pos a, if_pos (.inl a)]
  · rw [if_neg a]
    by_cases b : (f + g) * 512 ≤ q ∧ q < (f + g) * 512 + 512
    · rw [if_pos b, if_pos (.inr b)]
    · rw [if_neg b, if_neg (fun z => z.elim a b)]
theorem gp_none (f n : Nat) (hn : 513 ≤ n) : ∀ p, ¬ Run (gp f 2) p n := fun p hR => by
  have h0 := hR p (Nat.le_refl _) (by omega)
  rw [gp_at] at h0
  split at h0
  · rename_i z
    rcases z with z | z
    · have h1 := hR (f * 512 + 512) (by omega) (by omega)
      rw [gp_at, if_neg (by omega)] at h1
      omega
    · have h1 := hR ((f + 2) * 512 + 512) (by omega) (by omega)
      rw [gp_at, if_neg (by omega)] at h1
      omega
  · omega
theorem gp_first (f n : Nat) (hn : 513 ≤ n) (hn' : n ≤ 1024) : First (gp f 1) n (f * 512) := by
  refine ⟨fun q q1 q2 => ?_, fun p hp hR => ?_⟩
  · rw [gp_at, if_pos (by omega)]; omega
  · have h1 := hR p (Nat.le_refl _) (by omega)
    rw [gp_at, if_neg (by omega)] at h1
    omega
theorem gp_grow1 (f g : Nat) : (tl (fun _ => 0) ((f + g) * 512) (1 * 512)).p = 0 := by
  rw [tl_all (s := 0) fun q _ _ => rfl]; rfl
theorem gp_grow2 (f g : Nat) (hg : 1 ≤ g) : tl (setSt (fun _ => 0) ((f + g) * 512) ((f + g) * 512 + 1 * 512) 3) (f * 512) (1 * 512) = tlOf 0 (1 * 512) :=
  tl_all fun q q1 q2 => by unfold setSt; rw [if_neg (by omega)]
theorem gp_free (f g : Nat) (hg : 1 ≤ g) (hf : f + g < 67108864) : frT (gp f g) = 1024 := by
  have h1 := (tot_set (st := fun _ => 0) (a := (f + g) * 512) (n := 1 * 512) (s := 3) (by omega)).1
  have h2 := (tot_set (st := setSt (fun _ => 0) ((f + g) * 512) ((f + g) * 512 + 1 * 512) 3) (a := f * 512) (n := 1 * 512) (s := 3) (by omega)).1
  rw [tl_all (s := 0) fun q _ _ => rfl, tot_zero.1, if_pos (by omega)] at h1
  rw [gp_grow2 f g hg, if_pos (by omega)] at h2
  have e1 : (tlOf 0 (1 * 512)).f = 0 := rfl
  rw [e1] at h1 h2
  unfold gp
  generalize frT _ = x at *
  generalize frT _ = y at *
  omega
theorem gp_left (f n : Nat) (hn : 513 ≤ n) (hn' : n ≤ 1024) (hf : f + 1 < 67108864) : frT (setSt (gp f 1) (f * 512) (f * 512 + n) 1) = 1024 - n := by
  have h1 := (tot_set (st := gp f 1) (a := f * 512) (n := n) (s := 1) (by omega)).1
  have e : tl (gp f 1) (f * 512) n = tlOf 3 n := tl_all fun q q1 q2 => by rw [gp_at, if_pos (by omega)]
  rw [gp_free f 1 (by omega) hf, e, if_neg (by omega)] at h1
  have e1 : (tlOf 3 n).f = n := rfl
  rw [e1] at h1
  clear e e1
  generalize frT _ = x at *
  omega
theorem gp_take (f : Nat) : ¬ InT (gp f 2) (f * 512 + 511) 2 := fun ⟨_, _, h⟩ => by
  have h1 : cnt (inU (gp f 2)) (f * 512 + 511) 2 = 2 := h
  have h2 := cnt_full.1 h1 1 (by omega)
  unfold inU at h2
  have h3 := of_decide_eq_true h2
  rw [gp_at, if_neg (by omega)] at h3
  exact h3 rfl
end Go.Proofs.YtnpimmjkmclkpaaDoor
