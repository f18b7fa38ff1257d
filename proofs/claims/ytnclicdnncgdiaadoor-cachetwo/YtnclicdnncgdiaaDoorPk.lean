/- Summaries of rows as plain functions: no Go in sight. -/
import Derived.WalkKit
namespace Go.Proofs.Pk

/-- A summary. -/
structure Sm where
  s : Int
  m : Int
  e : Int
def i64 (x : Int) : Prop := -9223372036854775808 ≤ x ∧ x ≤ 9223372036854775807
structure Sm.Ok (a : Sm) : Prop where
  s : i64 a.s
  m : i64 a.m
  e : i64 a.e
/-- Bounded by so many. -/
def Bnd (a : Sm) (p : Int) : Prop := 0 ≤ a.s ∧ 0 ≤ a.e ∧ a.s ≤ a.m ∧ a.e ≤ a.m ∧ a.m ≤ p ∧ (a.m < p ∨ a.s = p ∧ a.e = p)
/-- Right for a row of so many pages. -/
def Rgt (a : Sm) (p : Int) : Prop := Bnd a p ∧ (a.m = p ∨ a.s + a.e < p)

/-- The summary of the first n rows. -/
def mg (p : Int) (X : Nat → Sm) : Nat → Sm
  | 0 => ⟨0, 0, 0⟩
  | n + 1 => ⟨if (mg p X n).s = (n : Int) * p then (mg p X n).s + (X n).s else (mg p X n).s,
      max (max (mg p X n).m (X n).m) ((mg p X n).e + (X n).s),
      if (X n).e = p then (mg p X n).e + p else (X n).e⟩
theorem mg_congr {p : Int} {X Y : Nat → Sm} : ∀ n, (∀ k, k < n → X k = Y k) → mg p X n = mg p Y n
  | 0, _ => rfl
  | n + 1, h => by
    have := mg_congr (p := p) n (fun k hk => h k (by omega))
    rw [mg, mg, this, h n (by omega)]
theorem succ_mul (n : Nat) (p : Int) : ((n + 1 : Nat) : Int) * p = (n : Int) * p + p := by rw [Int.natCast_succ, Int.add_mul]; omega
/-- What is so of every summary of right rows. -/
structure Mok (p : Int) (n : Nat) (a : Sm) : Prop where
  s0 : 0 ≤ a.s
  e0 : 0 ≤ a.e
  sm : a.s ≤ a.m
  em : a.e ≤ a.m
  mx : a.m ≤ (n : Int) * p
  whole : a.m = (n : Int) * p → a.s = (n : Int) * p ∧ a.e = (n : Int) * p
  part : a.s ≠ (n : Int) * p → a.s + a.e < (n : Int) * p
theorem mg_ok {p : Int} (hp : 1 ≤ p) {X : Nat → Sm} : ∀ n, (∀ k, k < n → Rgt (X k) p) → Mok p n (mg p X n)
  | 0, _ => ⟨Int.le_refl _, Int.le_refl _, Int.le_refl _, Int.le_refl _, by simp [mg], fun _ => by simp [mg], fun h => by simp [mg] at h⟩
  | n + 1, h => by
    obtain ⟨h1, h2, h3, h4, h5, h6, h7⟩ := mg_ok hp n (fun k hk => h k (by omega))
    obtain ⟨⟨r1, r2, r3, r4, r5, r6⟩, r7⟩ := h n (by omega)
    have hq : 0 ≤ (n : Int) * p := Int.mul_nonneg (by omega) (by omega)
    have e := succ_mul n p
    unfold mg
    generalize mg p X n = a at *
    generalize X n = b at *
    generalize (n : Int) * p = q at *
    by_cases c1 : a.s = q
    · by_cases c2 : b.e = p
      · rw [if_pos c1, if_pos c2]
        constructor <;> dsimp only <;> rw [e] at * <;> omega
      · rw [if_pos c1, if_neg c2]
        constructor <;> dsimp only <;> rw [e] at * <;> omega
    · have h8 := h7 c1
      by_cases c2 : b.e = p
      · rw [if_neg c1, if_pos c2]
        constructor <;> dsimp only <;> rw [e] at * <;> omega
      · rw [if_neg c1, if_neg c2]
        constructor <;> dsimp only <;> rw [e] at * <;> omega
/-- The reference's own way: whether all were free so far. -/
theorem mg_whole {p : Int} (hp : 1 ≤ p) {X : Nat → Sm} (n : Nat) (h : ∀ k, k < n + 1 → Rgt (X k) p) : (mg p X (n + 1)).s = ((n + 1 : Nat) : Int) * p ↔ (mg p X n).s = (n : Int) * p ∧ (X n).s = p := by
  obtain ⟨h1, h2, h3, h4, h5, h6, h7⟩ := mg_ok hp n (fun k hk => h k (by omega))
  obtain ⟨⟨r1, r2, r3, r4, r5, r6⟩, r7⟩ := h n (by omega)
  rw [succ_mul, show (mg p X (n + 1)).s = if (mg p X n).s = (n : Int) * p then (mg p X n).s + (X n).s else (mg p X n).s from rfl]
  generalize mg p X n = a at *
  generalize X n = b at *
  generalize (n : Int) * p = q at *
  by_cases c1 : a.s = q
  · rw [if_pos c1]; omega
  · rw [if_neg c1]; omega

end Go.Proofs.Pk
