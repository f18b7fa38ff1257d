/- What follows of summaries: fewer pages fit earlier; whole rows; pairs. No Go in sight. -/
import Derived.Test.YtdkdckgheibjfaaDoorPk
namespace Go.Proofs.Pk

theorem end_gap {p : Int} (hp : 1 ≤ p) {X : Nat → Sm} (k : Nat) : ∀ d, (∀ j, j < k + d → Rgt (X j) p) → (mg p X (k + d)).e ≤ (d : Int) * p ∨ ((mg p X (k + d)).e = (mg p X k).e + (d : Int) * p ∧ (0 < d → (X k).s = p))
  | 0, _ => .inr ⟨by simp, fun h => by omega⟩
  | d + 1, h => by
    have ih := end_gap hp (X := X) k d (fun j hj => h j (by omega))
    have e := succ_mul d p
    have hq : 0 ≤ (d : Int) * p := Int.mul_nonneg (by omega) (by omega)
    obtain ⟨⟨r1, r2, r3, r4, r5, r6⟩, r7⟩ := h (k + d) (by omega)
    rw [← Nat.add_assoc, mg_end, e]
    by_cases c : (X (k + d)).e = p
    · rw [if_pos c]
      rcases ih with z | ⟨z, y⟩
      · exact .inl (by omega)
      · refine .inr ⟨by omega, fun _ => ?_⟩
        by_cases d0 : d = 0
        · subst d0; rw [Nat.add_zero] at *; omega
        · exact y (by omega)
    · rw [if_neg c]
      exact .inl (by omega)
theorem FitP.bounds {p n : Int} (hp : 1 ≤ p) {X : Nat → Sm} {L : Nat} (h : ∀ j, j < L → Rgt (X j) p) {a : Int} {x : Bool} (f : FitP p n X L a x) : 0 ≤ a ∧ a ≤ (L : Int) * p := by
  have up : ∀ k, k < L → (k : Int) * p ≤ (L : Int) * p := fun k hk => Int.mul_le_mul_of_nonneg_right (by omega) (by omega)
  have lo : ∀ k : Nat, 0 ≤ (k : Int) * p := fun k => Int.mul_nonneg (by omega) (by omega)
  cases f with
  | cross k hk h0 hc =>
    have hok := mg_ok hp k (fun j hj => h j (by omega))
    have := hok.e0
    have := hok.em
    have := hok.mx
    have := up k hk
    omega
  | within k hk h0 hc ha => exact ⟨lo k, up k hk⟩
  | none h0 => exact ⟨Int.le_refl _, lo L⟩
theorem FitP.fewer {p n m : Int} (hp : 1 ≤ p) (hnm : n ≤ m) {X : Nat → Sm} {L : Nat} (h : ∀ j, j < L → Rgt (X j) p) {i j : Int} {b : Bool} (f : FitP p m X L i true) (g : FitP p n X L j b) : b = true ∧ j ≤ i := by
  have hA : ∀ k, Aw m X k → Aw n X k := fun k z => by unfold Aw at z ⊢; omega
  have hC : ∀ k, Cw p m X k → Cw p n X k := fun k z => by unfold Cw at z ⊢; omega
  have e0 : ∀ k, k ≤ L → 0 ≤ (mg p X k).e := fun k hk => (mg_ok hp k (fun j hj => h j (by omega))).e0
  -- where they were found
  have key : ∀ (k : Nat), k < L → (Aw m X k ∨ Cw p m X k) → i = (k : Int) * p - (mg p X k).e ∧ Cw p m X k ∨ i = (k : Int) * p ∧ ¬ Cw p m X k → b = true ∧ j ≤ i := by
    intro k hk hf hi
    cases g with
    | none g0 => exact absurd (hf.elim (hA k) (fun z => absurd (hC k z) (g0 k hk).2)) (g0 k hk).1
    | cross k' hk' g0 gc =>
      refine ⟨rfl, ?_⟩
      have hle : k' ≤ k := by
        rcases Nat.lt_or_ge k k' with l | l
        · exact absurd (hf.elim (hA k) (fun z => absurd (hC k z) (g0 k l).2)) (g0 k l).1
        · exact l
      obtain ⟨d, rfl⟩ : ∃ d, k = k' + d := ⟨k - k', by omega⟩
      have em : ((k' + d : Nat) : Int) * p = (k' : Int) * p + (d : Int) * p := by rw [Int.natCast_add, Int.add_mul]
      have hq : 0 ≤ (d : Int) * p := Int.mul_nonneg (by omega) (by omega)
      have := e0 k' (by omega)
      rcases hi with ⟨hi, _⟩ | ⟨hi, _⟩
      · rcases end_gap hp (X := X) k' d (fun j hj => h j (by omega)) with z | ⟨z, _⟩ <;> omega
      · omega
    | within k' hk' g0 gc ga =>
      refine ⟨rfl, ?_⟩
      have hle : k' ≤ k := by
        rcases Nat.lt_or_ge k k' with l | l
        · exact absurd (hf.elim (hA k) (fun z => absurd (hC k z) (g0 k l).2)) (g0 k l).1
        · exact l
      obtain ⟨d, rfl⟩ : ∃ d, k = k' + d := ⟨k - k', by omega⟩
      have em : ((k' + d : Nat) : Int) * p = (k' : Int) * p + (d : Int) * p := by rw [Int.natCast_add, Int.add_mul]
      have hq : 0 ≤ (d : Int) * p := Int.mul_nonneg (by omega) (by omega)
      have := e0 k' (by omega)
      rcases hi with ⟨hi, hc⟩ | ⟨hi, _⟩
      · rcases end_gap hp (X := X) k' d (fun j hj => h j (by omega)) with z | ⟨z, y⟩
        · omega
        · by_cases d0 : d = 0
          · subst d0; exact absurd (hC _ hc) gc
          · have hs := y (by omega)
            obtain ⟨⟨r1, r2, r3, r4, r5, r6⟩, r7⟩ := h k' hk'
            unfold Cw at gc
            unfold Aw at ga
            omega
      · omega
  generalize ht : true = t at f
  cases f with
  | cross k hk h0 hc => exact key k hk (.inr hc) (.inl ⟨rfl, hc⟩)
  | within k hk h0 hc ha => exact key k hk (.inl ha) (.inr ⟨rfl, hc⟩)
  | none h0 => cases ht

/-! ### Rows that are alike -/
theorem rgt_full (p : Int) (hp : 1 ≤ p) : Rgt ⟨p, p, p⟩ p := ⟨⟨by dsimp; omega, by dsimp; omega, by dsimp; omega, by dsimp; omega, by dsimp; omega, .inr ⟨rfl, rfl⟩⟩, .inl rfl⟩
theorem rgt_zero (p : Int) (hp : 1 ≤ p) : Rgt ⟨0, 0, 0⟩ p := ⟨⟨by dsimp; omega, by dsimp; omega, by dsimp; omega, by dsimp; omega, by dsimp; omega, .inl (by dsimp; omega)⟩, .inr (by dsimp; omega)⟩
theorem mg_full {p : Int} (hp : 1 ≤ p) {X : Nat → Sm} : ∀ n, (∀ j, j < n → X j = ⟨p, p, p⟩) → mg p X n = ⟨(n : Int) * p, (n : Int) * p, (n : Int) * p⟩
  | 0, _ => by simp [mg]
  | n + 1, h => by
    have ih := mg_full hp n (fun j hj => h j (by omega))
    have e := succ_mul n p
    have hq : 0 ≤ (n : Int) * p := Int.mul_nonneg (by omega) (by omega)
    rw [mg, ih, h n (by omega), if_pos rfl, if_pos rfl, e]
    dsimp only
    congr 1
    omega
theorem mg_none {p : Int} (hp : 1 ≤ p) {X : Nat → Sm} : ∀ n, (∀ j, j < n → X j = ⟨0, 0, 0⟩) → mg p X n = ⟨0, 0, 0⟩
  | 0, _ => rfl
  | n + 1, h => by
    have ih := mg_none hp n (fun j hj => h j (by omega))
    rw [mg, ih, h n (by omega)]
    dsimp only
    rw [if_neg (show ¬ (0 : Int) = p by omega)]
    congr 1
    · split <;> rfl
theorem fit_full {p : Int} (hp : 1 ≤ p) {X : Nat → Sm} {n : Nat} (hn : 1 ≤ n) (h : ∀ j, j < n → X j = ⟨p, p, p⟩) : FitP p ((n : Int) * p) X n 0 true := by
  obtain ⟨k, rfl⟩ : ∃ k, n = k + 1 := ⟨n - 1, by omega⟩
  have e := succ_mul k p
  have hq : 0 ≤ (k : Int) * p := Int.mul_nonneg (by omega) (by omega)
  have hm : ∀ j, j ≤ k → mg p X j = ⟨(j : Int) * p, (j : Int) * p, (j : Int) * p⟩ := fun j hj => mg_full hp j (fun i hi => h i (by omega))
  have := FitP.cross (p := p) (n := ((k + 1 : Nat) : Int) * p) (X := X) (L := k + 1) k (by omega) (fun j hj => by
    have e2 := succ_mul j p
    have : ((j + 1 : Nat) : Int) * p ≤ (k : Int) * p := Int.mul_le_mul_of_nonneg_right (by omega) (by omega)
    have hqj : 0 ≤ (j : Int) * p := Int.mul_nonneg (by omega) (by omega)
    constructor
    · unfold Aw; rw [h j (by omega)]; dsimp only; omega
    · unfold Cw; rw [hm j (by omega), h j (by omega)]; dsimp only; omega) (by unfold Cw; rw [hm k (by omega), h k (by omega)]; dsimp only; omega)
  rw [hm k (by omega)] at this
  dsimp only at this
  rwa [Int.sub_self] at this
theorem fit_none {p n : Int} (hn : 1 ≤ n) {X : Nat → Sm} {L : Nat} (h : (mg p X L).m < n) : FitP p n X L 0 false := .none ((max_lt hn L).1 h)

/-! ### Pairs -/
/-- Rows put together two by two. -/
def prs (p : Int) (X : Nat → Sm) (k : Nat) : Sm := mg p (fun j => X (2 * k + j)) 2
theorem prs_is (p : Int) (X : Nat → Sm) (k : Nat) (hx : (X (2 * k)).s ≤ (X (2 * k)).m) (h0 : 0 ≤ (X (2 * k)).m) : prs p X k = ⟨if (X (2 * k)).s = p then (X (2 * k)).s + (X (2 * k + 1)).s else (X (2 * k)).s,
    max (max (X (2 * k)).m (X (2 * k + 1)).m) ((X (2 * k)).e + (X (2 * k + 1)).s), if (X (2 * k + 1)).e = p then (X (2 * k)).e + p else (X (2 * k + 1)).e⟩ := by
  have e1 : mg p (fun j => X (2 * k + j)) 1 = ⟨(X (2 * k)).s, (X (2 * k)).m, (X (2 * k)).e⟩ := by
    show (⟨_, _, _⟩ : Sm) = _
    have z : mg p (fun j => X (2 * k + j)) 0 = ⟨0, 0, 0⟩ := rfl
    rw [z]
    dsimp only
    rw [if_pos (by simp)]
    show (⟨0 + (X (2 * k)).s, max (max 0 (X (2 * k)).m) (0 + (X (2 * k)).s), if (X (2 * k)).e = p then 0 + p else (X (2 * k)).e⟩ : Sm) = _
    congr 1
    · omega
    · omega
    · split <;> omega
  unfold prs
  rw [mg, e1]
  dsimp only
  rw [show ((1 : Nat) : Int) * p = p by simp]
theorem prs_rgt {p : Int} (hp : 1 ≤ p) {X : Nat → Sm} {k : Nat} (h0 : Rgt (X (2 * k)) p) (h1 : Rgt (X (2 * k + 1)) p) : Rgt (prs p X k) (2 * p) := by
  have hok := mg_ok hp (X := fun j => X (2 * k + j)) 2 (fun j hj => by
    match j, hj with
    | 0, _ => exact h0
    | 1, _ => exact h1)
  obtain ⟨k1, k2, k3, k4, k5, k6, k7⟩ := hok
  have e : ((2 : Nat) : Int) * p = 2 * p := rfl
  rw [e] at k5 k6 k7
  unfold prs
  generalize mg p (fun j => X (2 * k + j)) 2 = a at *
  refine ⟨⟨k1, k2, k3, k4, k5, ?_⟩, ?_⟩
  · by_cases c : a.m = 2 * p
    · exact .inr (k6 c)
    · exact .inl (by omega)
  · by_cases c : a.m = 2 * p
    · exact .inl c
    · exact .inr (by
        have : a.s ≠ 2 * p := fun z => by omega
        exact k7 this)
theorem mg_pairs {p : Int} (hp : 1 ≤ p) {X : Nat → Sm} : ∀ n, (∀ j, j < 2 * n → Rgt (X j) p) → mg (2 * p) (prs p X) n = mg p X (2 * n)
  | 0, _ => rfl
  | n + 1, h => by
    have ih := mg_pairs hp n (fun j hj => h j (by omega))
    have hok := mg_ok hp (2 * n) (fun j hj => h j (by omega))
    have hr0 := h (2 * n) (by omega)
    have hr1 := h (2 * n + 1) (by omega)
    have hb : (prs p X n).e = 2 * p → (prs p X n).s = 2 * p := fun z => by
      obtain ⟨⟨r1, r2, r3, r4, r5, r6⟩, r7⟩ := prs_rgt hp hr0 hr1
      omega
    have e1 : (n : Int) * (2 * p) = ((2 * n : Nat) : Int) * p := by rw [Int.natCast_mul, ← Int.mul_assoc, Int.mul_comm (n : Int) 2]; rfl
    have e2 := succ_mul (2 * n) p
    rw [show 2 * (n + 1) = 2 * n + 1 + 1 by omega]
    rw [mg, ih, e1, mg, mg, e2]
    obtain ⟨⟨r1, r2, r3, r4, r5, r6⟩, r7⟩ := hr0
    obtain ⟨⟨q1, q2, q3, q4, q5, q6⟩, q7⟩ := hr1
    rw [prs_is p X n r3 (by omega)] at hb ⊢
    obtain ⟨k1, k2, k3, k4, k5, k6, k7⟩ := hok
    have hq : 0 ≤ ((2 * n : Nat) : Int) * p := Int.mul_nonneg (by omega) (by omega)
    generalize mg p X (2 * n) = a at *
    generalize X (2 * n) = x at *
    generalize X (2 * n + 1) = y at *
    generalize ((2 * n : Nat) : Int) * p = q at *
    dsimp only at *
    congr 1
    · by_cases c1 : a.s = q
      · rw [if_pos c1, if_pos c1]
        by_cases c2 : x.s = p
        · rw [if_pos c2, if_pos (by omega)]; omega
        · rw [if_neg c2, if_neg (by omega)]
      · have := k7 c1
        rw [if_neg c1, if_neg c1, if_neg (by omega)]
    · by_cases c1 : x.s = p
      · rw [if_pos c1, if_pos (by omega)]; omega
      · rw [if_neg c1, if_neg (by omega)]; omega
    · by_cases c1 : y.e = p
      · by_cases c2 : x.e = p
        · rw [if_pos c1, if_pos (by omega), if_pos c1, if_pos c2]; omega
        · rw [if_pos c1, if_neg (by omega), if_pos c1, if_neg c2]
      · rw [if_neg c1, if_neg (by omega), if_neg c1]
end Go.Proofs.Pk
