/-
  Plain facts on quotients, products, goals and orders of doubles as the document asks for them (chapter 2), no Go in sight.
-/
import Derived.Test.YtkogomgnfeigbaaDblDiv
namespace Go.Proofs.Dbl
open Ieee

/-! ### Quotients against numbers that end early -/
theorem N_up (E m t : Nat) (h : m ≠ 0) : N E (m * 2 ^ (t + E)) = N 0 (m * 2 ^ t) := by
  have := N_scale 0 (m * 2 ^ t) E (mul_pow_ne m t h)
  rw [Nat.zero_add] at this
  rw [← this, Nat.mul_assoc, ← Nat.pow_add]

theorem div_sides (x y : Nat) (hx : x < 9218868437227405312) (hx0 : x ≠ 0) (hy : y < 9218868437227405312) (hy0 : y ≠ 0) (J : Nat) (hJ : J = 1074) :
    ∃ q, double.div x y = some q ∧ q ≤ 9218868437227405312 ∧
      (∀ m t, m ≠ 0 → (V x).log2 + 1020 ≤ t + (V y).log2 → V x * 2 ^ J ≤ m * 2 ^ t * V y → q ≤ N 0 (m * 2 ^ t)) ∧
      (∀ m t, m ≠ 0 → (V x).log2 + 1020 ≤ t + (V y).log2 → m * 2 ^ t * V y ≤ V x * 2 ^ J → min (N 0 (m * 2 ^ t)) 9218868437227405312 ≤ q) := by
  obtain ⟨E, hE⟩ : ∃ E, E = 2000 := ⟨_, rfl⟩
  obtain ⟨k, u, u0, hk, e, hle, hge⟩ := div_sandwich x y hx hx0 hy hy0 (J + E) (by omega)
  rw [← hE] at e
  refine ⟨_, e, Nat.min_le_right _ _, ?_, ?_⟩
  · intro m t m0 hl hv
    obtain ⟨g, hg⟩ : ∃ g, t + E = g + (k + 1) := ⟨t + E - (k + 1), by clear hv; omega⟩
    have c1 := (hle (m * 2 ^ g)).1 (by
      rw [Nat.mul_assoc m, ← Nat.pow_add, ← hg, Nat.pow_add 2 J, Nat.pow_add 2 t, ← Nat.mul_assoc m, ← Nat.mul_assoc (V x), Nat.mul_right_comm _ _ (V y)]
      exact Nat.mul_le_mul_right _ hv)
    have c2 : u * 2 ^ k ≤ m * 2 ^ (t + E) := by
      have := Nat.mul_le_mul_right (2 ^ k) c1
      rw [hg, Nat.pow_add 2 g, Nat.pow_succ]
      calc u * 2 ^ k ≤ 2 * (m * 2 ^ g) * 2 ^ k := this
        _ = m * (2 ^ g * (2 ^ k * 2)) := by rw [Nat.mul_comm 2 (m * 2 ^ g), Nat.mul_assoc, Nat.mul_assoc, Nat.mul_comm 2 (2 ^ k)]
    have := N_mono E _ _ (mul_pow_ne u k u0) c2
    rw [N_up E m t m0] at this
    exact Nat.le_trans (Nat.min_le_left _ _) this
  · intro m t m0 hl hv
    obtain ⟨g, hg⟩ : ∃ g, t + E = g + (k + 1) := ⟨t + E - (k + 1), by clear hv; omega⟩
    have c1 := (hge (m * 2 ^ g)).1 (by
      rw [Nat.mul_assoc m, ← Nat.pow_add, ← hg, Nat.pow_add 2 J, Nat.pow_add 2 t, ← Nat.mul_assoc m, ← Nat.mul_assoc (V x), Nat.mul_right_comm _ _ (V y)]
      exact Nat.mul_le_mul_right _ hv)
    have c2 : m * 2 ^ (t + E) ≤ u * 2 ^ k := by
      have := Nat.mul_le_mul_right (2 ^ k) c1
      rw [hg, Nat.pow_add 2 g, Nat.pow_succ]
      calc m * (2 ^ g * (2 ^ k * 2)) = 2 * (m * 2 ^ g) * 2 ^ k := by rw [Nat.mul_comm 2 (m * 2 ^ g), Nat.mul_assoc, Nat.mul_assoc, Nat.mul_comm 2 (2 ^ k)]
        _ ≤ u * 2 ^ k := this
    have := N_mono E _ _ (mul_pow_ne m (t + E) m0) c2
    rw [N_up E m t m0] at this
    exact Nat.le_min.2 ⟨Nat.le_trans (Nat.min_le_left _ _) this, Nat.min_le_right _ _⟩

/-- Twice both sides: the same quotient. -/
theorem div_twice (x y x' y' : Nat) (hx : x < 9218868437227405312) (hx0 : x ≠ 0) (hy : y < 9218868437227405312) (hy0 : y ≠ 0) (hx' : x' < 9218868437227405312) (hx0' : x' ≠ 0) (hy' : y' < 9218868437227405312) (hy0' : y' ≠ 0)
    (ex : V x' = 2 * V x) (ey : V y' = 2 * V y) : double.div x' y' = double.div x y := by
  obtain ⟨K, hK⟩ : ∃ K, K = 3074 := ⟨_, rfl⟩
  obtain ⟨k, u, u0, hk, e, hle, hge⟩ := div_sandwich x y hx hx0 hy hy0 K hK
  obtain ⟨k', u', u0', hk', e', hle', hge'⟩ := div_sandwich x' y' hx' hx0' hy' hy0' K hK
  have lx : (V x').log2 = (V x).log2 + 1 := by rw [ex, Nat.mul_comm]; exact log2_mul_pow _ 1 (V_pos x hx0)
  have ly : (V y').log2 = (V y).log2 + 1 := by rw [ey, Nat.mul_comm]; exact log2_mul_pow _ 1 (V_pos y hy0)
  have hkk : k' = k := by omega
  subst hkk
  have h1 : ∀ c, (V x' * 2 ^ K ≤ c * 2 ^ (k' + 1) * V y') ↔ (V x * 2 ^ K ≤ c * 2 ^ (k' + 1) * V y) := by
    intro c; rw [ex, ey, Nat.mul_assoc 2, Nat.mul_left_comm _ 2]; omega
  have h2 : ∀ c, (c * 2 ^ (k' + 1) * V y' ≤ V x' * 2 ^ K) ↔ (c * 2 ^ (k' + 1) * V y ≤ V x * 2 ^ K) := by
    intro c; rw [ex, ey, Nat.mul_assoc 2, Nat.mul_left_comm _ 2]; omega
  have uu : u' = u := by
    have a1 := fun c => (hle' c).symm.trans ((h1 c).trans (hle c))
    have a2 := fun c => (hge' c).symm.trans ((h2 c).trans (hge c))
    have b1 := a1 (u / 2)
    have b2 := a1 ((u + 1) / 2)
    have b3 := a2 (u / 2)
    have b4 := a2 ((u + 1) / 2)
    omega
  rw [e, e', uu]

/-! ### Back: so many times a quotient -/
theorem log2_lt_of (a b : Nat) (h0 : a ≠ 0) (h : a < 2 ^ b) : a.log2 < b := (Nat.log2_lt h0).2 h

theorem small_N (T m B : Nat) (m0 : m ≠ 0) (hm : m ≤ 2 ^ 53) (hB : N 0 (2 ^ 53 * 2 ^ T) ≤ B) : N 0 (m * 2 ^ T) ≤ B :=
  Nat.le_trans (N_mono 0 (m * 2 ^ T) (2 ^ 53 * 2 ^ T) (mul_pow_ne m T m0) (Nat.mul_le_mul_right _ hm)) hB
theorem top1047 (T : Nat) (hT : T = 1047) : N 0 (2 ^ 53 * 2 ^ T) ≤ 4845873199050653696 := by subst hT; decide +kernel
theorem top1073 (T : Nat) (hT : T = 1073) : N 0 (2 ^ 53 * 2 ^ T) ≤ 4845873199050653696 := by subst hT; decide +kernel

theorem arith1 (a n : Nat) (ha' : a ≤ 67108864) (hn : 1 ≤ n) : a * 134217728 + (n - 1) < 9007199254740993 * n := by omega
theorem arith2 (a n x : Nat) (hn' : n ≤ 67108864) (l2 : a * 134217728 < x + n) : (2 * a - 1) * 67108864 ≤ x := by omega
theorem arith3 (a n x : Nat) (hn' : n ≤ 67108864) (u2 : x ≤ a * 134217728 + (n - 1)) : x ≤ (2 * a + 1) * 67108864 := by omega

theorem back (a n J : Nat) (hJ : J = 1074) (ha : 1 ≤ a) (ha' : a ≤ 67108864) (hn : 1 ≤ n) (hn' : n ≤ 67108864) (va : V (F a) = a * 2 ^ J) (vn : V (F n) = n * 2 ^ J) :
    ∃ q, double.div (F a) (F n) = some q ∧ q < 9218868437227405312 ∧ ∀ r, r = mulR (F n) q → r < 9218868437227405312 ∧ (V r / 2 ^ J = a ∨ V r / 2 ^ J = a - 1) := by
  -- what hangs on the numbers 1074, 1073, 1047 themselves
  obtain ⟨T, hT⟩ : ∃ T, T = 1047 := ⟨_, rfl⟩
  obtain ⟨T', hT'⟩ : ∃ T', T' = 1073 := ⟨_, rfl⟩
  have fa : F a ≤ 4895412794951729152 := F_lt a (by clear va vn; omega)
  have fn : F n ≤ 4895412794951729152 := F_lt n (by clear va vn; omega)
  have fa0 := F_ne a (by clear va vn; omega)
  have fn0 := F_ne n (by clear va vn; omega)
  have la : (V (F a)).log2 = a.log2 + J := by rw [va]; exact log2_mul_pow a J (by clear va vn; omega)
  have ln : (V (F n)).log2 = n.log2 + J := by rw [vn]; exact log2_mul_pow n J (by clear va vn; omega)
  have la2 := log2_lt_of a 27 (by clear va vn; omega) (by clear va vn; omega)
  have hl : (V (F a)).log2 + 1020 ≤ T + (V (F n)).log2 := by clear va vn; omega
  have eT : 2 ^ J = 134217728 * 2 ^ T := by
    rw [show J = 27 + T by clear va vn; omega, Nat.pow_add]
  have eT' : 2 ^ J = 2 * 2 ^ T' := by
    rw [show J = 1 + T' by clear va vn eT; omega, Nat.pow_add, Nat.pow_one]
  have eTT : 2 ^ T' = 67108864 * 2 ^ T := by
    rw [show T' = 26 + T by clear va vn eT eT'; omega, Nat.pow_add]
  obtain ⟨q, e, qi, up, lo⟩ := div_sides (F a) (F n) (by clear va vn eT eT' eTT; omega) fa0 (by clear va vn eT eT' eTT; omega) fn0 J hJ
  have tU := top1047 T hT
  have tV := top1073 T' hT'
  have nJ : ∀ X, N 1074 X = N J X := fun X => by rw [hJ]
  clear hJ hT hT' la ln la2
  -- the number above, and the number below, that end at the 27th digit
  obtain ⟨U, hU⟩ : ∃ U, U = (a * 134217728 + (n - 1)) / n := ⟨_, rfl⟩
  obtain ⟨L, hL⟩ : ∃ L, L = a * 134217728 / n := ⟨_, rfl⟩
  have u1 : a * 134217728 ≤ U * n := by
    have := Nat.div_add_mod (a * 134217728 + (n - 1)) n
    have hm := Nat.mod_lt (a * 134217728 + (n - 1)) (show 0 < n by omega)
    rw [← hU, Nat.mul_comm n U] at this
    omega
  have u2 : n * U ≤ a * 134217728 + (n - 1) := by rw [hU]; exact Nat.mul_div_le _ _
  have l1 : n * L ≤ a * 134217728 := by rw [hL]; exact Nat.mul_div_le _ _
  have l2 : a * 134217728 < n * L + n := by
    have := Nat.div_add_mod (a * 134217728) n
    have hm := Nat.mod_lt (a * 134217728) (show 0 < n by omega)
    rw [← hL] at this
    omega
  have U0 : U ≠ 0 := by intro h; rw [h, Nat.zero_mul] at u1; omega
  have L0 : L ≠ 0 := by intro h; rw [h, Nat.mul_zero] at l2; omega
  have U53 : U ≤ 2 ^ 53 := by
    have h1 := arith1 a n ha' hn
    have h2 := (Nat.div_lt_iff_lt_mul (show 0 < n by omega)).2 h1
    rw [← hU] at h2
    omega
  have L53 : L ≤ 2 ^ 53 := by
    have h1 : n * L ≤ 9007199254740992 := by omega
    have : 1 * L ≤ n * L := Nat.mul_le_mul_right _ hn
    omega
  clear hU hL
  have q1 := up U T U0 hl (by
    rw [va, vn]
    have h1 := Nat.mul_le_mul_right (2 ^ T * 2 ^ J) u1
    calc a * 2 ^ J * 2 ^ J = a * 134217728 * (2 ^ T * 2 ^ J) := by rw [Nat.mul_assoc, Nat.mul_assoc, ← Nat.mul_assoc 134217728, ← eT]
      _ ≤ U * n * (2 ^ T * 2 ^ J) := h1
      _ = U * 2 ^ T * (n * 2 ^ J) := by rw [Nat.mul_mul_mul_comm])
  have q2 := lo L T L0 hl (by
    rw [va, vn]
    have h1 := Nat.mul_le_mul_right (2 ^ T * 2 ^ J) l1
    calc L * 2 ^ T * (n * 2 ^ J) = n * L * (2 ^ T * 2 ^ J) := by rw [Nat.mul_comm n L, Nat.mul_mul_mul_comm]
      _ ≤ a * 134217728 * (2 ^ T * 2 ^ J) := h1
      _ = a * 2 ^ J * 2 ^ J := by rw [Nat.mul_assoc, Nat.mul_assoc, ← Nat.mul_assoc 134217728, ← eT])
  have vU := exact_dyadic U T U0 U53
  have vL := exact_dyadic L T L0 L53
  have sU := small_N T U _ U0 U53 tU
  have sL := small_N T L _ L0 L53 tU
  have qs : q ≤ 4845873199050653696 := Nat.le_trans q1 sU
  have bU : V q ≤ U * 2 ^ T := by rw [← vU]; exact V_le _ _ q1
  have bL : L * 2 ^ T ≤ V q := by
    rw [← vL]
    apply V_le
    rw [Nat.min_eq_left (Nat.le_trans sL (by decide))] at q2
    exact q2
  refine ⟨q, e, Nat.lt_of_le_of_lt qs (by decide), ?_⟩
  intro r hr
  have q0 : q ≠ 0 := by
    intro h
    rw [h, V_zero] at bL
    have := mul_pow_ne L T L0
    exact this (Nat.le_zero.1 bL)
  unfold mulR at hr
  rw [if_neg (fun h => h.elim fn0 q0), vn] at hr
  have pv : n * 2 ^ J * V q = n * V q * 2 ^ J := Nat.mul_right_comm _ _ _
  have pne : n * V q ≠ 0 := by
    intro hh
    rcases Nat.mul_eq_zero.1 hh with hh | hh
    · rw [hh] at hn; exact absurd hn (by decide)
    · exact V_pos q q0 hh
  have sc := N_scale 0 (n * V q) J pne
  rw [Nat.zero_add] at sc
  rw [nJ, pv, sc] at hr
  have hi : n * V q ≤ (2 * a + 1) * 2 ^ T' := by
    calc n * V q ≤ n * (U * 2 ^ T) := Nat.mul_le_mul_left _ bU
      _ = n * U * 2 ^ T := (Nat.mul_assoc _ _ _).symm
      _ ≤ ((2 * a + 1) * 67108864) * 2 ^ T := Nat.mul_le_mul_right _ (arith3 a n _ hn' u2)
      _ = (2 * a + 1) * 2 ^ T' := by rw [eTT, Nat.mul_assoc]
  have lw : (2 * a - 1) * 2 ^ T' ≤ n * V q := by
    calc (2 * a - 1) * 2 ^ T' = ((2 * a - 1) * 67108864) * 2 ^ T := by rw [eTT, Nat.mul_assoc]
      _ ≤ n * L * 2 ^ T := Nat.mul_le_mul_right _ (arith2 a n _ hn' l2)
      _ = n * (L * 2 ^ T) := Nat.mul_assoc _ _ _
      _ ≤ n * V q := Nat.mul_le_mul_left _ bL
  have m1 := N_mono 0 _ _ pne hi
  have m2 := N_mono 0 _ _ (mul_pow_ne (2 * a - 1) T' (by omega)) lw
  have x1 := exact_dyadic (2 * a + 1) T' (by omega) (by omega)
  have x2 := exact_dyadic (2 * a - 1) T' (by omega) (by omega)
  have top := small_N T' (2 * a + 1) _ (by omega) (by omega) tV
  have rs : N 0 (n * V q) ≤ 4845873199050653696 := Nat.le_trans m1 top
  have rr : r = N 0 (n * V q) := by rw [hr]; exact Nat.min_eq_left (Nat.le_trans rs (by decide))
  have v1 : V r ≤ (2 * a + 1) * 2 ^ T' := by rw [← x1, rr]; exact V_le _ _ m1
  have v2 : (2 * a - 1) * 2 ^ T' ≤ V r := by rw [← x2, rr]; exact V_le _ _ m2
  refine ⟨by rw [rr]; exact Nat.lt_of_le_of_lt rs (by decide), ?_⟩
  have hp : 0 < 2 ^ J := Nat.two_pow_pos J
  have hp' : 0 < 2 ^ T' := Nat.two_pow_pos T'
  have e3 : (2 * a + 1) * 2 ^ T' = a * (2 * 2 ^ T') + 2 ^ T' := by rw [Nat.add_mul, Nat.one_mul, Nat.mul_comm 2 a, Nat.mul_assoc]
  have e4 : (2 * a - 1) * 2 ^ T' = (a - 1) * (2 * 2 ^ T') + 2 ^ T' := by
    obtain ⟨b, rfl⟩ : ∃ b, a = b + 1 := ⟨a - 1, by omega⟩
    rw [show 2 * (b + 1) - 1 = b * 2 + 1 by omega, Nat.add_sub_cancel, Nat.add_mul, Nat.one_mul, Nat.mul_assoc]
  rw [e3, ← eT'] at v1
  rw [e4, ← eT'] at v2
  have d1 : V r / 2 ^ J < a + 1 := (Nat.div_lt_iff_lt_mul hp).2 (by
    rw [Nat.add_mul, Nat.one_mul]
    exact Nat.lt_of_le_of_lt v1 (by rw [eT']; omega))
  have d2 : a - 1 ≤ V r / 2 ^ J := (Nat.le_div_iff_mul_le hp).2 (Nat.le_trans (Nat.le_add_right _ _) v2)
  generalize V r / 2 ^ J = z at *
  omega

end Go.Proofs.Dbl
