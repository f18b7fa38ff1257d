/- Rows of bits one behind the other: their summary, and where so many clear bits begin first. No Go in sight. -/
import Derived.Test.YtdkdckgheibjfaaDoorPl
import Derived.Test.YtdkdckgheibjfaaDoorBu
namespace Go.Proofs.Pk
open Go.Proofs.Bt

/-- What is told of the first L bits. -/
structure SumN (F : Nat → Bool) (L s m e : Nat) : Prop where
  sl : s ≤ L
  el : e ≤ L
  sc : Clr F 0 s
  ss : s < L → F s = true
  ec : Clr F (L - e) e
  es : e < L → F (L - 1 - e) = true
  mx : ∃ c, c + m ≤ L ∧ Clr F c m
  mn : ∀ c, c + (m + 1) ≤ L → ¬ Clr F c (m + 1)
theorem Clr.sub {F : Nat → Bool} {c m c' m' : Nat} (h : Clr F c m) (h1 : c ≤ c') (h2 : c' + m' ≤ c + m) : Clr F c' m' := fun k hk => by
  have := h (c' - c + k) (by omega)
  rwa [show c + (c' - c + k) = c' + k by omega] at this
theorem Clr.at {F : Nat → Bool} {c m : Nat} (h : Clr F c m) {k : Nat} (h1 : c ≤ k) (h2 : k < c + m) : F k = false := by
  have := h (k - c) (by omega)
  rwa [show c + (k - c) = k by omega] at this
theorem Clr.of {F : Nat → Bool} {c m : Nat} (h : ∀ k, c ≤ k → k < c + m → F k = false) : Clr F c m := fun k hk => h (c + k) (by omega) (by omega)
theorem SumN.le {F : Nat → Bool} {L s m e : Nat} (h : SumN F L s m e) {c k : Nat} (hc : c + k ≤ L) (hk : Clr F c k) : k ≤ m := by
  rcases Nat.lt_or_ge m k with l | l
  · exact absurd (Clr.sub hk (Nat.le_refl c) (by omega)) (h.mn c (by omega))
  · exact l
/-- What is clear up to the end is no longer than the end. -/
theorem SumN.end_le {F : Nat → Bool} {L s m e : Nat} (h : SumN F L s m e) {c : Nat} (hc : c ≤ L) (hk : ∀ k, c ≤ k → k < L → F k = false) : L - c ≤ e := by
  rcases Nat.lt_or_ge e (L - c) with l | l
  · have := h.es (by omega)
    rw [hk (L - 1 - e) (by omega) (by omega)] at this
    cases this
  · exact l
theorem SumN.all {F : Nat → Bool} {L s m e : Nat} (h : SumN F L s m e) : s = L ↔ e = L := by
  constructor
  · intro z
    have := h.end_le (c := 0) (by omega) (fun k _ hk => Clr.at h.sc (by omega) (by omega))
    have := h.el
    omega
  · intro z
    rcases Nat.lt_or_ge s L with l | l
    · have h1 := h.ss l
      rw [Clr.at h.ec (k := s) (by omega) (by omega)] at h1
      cases h1
    · have := h.sl; omega
theorem SumN.zero (F : Nat → Bool) : SumN F 0 0 0 0 := ⟨Nat.le_refl _, Nat.le_refl _, fun k hk => by omega, fun h => by omega, fun k hk => by omega, fun h => by omega, ⟨0, by omega, fun k hk => by omega⟩, fun c hc => by omega⟩
theorem SumN.set {F : Nat → Bool} {L s m e : Nat} (h : SumN F L s m e) (hF : F L = true) : SumN F (L + 1) s m 0 := by
  have := h.sl
  refine ⟨by omega, by omega, h.sc, fun _ => ?_, fun k hk => by omega, fun _ => by rw [show L + 1 - 1 - 0 = L by omega]; exact hF, ?_, fun c hc hk => ?_⟩
  · rcases Nat.lt_or_ge s L with l | l
    · exact h.ss l
    · rw [show s = L by omega]; exact hF
  · obtain ⟨c, h1, h2⟩ := h.mx
    exact ⟨c, by omega, h2⟩
  · rcases Nat.lt_or_ge L (c + (m + 1)) with l | l
    · have := Clr.at hk (k := L) (by omega) (by omega)
      rw [hF] at this; cases this
    · exact h.mn c l hk
theorem SumN.clear {F : Nat → Bool} {L s m e : Nat} (h : SumN F L s m e) (hF : F L = false) : SumN F (L + 1) (if e + 1 = L + 1 then e + 1 else s) (max m (e + 1)) (e + 1) := by
  have h1 := h.sl
  have h2 := h.el
  have ec : Clr F (L + 1 - (e + 1)) (e + 1) := Clr.of fun k k1 k2 => by
    by_cases z : k = L
    · subst z; exact hF
    · exact Clr.at h.ec (by omega) (by omega)
  refine ⟨?_, by omega, ?_, ?_, ec, ?_, ?_, ?_⟩
  · split <;> omega
  · split
    · have := ec; rwa [show L + 1 - (e + 1) = 0 by omega] at this
    · exact h.sc
  · split
    · omega
    · intro _
      rcases Nat.lt_or_ge s L with l | l
      · exact h.ss l
      · have := h.all.1 (by omega); omega
  · intro l
    have := h.es (by omega)
    rwa [show L + 1 - 1 - (e + 1) = L - 1 - e by omega]
  · rcases Nat.le_total m (e + 1) with l | l
    · rw [Nat.max_eq_right l]; exact ⟨_, by omega, ec⟩
    · rw [Nat.max_eq_left l]
      obtain ⟨c, c1, c2⟩ := h.mx
      exact ⟨c, by omega, c2⟩
  · intro c hc hk
    rcases Nat.lt_or_ge L (c + (max m (e + 1) + 1)) with l | l
    · have := h.end_le (c := c) (by omega) (fun k k1 k2 => Clr.at hk k1 (by omega))
      omega
    · have := h.le l hk
      omega
/-- A row more. -/
theorem SumN.row {F f : Nat → Bool} {L S M E s m e : Nat} (h : SumN F L S M E) (k : SumP f s m e) (hF : ∀ i, i < 512 → F (L + i) = f i) :
    SumN F (L + 512) (if S = L then S + s else S) (max (max M m) (E + s)) (if e = 512 then E + 512 else e) := by
  have a1 := h.sl
  have a2 := h.el
  have b1 := k.s512
  have b2 := k.e512
  have join : Clr F (L - E) (E + s) := Clr.of fun i i1 i2 => by
    rcases Nat.lt_or_ge i L with l | l
    · exact Clr.at h.ec i1 (by omega)
    · have := hF (i - L) (by omega)
      rw [show L + (i - L) = i by omega] at this
      rw [this]; exact Clr.at k.sc (by omega) (by omega)
  have send : ∀ t, t ≤ 512 → (∀ i, i < t → f i = false) → t ≤ s := fun t ht hc => by
    rcases Nat.lt_or_ge s t with l | l
    · have := k.ss (by omega); rw [hc s l] at this; cases this
    · exact l
  have s512 : e = 512 → s = 512 := fun z => by
    have := send 512 (Nat.le_refl _) (fun i hi => Clr.at k.ec (by omega) (by omega)); omega
  refine ⟨?_, ?_, ?_, ?_, ?_, ?_, ?_, ?_⟩
  · split <;> omega
  · split <;> omega
  · split
    · rename_i z
      have := join
      rw [h.all.1 z, Nat.sub_self] at this
      rwa [z]
    · exact h.sc
  · split
    · intro _
      have := k.ss (by omega)
      rw [← hF s (by omega)] at this
      rename_i z _
      rwa [z]
    · intro _; exact h.ss (by omega)
  · split
    · rename_i z
      refine Clr.of fun i i1 i2 => Clr.at join (by omega) (by have := s512 z; omega)
    · refine Clr.of fun i i1 i2 => ?_
      have := hF (i - L) (by omega)
      rw [show L + (i - L) = i by omega] at this
      rw [this]; exact Clr.at k.ec (by omega) (by omega)
  · split
    · intro l
      have := h.es (by omega)
      rwa [show L + 512 - 1 - (E + 512) = L - 1 - E by omega]
    · intro _
      have := k.es (by omega)
      rw [← hF (511 - e) (by omega)] at this
      rwa [show L + 512 - 1 - e = L + (511 - e) by omega]
  · obtain ⟨c, c1, c2⟩ := h.mx
    obtain ⟨d, d1, d2⟩ := k.mx
    rcases Nat.le_total (max M m) (E + s) with l | l
    · rw [Nat.max_eq_right l]; exact ⟨L - E, by omega, join⟩
    · rw [Nat.max_eq_left l]
      rcases Nat.le_total M m with l2 | l2
      · rw [Nat.max_eq_right l2]
        refine ⟨L + d, by omega, Clr.of fun i i1 i2 => ?_⟩
        have := hF (i - L) (by omega)
        rw [show L + (i - L) = i by omega] at this
        rw [this]; exact Clr.at d2 (by omega) (by omega)
      · rw [Nat.max_eq_left l2]; exact ⟨c, by omega, c2⟩
  · intro c hc hk
    rcases Nat.lt_or_ge L (c + (max (max M m) (E + s) + 1)) with l | l
    · rcases Nat.lt_or_ge c L with l2 | l2
      · -- across
        have z1 := h.end_le (c := c) (by omega) (fun i i1 i2 => Clr.at hk i1 (by omega))
        have z2 := send (c + (max (max M m) (E + s) + 1) - L) (by omega) (fun i hi => by rw [← hF i (by omega)]; exact Clr.at hk (by omega) (by omega))
        omega
      · have : Clr f (c - L) (m + 1) := Clr.of fun i i1 i2 => by rw [← hF i (by omega)]; exact Clr.at hk (by omega) (by omega)
        exact k.mn (c - L) (by omega) this
    · have := h.le l hk
      omega
/-- A summary of a row of 512 bits is right. -/
theorem sump_rgt {f : Nat → Bool} {s m e : Nat} (k : SumP f s m e) : Rgt ⟨(s : Nat), (m : Nat), (e : Nat)⟩ 512 := by
  have le : ∀ c t, c + t ≤ 512 → Clr f c t → t ≤ m := fun c t ht hc => by
    rcases Nat.lt_or_ge m t with l | l
    · exact absurd (Clr.sub hc (Nat.le_refl c) (by omega)) (k.mn c (by omega))
    · exact l
  have b1 := k.s512
  have b2 := k.e512
  have h1 := le 0 s (by omega) k.sc
  have h2 := le (512 - e) e (by omega) k.ec
  obtain ⟨c, c1, c2⟩ := k.mx
  have full : m = 512 → s = 512 ∧ e = 512 := fun z => by
    subst z
    obtain rfl : c = 0 := by omega
    refine ⟨?_, ?_⟩
    · rcases Nat.lt_or_ge s 512 with l | l
      · have := k.ss l; rw [Clr.at c2 (k := s) (by omega) (by omega)] at this; cases this
      · omega
    · rcases Nat.lt_or_ge e 512 with l | l
      · have := k.es l; rw [Clr.at c2 (k := 511 - e) (by omega) (by omega)] at this; cases this
      · omega
  have part : m ≠ 512 → s + e < 512 := fun z => by
    rcases Nat.lt_or_ge (s + e) 512 with l | l
    · exact l
    · have : Clr f 0 512 := Clr.of fun i i1 i2 => by
        rcases Nat.lt_or_ge i s with l2 | l2
        · exact Clr.at k.sc (by omega) (by omega)
        · exact Clr.at k.ec (by omega) (by omega)
      have := le 0 512 (by omega) this
      omega
  refine ⟨⟨by dsimp; omega, by dsimp; omega, by dsimp; omega, by dsimp; omega, by dsimp; omega, ?_⟩, ?_⟩
  · by_cases z : m = 512
    · exact .inr (by have := full z; dsimp; omega)
    · exact .inl (by dsimp; omega)
  · by_cases z : m = 512
    · exact .inl (by dsimp; omega)
    · exact .inr (by have := part z; dsimp; omega)
/-- Rows of bits one behind the other. -/
def cat (fs : Nat → Nat → Bool) (i : Nat) : Bool := fs (i / 512) (i % 512)
theorem cat_at (fs : Nat → Nat → Bool) (k i : Nat) (hi : i < 512) : cat fs (512 * k + i) = fs k i := by
  unfold cat
  rw [show (512 * k + i) / 512 = k by omega, show (512 * k + i) % 512 = i by omega]
/-- Summaries of rows, and of them together. -/
theorem mg_cat {fs : Nat → Nat → Bool} {X : Nat → Sm} : ∀ n, (∀ j, j < n → ∃ s m e : Nat, X j = ⟨(s : Nat), (m : Nat), (e : Nat)⟩ ∧ SumP (fs j) s m e) → ∃ s m e : Nat, mg 512 X n = ⟨(s : Nat), (m : Nat), (e : Nat)⟩ ∧ SumN (cat fs) (512 * n) s m e
  | 0, _ => ⟨0, 0, 0, rfl, SumN.zero _⟩
  | n + 1, h => by
    obtain ⟨S, M, E, h1, h2⟩ := mg_cat n (fun j hj => h j (by omega))
    obtain ⟨s, m, e, k1, k2⟩ := h n (by omega)
    have := h2.row k2 (fun i hi => cat_at fs n i hi)
    rw [show 512 * (n + 1) = 512 * n + 512 by omega]
    refine ⟨_, _, _, ?_, this⟩
    rw [mg, h1, k1]
    dsimp only
    congr 1
    · by_cases z : S = 512 * n
      · rw [if_pos z, if_pos (by omega)]; omega
      · rw [if_neg z, if_neg (by omega)]
    · omega
    · by_cases z : e = 512
      · rw [if_pos z, if_pos (by omega)]; omega
      · rw [if_neg z, if_neg (by omega)]
/-- Where n clear bits begin first. -/
def FirstP (F : Nat → Bool) (n L : Nat) (fi : Int) : Prop :=
  (fi = -1 ∧ ∀ c, c + n ≤ L → ¬ Clr F c n) ∨ (∃ a : Nat, fi = a ∧ a + n ≤ L ∧ Clr F a n ∧ ∀ c, c < a → ¬ Clr F c n)
theorem FirstP.zero (F : Nat → Bool) {n : Nat} (hn : 1 ≤ n) : FirstP F n 0 (-1) := .inl ⟨rfl, fun c hc => by omega⟩
theorem FirstP.set {F : Nat → Bool} {n L : Nat} {fi : Int} (h : FirstP F n L fi) (hn : 1 ≤ n) (hF : F L = true) : FirstP F n (L + 1) fi := by
  rcases h with ⟨rfl, h⟩ | ⟨a, rfl, h1, h2, h3⟩
  · refine .inl ⟨rfl, fun c hc hk => ?_⟩
    rcases Nat.lt_or_ge L (c + n) with l | l
    · have := Clr.at hk (k := L) (by omega) (by omega); rw [hF] at this; cases this
    · exact h c l hk
  · exact .inr ⟨a, rfl, by omega, h2, h3⟩
theorem FirstP.clear {F : Nat → Bool} {n L s m e : Nat} {fi : Int} (h : FirstP F n L fi) (hn : 1 ≤ n) (k : SumN F L s m e) (hF : F L = false) : FirstP F n (L + 1) (if e + 1 = n ∧ fi < 0 then (L : Int) - n + 1 else fi) := by
  have k' := k.clear hF
  rcases h with ⟨rfl, h⟩ | ⟨a, rfl, h1, h2, h3⟩
  · by_cases z : e + 1 = n
    · rw [if_pos ⟨z, by omega⟩]
      have := k.el
      refine .inr ⟨L + 1 - n, by omega, by omega, ?_, fun c hc hk => h c (by omega) hk⟩
      have := k'.ec
      rwa [z] at this
    · rw [if_neg (fun y => z y.1)]
      refine .inl ⟨rfl, fun c hc hk => ?_⟩
      rcases Nat.lt_or_ge L (c + n) with l | l
      · have h5 := k'.end_le (c := c) (by omega) (fun i i1 i2 => Clr.at hk i1 (by omega))
        have : Clr F (L - n) n := Clr.sub k.ec (by omega) (by have := k.el; omega)
        exact h (L - n) (by have := k.el; omega) this
      · exact h c l hk
  · rw [if_neg (fun y => by omega)]
    exact .inr ⟨a, rfl, by omega, h2, h3⟩
/-- What Fits answers of rows of bits. -/
theorem fit_cat {fs : Nat → Nat → Bool} {X : Nat → Sm} {N n : Nat} (hn : 1 ≤ n) (hX : ∀ j, j < N → ∃ s m e : Nat, X j = ⟨(s : Nat), (m : Nat), (e : Nat)⟩ ∧ SumP (fs j) s m e) {i fi : Int} {ok : Bool}
    (f : FitP 512 (n : Int) X N i ok) (g : FirstP (cat fs) n (512 * N) fi) : (ok = true ∧ 0 ≤ fi ∧ i ≤ fi ∧ (i = fi ∨ i % 512 = 0 ∧ fi < i + 512)) ∨ (ok = false ∧ fi = -1 ∧ i = 0) := by
  have hn' : (1 : Int) ≤ n := by omega
  -- there is one, so first tells it
  have found : ∀ c, c + n ≤ 512 * N → Clr (cat fs) c n → ∃ a : Nat, fi = a ∧ a ≤ c ∧ Clr (cat fs) a n := fun c h1 h2 => by
    rcases g with ⟨_, g⟩ | ⟨a, g0, g1, g2, g3⟩
    · exact absurd h2 (g c h1)
    · refine ⟨a, g0, ?_, g2⟩
      rcases Nat.lt_or_ge c a with l | l
      · exact absurd h2 (g3 c l)
      · exact l
  cases f with
  | none h0 =>
    refine .inr ⟨rfl, ?_, rfl⟩
    obtain ⟨s, m, e, h1, h2⟩ := mg_cat N hX
    have := (max_lt hn' N).2 h0
    rw [h1] at this
    dsimp only at this
    rcases g with ⟨g, _⟩ | ⟨a, g0, g1, g2, g3⟩
    · exact g
    · have := h2.le g1 g2; omega
  | cross k hk h0 hc =>
    left
    obtain ⟨S, M, E, h1, h2⟩ := mg_cat k (fun j hj => hX j (by omega))
    obtain ⟨s, m, e, k1, k2⟩ := hX k hk
    have hM := (max_lt hn' k).2 h0
    unfold Cw at hc
    rw [h1] at hM hc ⊢
    rw [k1] at hc
    dsimp only at hM hc ⊢
    have hE := h2.el
    have hs := k2.s512
    have hj := h2.row k2 (fun i hi => cat_at fs k i hi)
    have clr : Clr (cat fs) (512 * k - E) n := Clr.of fun i i1 i2 => by
      rcases Nat.lt_or_ge i (512 * k) with l | l
      · exact Clr.at h2.ec i1 (by omega)
      · have := cat_at fs k (i - 512 * k) (by omega)
        rw [show 512 * k + (i - 512 * k) = i by omega] at this
        rw [this]; exact Clr.at k2.sc (by omega) (by omega)
    obtain ⟨a, a0, a1, a2⟩ := found (512 * k - E) (by omega) clr
    have : a = 512 * k - E := by
      rcases Nat.lt_or_ge a (512 * k - E) with l | l
      · exfalso
        have hb := h2.es (by omega)
        rcases Nat.lt_or_ge (512 * k - 1 - E) (a + n) with l2 | l2
        · rw [Clr.at a2 (k := 512 * k - 1 - E) (by omega) l2] at hb; cases hb
        · have := h2.le (c := a) (k := n) (by omega) a2; omega
      · omega
    exact ⟨rfl, by omega, by omega, .inl (by omega)⟩
  | within k hk h0 hc ha =>
    left
    obtain ⟨S, M, E, h1, h2⟩ := mg_cat k (fun j hj => hX j (by omega))
    obtain ⟨s, m, e, k1, k2⟩ := hX k hk
    have hM := (max_lt hn' k).2 h0
    unfold Cw at hc
    unfold Aw at ha
    rw [h1] at hM hc
    rw [k1] at hc ha
    dsimp only at hM hc ha
    obtain ⟨d, d1, d2⟩ := k2.mx
    have clr : Clr (cat fs) (512 * k + d) n := Clr.of fun i i1 i2 => by
      have := cat_at fs k (i - 512 * k) (by omega)
      rw [show 512 * k + (i - 512 * k) = i by omega] at this
      rw [this]; exact Clr.at d2 (by omega) (by omega)
    obtain ⟨a, a0, a1, a2⟩ := found (512 * k + d) (by omega) clr
    have : 512 * k ≤ a := by
      rcases Nat.lt_or_ge a (512 * k) with l | l
      · exfalso
        rcases Nat.lt_or_ge (512 * k) (a + n) with l2 | l2
        · have z1 := h2.end_le (c := a) (by omega) (fun i i1 i2 => Clr.at a2 i1 (by omega))
          have z2 : a + n - 512 * k ≤ s := by
            rcases Nat.lt_or_ge s (a + n - 512 * k) with l3 | l3
            · have hb := k2.ss (by omega)
              have := cat_at fs k s (by omega)
              rw [Clr.at a2 (k := 512 * k + s) (by omega) (by omega)] at this
              rw [← this] at hb; cases hb
            · exact l3
          omega
        · have := h2.le (c := a) (k := n) (by omega) a2; omega
      · exact l
    exact ⟨rfl, by omega, by omega, .inr ⟨by omega, by omega⟩⟩
theorem SumN.one {F : Nat → Bool} {L s m e s' m' e' : Nat} (h : SumN F L s m e) (k : SumN F L s' m' e') : s = s' ∧ m = m' ∧ e = e' := by
  refine ⟨?_, ?_, ?_⟩
  · rcases Nat.lt_trichotomy s s' with l | l | l
    · have h1 := Clr.at k.sc (k := s) (by omega) (by omega); have h2 := h.ss (by have := k.sl; omega); rw [h1] at h2; cases h2
    · exact l
    · have h1 := Clr.at h.sc (k := s') (by omega) (by omega); have h2 := k.ss (by have := h.sl; omega); rw [h1] at h2; cases h2
  · obtain ⟨c, c1, c2⟩ := h.mx
    obtain ⟨d, d1, d2⟩ := k.mx
    have := k.le c1 c2
    have := h.le d1 d2
    omega
  · have h1 := k.end_le (c := L - e) (by omega) (fun i i1 i2 => Clr.at h.ec i1 (by have := h.el; omega))
    have h2 := h.end_le (c := L - e') (by omega) (fun i i1 i2 => Clr.at k.ec i1 (by have := k.el; omega))
    have := h.el
    have := k.el
    omega
end Go.Proofs.Pk
