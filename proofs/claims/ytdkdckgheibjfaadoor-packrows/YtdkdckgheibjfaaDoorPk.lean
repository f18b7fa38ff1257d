/- Summaries of rows as plain functions: no Go in sight. -/
import Derived.WalkKit
namespace Go.Proofs.Pk

/-- A summary. -/
structure Sm where
  s : Int
  m : Int
  e : Int
def i64 (x : Int) : Prop := -9223372036854775808 ≤ x ∧ x ≤ 9223372036854775807
structure Sm.Ok (a : Sm) : Prop where
  s : i64 a.s
  m : i64 a.m
  e : i64 a.e
/-- Bounded by so many. -/
def Bnd (a : Sm) (p : Int) : Prop := 0 ≤ a.s ∧ 0 ≤ a.e ∧ a.s ≤ a.m ∧ a.e ≤ a.m ∧ a.m ≤ p ∧ (a.m < p ∨ a.s = p ∧ a.e = p)
/-- Right for a row of so many pages. -/
def Rgt (a : Sm) (p : Int) : Prop := Bnd a p ∧ (a.m = p ∨ a.s + a.e < p)

/-- The summary of the first n rows. -/
def mg (p : Int) (X : Nat → Sm) : Nat → Sm
  | 0 => ⟨0, 0, 0⟩
  | n + 1 => ⟨if (mg p X n).s = (n : Int) * p then (mg p X n).s + (X n).s else (mg p X n).s,
      max (max (mg p X n).m (X n).m) ((mg p X n).e + (X n).s),
      if (X n).e = p then (mg p X n).e + p else (X n).e⟩
theorem mg_congr {p : Int} {X Y : Nat → Sm} : ∀ n, (∀ k, k < n → X k = Y k) → mg p X n = mg p Y n
  | 0, _ => rfl
  | n + 1, h => by
    have := mg_congr (p := p) n (fun k hk => h k (by omega))
    rw [mg, mg, this, h n (by omega)]
theorem succ_mul (n : Nat) (p : Int) : ((n + 1 : Nat) : Int) * p = (n : Int) * p + p := by rw [Int.natCast_succ, Int.add_mul]; omega
/-- What is so of every summary of right rows. -/
structure Mok (p : Int) (n : Nat) (a : Sm) : Prop where
  s0 : 0 ≤ a.s
  e0 : 0 ≤ a.e
  sm : a.s ≤ a.m
  em : a.e ≤ a.m
  mx : a.m ≤ (n : Int) * p
  whole : a.m = (n : Int) * p → a.s = (n : Int) * p ∧ a.e = (n : Int) * p
  part : a.s ≠ (n : Int) * p → a.s + a.e < (n : Int) * p
theorem mg_ok {p : Int} (hp : 1 ≤ p) {X : Nat → Sm} : ∀ n, (∀ k, k < n → Rgt (X k) p) → Mok p n (mg p X n)
  | 0, _ => ⟨Int.le_refl _, Int.le_refl _, Int.le_refl _, Int.le_refl _, by simp [mg], fun _ => by simp [mg], fun h => by simp [mg] at h⟩
  | n + 1, h => by
    obtain ⟨h1, h2, h3, h4, h5, h6, h7⟩ := mg_ok hp n (fun k hk => h k (by omega))
    obtain ⟨⟨r1, r2, r3, r4, r5, r6⟩, r7⟩ := h n (by omega)
    have hq : 0 ≤ (n : Int) * p := Int.mul_nonneg (by omega) (by omega)
    have e := succ_mul n p
    unfold mg
    generalize mg p X n = a at *
    generalize X n = b at *
    generalize (n : Int) * p = q at *
    by_cases c1 : a.s = q
    · by_cases c2 : b.e = p
      · rw [if_pos c1, if_pos c2]
        constructor <;> dsimp only <;> rw [e] at * <;> omega
      · rw [if_pos c1, if_neg c2]
        constructor <;> dsimp only <;> rw [e] at * <;> omega
    · have h8 := h7 c1
      by_cases c2 : b.e = p
      · rw [if_neg c1, if_pos c2]
        constructor <;> dsimp only <;> rw [e] at * <;> omega
      · rw [if_neg c1, if_neg c2]
        constructor <;> dsimp only <;> rw [e] at * <;> omega
/-- The reference's own way: whether all were free so far. -/
theorem mg_whole {p : Int} (hp : 1 ≤ p) {X : Nat → Sm} (n : Nat) (h : ∀ k, k < n + 1 → Rgt (X k) p) : (mg p X (n + 1)).s = ((n + 1 : Nat) : Int) * p ↔ (mg p X n).s = (n : Int) * p ∧ (X n).s = p := by
  obtain ⟨h1, h2, h3, h4, h5, h6, h7⟩ := mg_ok hp n (fun k hk => h k (by omega))
  obtain ⟨⟨r1, r2, r3, r4, r5, r6⟩, r7⟩ := h n (by omega)
  rw [succ_mul, show (mg p X (n + 1)).s = if (mg p X n).s = (n : Int) * p then (mg p X n).s + (X n).s else (mg p X n).s from rfl]
  generalize mg p X n = a at *
  generalize X n = b at *
  generalize (n : Int) * p = q at *
  by_cases c1 : a.s = q
  · rw [if_pos c1]; omega
  · rw [if_neg c1]; omega

/-! ### Where so many begin -/
/-- They lie within row k. -/
def Aw (n : Int) (X : Nat → Sm) (k : Nat) : Prop := n ≤ (X k).m
/-- They end in row k's Start. -/
def Cw (p n : Int) (X : Nat → Sm) (k : Nat) : Prop := n ≤ (mg p X k).e + (X k).s
def Wh (p : Int) (X : Nat → Sm) (i k : Nat) : Prop := ∀ j, i < j → j < k → (X j).s = p
/-- They begin in row i's End. -/
def Bw (p n : Int) (X : Nat → Sm) (L i : Nat) : Prop := (X i).e ≠ 0 ∧ ∃ k, i < k ∧ k < L ∧ Wh p X i k ∧ n ≤ (X i).e + ((k : Int) - 1 - i) * p + (X k).s
theorem mg_end {p : Int} (X : Nat → Sm) (n : Nat) : (mg p X (n + 1)).e = if (X n).e = p then (mg p X n).e + p else (X n).e := rfl
theorem gap_succ (p : Int) (n i : Nat) : (((n + 1 : Nat) : Int) - 1 - i) * p = ((n : Int) - 1 - i) * p + p := by
  rw [show (((n + 1 : Nat) : Int) - 1 - i) = ((n : Int) - 1 - i) + 1 by omega, Int.add_mul]; omega
/-- The pages at the end of k rows are those of one row's end, and of rows that are free from end to end. -/
theorem end_le {p : Int} (hp : 1 ≤ p) {X : Nat → Sm} : ∀ k, (∀ j, j < k → Rgt (X j) p) → ∀ i, i < k → Wh p X i k → (X i).e + ((k : Int) - 1 - i) * p ≤ (mg p X k).e
  | 0, _, i, hi, _ => by omega
  | k + 1, h, i, hi, hw => by
    have ih := end_le hp k (fun j hj => h j (by omega))
    have hok := mg_ok hp k (fun j hj => h j (by omega))
    rw [gap_succ, mg_end]
    obtain ⟨⟨r1, r2, r3, r4, r5, r6⟩, r7⟩ := h k (by omega)
    by_cases e : i = k
    · subst e
      have : ((i : Int) - 1 - i) * p + p = 0 := by rw [show ((i : Int) - 1 - i) = -1 by omega]; omega
      have := hok.e0
      split <;> omega
    · have h1 := hw k (by omega) (by omega)
      have h2 := ih i (by omega) (fun j a b => hw j a (by omega))
      rw [if_pos (by omega)]; omega
theorem end_is {p : Int} (hp : 1 ≤ p) {X : Nat → Sm} : ∀ k, (∀ j, j < k → Rgt (X j) p) → (mg p X k).e = 0 ∨ ∃ i, i < k ∧ Wh p X i k ∧ (X i).e ≠ 0 ∧ (X i).e + ((k : Int) - 1 - i) * p = (mg p X k).e
  | 0, _ => .inl rfl
  | k + 1, h => by
    have ih := end_is hp k (fun j hj => h j (by omega))
    obtain ⟨⟨r1, r2, r3, r4, r5, r6⟩, r7⟩ := h k (by omega)
    rw [mg_end]
    by_cases c : (X k).e = p
    · rw [if_pos c]
      rcases ih with z | ⟨i, i1, i2, i3, i4⟩
      · refine .inr ⟨k, by omega, fun j a b => by omega, by omega, ?_⟩
        rw [gap_succ, show ((k : Int) - 1 - k) = -1 by omega]; omega
      · refine .inr ⟨i, by omega, fun j a b => ?_, i3, ?_⟩
        · by_cases e : j = k
          · subst e; omega
          · exact i2 j a (by omega)
        · rw [gap_succ]; omega
    · rw [if_neg c]
      by_cases z : (X k).e = 0
      · exact .inl z
      · refine .inr ⟨k, by omega, fun j a b => by omega, z, ?_⟩
        rw [gap_succ, show ((k : Int) - 1 - k) = -1 by omega]; omega
theorem cw_of {p n : Int} (hp : 1 ≤ p) {X : Nat → Sm} {i k : Nat} (h : ∀ j, j < k → Rgt (X j) p) (hi : i < k) (hw : Wh p X i k) (hn : n ≤ (X i).e + ((k : Int) - 1 - i) * p + (X k).s) : Cw p n X k := by
  have := end_le hp k h i hi hw
  unfold Cw; omega
/-- What Fits answers: where, and whether. -/
inductive FitP (p n : Int) (X : Nat → Sm) (L : Nat) : Int → Bool → Prop
  | cross (k : Nat) (hk : k < L) (h0 : ∀ j, j < k → ¬ Aw n X j ∧ ¬ Cw p n X j) (hc : Cw p n X k) : FitP p n X L ((k : Int) * p - (mg p X k).e) true
  | within (k : Nat) (hk : k < L) (h0 : ∀ j, j < k → ¬ Aw n X j ∧ ¬ Cw p n X j) (hc : ¬ Cw p n X k) (ha : Aw n X k) : FitP p n X L ((k : Int) * p) true
  | none (h0 : ∀ j, j < L → ¬ Aw n X j ∧ ¬ Cw p n X j) : FitP p n X L 0 false
/-- What the reference answers. -/
inductive RefP (p n : Int) (X : Nat → Sm) (L : Nat) : Int → Bool → Prop
  | within (k : Nat) (hk : k < L) (h0 : ∀ j, j < k → ¬ Aw n X j ∧ ¬ Bw p n X L j) (ha : Aw n X k) : RefP p n X L ((k : Int) * p) true
  | cross (k : Nat) (hk : k < L) (h0 : ∀ j, j < k → ¬ Aw n X j ∧ ¬ Bw p n X L j) (hn : ¬ Aw n X k) (hb : Bw p n X L k) : RefP p n X L ((k : Int) * p + p - (X k).e) true
  | none (h0 : ∀ j, j < L → ¬ Aw n X j ∧ ¬ Bw p n X L j) : RefP p n X L 0 false
theorem first_one {P : Nat → Prop} {i k : Nat} (hi : ∀ j, j < i → ¬ P j) (hk : ∀ j, j < k → ¬ P j) (pi : P i) (pk : P k) : i = k := by
  rcases Nat.lt_trichotomy i k with h | h | h
  · exact absurd pi (hk i h)
  · exact h
  · exact absurd pk (hi k h)
/-- The reference's answer is one. -/
theorem RefP.one {p n : Int} {X : Nat → Sm} {L : Nat} {a b : Int} {x y : Bool} (h : RefP p n X L a x) (k : RefP p n X L b y) : a = b ∧ x = y := by
  have key : ∀ {i j : Nat}, (∀ q, q < i → ¬ Aw n X q ∧ ¬ Bw p n X L q) → (∀ q, q < j → ¬ Aw n X q ∧ ¬ Bw p n X L q) → (Aw n X i ∨ Bw p n X L i) → (Aw n X j ∨ Bw p n X L j) → i = j := fun hi hj a b =>
    first_one (P := fun q => Aw n X q ∨ Bw p n X L q) (fun q hq c => by rcases c with c | c; exact (hi q hq).1 c; exact (hi q hq).2 c) (fun q hq c => by rcases c with c | c; exact (hj q hq).1 c; exact (hj q hq).2 c) a b
  cases h with
  | within i hi h0 ha =>
    cases k with
    | within j hj k0 kb => obtain rfl := key h0 k0 (.inl ha) (.inl kb); exact ⟨rfl, rfl⟩
    | cross j hj k0 kn kb => obtain rfl := key h0 k0 (.inl ha) (.inr kb); exact absurd ha kn
    | none k0 => exact absurd ha (k0 i hi).1
  | cross i hi h0 hn hb =>
    cases k with
    | within j hj k0 kb => obtain rfl := key h0 k0 (.inr hb) (.inl kb); exact absurd kb hn
    | cross j hj k0 kn kb => obtain rfl := key h0 k0 (.inr hb) (.inr kb); exact ⟨rfl, rfl⟩
    | none k0 => exact absurd hb (k0 i hi).2
  | none h0 =>
    cases k with
    | within j hj k0 kb => exact absurd kb (h0 j hj).1
    | cross j hj k0 kn kb => exact absurd kb (h0 j hj).2
    | none k0 => exact ⟨rfl, rfl⟩
theorem FitP.ref {p n : Int} (hp : 1 ≤ p) {X : Nat → Sm} {L : Nat} (h : ∀ j, j < L → Rgt (X j) p) {a : Int} {x : Bool} (f : FitP p n X L a x) : RefP p n X L a x := by
  -- what begins in a row's end ends in a row that crosses
  have back : ∀ {j}, Bw p n X L j → ∃ k, j < k ∧ k < L ∧ Wh p X j k ∧ (X j).e ≠ 0 ∧ Cw p n X k ∧ n ≤ (X j).e + ((k : Int) - 1 - j) * p + (X k).s := fun {j} hb => by
    obtain ⟨e, k, k1, k2, k3, k4⟩ := hb
    exact ⟨k, k1, k2, k3, e, cw_of hp (fun q hq => h q (by omega)) k1 k3 k4, k4⟩
  -- a crossing row from j, later than k, makes all rows between whole
  have pos : ∀ {j k : Nat}, j < k → 0 ≤ ((k : Int) - 1 - j) * p := fun {j k} hjk => Int.mul_nonneg (by omega) (by omega)
  cases f with
  | cross k hk h0 hc =>
    have hok := mg_ok hp k (fun j hj => h j (by omega))
    rcases end_is hp k (fun j hj => h j (by omega)) with z | ⟨i, i1, i2, i3, i4⟩
    · have ha : Aw n X k := by
        obtain ⟨⟨r1, r2, r3, r4, r5, r6⟩, r7⟩ := h k hk
        unfold Cw at hc; unfold Aw; omega
      rw [z, Int.sub_zero]
      refine .within k hk (fun j hj => ⟨(h0 j hj).1, fun hb => ?_⟩) ha
      obtain ⟨k', k1, k2, k3, k4, k5, k6⟩ := back hb
      have hge : k ≤ k' := by
        rcases Nat.lt_or_ge k' k with l | l
        · exact absurd k5 (h0 k' l).2
        · exact l
      have := end_le hp k (fun q hq => h q (by omega)) j hj (fun q a b => k3 q a (by omega))
      have := pos hj
      obtain ⟨⟨r1, r2, r3, r4, r5, r6⟩, r7⟩ := h j (by omega)
      omega
    · have e1 : (k : Int) * p - (mg p X k).e = (i : Int) * p + p - (X i).e := by
        rw [← i4, show (k : Int) = ((k : Int) - 1 - i) + (i + 1) by omega, Int.add_mul, Int.add_mul]
        rw [show ((k : Int) - 1 - i + (i + 1) - 1 - i) = ((k : Int) - 1 - i) by omega]
        omega
      rw [e1]
      refine .cross i (by omega) (fun j hj => ⟨(h0 j (by omega)).1, fun hb => ?_⟩) (h0 i i1).1 ⟨i3, k, i1, hk, i2, by unfold Cw at hc; omega⟩
      obtain ⟨k', k1, k2, k3, k4, k5, k6⟩ := back hb
      have hge : k ≤ k' := by
        rcases Nat.lt_or_ge k' k with l | l
        · exact absurd k5 (h0 k' l).2
        · exact l
      have hl := end_le hp k (fun q hq => h q (by omega)) j (by omega) (fun q a b => k3 q a (by omega))
      have hgap : ((k : Int) - 1 - j) * p = ((k : Int) - 1 - i) * p + ((i : Int) - j) * p := by rw [← Int.add_mul]; congr 1; omega
      have hge1 : p ≤ ((i : Int) - j) * p := by
        have : 1 * p ≤ ((i : Int) - j) * p := Int.mul_le_mul_of_nonneg_right (by omega) (by omega)
        omega
      obtain ⟨⟨r1, r2, r3, r4, r5, r6⟩, r7⟩ := h j (by omega)
      obtain ⟨⟨q1, q2, q3, q4, q5, q6⟩, q7⟩ := h i (by omega)
      omega
  | within k hk h0 hc ha =>
    refine .within k hk (fun j hj => ⟨(h0 j hj).1, fun hb => ?_⟩) ha
    have hok := mg_ok hp k (fun j hj => h j (by omega))
    obtain ⟨k', k1, k2, k3, k4, k5, k6⟩ := back hb
    rcases Nat.lt_trichotomy k' k with l | l | l
    · exact (h0 k' l).2 k5
    · subst l; exact hc k5
    · have hs := k3 k hj l
      obtain ⟨⟨r1, r2, r3, r4, r5, r6⟩, r7⟩ := h k hk
      have := hok.e0
      unfold Cw at hc
      unfold Aw at ha
      omega
  | none h0 =>
    refine .none (fun j hj => ⟨(h0 j hj).1, fun hb => ?_⟩)
    obtain ⟨k', k1, k2, k3, k4, k5, k6⟩ := back hb
    exact (h0 k' k2).2 k5
/-- The landed answer is one. -/
theorem FitP.one {p n : Int} {X : Nat → Sm} {L : Nat} {a b : Int} {x y : Bool} (h : FitP p n X L a x) (k : FitP p n X L b y) : a = b ∧ x = y := by
  have key : ∀ {i j : Nat}, (∀ q, q < i → ¬ Aw n X q ∧ ¬ Cw p n X q) → (∀ q, q < j → ¬ Aw n X q ∧ ¬ Cw p n X q) → (Aw n X i ∨ Cw p n X i) → (Aw n X j ∨ Cw p n X j) → i = j := fun hi hj a b =>
    first_one (P := fun q => Aw n X q ∨ Cw p n X q) (fun q hq c => by rcases c with c | c; exact (hi q hq).1 c; exact (hi q hq).2 c) (fun q hq c => by rcases c with c | c; exact (hj q hq).1 c; exact (hj q hq).2 c) a b
  cases h with
  | within i hi h0 hc ha =>
    cases k with
    | within j hj k0 kc kb => obtain rfl := key h0 k0 (.inl ha) (.inl kb); exact ⟨rfl, rfl⟩
    | cross j hj k0 kb => obtain rfl := key h0 k0 (.inl ha) (.inr kb); exact absurd kb hc
    | none k0 => exact absurd ha (k0 i hi).1
  | cross i hi h0 hb =>
    cases k with
    | within j hj k0 kc kb => obtain rfl := key h0 k0 (.inr hb) (.inl kb); exact absurd hb kc
    | cross j hj k0 kb => obtain rfl := key h0 k0 (.inr hb) (.inr kb); exact ⟨rfl, rfl⟩
    | none k0 => exact absurd hb (k0 i hi).2
  | none h0 =>
    cases k with
    | within j hj k0 kc kb => exact absurd kb (h0 j hj).1
    | cross j hj k0 kb => exact absurd kb (h0 j hj).2
    | none k0 => exact ⟨rfl, rfl⟩
/-- The longest row is one row's, or goes across. -/
theorem max_lt {p n : Int} (hn : 1 ≤ n) {X : Nat → Sm} : ∀ k, (mg p X k).m < n ↔ ∀ j, j < k → ¬ Aw n X j ∧ ¬ Cw p n X j
  | 0 => ⟨fun _ j hj => by omega, fun _ => by show (0 : Int) < n; omega⟩
  | k + 1 => by
    have ih := max_lt hn (X := X) (p := p) k
    have e : (mg p X (k + 1)).m = max (max (mg p X k).m (X k).m) ((mg p X k).e + (X k).s) := rfl
    constructor
    · intro h j hj
      by_cases c : j = k
      · subst c; unfold Aw Cw; omega
      · exact ih.1 (by omega) j (by omega)
    · intro h
      have h1 := ih.2 (fun j hj => h j (by omega))
      have h2 := h k (by omega)
      unfold Aw Cw at h2
      omega
end Go.Proofs.Pk
