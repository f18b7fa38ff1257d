/- What Find, Last and Sum of a row of bits tell: plain facts. -/
import Derived.Test.YtnclicdnncgdiaaDoorBt
namespace Go.Proofs.Bt

/-- m clear bits stand from c on. -/
def Clr (f : Nat → Bool) (c m : Nat) : Prop := ∀ k, k < m → f (c + k) = false
/-- The bits from a on and below b; all others as if they were set. -/
def blk (f : Nat → Bool) (a b k : Nat) : Bool := f k || decide (k < a) || decide (b ≤ k)
theorem blk_false {f : Nat → Bool} {a b k : Nat} : blk f a b k = false ↔ f k = false ∧ a ≤ k ∧ k < b := by
  unfold blk; simp [and_assoc]
/-- So many clear bits lie in one of the rows. -/
theorem win {f : Nat → Bool} {a b c m : Nat} (hb : b ≤ 512) (hm : 1 ≤ m) (ha : a ≤ c) (hc : c + m ≤ b) (h : Clr f c m) : ∃ y ∈ runs (blk f a b), y.1 ≤ c ∧ c + m ≤ y.2 := by
  obtain ⟨h1, h2, h3⟩ := runs_facts (blk f a b)
  obtain ⟨y, hy, y1, y2⟩ := h2 c (by omega) (blk_false.2 ⟨by have := h 0 (by omega); simpa using this, ha, by omega⟩)
  refine ⟨y, hy, y1, ?_⟩
  by_cases hlt : c + m ≤ y.2
  · exact hlt
  · exfalso
    have hs := (h1 y hy).stop (by omega)
    have := h (y.2 - c) (by omega)
    rw [show c + (y.2 - c) = y.2 by omega] at this
    rw [blk_false.2 ⟨this, by omega, by omega⟩] at hs
    cases hs
theorem clr_run {f : Nat → Bool} {a b : Nat} {y : Nat × Nat} (h : Row1 (blk f a b) y) {k : Nat} (h1 : y.1 ≤ k) (h2 : k < y.2) : f k = false ∧ a ≤ k ∧ k < b := blk_false.1 (h.clear k h1 h2)

/-! ### Find -/
def FindP (f : Nat → Bool) (n from_ i : Int) (ok : Bool) : Prop :=
  (ok = true ∧ 1 ≤ n ∧ ∃ a : Nat, i = a ∧ from_.toNat ≤ a ∧ a + n.toNat ≤ 512 ∧ Clr f a n.toNat ∧ ∀ c, from_.toNat ≤ c → c < a → ¬ Clr f c n.toNat) ∨
  (ok = false ∧ i = 0 ∧ (n < 1 ∨ ∀ c, from_.toNat ≤ c → c + n.toNat ≤ 512 → ¬ Clr f c n.toNat))
theorem FindP.one {f : Nat → Bool} {n from_ i j : Int} {ok is : Bool} (h : FindP f n from_ i ok) (k : FindP f n from_ j is) : i = j ∧ ok = is := by
  rcases h with ⟨rfl, h1, a, rfl, h2, h3, h4, h5⟩ | ⟨rfl, rfl, h1⟩ <;> rcases k with ⟨rfl, k1, b, rfl, k2, k3, k4, k5⟩ | ⟨rfl, rfl, k1⟩
  · refine ⟨?_, rfl⟩
    rcases Nat.lt_trichotomy a b with l | l | l
    · exact absurd h4 (k5 a h2 l)
    · rw [l]
    · exact absurd k4 (h5 b k2 l)
  · rcases k1 with k1 | k1
    · omega
    · exact absurd h4 (k1 a h2 h3)
  · rcases h1 with h1 | h1
    · omega
    · exact absurd k4 (h1 b k2 k3)
  · exact ⟨rfl, rfl⟩
theorem find_hit {f : Nat → Bool} {n from_ : Int} {pre : List (Nat × Nat)} {x : Nat × Nat} (hn : 1 ≤ n) (hp : pre ++ [x] <+: runs (blk f from_.toNat 512))
    (hs : ∀ y ∈ pre, ((y.2 - y.1 : Nat) : Int) < n) (hx : n ≤ ((x.2 - x.1 : Nat) : Int)) : FindP f n from_ (x.1 : Int) true := by
  obtain ⟨h1, h2, h3⟩ := runs_facts (blk f from_.toNat 512)
  have hmem : ∀ y ∈ pre ++ [x], y ∈ runs (blk f from_.toNat 512) := fun y hy => hp.subset hy
  have hr := h1 x (hmem x (by simp))
  have hlt := hr.lt
  have hle := hr.le
  refine .inl ⟨rfl, hn, x.1, rfl, (clr_run hr (Nat.le_refl _) hr.lt).2.1, by omega, fun k hk => (clr_run hr (by omega) (by omega)).1, fun c c1 c2 hc => ?_⟩
  obtain ⟨y, hy, y1, y2⟩ := win (a := from_.toNat) (Nat.le_refl 512) (by omega) c1 (by omega) hc
  obtain ⟨suf, e⟩ := hp
  rw [← e] at hy h3
  rcases List.mem_append.1 hy with hy | hy
  · rcases List.mem_append.1 hy with hy | hy
    · have := hs y hy; omega
    · simp at hy; subst hy; omega
  · have := (List.pairwise_append.1 h3).2.2 x (by simp) y hy
    omega
theorem find_miss {f : Nat → Bool} {n from_ : Int} (hn : 1 ≤ n) (hs : ∀ y ∈ runs (blk f from_.toNat 512), ((y.2 - y.1 : Nat) : Int) < n) : FindP f n from_ 0 false := by
  refine .inr ⟨rfl, rfl, .inr fun c c1 c2 hc => ?_⟩
  obtain ⟨y, hy, y1, y2⟩ := win (a := from_.toNat) (Nat.le_refl 512) (by omega) c1 (by omega) hc
  have := hs y hy
  omega

/-! ### Last -/
def LastP (f : Nat → Bool) (n to i k : Int) : Prop :=
  (k = 0 ∧ i = 0 ∧ (n < 1 ∨ ∀ c, c < min to.toNat 512 → f c = true)) ∨
  (1 ≤ n ∧ ∃ a m : Nat, i = a ∧ k = m ∧ 1 ≤ m ∧ (m : Int) ≤ n ∧ a + m ≤ min to.toNat 512 ∧ Clr f a m ∧ (∀ c, a + m ≤ c → c < min to.toNat 512 → f c = true) ∧ ((m : Int) = n ∨ a = 0 ∨ f (a - 1) = true))
theorem LastP.one {f : Nat → Bool} {n to i j k l : Int} (h : LastP f n to i k) (g : LastP f n to j l) : i = j ∧ k = l := by
  rcases h with ⟨rfl, rfl, h1⟩ | ⟨h1, a, m, rfl, rfl, h2, h3, h4, h5, h6, h7⟩ <;> rcases g with ⟨rfl, rfl, g1⟩ | ⟨g1, b, p, rfl, rfl, g2, g3, g4, g5, g6, g7⟩
  · exact ⟨rfl, rfl⟩
  · rcases h1 with h1 | h1
    · omega
    · have := g5 0 (by omega); rw [h1 _ (by omega)] at this; cases this
  · rcases g1 with g1 | g1
    · omega
    · have := h5 0 (by omega); rw [g1 _ (by omega)] at this; cases this
  · have e : a + m = b + p := by
      rcases Nat.lt_trichotomy (a + m) (b + p) with l | l | l
      · have := g5 (p - 1) (by omega); rw [h6 _ (by omega) (by omega)] at this; cases this
      · exact l
      · have := h5 (m - 1) (by omega); rw [g6 _ (by omega) (by omega)] at this; cases this
    have em : m = p := by
      rcases Nat.lt_trichotomy m p with l | l | l
      · rcases h7 with h7 | h7 | h7
        · omega
        · omega
        · have := g5 (a - 1 - b) (by omega); rw [show b + (a - 1 - b) = a - 1 by omega, h7] at this; cases this
      · exact l
      · rcases g7 with g7 | g7 | g7
        · omega
        · omega
        · have := h5 (b - 1 - a) (by omega); rw [show a + (b - 1 - a) = b - 1 by omega, g7] at this; cases this
    subst em
    exact ⟨by omega, rfl⟩
theorem last_none {f : Nat → Bool} {n to : Int} (h : runs (blk f 0 (min to.toNat 512)) = []) : LastP f n to 0 0 := by
  refine .inl ⟨rfl, rfl, .inr fun c hc => ?_⟩
  cases hf : f c with
  | true => rfl
  | false =>
    obtain ⟨h1, h2, h3⟩ := runs_facts (blk f 0 (min to.toNat 512))
    obtain ⟨y, hy, _⟩ := h2 c (by omega) (blk_false.2 ⟨hf, by omega, hc⟩)
    rw [h] at hy; cases hy
theorem last_some {f : Nat → Bool} {n to : Int} {pre : List (Nat × Nat)} {x : Nat × Nat} (hn : 1 ≤ n) (h : runs (blk f 0 (min to.toNat 512)) = pre ++ [x]) :
    LastP f n to ((x.2 : Int) - min ((x.2 : Int) - x.1) n) (min ((x.2 : Int) - x.1) n) := by
  obtain ⟨h1, h2, h3⟩ := runs_facts (blk f 0 (min to.toNat 512))
  rw [h] at h1 h2 h3
  have hr := h1 x (by simp)
  have hlt := hr.lt
  have hc := clr_run hr (k := x.2 - 1) (by omega) (by omega)
  refine .inr ⟨hn, x.2 - (min ((x.2 : Int) - x.1) n).toNat, (min ((x.2 : Int) - x.1) n).toNat, by omega, by omega, by omega, by omega, by omega, fun k hk => (clr_run hr (by omega) (by omega)).1, fun c c1 c2 => ?_, ?_⟩
  · cases hf : f c with
    | true => rfl
    | false =>
      exfalso
      obtain ⟨y, hy, y1, y2⟩ := h2 c (by omega) (blk_false.2 ⟨hf, by omega, c2⟩)
      rcases List.mem_append.1 hy with hy | hy
      · have := (List.pairwise_append.1 h3).2.2 y hy x (by simp)
        omega
      · simp at hy; subst hy; omega
  · by_cases hm : (min ((x.2 : Int) - x.1) n) = n
    · left; omega
    · right
      have e : x.2 - (min ((x.2 : Int) - x.1) n).toNat = x.1 := by omega
      rw [e]
      by_cases h0 : x.1 = 0
      · exact .inl h0
      · right
        have := hr.start (by omega)
        unfold blk at this
        rw [decide_eq_false (by omega : ¬ x.1 - 1 < 0), decide_eq_false (by omega : ¬ min to.toNat 512 ≤ x.1 - 1)] at this
        simpa using this

/-! ### Sum -/
structure SumP (f : Nat → Bool) (s m e : Nat) : Prop where
  s512 : s ≤ 512
  e512 : e ≤ 512
  sc : Clr f 0 s
  ss : s < 512 → f s = true
  ec : Clr f (512 - e) e
  es : e < 512 → f (511 - e) = true
  mx : ∃ c, c + m ≤ 512 ∧ Clr f c m
  mn : ∀ c, c + (m + 1) ≤ 512 → ¬ Clr f c (m + 1)
theorem SumP.one {f : Nat → Bool} {s m e s' m' e' : Nat} (h : SumP f s m e) (k : SumP f s' m' e') : s = s' ∧ m = m' ∧ e = e' := by
  refine ⟨?_, ?_, ?_⟩
  · rcases Nat.lt_trichotomy s s' with l | l | l
    · have h1 := k.sc s l; have h2 := h.ss (by have := k.s512; omega); rw [Nat.zero_add] at h1; rw [h1] at h2; cases h2
    · exact l
    · have h1 := h.sc s' l; have h2 := k.ss (by have := h.s512; omega); rw [Nat.zero_add] at h1; rw [h1] at h2; cases h2
  · obtain ⟨c, c1, c2⟩ := h.mx
    obtain ⟨d, d1, d2⟩ := k.mx
    rcases Nat.lt_trichotomy m m' with l | l | l
    · exact absurd (fun j hj => d2 j (by omega)) (h.mn d (by omega))
    · exact l
    · exact absurd (fun j hj => c2 j (by omega)) (k.mn c (by omega))
  · have h5 := h.e512
    have k5 := k.e512
    rcases Nat.lt_trichotomy e e' with l | l | l
    · have h1 := k.ec (e' - 1 - e) (by omega); have h2 := h.es (by omega); rw [show 512 - e' + (e' - 1 - e) = 511 - e by omega, h2] at h1; cases h1
    · exact l
    · have h1 := h.ec (e - 1 - e') (by omega); have h2 := k.es (by omega); rw [show 512 - e + (e - 1 - e') = 511 - e' by omega, h2] at h1; cases h1
/-- What is known of the three behind some rows. -/
structure SI (l : List (Nat × Nat)) (s m e : Nat) : Prop where
  sA : (∃ x ∈ l, x.1 = 0 ∧ s = x.2) ∨ ((∀ x ∈ l, x.1 ≠ 0) ∧ s = 0)
  mA : (∃ x ∈ l, m = x.2 - x.1) ∨ m = 0
  mm : ∀ x ∈ l, x.2 - x.1 ≤ m
  eA : (∃ x ∈ l, x.2 = 512 ∧ e = 512 - x.1) ∨ ((∀ x ∈ l, x.2 ≠ 512) ∧ e = 0)
theorem SI.zero : SI [] 0 0 0 := ⟨.inr ⟨(fun x h => by cases h), rfl⟩, .inr rfl, (fun x h => by cases h), .inr ⟨(fun x h => by cases h), rfl⟩⟩
theorem SI.step {l : List (Nat × Nat)} {s m e : Nat} (h : SI l s m e) (x : Nat × Nat) :
    SI (l ++ [x]) (if x.1 = 0 then x.2 - x.1 else s) (max m (x.2 - x.1)) (if x.2 = 512 then x.2 - x.1 else e) := by
  have hx : x ∈ l ++ [x] := by simp
  have hl : ∀ y ∈ l, y ∈ l ++ [x] := fun y hy => List.mem_append_left _ hy
  refine ⟨?_, ?_, ?_, ?_⟩
  · by_cases h0 : x.1 = 0
    · rw [if_pos h0]; exact .inl ⟨x, hx, h0, by omega⟩
    · rw [if_neg h0]
      rcases h.sA with ⟨y, hy, y1, y2⟩ | ⟨h1, h2⟩
      · exact .inl ⟨y, hl y hy, y1, y2⟩
      · refine .inr ⟨fun y hy => ?_, h2⟩
        rcases List.mem_append.1 hy with hy | hy
        · exact h1 y hy
        · simp at hy; subst hy; exact h0
  · by_cases hm : m ≤ x.2 - x.1
    · rw [Nat.max_eq_right hm]; exact .inl ⟨x, hx, rfl⟩
    · rw [Nat.max_eq_left (by omega)]
      rcases h.mA with ⟨y, hy, y1⟩ | h1
      · exact .inl ⟨y, hl y hy, y1⟩
      · exact .inr h1
  · intro y hy
    rcases List.mem_append.1 hy with hy | hy
    · have := h.mm y hy; omega
    · simp at hy; subst hy; omega
  · by_cases h0 : x.2 = 512
    · rw [if_pos h0]; exact .inl ⟨x, hx, h0, by omega⟩
    · rw [if_neg h0]
      rcases h.eA with ⟨y, hy, y1, y2⟩ | ⟨h1, h2⟩
      · exact .inl ⟨y, hl y hy, y1, y2⟩
      · refine .inr ⟨fun y hy => ?_, h2⟩
        rcases List.mem_append.1 hy with hy | hy
        · exact h1 y hy
        · simp at hy; subst hy; exact h0
theorem SI.sum {f : Nat → Bool} {s m e : Nat} (h : SI (runs (blk f 0 512)) s m e) : SumP f s m e := by
  obtain ⟨h1, h2, h3⟩ := runs_facts (blk f 0 512)
  have hf : ∀ k, k < 512 → blk f 0 512 k = f k := fun k hk => by
    unfold blk; rw [decide_eq_false (by omega), decide_eq_false (by omega)]; simp
  have hset : ∀ k, k < 512 → (∀ x ∈ runs (blk f 0 512), ¬ (x.1 ≤ k ∧ k < x.2)) → f k = true := fun k hk hn => by
    cases hc : f k with
    | true => rfl
    | false =>
      obtain ⟨y, hy, y1, y2⟩ := h2 k hk (by rw [hf k hk]; exact hc)
      exact absurd ⟨y1, y2⟩ (hn y hy)
  have hS : s ≤ 512 ∧ Clr f 0 s ∧ (s < 512 → f s = true) := by
    rcases h.sA with ⟨x, hx, x1, rfl⟩ | ⟨hn, rfl⟩
    · have hr := h1 x hx
      exact ⟨hr.le, (fun k hk => (clr_run hr (by omega) (by omega)).1), fun hl => by have := hr.stop hl; rw [hf _ hl] at this; exact this⟩
    · exact ⟨by omega, (fun k hk => by omega), fun _ => hset 0 (by omega) fun x hx hh => hn x hx (by omega)⟩
  have hE : e ≤ 512 ∧ Clr f (512 - e) e ∧ (e < 512 → f (511 - e) = true) := by
    rcases h.eA with ⟨x, hx, x1, rfl⟩ | ⟨hn, rfl⟩
    · have hr := h1 x hx
      have := hr.lt
      refine ⟨by omega, (fun k hk => (clr_run hr (by omega) (by omega)).1), fun hl => ?_⟩
      have hst := hr.start (by omega)
      rw [hf _ (by omega), show x.1 - 1 = 511 - (512 - x.1) by omega] at hst
      exact hst
    · refine ⟨by omega, (fun k hk => by omega), fun _ => hset 511 (by omega) fun x hx hh => hn x hx (by have := (h1 x hx).le; omega)⟩
  refine ⟨hS.1, hE.1, hS.2.1, hS.2.2, hE.2.1, hE.2.2, ?_, fun c hc hcl => ?_⟩
  · rcases h.mA with ⟨x, hx, rfl⟩ | rfl
    · have hr := h1 x hx
      exact ⟨x.1, by have := hr.lt; have := hr.le; omega, fun k hk => (clr_run hr (by omega) (by omega)).1⟩
    · exact ⟨0, by omega, fun k hk => by omega⟩
  · obtain ⟨y, hy, y1, y2⟩ := win (a := 0) (Nat.le_refl 512) (by omega) (by omega) hc hcl
    have := h.mm y hy
    omega
end Go.Proofs.Bt
