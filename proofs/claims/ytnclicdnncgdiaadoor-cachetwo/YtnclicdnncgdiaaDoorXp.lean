/- The tree of rows, as plain functions: what is kept of it, and when that is right: no Go in sight. -/
import Derived.Test.YtnclicdnncgdiaaDoorXa
namespace Go.Proofs.Rx
open Go.Proofs.Bt Go.Proofs.Pk

abbrev Lv := Nat → Nat → Option Rw
abbrev Ch := Nat → Option (Nat × (Nat → Nat))
/-- A row, below one that has such a rest. -/
def row (L : Lv) (d i rest : Nat) : Rw := (L d i).getD (even d rest)
/-- What is told of a row is so. -/
def Fact (st : Nat → Nat) (d i : Nat) (r : Rw) : Prop := r.t = tl st (i * sz d) (sz d) ∧ (0 < d → Su st (i * sz d) (sz d) r) ∧ r.rest ≤ 3
/-- A row and all below it are right. -/
def Good (L : Lv) (C : Ch) (st : Nat → Nat) : Nat → Nat → Nat → Rw → Prop
  | 0, d, i, r => Fact st d i r ∧ (∀ s, al r.t (sz d) = some s → r = even d s ∧ C i = none) ∧ (al r.t (sz d) = none → ∃ b c, C i = some (b, c) ∧ ∀ k, k < 512 → c k = st (512 * i + k))
  | n + 1, d, i, r => Fact st d i r ∧ (∀ s, al r.t (sz d) = some s → r = even d s ∧ ∀ k, k < fan d → L (d + 1) (fan d * i + k) = none) ∧ ∀ k, k < fan d → Good L C st n (d + 1) (fan d * i + k) (row L (d + 1) (fan d * i + k) r.rest)
theorem Good.fact {L : Lv} {C : Ch} {st : Nat → Nat} {n d i : Nat} {r : Rw} (h : Good L C st n d i r) : Fact st d i r := by
  cases n <;> exact h.1
theorem Good.even {L : Lv} {C : Ch} {st : Nat → Nat} {n d i : Nat} {r : Rw} (h : Good L C st n d i r) {s : Nat} (hs : al r.t (sz d) = some s) : r = even d s := by
  cases n
  · exact (h.2.1 s hs).1
  · exact (h.2.1 s hs).1
theorem Good.kid {L : Lv} {C : Ch} {st : Nat → Nat} {n d i : Nat} {r : Rw} (h : Good L C st (n + 1) d i r) {k : Nat} (h0 : fan d * i ≤ k) (h1 : k < fan d * (i + 1)) : Good L C st n (d + 1) k (row L (d + 1) k r.rest) := by
  have e : fan d * (i + 1) = fan d * i + fan d := Nat.mul_succ _ _
  have := h.2.2 (k - fan d * i) (by omega)
  rwa [show fan d * i + (k - fan d * i) = k by omega] at this
theorem Good.chunk {L : Lv} {C : Ch} {st : Nat → Nat} {d i : Nat} {r : Rw} (h : Good L C st 0 d i r) (ha : al r.t (sz d) = none) : ∃ b c, C i = some (b, c) ∧ ∀ k, k < 512 → c k = st (512 * i + k) := h.2.2 ha
theorem Good.all {L : Lv} {C : Ch} {st : Nat → Nat} (h4 : Four st) {n d i : Nat} {r : Rw} (h : Good L C st n d i r) {s : Nat} (hs : al r.t (sz d) = some s) : All st (i * sz d) (sz d) s := by
  obtain ⟨h1, h2⟩ := al_some hs
  exact all_of_tl h4 h1 (by rw [← h.fact.1]; exact h2)
/-- The row lies in a span. -/
def Ins (a b d i : Nat) : Prop := a ≤ i * sz d ∧ (i + 1) * sz d ≤ b
theorem kid_ins {d i k : Nat} (hd : d < 6) (h0 : fan d * i ≤ k) (h1 : k < fan d * (i + 1)) : Ins (i * sz d) ((i + 1) * sz d) (d + 1) k := by
  have e := sz_fan d hd
  unfold Ins
  rw [e]
  constructor
  · rw [← Nat.mul_assoc, Nat.mul_comm i]; exact Nat.mul_le_mul_right _ h0
  · rw [← Nat.mul_assoc, Nat.mul_comm (i + 1)]; exact Nat.mul_le_mul_right _ h1
/-- Both trees are the same below a depth, within a span. -/
structure Agree (D a b : Nat) (L L' : Lv) (C C' : Ch) (st st' : Nat → Nat) : Prop where
  lv : ∀ d i, D < d → Ins a b d i → L d i = L' d i
  ch : ∀ i, Ins a b 6 i → C i = C' i
  st : ∀ q, a ≤ q → q < b → st q = st' q
theorem Agree.sub {D a b : Nat} {L L' : Lv} {C C' : Ch} {st st' : Nat → Nat} (h : Agree D a b L L' C C' st st') {D' a' b' : Nat} (hD : D ≤ D') (ha : a ≤ a') (hb : b' ≤ b) : Agree D' a' b' L L' C C' st st' :=
  ⟨fun d i hd hi => h.lv d i (by omega) ⟨Nat.le_trans ha hi.1, Nat.le_trans hi.2 hb⟩, fun i hi => h.ch i ⟨Nat.le_trans ha hi.1, Nat.le_trans hi.2 hb⟩, fun q h1 h2 => h.st q (by omega) (by omega)⟩
theorem Fact.congr {st st' : Nat → Nat} {d i : Nat} {r : Rw} (h : Fact st d i r) (hs : ∀ q, i * sz d ≤ q → q < (i + 1) * sz d → st q = st' q) : Fact st' d i r := by
  have e : (i + 1) * sz d = i * sz d + sz d := Nat.succ_mul _ _
  refine ⟨h.1.trans (tl_congr fun q h1 h2 => hs q h1 (by omega)), fun hd => ?_, h.2.2⟩
  exact sumN_congr (h.2.1 hd) fun k hk => by unfold bsy fre; rw [hs _ (by omega) (by omega)]
theorem Good.congr {L L' : Lv} {C C' : Ch} {st st' : Nat → Nat} : ∀ {n d i : Nat} {r : Rw}, n + d = 6 → Good L C st n d i r → Agree d (i * sz d) ((i + 1) * sz d) L L' C C' st st' → Good L' C' st' n d i r
  | 0, d, i, r, hn, h, g => by
    obtain rfl : d = 6 := by omega
    have ec : C' i = C i := (g.ch i ⟨Nat.le_refl _, Nat.le_refl _⟩).symm
    refine ⟨h.1.congr g.st, fun s hs => ⟨(h.2.1 s hs).1, by rw [ec]; exact (h.2.1 s hs).2⟩, fun ha => ?_⟩
    obtain ⟨b, c, e1, e2⟩ := h.2.2 ha
    refine ⟨b, c, ec.trans e1, fun k hk => (e2 k hk).trans ?_⟩
    have e : sz 6 = 512 := rfl
    exact g.st _ (by rw [e]; omega) (by rw [e]; omega)
  | n + 1, d, i, r, hn, h, g => by
    have hk : ∀ k, k < fan d → L (d + 1) (fan d * i + k) = L' (d + 1) (fan d * i + k) := fun k hk => g.lv _ _ (by omega) (kid_ins (by omega) (by omega) (by rw [Nat.mul_succ]; omega))
    refine ⟨h.1.congr g.st, fun s hs => ⟨(h.2.1 s hs).1, fun k hk' => by rw [← hk k hk']; exact (h.2.1 s hs).2 k hk'⟩, fun k hk' => ?_⟩
    have := h.2.2 k hk'
    have e : row L (d + 1) (fan d * i + k) r.rest = row L' (d + 1) (fan d * i + k) r.rest := by unfold row; rw [hk k hk']
    rw [← e]
    have hi := kid_ins (d := d) (i := i) (k := fan d * i + k) (by omega) (by omega) (by rw [Nat.mul_succ]; omega)
    exact Good.congr (by omega) this (g.sub (by omega) hi.1 hi.2)
/-- Nothing is kept below a row. -/
def Bare (D a b : Nat) (L : Lv) (C : Ch) : Prop := (∀ d i, D < d → d ≤ 6 → Ins a b d i → L d i = none) ∧ ∀ i, Ins a b 6 i → C i = none
theorem Bare.sub {D a b : Nat} {L : Lv} {C : Ch} (h : Bare D a b L C) {D' a' b' : Nat} (hD : D ≤ D') (ha : a ≤ a') (hb : b' ≤ b) : Bare D' a' b' L C :=
  ⟨fun d i hd h6 hi => h.1 d i (by omega) h6 ⟨Nat.le_trans ha hi.1, Nat.le_trans hi.2 hb⟩, fun i hi => h.2 i ⟨Nat.le_trans ha hi.1, Nat.le_trans hi.2 hb⟩⟩
theorem even_fact {st : Nat → Nat} {d i s : Nat} (hs : s ≤ 3) (h : All st (i * sz d) (sz d) s) : Fact st d i (even d s) := ⟨h.tl.symm, fun _ => even_su h, hs⟩
theorem al_even {d s : Nat} (hs : s ≤ 3) : al (even d s).t (sz d) = some s := al_of (sz_pos d) hs
theorem All.sub {st : Nat → Nat} {a n s a' n' : Nat} (h : All st a n s) (h1 : a ≤ a') (h2 : a' + n' ≤ a + n) : All st a' n' s := fun q q1 q2 => h q (by omega) (by omega)
theorem Good.of_even {L : Lv} {C : Ch} {st : Nat → Nat} {s : Nat} (hs : s ≤ 3) : ∀ {n d i : Nat}, n + d = 6 → All st (i * sz d) (sz d) s → Bare d (i * sz d) ((i + 1) * sz d) L C → Good L C st n d i (Rx.even d s)
  | 0, d, i, hn, ha, hb => by
    obtain rfl : d = 6 := by omega
    refine ⟨even_fact hs ha, fun s' h' => ?_, fun h' => ?_⟩
    · rw [al_even hs] at h'
      cases h'
      exact ⟨rfl, hb.2 i ⟨Nat.le_refl _, Nat.le_refl _⟩⟩
    · rw [al_even hs] at h'; cases h'
  | n + 1, d, i, hn, ha, hb => by
    have hi : ∀ k, k < fan d → Ins (i * sz d) ((i + 1) * sz d) (d + 1) (fan d * i + k) := fun k hk => kid_ins (by omega) (by omega) (by rw [Nat.mul_succ]; omega)
    have hl : ∀ k, k < fan d → L (d + 1) (fan d * i + k) = none := fun k hk => hb.1 _ _ (by omega) (by omega) (hi k hk)
    refine ⟨even_fact hs ha, fun s' h' => ?_, fun k hk => ?_⟩
    · rw [al_even hs] at h'
      cases h'
      exact ⟨rfl, hl⟩
    · have e : row L (d + 1) (fan d * i + k) (Rx.even d s).rest = Rx.even (d + 1) s := by unfold row; rw [hl k hk]; rfl
      rw [e]
      have h2 := hi k hk
      have e1 : (i + 1) * sz d = i * sz d + sz d := Nat.succ_mul _ _
      have e2 : (fan d * i + k + 1) * sz (d + 1) = (fan d * i + k) * sz (d + 1) + sz (d + 1) := Nat.succ_mul _ _
      unfold Ins at h2
      exact Good.of_even hs (by omega) (ha.sub h2.1 (by omega)) (hb.sub (by omega) h2.1 h2.2)
/-- A row that is alike has nothing kept below it. -/
theorem Good.bare {L : Lv} {C : Ch} {st : Nat → Nat} : ∀ {n d i : Nat} {r : Rw}, n + d = 6 → Good L C st n d i r → ∀ {s}, al r.t (sz d) = some s → Bare d (i * sz d) ((i + 1) * sz d) L C
  | 0, d, i, r, hn, h, s, hs => by
    obtain rfl : d = 6 := by omega
    have e : sz 6 = 512 := rfl
    refine ⟨fun d' j hd h6 _ => by omega, fun j hj => ?_⟩
    unfold Ins at hj
    rw [e] at hj
    obtain rfl : j = i := by omega
    exact (h.2.1 s hs).2
  | n + 1, d, i, r, hn, h, s, hs => by
    obtain ⟨e0, hl⟩ := h.2.1 s hs
    have hs3 := (al_some hs).1
    have kb : ∀ k, k < fan d → Bare (d + 1) ((fan d * i + k) * sz (d + 1)) ((fan d * i + k + 1) * sz (d + 1)) L C := fun k hk => by
      have h1 := h.2.2 k hk
      have e : row L (d + 1) (fan d * i + k) r.rest = Rx.even (d + 1) s := by unfold row; rw [hl k hk, e0]; rfl
      rw [e] at h1
      exact Good.bare (by omega) h1 (al_even hs3)
    -- which child a row below lies in
    have hf : ∀ d' j, d < d' → d' ≤ 6 → Ins (i * sz d) ((i + 1) * sz d) d' j → ∃ k, k < fan d ∧ Ins ((fan d * i + k) * sz (d + 1)) ((fan d * i + k + 1) * sz (d + 1)) d' j := fun d' j hd h6 hj => by
      obtain ⟨m, hm⟩ : ∃ m, sz (d + 1) = m * sz d' := by
        have : ∀ x y, x ≤ 6 → y ≤ 6 → x ≤ y → ∃ m, sz x = m * sz y := fun x y hx hy => by
          have hx' := sz_pow x hx
          have hy' := sz_pow y hy
          intro hxy
          have hsh : sh y ≤ sh x := by
            have : ∀ x, x ≤ 6 → ∀ y, y ≤ 6 → x ≤ y → sh y ≤ sh x := by decide
            exact this x hx y hy hxy
          exact ⟨2 ^ (sh x - sh y), by rw [hx', hy', ← Nat.pow_add]; congr 1; omega⟩
        exact this (d + 1) d' (by omega) h6 (by omega)
      have mp : 0 < m := by
        rcases Nat.eq_zero_or_pos m with z | z
        · rw [z, Nat.zero_mul] at hm; have := sz_pos (d + 1); omega
        · exact z
      have zp := sz_pos d'
      have e1 := sz_fan d (by omega)
      unfold Ins at hj ⊢
      rw [e1, hm] at hj
      rw [hm]
      have a1 : i * (fan d * m) ≤ j := by
        have := hj.1
        rw [show i * (fan d * (m * sz d')) = i * (fan d * m) * sz d' by simp only [Nat.mul_assoc]] at this
        exact Nat.le_of_mul_le_mul_right this zp
      have a2 : j + 1 ≤ (i + 1) * (fan d * m) := by
        have := hj.2
        rw [show (i + 1) * (fan d * (m * sz d')) = (i + 1) * (fan d * m) * sz d' by simp only [Nat.mul_assoc]] at this
        exact Nat.le_of_mul_le_mul_right this zp
      have q0 : fan d * i ≤ j / m := (Nat.le_div_iff_mul_le mp).2 (by rw [show fan d * i * m = i * (fan d * m) by rw [Nat.mul_comm (fan d), Nat.mul_assoc]]; exact a1)
      have q1 : j / m < fan d * i + fan d := by
        rw [Nat.div_lt_iff_lt_mul mp]
        rw [show (fan d * i + fan d) * m = (i + 1) * (fan d * m) by rw [← Nat.mul_succ, Nat.mul_comm (fan d), Nat.mul_assoc]]
        omega
      refine ⟨j / m - fan d * i, by omega, ?_⟩
      rw [show fan d * i + (j / m - fan d * i) = j / m by omega]
      constructor
      · rw [← Nat.mul_assoc]; exact Nat.mul_le_mul_right _ (Nat.div_mul_le_self j m)
      · rw [← Nat.mul_assoc]; exact Nat.mul_le_mul_right _ (by
          have := Nat.lt_div_mul_add (a := j) mp
          rw [Nat.succ_mul]; omega)
    refine ⟨fun d' j hd h6 hj => ?_, fun j hj => ?_⟩
    · obtain ⟨k, k1, k2⟩ := hf d' j hd h6 hj
      by_cases z : d' = d + 1
      · subst z
        have zp := sz_pos (d + 1)
        unfold Ins at k2
        have b1 := Nat.le_of_mul_le_mul_right k2.1 zp
        have b2 := Nat.le_of_mul_le_mul_right k2.2 zp
        have : j = fan d * i + k := by omega
        rw [this]; exact hl k k1
      · exact (kb k k1).1 d' j (by omega) h6 k2
    · obtain ⟨k, k1, k2⟩ := hf 6 j (by omega) (by omega) hj
      exact (kb k k1).2 j k2
end Go.Proofs.Rx
