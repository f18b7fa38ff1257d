/- The tree of rows: what lies below a row is forgotten; rows that are set: no Go in sight. -/
import Derived.Test.YtnclicdnncgdiaaDoorXp
namespace Go.Proofs.Rx
open Go.Proofs.Bt Go.Proofs.Pk
set_option linter.unusedVariables false
set_option linter.unusedSimpArgs false

theorem sz_dvd {x y : Nat} (hx : x ≤ 6) (hy : y ≤ 6) (hxy : x ≤ y) : ∃ m, sz x = m * sz y := by
  have hx' := sz_pow x hx
  have hy' := sz_pow y hy
  have hsh : sh y ≤ sh x := by
    have : ∀ x, x ≤ 6 → ∀ y, y ≤ 6 → x ≤ y → sh y ≤ sh x := by decide
    exact this x hx y hy hxy
  exact ⟨2 ^ (sh x - sh y), by rw [hx', hy', ← Nat.pow_add]; congr 1; omega⟩
/-- Which child a row below lies in. -/
theorem kid_of {d i d' j : Nat} (hd : d < d') (h6 : d' ≤ 6) (hj : Ins (i * sz d) ((i + 1) * sz d) d' j) : ∃ k, fan d * i ≤ k ∧ k < fan d * (i + 1) ∧ Ins (k * sz (d + 1)) ((k + 1) * sz (d + 1)) d' j := by
  obtain ⟨m, hm⟩ := sz_dvd (x := d + 1) (y := d') (by omega) h6 (by omega)
  have mp : 0 < m := by
    rcases Nat.eq_zero_or_pos m with z | z
    · rw [z, Nat.zero_mul] at hm; have := sz_pos (d + 1); omega
    · exact z
  have zp := sz_pos d'
  have e1 := sz_fan d (by omega)
  unfold Ins at hj ⊢
  rw [e1, hm] at hj
  rw [hm]
  have a1 : i * (fan d * m) ≤ j := by
    have := hj.1
    rw [show i * (fan d * (m * sz d')) = i * (fan d * m) * sz d' by simp only [Nat.mul_assoc]] at this
    exact Nat.le_of_mul_le_mul_right this zp
  have a2 : j + 1 ≤ (i + 1) * (fan d * m) := by
    have := hj.2
    rw [show (i + 1) * (fan d * (m * sz d')) = (i + 1) * (fan d * m) * sz d' by simp only [Nat.mul_assoc]] at this
    exact Nat.le_of_mul_le_mul_right this zp
  refine ⟨j / m, (Nat.le_div_iff_mul_le mp).2 (by rw [show fan d * i * m = i * (fan d * m) by rw [Nat.mul_comm (fan d), Nat.mul_assoc]]; exact a1), ?_, ?_, ?_⟩
  · rw [Nat.div_lt_iff_lt_mul mp, show fan d * (i + 1) * m = (i + 1) * (fan d * m) by rw [Nat.mul_comm (fan d), Nat.mul_assoc]]
    omega
  · rw [← Nat.mul_assoc]; exact Nat.mul_le_mul_right _ (Nat.div_mul_le_self j m)
  · rw [← Nat.mul_assoc]; exact Nat.mul_le_mul_right _ (by
      have := Nat.lt_div_mul_add (a := j) mp
      rw [Nat.succ_mul]; omega)
/-- Two rows of a depth are apart. -/
theorem ins_apart {D j k d' x : Nat} (h1 : Ins (j * sz D) ((j + 1) * sz D) d' x) (h2 : Ins (k * sz D) ((k + 1) * sz D) d' x) : j = k := by
  unfold Ins at h1 h2
  have zp := sz_pos d'
  have e : (x + 1) * sz d' = x * sz d' + sz d' := Nat.succ_mul _ _
  have a1 : j * sz D < (k + 1) * sz D := by omega
  have a2 : k * sz D < (j + 1) * sz D := by omega
  have b1 := Nat.lt_of_mul_lt_mul_right a1
  have b2 := Nat.lt_of_mul_lt_mul_right a2
  omega
theorem ins_self {d j k : Nat} (h : Ins (k * sz d) ((k + 1) * sz d) d j) : j = k := by
  unfold Ins at h
  have zp := sz_pos d
  have b1 := Nat.le_of_mul_le_mul_right h.1 zp
  have b2 := Nat.le_of_mul_le_mul_right h.2 zp
  omega
/-- Nothing but what lies below a depth, within a span, is otherwise. -/
structure Outs (D a b : Nat) (L L' : Lv) (C C' : Ch) : Prop where
  lv : ∀ d i, ¬ (D < d ∧ d ≤ 6 ∧ Ins a b d i) → L' d i = L d i
  ch : ∀ i, ¬ Ins a b 6 i → C' i = C i
theorem Outs.refl (D a b : Nat) (L : Lv) (C : Ch) : Outs D a b L L C C := ⟨fun _ _ _ => rfl, fun _ _ => rfl⟩
theorem Outs.trans {D a b : Nat} {L L' L'' : Lv} {C C' C'' : Ch} (h : Outs D a b L L' C C') (k : Outs D a b L' L'' C' C'') : Outs D a b L L'' C C'' :=
  ⟨fun d i z => (k.lv d i z).trans (h.lv d i z), fun i z => (k.ch i z).trans (h.ch i z)⟩
theorem Outs.wide {D a b D' a' b' : Nat} {L L' : Lv} {C C' : Ch} (h : Outs D a b L L' C C') (hD : D' ≤ D) (ha : a' ≤ a) (hb : b ≤ b') : Outs D' a' b' L L' C C' :=
  ⟨fun d i z => h.lv d i (fun y => z ⟨by omega, y.2.1, Nat.le_trans ha y.2.2.1, Nat.le_trans y.2.2.2 hb⟩), fun i z => h.ch i (fun y => z ⟨Nat.le_trans ha y.1, Nat.le_trans y.2 hb⟩)⟩
/-- Below a row that is not kept nothing is. -/
def Hang (L : Lv) (C : Ch) : Nat → Nat → Nat → Prop
  | 0, _, _ => True
  | n + 1, d, i => ∀ k, fan d * i ≤ k → k < fan d * (i + 1) → (L (d + 1) k = none → Bare (d + 1) (k * sz (d + 1)) ((k + 1) * sz (d + 1)) L C) ∧ Hang L C n (d + 1) k
theorem Good.hang {L : Lv} {C : Ch} {st : Nat → Nat} : ∀ {n d i : Nat} {r : Rw}, n + d = 6 → Good L C st n d i r → Hang L C n d i
  | 0, d, i, r, _, _ => trivial
  | n + 1, d, i, r, hn, h => fun k h0 h1 => by
    have g := h.kid h0 h1
    refine ⟨fun z => ?_, Good.hang (by omega) g⟩
    have e : row L (d + 1) k r.rest = Rx.even (d + 1) r.rest := by unfold row; rw [z]; rfl
    rw [e] at g
    exact Good.bare (by omega) g (al_even h.1.2.2)
theorem Hang.congr {L L' : Lv} {C C' : Ch} : ∀ {n d i : Nat}, n + d = 6 → Hang L C n d i → (∀ d' j, d < d' → Ins (i * sz d) ((i + 1) * sz d) d' j → L' d' j = L d' j) → (∀ j, Ins (i * sz d) ((i + 1) * sz d) 6 j → C' j = C j) → Hang L' C' n d i
  | 0, d, i, _, _, _, _ => trivial
  | n + 1, d, i, hn, h, hl, hc => fun k h0 h1 => by
    obtain ⟨g1, g2⟩ := h k h0 h1
    have hi := kid_ins (by omega) h0 h1
    have sub : ∀ {d' j}, Ins (k * sz (d + 1)) ((k + 1) * sz (d + 1)) d' j → Ins (i * sz d) ((i + 1) * sz d) d' j := fun z => ⟨Nat.le_trans hi.1 z.1, Nat.le_trans z.2 hi.2⟩
    refine ⟨fun z => ?_, Hang.congr (by omega) g2 (fun d' j hd hj => hl d' j (by omega) (sub hj)) (fun j hj => hc j (sub hj))⟩
    rw [hl (d + 1) k (by omega) hi] at z
    exact ⟨fun d' j hd h6 hj => (hl d' j (by omega) (sub hj)).trans ((g1 z).1 d' j hd h6 hj), fun j hj => (hc j (sub hj)).trans ((g1 z).2 j hj)⟩
theorem Bare.congr {D a b : Nat} {L L' : Lv} {C C' : Ch} (h : Bare D a b L C) (hl : ∀ d j, D < d → Ins a b d j → L' d j = L d j) (hc : ∀ j, Ins a b 6 j → C' j = C j) : Bare D a b L' C' :=
  ⟨fun d j hd h6 hj => (hl d j hd hj).trans (h.1 d j hd h6 hj), fun j hj => (hc j hj).trans (h.2 j hj)⟩
/-- All children are bare, and none is kept: the row is bare. -/
theorem bare_of_kids {L : Lv} {C : Ch} {d i : Nat} (hd : d < 6) (h : ∀ k, fan d * i ≤ k → k < fan d * (i + 1) → L (d + 1) k = none ∧ Bare (d + 1) (k * sz (d + 1)) ((k + 1) * sz (d + 1)) L C) : Bare d (i * sz d) ((i + 1) * sz d) L C := by
  refine ⟨fun d' j hd' h6 hj => ?_, fun j hj => ?_⟩
  · obtain ⟨k, k0, k1, k2⟩ := kid_of hd' h6 hj
    by_cases z : d' = d + 1
    · subst z
      rw [ins_self k2]; exact (h k k0 k1).1
    · exact (h k k0 k1).2.1 d' j (by omega) h6 k2
  · obtain ⟨k, k0, k1, k2⟩ := kid_of (d' := 6) (by omega) (by omega) hj
    exact (h k k0 k1).2.2 j k2
end Go.Proofs.Rx
