/- Where so many free pages in a row begin first: rows looked through one by one: no Go in sight. -/
import Derived.Test.YtnpimmjkmclkpaaDoorXq
namespace Go.Proofs.Rx
open Go.Proofs.Bt Go.Proofs.Pk
set_option linter.unusedVariables false

/-- n free pages in a row begin there. -/
def Run (st : Nat → Nat) (p n : Nat) : Prop := ∀ q, p ≤ q → q < p + n → 2 ≤ st q
/-- .. and nowhere earlier. -/
def First (st : Nat → Nat) (n p : Nat) : Prop := Run st p n ∧ ∀ p', p' < p → ¬ Run st p' n
theorem Run.sub {st : Nat → Nat} {p n p' n' : Nat} (h : Run st p n) (h1 : p ≤ p') (h2 : p' + n' ≤ p + n) : Run st p' n' := fun q q1 q2 => h q (by omega) (by omega)
theorem run_clr {st : Nat → Nat} {a k m : Nat} : Run st (a + k) m ↔ Clr (bsy st a) k m := by
  constructor
  · intro h j hj
    have := h (a + (k + j)) (by omega) (by omega)
    unfold bsy fre
    simp [this]
  · intro h q q1 q2
    have := h (q - a - k) (by omega)
    rw [show k + (q - a - k) = q - a by omega] at this
    unfold bsy fre at this
    rw [show a + (q - a) = q by omega] at this
    simpa using this
/-- Rows from A on are looked through up to K: behind 'begin' all is free, no row of n begins ahead of it. -/
structure Look (st : Nat → Nat) (n A K b : Nat) : Prop where
  ab : A ≤ b
  bk : b ≤ K
  free : Run st b (K - b)
  none : ∀ p, p < b → ¬ Run st p n
  few : K - b < n
theorem Look.zero {st : Nat → Nat} {n A : Nat} (hn : 1 ≤ n) (h : ∀ p, p < A → ¬ Run st p n) : Look st n A A A :=
  ⟨Nat.le_refl _, Nat.le_refl _, fun q q1 q2 => by omega, h, by omega⟩
section
variable {st : Nat → Nat} {n A K b z : Nat} {r : Rw}
/-- There is room with what the row begins with. -/
theorem Look.hit (h : Look st n A K b) (hr : Su st K z r) (hh : n ≤ K + r.s - b) : First st n b := by
  refine ⟨fun q q1 q2 => ?_, h.none⟩
  have h1 := h.bk
  rcases Nat.lt_or_ge q K with y | y
  · exact h.free q q1 (by omega)
  · have h2 : Run st (K + 0) r.s := run_clr.2 hr.sc
    exact h2 q (by omega) (by omega)
/-- Not all of the row is free, and its longest free part is too short: on to the next. -/
theorem Look.past (h : Look st n A K b) (hr : Su st K z r) (hz : 0 < z) (h1 : ¬ n ≤ K + r.s - b) (h2 : ¬ n ≤ r.m) (h3 : r.s < z) : Look st n A (K + z) (K + z - r.e) := by
  have se := hr.sl
  have ee := hr.el
  have eS : ¬ 2 ≤ st (K + r.s) := fun y => by
    have := hr.ss h3
    unfold bsy fre at this
    simp [y] at this
  have e3 : r.e < z := by
    rcases Nat.lt_or_ge r.e z with y | y
    · exact y
    · have := (SumN.all hr).2 (by omega); omega
  have eE : ¬ 2 ≤ st (K + (z - 1 - r.e)) := fun y => by
    have := hr.es e3
    unfold bsy fre at this
    simp [y] at this
  have hb := h.bk
  have ha := h.ab
  refine ⟨by omega, by omega, ?_, fun p hp hR => ?_, ?_⟩
  · have h4 : Run st (K + (z - r.e)) r.e := run_clr.2 hr.ec
    rw [show K + z - r.e = K + (z - r.e) by omega, show K + z - (K + (z - r.e)) = r.e by omega]
    exact h4
  · rcases Nat.lt_or_ge p b with y | y
    · exact h.none p y hR
    · rcases Nat.lt_or_ge p K with y2 | y2
      · exact eS (hR _ (by omega) (by omega))
      · rcases Nat.lt_or_ge (K + z) (p + n) with y3 | y3
        · exact eE (hR _ (by omega) (by omega))
        · have h5 : Clr (bsy st K) (p - K) n := run_clr.1 (by rw [show K + (p - K) = p by omega]; exact hR)
          have := hr.le (by omega) h5
          omega
  · have h6 := hr.le (c := z - r.e) (by omega) hr.ec
    omega
/-- All of the row is free, and it is still too short. -/
theorem Look.whole (h : Look st n A K b) (hr : Su st K z r) (h1 : ¬ n ≤ K + r.s - b) (h3 : r.s = z) : Look st n A (K + z) b := by
  have hb := h.bk
  have ha := h.ab
  refine ⟨ha, by omega, fun q q1 q2 => ?_, h.none, by omega⟩
  rcases Nat.lt_or_ge q K with y | y
  · exact h.free q q1 (by omega)
  · have h2 : Run st (K + 0) r.s := run_clr.2 hr.sc
    exact h2 q (by omega) (by omega)
/-- There is room within the row, and not with what it begins with: down. -/
theorem Look.into (h : Look st n A K b) (hr : Su st K z r) (h1 : ¬ n ≤ K + r.s - b) (h2 : n ≤ r.m) : (∀ p, p < K → ¬ Run st p n) ∧ (∃ c, K ≤ c ∧ c + n ≤ K + z ∧ Run st c n) ∧ r.s < z ∧ r.s < n := by
  have hb := h.bk
  obtain ⟨c, c1, c2⟩ := hr.mx
  have hm : r.m ≤ z := by omega
  have sl := hr.sl
  have h3 : r.s < z := by omega
  have eS : ¬ 2 ≤ st (K + r.s) := fun y => by
    have := hr.ss h3
    unfold bsy fre at this
    simp [y] at this
  refine ⟨fun p hp hR => ?_, ⟨K + c, by omega, by omega, run_clr.2 (Clr.sub c2 (Nat.le_refl _) (by omega))⟩, h3, by omega⟩
  rcases Nat.lt_or_ge p b with y | y
  · exact h.none p y hR
  · exact eS (hR _ (by omega) (by omega))
/-- Looked through to the end, in vain: then there is none at all within. -/
theorem Look.vain (h : Look st n A K b) {c : Nat} (hc : Run st c n) (hK : c + n ≤ K) : False := by
  rcases Nat.lt_or_ge c b with y | y
  · exact h.none c y hc
  · have := h.few; omega
end
end Go.Proofs.Rx
