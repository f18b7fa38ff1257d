/- Forgetting what lies below a row, child by child: no Go in sight. -/
import Derived.Test.YtnclicdnncgdiaaDoorXq
namespace Go.Proofs.Rx
open Go.Proofs.Bt Go.Proofs.Pk
set_option linter.unusedVariables false
set_option linter.unusedSimpArgs false

/-- The first k children are forgotten, the others are as they were. -/
structure FInv (L : Lv) (C : Ch) (d i k : Nat) (L' : Lv) (C' : Ch) : Prop where
  outs : Outs d (i * sz d) ((i + 1) * sz d) L L' C C'
  done : ∀ j, fan d * i ≤ j → j < fan d * i + k → L' (d + 1) j = none ∧ Bare (d + 1) (j * sz (d + 1)) ((j + 1) * sz (d + 1)) L' C'
  rest : ∀ j, fan d * i + k ≤ j → j < fan d * (i + 1) → (∀ d' x, d < d' → Ins (j * sz (d + 1)) ((j + 1) * sz (d + 1)) d' x → L' d' x = L d' x) ∧ ∀ x, Ins (j * sz (d + 1)) ((j + 1) * sz (d + 1)) 6 x → C' x = C x
  sub : ∀ x y, C' x = some y → C x = some y
theorem FInv.zero (L : Lv) (C : Ch) (d i : Nat) : FInv L C d i 0 L C := ⟨Outs.refl _ _ _ _ _, fun j h1 h2 => by omega, fun j _ _ => ⟨fun _ _ _ _ => rfl, fun _ _ => rfl⟩, fun _ _ h => h⟩
theorem FInv.step {L L' L2 : Lv} {C C' C2 : Ch} {d i k : Nat} (hd : d < 6) (h : FInv L C d i k L' C') (hk : k < fan d) (hn : L2 (d + 1) (fan d * i + k) = none) (hb : Bare (d + 1) ((fan d * i + k) * sz (d + 1)) ((fan d * i + k + 1) * sz (d + 1)) L2 C2)
    (hl : ∀ d' x, ¬ (d < d' ∧ d' ≤ 6 ∧ Ins ((fan d * i + k) * sz (d + 1)) ((fan d * i + k + 1) * sz (d + 1)) d' x) → L2 d' x = L' d' x) (hc : ∀ x, ¬ Ins ((fan d * i + k) * sz (d + 1)) ((fan d * i + k + 1) * sz (d + 1)) 6 x → C2 x = C' x) (hs : ∀ x y, C2 x = some y → C' x = some y) : FInv L C d i (k + 1) L2 C2 := by
  have hi := kid_ins (d := d) (i := i) (k := fan d * i + k) hd (by omega) (by rw [Nat.mul_succ]; omega)
  have far : ∀ {j d' x}, j ≠ fan d * i + k → Ins (j * sz (d + 1)) ((j + 1) * sz (d + 1)) d' x → ¬ Ins ((fan d * i + k) * sz (d + 1)) ((fan d * i + k + 1) * sz (d + 1)) d' x := fun hne h1 h2 => hne (ins_apart h1 h2)
  refine ⟨⟨fun d' x z => (hl d' x (fun y => z ⟨y.1, y.2.1, Nat.le_trans hi.1 y.2.2.1, Nat.le_trans y.2.2.2 hi.2⟩)).trans (h.outs.lv d' x z), fun x z => (hc x (fun y => z ⟨Nat.le_trans hi.1 y.1, Nat.le_trans y.2 hi.2⟩)).trans (h.outs.ch x z)⟩, fun j h1 h2 => ?_, fun j h1 h2 => ?_, fun x y z => h.sub x y (hs x y z)⟩
  · by_cases e : j = fan d * i + k
    · rw [e]; exact ⟨hn, hb⟩
    · obtain ⟨g1, g2⟩ := h.done j h1 (by omega)
      refine ⟨(hl (d + 1) j (fun y => far e ⟨Nat.le_refl _, Nat.le_refl _⟩ y.2.2)).trans g1, g2.congr (fun d' x _ hx => hl d' x (fun y => far e hx y.2.2)) (fun x hx => hc x (far e hx))⟩
  · have e : j ≠ fan d * i + k := by omega
    obtain ⟨g1, g2⟩ := h.rest j (by omega) h2
    exact ⟨fun d' x hd' hx => (hl d' x (fun y => far e hx y.2.2)).trans (g1 d' x hd' hx), fun x hx => (hc x (far e hx)).trans (g2 x hx)⟩
theorem FInv.bare {L L' : Lv} {C C' : Ch} {d i : Nat} (hd : d < 6) (h : FInv L C d i (fan d) L' C') : Bare d (i * sz d) ((i + 1) * sz d) L' C' :=
  bare_of_kids hd fun k h0 h1 => h.done k h0 (by rw [Nat.mul_succ] at h1; omega)
end Go.Proofs.Rx
