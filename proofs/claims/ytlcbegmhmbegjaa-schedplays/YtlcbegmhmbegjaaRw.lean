/- The reference: a list of its own is another one now. -/
import Derived.Test.YtlcbegmhmbegjaaRv
import Derived.Test.YtlcbegmhmbegjaaGo
namespace Go.Proofs.Ytlcbegmhmbegjaa
open Go.ChangeShapes Go.WideShapes Go.ChangeAt Go.RowKit Go.Proofs.Sc Go.Maps
set_option linter.unusedVariables false
set_option linter.unusedSimpArgs false

variable {w w' : World} {b : Nat} {r : Rs} {v0 v1 v2 v3 v4 : Value} {vs : List Value} {T : Nat → Prop} {K : Nat → Nat}
theorem ne_of_kind {K : Nat → Nat} {v : Value} {k x j : Nat} (h : ∀ x, v.ownBlock = some x → K x = k) (hx : K x = j) (hj : j ≠ k) : v.ownBlock ≠ some x := fun e => hj (hx.symm.trans (h x e))
/-- Field 1. -/
theorem RL.put1 (h : RL w b r v0 v1 v2 v3 v4 vs T K) {W : World} {v : Value} {l : List Nat} (hs : w.heap.size ≤ W.heap.size)
    (hk : ∀ x, x < w.heap.size → v1.ownBlock ≠ some x → x ≠ b → W.heap[x]? = w.heap[x]?) (hc : ∀ j, j ≠ 1 → W.cell? ⟨b, j, none⟩ = w.cell? ⟨b, j, none⟩) (hck : W.cell? ⟨b, 1, none⟩ = some v) (hfz : ∀ j, W.frozen? ⟨b, j, none⟩ = false)
    (ho : W.ownsRow 0 3 1 v l.length (nats l)) (hb : ∀ g, v.ownBlock = some g → v1.ownBlock = some g ∨ w.heap.size ≤ g) :
    RL W b { r with at_ := l } v0 v v2 v3 v4 vs T (fun x => if v.ownBlock = some x then 1 else K x) := by
  have hbl : b < w.heap.size := h.lt (Or.inl rfl)
  have kf : ∀ x, x < w.heap.size → K x ≠ 1 → (if v.ownBlock = some x then 1 else K x) = K x := fun x hx hn => if_neg fun e => by
    rcases hb x e with z | z
    · exact hn (h.k1 x z)
    · omega
  refine ⟨(hc 0 (by decide)).trans h.c0, hck, (hc 2 (by decide)).trans h.c2, (hc 3 (by decide)).trans h.c3, (hc 4 (by decide)).trans h.c4, (hc 5 (by decide)).trans h.c5, hfz, owns_kept h.tasks (fun x e => hk x (h.lt (by unfold RFoot; simp [e])) (ne_of_kind h.k1 (h.k0 x e) (by decide)) (fun z => by subst z; have := h.kb.symm.trans (h.k0 x e); omega)), fun i t hi => ?_, ho, owns_kept h.locks (fun x e => hk x (h.lt (by unfold RFoot; simp [e])) (ne_of_kind h.k1 (h.k2 x e) (by decide)) (fun z => by subst z; have := h.kb.symm.trans (h.k2 x e); omega)), owns_kept h.cells (fun x e => hk x (h.lt (by unfold RFoot; simp [e])) (ne_of_kind h.k1 (h.k3 x e) (by decide)) (fun z => by subst z; have := h.kb.symm.trans (h.k3 x e); omega)), owns_kept h.said (fun x e => hk x (h.lt (by unfold RFoot; simp [e])) (ne_of_kind h.k1 (h.k4 x e) (by decide)) (fun z => by subst z; have := h.kb.symm.trans (h.k4 x e); omega)), fun x hx => by have := h.tlt x hx; omega, (kf b hbl (by rw [h.kb]; decide)).trans h.kb, fun x e => (kf x (h.lt (by unfold RFoot; simp [e])) (by rw [h.k0 x e]; decide)).trans (h.k0 x e), fun x e => if_pos e, fun x e => (kf x (h.lt (by unfold RFoot; simp [e])) (by rw [h.k2 x e]; decide)).trans (h.k2 x e), fun x e => (kf x (h.lt (by unfold RFoot; simp [e])) (by rw [h.k3 x e]; decide)).trans (h.k3 x e), fun x e => (kf x (h.lt (by unfold RFoot; simp [e])) (by rw [h.k4 x e]; decide)).trans (h.k4 x e), fun x hx => (kf x (h.tlt x hx) (by rw [h.kt x hx]; decide)).trans (h.kt x hx)⟩
  obtain ⟨u, e1, e2⟩ := h.els i t hi
  exact ⟨u, e1, e2.kept hs (fun x hx _ => hk x (h.tlt x hx) (ne_of_kind h.k1 (h.kt x hx) (by decide)) (fun z => by subst z; have := h.kb.symm.trans (h.kt x hx); omega))⟩
/-- Field 2. -/
theorem RL.put2 (h : RL w b r v0 v1 v2 v3 v4 vs T K) {W : World} {v : Value} {l : List Pr} (hs : w.heap.size ≤ W.heap.size)
    (hk : ∀ x, x < w.heap.size → v2.ownBlock ≠ some x → x ≠ b → W.heap[x]? = w.heap[x]?) (hc : ∀ j, j ≠ 2 → W.cell? ⟨b, j, none⟩ = w.cell? ⟨b, j, none⟩) (hck : W.cell? ⟨b, 2, none⟩ = some v) (hfz : ∀ j, W.frozen? ⟨b, j, none⟩ = false)
    (ho : W.ownsRow 0 66 2 v l.length (pcells l)) (hb : ∀ g, v.ownBlock = some g → v2.ownBlock = some g ∨ w.heap.size ≤ g) :
    RL W b { r with locks := l } v0 v1 v v3 v4 vs T (fun x => if v.ownBlock = some x then 2 else K x) := by
  have hbl : b < w.heap.size := h.lt (Or.inl rfl)
  have kf : ∀ x, x < w.heap.size → K x ≠ 2 → (if v.ownBlock = some x then 2 else K x) = K x := fun x hx hn => if_neg fun e => by
    rcases hb x e with z | z
    · exact hn (h.k2 x z)
    · omega
  refine ⟨(hc 0 (by decide)).trans h.c0, (hc 1 (by decide)).trans h.c1, hck, (hc 3 (by decide)).trans h.c3, (hc 4 (by decide)).trans h.c4, (hc 5 (by decide)).trans h.c5, hfz, owns_kept h.tasks (fun x e => hk x (h.lt (by unfold RFoot; simp [e])) (ne_of_kind h.k2 (h.k0 x e) (by decide)) (fun z => by subst z; have := h.kb.symm.trans (h.k0 x e); omega)), fun i t hi => ?_, owns_kept h.ats (fun x e => hk x (h.lt (by unfold RFoot; simp [e])) (ne_of_kind h.k2 (h.k1 x e) (by decide)) (fun z => by subst z; have := h.kb.symm.trans (h.k1 x e); omega)), ho, owns_kept h.cells (fun x e => hk x (h.lt (by unfold RFoot; simp [e])) (ne_of_kind h.k2 (h.k3 x e) (by decide)) (fun z => by subst z; have := h.kb.symm.trans (h.k3 x e); omega)), owns_kept h.said (fun x e => hk x (h.lt (by unfold RFoot; simp [e])) (ne_of_kind h.k2 (h.k4 x e) (by decide)) (fun z => by subst z; have := h.kb.symm.trans (h.k4 x e); omega)), fun x hx => by have := h.tlt x hx; omega, (kf b hbl (by rw [h.kb]; decide)).trans h.kb, fun x e => (kf x (h.lt (by unfold RFoot; simp [e])) (by rw [h.k0 x e]; decide)).trans (h.k0 x e), fun x e => (kf x (h.lt (by unfold RFoot; simp [e])) (by rw [h.k1 x e]; decide)).trans (h.k1 x e), fun x e => if_pos e, fun x e => (kf x (h.lt (by unfold RFoot; simp [e])) (by rw [h.k3 x e]; decide)).trans (h.k3 x e), fun x e => (kf x (h.lt (by unfold RFoot; simp [e])) (by rw [h.k4 x e]; decide)).trans (h.k4 x e), fun x hx => (kf x (h.tlt x hx) (by rw [h.kt x hx]; decide)).trans (h.kt x hx)⟩
  obtain ⟨u, e1, e2⟩ := h.els i t hi
  exact ⟨u, e1, e2.kept hs (fun x hx _ => hk x (h.tlt x hx) (ne_of_kind h.k2 (h.kt x hx) (by decide)) (fun z => by subst z; have := h.kb.symm.trans (h.kt x hx); omega))⟩
/-- Field 3. -/
theorem RL.put3 (h : RL w b r v0 v1 v2 v3 v4 vs T K) {W : World} {v : Value} {l : List Pr} (hs : w.heap.size ≤ W.heap.size)
    (hk : ∀ x, x < w.heap.size → v3.ownBlock ≠ some x → x ≠ b → W.heap[x]? = w.heap[x]?) (hc : ∀ j, j ≠ 3 → W.cell? ⟨b, j, none⟩ = w.cell? ⟨b, j, none⟩) (hck : W.cell? ⟨b, 3, none⟩ = some v) (hfz : ∀ j, W.frozen? ⟨b, j, none⟩ = false)
    (ho : W.ownsRow 0 66 2 v l.length (pcells l)) (hb : ∀ g, v.ownBlock = some g → v3.ownBlock = some g ∨ w.heap.size ≤ g) :
    RL W b { r with cells := l } v0 v1 v2 v v4 vs T (fun x => if v.ownBlock = some x then 3 else K x) := by
  have hbl : b < w.heap.size := h.lt (Or.inl rfl)
  have kf : ∀ x, x < w.heap.size → K x ≠ 3 → (if v.ownBlock = some x then 3 else K x) = K x := fun x hx hn => if_neg fun e => by
    rcases hb x e with z | z
    · exact hn (h.k3 x z)
    · omega
  refine ⟨(hc 0 (by decide)).trans h.c0, (hc 1 (by decide)).trans h.c1, (hc 2 (by decide)).trans h.c2, hck, (hc 4 (by decide)).trans h.c4, (hc 5 (by decide)).trans h.c5, hfz, owns_kept h.tasks (fun x e => hk x (h.lt (by unfold RFoot; simp [e])) (ne_of_kind h.k3 (h.k0 x e) (by decide)) (fun z => by subst z; have := h.kb.symm.trans (h.k0 x e); omega)), fun i t hi => ?_, owns_kept h.ats (fun x e => hk x (h.lt (by unfold RFoot; simp [e])) (ne_of_kind h.k3 (h.k1 x e) (by decide)) (fun z => by subst z; have := h.kb.symm.trans (h.k1 x e); omega)), owns_kept h.locks (fun x e => hk x (h.lt (by unfold RFoot; simp [e])) (ne_of_kind h.k3 (h.k2 x e) (by decide)) (fun z => by subst z; have := h.kb.symm.trans (h.k2 x e); omega)), ho, owns_kept h.said (fun x e => hk x (h.lt (by unfold RFoot; simp [e])) (ne_of_kind h.k3 (h.k4 x e) (by decide)) (fun z => by subst z; have := h.kb.symm.trans (h.k4 x e); omega)), fun x hx => by have := h.tlt x hx; omega, (kf b hbl (by rw [h.kb]; decide)).trans h.kb, fun x e => (kf x (h.lt (by unfold RFoot; simp [e])) (by rw [h.k0 x e]; decide)).trans (h.k0 x e), fun x e => (kf x (h.lt (by unfold RFoot; simp [e])) (by rw [h.k1 x e]; decide)).trans (h.k1 x e), fun x e => (kf x (h.lt (by unfold RFoot; simp [e])) (by rw [h.k2 x e]; decide)).trans (h.k2 x e), fun x e => if_pos e, fun x e => (kf x (h.lt (by unfold RFoot; simp [e])) (by rw [h.k4 x e]; decide)).trans (h.k4 x e), fun x hx => (kf x (h.tlt x hx) (by rw [h.kt x hx]; decide)).trans (h.kt x hx)⟩
  obtain ⟨u, e1, e2⟩ := h.els i t hi
  exact ⟨u, e1, e2.kept hs (fun x hx _ => hk x (h.tlt x hx) (ne_of_kind h.k3 (h.kt x hx) (by decide)) (fun z => by subst z; have := h.kb.symm.trans (h.kt x hx); omega))⟩
/-- Field 4. -/
theorem RL.put4 (h : RL w b r v0 v1 v2 v3 v4 vs T K) {W : World} {v : Value} {l : List Int} (hs : w.heap.size ≤ W.heap.size)
    (hk : ∀ x, x < w.heap.size → v4.ownBlock ≠ some x → x ≠ b → W.heap[x]? = w.heap[x]?) (hc : ∀ j, j ≠ 4 → W.cell? ⟨b, j, none⟩ = w.cell? ⟨b, j, none⟩) (hck : W.cell? ⟨b, 4, none⟩ = some v) (hfz : ∀ j, W.frozen? ⟨b, j, none⟩ = false)
    (ho : W.ownsRow 0 3 1 v l.length (ints l)) (hb : ∀ g, v.ownBlock = some g → v4.ownBlock = some g ∨ w.heap.size ≤ g) :
    RL W b { r with said := l } v0 v1 v2 v3 v vs T (fun x => if v.ownBlock = some x then 4 else K x) := by
  have hbl : b < w.heap.size := h.lt (Or.inl rfl)
  have kf : ∀ x, x < w.heap.size → K x ≠ 4 → (if v.ownBlock = some x then 4 else K x) = K x := fun x hx hn => if_neg fun e => by
    rcases hb x e with z | z
    · exact hn (h.k4 x z)
    · omega
  refine ⟨(hc 0 (by decide)).trans h.c0, (hc 1 (by decide)).trans h.c1, (hc 2 (by decide)).trans h.c2, (hc 3 (by decide)).trans h.c3, hck, (hc 5 (by decide)).trans h.c5, hfz, owns_kept h.tasks (fun x e => hk x (h.lt (by unfold RFoot; simp [e])) (ne_of_kind h.k4 (h.k0 x e) (by decide)) (fun z => by subst z; have := h.kb.symm.trans (h.k0 x e); omega)), fun i t hi => ?_, owns_kept h.ats (fun x e => hk x (h.lt (by unfold RFoot; simp [e])) (ne_of_kind h.k4 (h.k1 x e) (by decide)) (fun z => by subst z; have := h.kb.symm.trans (h.k1 x e); omega)), owns_kept h.locks (fun x e => hk x (h.lt (by unfold RFoot; simp [e])) (ne_of_kind h.k4 (h.k2 x e) (by decide)) (fun z => by subst z; have := h.kb.symm.trans (h.k2 x e); omega)), owns_kept h.cells (fun x e => hk x (h.lt (by unfold RFoot; simp [e])) (ne_of_kind h.k4 (h.k3 x e) (by decide)) (fun z => by subst z; have := h.kb.symm.trans (h.k3 x e); omega)), ho, fun x hx => by have := h.tlt x hx; omega, (kf b hbl (by rw [h.kb]; decide)).trans h.kb, fun x e => (kf x (h.lt (by unfold RFoot; simp [e])) (by rw [h.k0 x e]; decide)).trans (h.k0 x e), fun x e => (kf x (h.lt (by unfold RFoot; simp [e])) (by rw [h.k1 x e]; decide)).trans (h.k1 x e), fun x e => (kf x (h.lt (by unfold RFoot; simp [e])) (by rw [h.k2 x e]; decide)).trans (h.k2 x e), fun x e => (kf x (h.lt (by unfold RFoot; simp [e])) (by rw [h.k3 x e]; decide)).trans (h.k3 x e), fun x e => if_pos e, fun x hx => (kf x (h.tlt x hx) (by rw [h.kt x hx]; decide)).trans (h.kt x hx)⟩
  obtain ⟨u, e1, e2⟩ := h.els i t hi
  exact ⟨u, e1, e2.kept hs (fun x hx _ => hk x (h.tlt x hx) (ne_of_kind h.k4 (h.kt x hx) (by decide)) (fun z => by subst z; have := h.kb.symm.trans (h.kt x hx); omega))⟩
/-- All is over. -/
theorem RL.end (h : RL w b r v0 v1 v2 v3 v4 vs T K) : RL (w.setCell ⟨b, 5, none⟩ (.bool true)) b { r with over := true } v0 v1 v2 v3 v4 vs T K := by
  have hk : ∀ x, x ≠ b → (w.setCell ⟨b, 5, none⟩ (.bool true)).heap[x]? = w.heap[x]? := fun x hx => set_far hx
  have nb : ∀ {x j}, K x = j → j ≠ 6 → x ≠ b := fun hx hj z => by subst z; exact hj (hx.symm.trans h.kb)
  refine ⟨(set_other (by decide)).trans h.c0, (set_other (by decide)).trans h.c1, (set_other (by decide)).trans h.c2, (set_other (by decide)).trans h.c3, (set_other (by decide)).trans h.c4, set_same h.c5, fun k => by rw [World.frozen?_setCell]; exact h.fz k,
    owns_kept h.tasks (fun x e => hk x (nb (h.k0 x e) (by decide))), fun i t hi => ?_, owns_kept h.ats (fun x e => hk x (nb (h.k1 x e) (by decide))), owns_kept h.locks (fun x e => hk x (nb (h.k2 x e) (by decide))), owns_kept h.cells (fun x e => hk x (nb (h.k3 x e) (by decide))),
    owns_kept h.said (fun x e => hk x (nb (h.k4 x e) (by decide))), fun x hx => by have := h.tlt x hx; simpa using this, h.kb, h.k0, h.k1, h.k2, h.k3, h.k4, h.kt⟩
  obtain ⟨u, e1, e2⟩ := h.els i t hi
  exact ⟨u, e1, e2.kept (by simp) (fun x hx _ => hk x (nb (h.kt x hx) (by decide)))⟩
end Go.Proofs.Ytlcbegmhmbegjaa
