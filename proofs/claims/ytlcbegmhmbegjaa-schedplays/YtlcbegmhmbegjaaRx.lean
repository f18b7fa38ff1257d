/- The reference: what Go leaves. -/
import Derived.Test.YtlcbegmhmbegjaaRw
namespace Go.Proofs.Ytlcbegmhmbegjaa
open Go.ChangeShapes Go.WideShapes Go.ChangeAt Go.RowKit Go.Proofs.Sc Go.Maps
set_option linter.unusedVariables false
set_option linter.unusedSimpArgs false

variable {w w' : World} {b : Nat} {r : Rs} {v0 v1 v2 v3 v4 : Value} {vs : List Value} {T : Nat → Prop} {K : Nat → Nat}
/-- The reference's machine is r' now; nothing old has turned but what was its own. -/
def RStep (F : Nat → Prop) (w w' : World) (m : Addr) (r' : Rs) : Prop := ∃ F', RI w' m r' F' ∧ Kept F w w' ∧ ∀ x, F' x → F x ∨ w.heap.size ≤ x
theorem RI.kept {m : Addr} {F : Nat → Prop} (h : RI w m r F) (hs : w.heap.size ≤ w'.heap.size) (hk : ∀ x, F x → w'.heap[x]? = w.heap[x]?) : RI w' m r F := by
  obtain ⟨b, v0, v1, v2, v3, v4, vs, T, K, rfl, rfl, l, ok⟩ := h
  exact ⟨b, v0, v1, v2, v3, v4, vs, T, K, rfl, rfl, l.kept hs hk, ok⟩
theorem RI.lt {m : Addr} {F : Nat → Prop} (h : RI w m r F) (x : Nat) (hx : F x) : x < w.heap.size := by
  obtain ⟨b, v0, v1, v2, v3, v4, vs, T, K, rfl, rfl, l, ok⟩ := h
  exact l.lt hx
theorem RStep.same {m : Addr} {F : Nat → Prop} (h : RI w m r F) (hb : Below w.heap.size w w') : RStep F w w' m r :=
  ⟨F, h.kept hb.size (fun x hx => hb.block x (h.lt x hx)), Kept.of_below hb, fun x hx => Or.inl hx⟩
/-- What Go leaves. -/
def GoP (F : Nat → Prop) (w : World) (m : Addr) (r : Rs) (p : Int) (e : Ending) (w' : World) : Prop :=
  e = .returned (.tuple #[.int .i64 ((goS (absR r) p).1 : Nat), .int .i64 ((goS (absR r) p).2.1 : Nat)]) ∧ ∃ r', absR r' = (goS (absR r) p).2.2 ∧ RStep F w w' m r'
theorem done_lens {l : List (List Stp)} : l.all List.isEmpty = true ↔ lens l = 0 := by
  induction l with
  | nil => simp [lens]
  | cons a l ih =>
    rw [List.all_cons, Bool.and_eq_true, ih, lens_cons, List.isEmpty_iff]
    constructor
    · rintro ⟨rfl, h⟩; rw [h]; rfl
    · intro h; exact ⟨List.eq_nil_of_length_eq_zero (by omega), by omega⟩
theorem lens_take_succ (l : List (List Stp)) (i : Nat) (t : List Stp) (h : l[i]? = some t) : lens (l.take (i + 1)) = lens (l.take i) + t.length := by
  rw [List.take_add_one, h, lens_append]; simp [lens]
theorem lens_take_le (l : List (List Stp)) (i : Nat) : lens (l.take i) ≤ lens l := by
  have := lens_append (l.take i) (l.drop i)
  rw [List.take_append_drop] at this
  omega
theorem wrap_left (L j n : Nat) (h : n ≤ j) (hl : L + (j - n) ≤ 10000) : IntKind.i64.wrap (IntKind.i64.wrap ((L : Int) + (j : Int)) - (n : Int)) = ((L + (j - n) : Nat) : Int) := by
  unfold IntKind.wrap
  simp [IntKind.bits, IntKind.signed]
  split <;> split <;> omega

end Go.Proofs.Ytlcbegmhmbegjaa
