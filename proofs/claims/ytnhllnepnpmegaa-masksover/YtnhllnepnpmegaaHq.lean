/- What calls leave: To; rows of our own; appends whose run is known. -/
import Derived.Test.YtnhllnepnpmegaaEx
import Derived.Deep.AppendLies
import Derived.Laws.OwnMore
import Derived.Lib.SmallJoins
import Derived.Deep.Draws
import Derived.BigGuard
import Derived.BigCall
import Derived.WalkSmall
namespace Go.Proofs.Ytnhllnepnpmegaa
open Go.ChangeShapes Go.WideShapes Go.ChangeAt Go.RowKit Go.Shelf Go.Proofs.Rx Go.Maps
set_option linter.unusedVariables false
set_option linter.unusedSimpArgs false

theorem below_alloc (w : World) (o : Obj) : Below w.heap.size w (w.alloc o) := (Below.refl _ _).alloc (Nat.le_refl _) _
theorem drewN_below (W : World) (n : Nat) : Below W.heap.size W (W.drewN n) := ⟨rfl, rfl, rfl, Nat.le_refl _, fun _ _ => rfl⟩
theorem kept_drewN (F : Nat → Prop) (W : World) (n : Nat) : Kept F W (W.drewN n) := Kept.of_below (drewN_below W n)
/-- What a call leaves: nothing old has turned but F; what is its own now was, or is new. -/
def To (W W' : World) (F F' : Nat → Prop) : Prop := Kept F W W' ∧ ∀ z, F' z → F z ∨ W.heap.size ≤ z
theorem To.refl (W : World) (F : Nat → Prop) : To W W F F := ⟨Kept.refl _ _, fun _ h => .inl h⟩
theorem To.of_below {W W' : World} (h : Below W.heap.size W W') (F : Nat → Prop) : To W W' F F := ⟨Kept.of_below h, fun _ h => .inl h⟩
theorem To.trans {A B C : World} {F G H : Nat → Prop} (h : To A B F G) (k : To B C G H) : To A C F H :=
  ⟨h.1.trans k.1 (fun x hx g => (h.2 x g).resolve_right (by omega)), fun z hz => by
    rcases k.2 z hz with u | u
    · exact h.2 z u
    · exact .inr (Nat.le_trans h.1.size u)⟩
theorem owns_kept {F : Nat → Prop} {W W' : World} {M e sz n : Nat} {v : Value} {xs : List Value} (h : W.ownsRow M e sz v n xs) (k : Kept F W W') (hF : ∀ g, v.ownBlock = some g → ¬ F g) : W'.ownsRow M e sz v n xs := by
  refine ⟨h.1, ?_⟩
  rcases h.2 with ⟨a, b⟩ | ⟨g, cap, cur, a, b, c, d⟩
  · exact .inl ⟨a, b⟩
  · exact .inr ⟨g, cap, cur, a, b, kept_at k c (hF g (by rw [a]; rfl)), d⟩
theorem own_lt {W : World} {M e n z : Nat} {v : Value} {xs : List Value} (h : W.ownsRow M e 1 v n xs) (hz : v.ownBlock = some z) : z < W.heap.size := (h.lt z hz).2
theorem row_form {W : World} {M e n : Nat} {v : Value} {xs : List Value} (h : W.ownsRow M e 1 v n xs) : ∃ o cap, v = .slice o n cap := by
  rcases h.2 with ⟨a, b⟩ | ⟨g, cap, cur, a, _⟩
  · exact ⟨none, 0, by rw [a, b]⟩
  · exact ⟨_, cap, a⟩
/-- An append whose run is known. -/
theorem wp_append_run {P : Program} {w w' : World} {o : Oper} {a : Act} {K : Act → World → Prop} {Q : Exit → Act → World → Prop} (s x : Operand) (t : TypeId)
    (ho : o.op = .call { callee := .builtin .append, args := #[s, x], argTypes := #[t, t] }) {v u v' : Value} (hs : a.eval s = v) (hx : a.eval x = u) (hr : (Builtin.append_ #[t, t] o.type #[v, u]).run P w = .ok v' w') (h : K (a.put o.dst v') w') : o.wp P a w K Q := by
  unfold Oper.wp execOp
  simp only [ho, resolve, invoke, builtin, Sem.run_bind, Sem.run_pure, Result.andThen_ok, List.map_toArray, List.map_cons, List.map_nil, hs, hx, hr]
  exact h
theorem list_append_run {P : Program} {w w' : World} {ops : Array Oper} {rest : List Oper} {o : Oper} {a : Act} {Q : Exit → Act → World → Prop} (hgd : o.guard = none) (s x : Operand) (t : TypeId)
    (ho : o.op = .call { callee := .builtin .append, args := #[s, x], argTypes := #[t, t] }) {v u v' : Value} (hs : a.eval s = v) (hx : a.eval x = u) (hr : (Builtin.append_ #[t, t] o.type #[v, u]).run P w = .ok v' w') (h : wpList P ops Q rest (a.put o.dst v') w') : wpList P ops Q (o :: rest) a w :=
  wpList_plain hgd fun _ hK => wp_append_run s x t ho hs hx hr (hK _ _ h)
end Go.Proofs.Ytnhllnepnpmegaa
