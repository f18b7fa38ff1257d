/- Lists of a law's own, beside a tree. -/
import Derived.Test.YtnclicdnncgdiaaDoorSh
import Derived.Deep.AppendLies
namespace Go.Proofs.YtnclicdnncgdiaaDoor
open Go.ChangeShapes Go.WideShapes Go.ChangeAt Go.RowKit Go.Proofs.Bt Go.Shelf Go.Proofs.Rx Go.Maps Go.Proofs.Pk
set_option linter.unusedVariables false
set_option linter.unusedSimpArgs false

/-- The law writes its own blocks, and makes more of them. -/
theorem T9.grow {N : Nat} {O O' F : Nat → Prop} {w W W' : World} {tb : Nat} {st : Nat → Nat} (h : T9 N O w W tb st) (k : Kept F W W') (hF : ∀ x, F x → O x ∧ N ≤ x) (hO : ∀ x, O' x → O x ∨ (W.heap.size ≤ x ∧ x < W'.heap.size)) : T9 N O' w W' tb st := by
  have lt := h.tr.lt
  refine ⟨?_, below_kept h.be k (fun x hx => (hF x hx).2) lt.2.2⟩
  obtain ⟨T, L, C, e1, e2, h1, h2⟩ := h.tr
  have sz' := k.size
  refine ⟨T, L, C, e1, e2, ⟨h1.rad.kept k (fun x hx => ⟨(h2 x (hF x hx).1).1, by rw [e2]; exact (hF x hx).2⟩), h1.good, h1.four, h1.out⟩, fun x hx => ?_⟩
  rcases hO x hx with z | z
  · obtain ⟨a, b, c⟩ := h2 x z
    exact ⟨a, b, by omega⟩
  · exact ⟨h1.rad.foot_lt z.1, by omega, z.2⟩
theorem infoU : (Tryd.prog.info? 23).map (fun i => (i.zero, i.size, i.bytes)) = some (some (.int .u64 0), 1, 8) := by kernel_rfl
/-- Numbers as values. -/
def vals (t : List Nat) : List Value := t.map fun n => .int .u64 (n : Nat)
/-- One number more. -/
theorem u64s_more {X2 : World} {base : Nat} {v : Value} {k : Nat} {t : List Nat} (h : X2.ownsRow base 23 1 v k (vals t)) (hk : k < 1000) (blk : Nat) (q : Nat) (n2 : X2.heap[blk]? = some (.cells #[.int .u64 (q : Nat)] 23 (0, 0))) (hb : base ≤ X2.heap.size) (ty : TypeId) :
    ∃ g cap Y, (Builtin.append_ #[22, 22] ty #[v, .slice (some ⟨blk, 0, none⟩) 1 1]).run Tryd.prog X2 = .ok (.slice (some ⟨g, 0, none⟩) (k + 1) cap) Y ∧ Y.ownsRow base 23 1 (.slice (some ⟨g, 0, none⟩) (k + 1) cap) (k + 1) (vals (t ++ [q])) ∧ Kept (fun x => v.ownBlock = some x) X2 Y ∧ (v.ownBlock = some g ∨ X2.heap.size ≤ g) ∧ g < Y.heap.size := by
  obtain ⟨i0, hi0, hz0, hz1, hz2⟩ := Mg.info_parts infoU
  obtain ⟨g, cap, Y, r1, o1, g1, hat, hlt⟩ := run_append_lies (P := Tryd.prog) X2 22 ty base 23 i0 _ 1 8 Tryd.underlying22 hi0 hz0 hz1 hz2 rfl (by decide) v k (vals t) h ⟨blk, 0, none⟩ 1 1 [.int .u64 (q : Nat)] rfl (World.news_of_block n2) (by intro u hu; simp at hu; rw [hu]; rfl) (by decide) (by unfold maxLen; omega) (by omega) hb _ rfl
  refine ⟨g, cap, Y, r1, ?_, Kept.of_grown g1 (fun j e => e), ?_, hlt⟩
  · have : vals (t ++ [q]) = vals t ++ [.int .u64 (q : Nat)] := by simp [vals]
    rw [this]; exact o1
  · rcases hat with e | e
    · exact .inl e
    · exact .inr (by omega)
end Go.Proofs.YtnclicdnncgdiaaDoor
