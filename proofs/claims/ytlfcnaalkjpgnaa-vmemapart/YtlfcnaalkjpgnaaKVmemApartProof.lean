/-
  For every list of answers of the system, every list of acts and every list of turns: two landed spaces that are used in turns answer as two of the document's own do, and have the same pages and words as these at the end; the law returns true and leaves its arguments as they were. No condition.
-/
import Derived.Test.YtlfcnaalkjpgnaaKPx3
import Derived.WalkKit
import Derived.ProofKit
import Derived.OpenShut
import Derived.Carry
import Derived.ChangeSlices
namespace Go.Proofs.Ytlfcnaalkjpgnaa.vmemApart
open Go.ChangeShapes Go.WideShapes Go.ChangeAt Go.RowKit Go.Proofs.Sp
set_option linter.unusedVariables false
set_option linter.unusedSimpArgs false

theorem own : ownKnob Try.prog.godebug = none := by kernel_rfl
theorem walk (p0 r0 f0 : Option Addr) (lp0 cp0 lr0 cr0 lf0 cf0 : Nat) (pl0 : List Nat) (re0 : List Bool) (fi0 : List Nat) (o1 : Option Addr) (l1 c1 : Nat) (o2 : Option Addr) (l2 c2 : Nat) (w : World) (h0 : AnsAt w p0 r0 f0 lp0 cp0 lr0 cr0 lf0 cf0 pl0 re0 fi0) (h1 : l1 ≤ maxLen ∧ ∃ X, ActsAt w o1 l1 c1 X) (h2 : l2 ≤ maxLen ∧ ∃ X, BoolsAt w o2 l2 c2 X) :
    Calls Try.prog 4 #[.agg #[.slice p0 lp0 cp0, .slice r0 lr0 cr0, .slice f0 lf0 cf0], .slice o1 l1 c1, .slice o2 l2 c2] w fun e w' => e = .returned (.bool true) ∧ Below w.heap.size w w' := by
  obtain ⟨m1, X1, h1⟩ := h1
  unfold maxLen at m1
  obtain ⟨m2, X2, h2⟩ := h2
  unfold maxLen at m2
  exact apart3 p0 r0 f0 o1 o2 lp0 cp0 lr0 cr0 lf0 cf0 l1 c1 l2 c2 X1 X2 pl0 re0 fi0 w h1 h2 h0 (by omega) (by omega)
set_option maxRecDepth 100000 in
theorem lifted (os : Os) (started : os.Started) (H : Type) (enc : TypeId × Value → H) :
    ReturnsInHanded {} Try.checked os 4 .any (Rows.vmemApartSpec.pre6 enc Try.prog Try.f4 Rows.vmemApartRow.domain false) (Rows.vmemApartSpec.post enc Try.prog Try.f4 false true false false) := by
  refine returnsInHanded_of_change (C := Try.checked) own started (by kernel_rfl) Try.func4
    (ChangeSpec.witness6 (enc := enc) (C := Try.checked) false ⟨#[], #[.agg #[.slice none 0 0, .slice none 0 0, .slice none 0 0], .slice none 0 0, .slice none 0 0], []⟩ 8 (by kernel_rfl) (by kernel_rfl) (by kernel_rfl) (by kernel_rfl)) ?_
  intro W base args ds gs before hval0 hW hcnd _
  have hval : ∀ (j : Nat) t v, Try.f4.params[j]? = some t → args[j]? = some v → Value.okWide Try.prog W .any base t v := hval0
  have hW' := hW
  obtain ⟨p, q, hA0, hV, rfl, hfz, hnd⟩ := hW
  have hA : DataW.TrodAll enc Try.prog W 0 (fun _ => true) true Try.f4.params.toList args.toList ds p := hA0
  rw [Try.params4] at hA hval
  obtain ⟨v0, vs0, d0, ds0, p0, q0, hargs, rfl, rfl, h0, r0⟩ := trodAll_cons hA
  obtain ⟨v1, vs1, d1, ds1, p1, q1, rfl, rfl, rfl, h1, r1⟩ := trodAll_cons r0
  obtain ⟨v2, vs2, d2, ds2, p2, q2, rfl, rfl, rfl, h2, r2⟩ := trodAll_cons r1
  obtain ⟨rfl, rfl, rfl⟩ := trodAll_nil r2
  obtain rfl : args = #[v0, v1, v2] := by cases args; simp_all
  obtain ⟨rfl, rfl⟩ := trodVars_none hV
  obtain ⟨pp0, pr0, pf0, lp0, cp0, lr0, cr0, lf0, cf0, pl0, re0, fi0, rfl, an0⟩ := ans_of (hval 0 25 v0 rfl rfl) h0
  obtain ⟨o1, l1, c1, rfl⟩ := okWide_slice Try.underlying26 (hval 1 26 v1 rfl rfl)
  obtain ⟨o2, l2, c2, rfl⟩ := okWide_slice Try.underlying23 (hval 2 23 v2 rfl rfl)
  clear hA0 hval0
  simp only [List.append_nil, List.nil_append] at hW'
  have hlt0 : ∀ x ∈ p0, x.block < W.heap.size := fun x hx => by simpa using hW'.lt x (List.mem_append_left _ hx)
  have hlt1 : ∀ x ∈ p1, x.block < W.heap.size := fun x hx => by simpa using hW'.lt x (List.mem_append_right _ (List.mem_append_left _ hx))
  have hlt2 : ∀ x ∈ p2, x.block < W.heap.size := fun x hx => by simpa using hW'.lt x (List.mem_append_right _ (List.mem_append_right _ hx))
  refine (walk pp0 pr0 pf0 lp0 cp0 lr0 cr0 lf0 cf0 pl0 re0 fi0 o1 l1 c1 o2 l2 c2 W an0 (acts_of h1) (bools_of h2)).mono fun e W' ⟨he, hbel⟩ => ?_
  subst he
  refine ⟨_, rfl, _, _, _, [], p0 ++ (p1 ++ (p2)), [], hW', ?_, ?_, rfl, hbel.frame _, fun h => by cases h⟩
  · exact trodAll_cons_mk (shut_bool Try.underlying4 _) trodAll_mk0
  · have hT := trodAll_cons_mk (Below.trod (P := Try.prog) (by kernel_rfl) (by kernel_rfl) (by decide +kernel) h0 hbel hlt0) (trodAll_cons_mk (Below.trod (P := Try.prog) (by kernel_rfl) (by kernel_rfl) (by decide +kernel) h1 hbel hlt1) (trodAll_cons_mk (Below.trod (P := Try.prog) (by kernel_rfl) (by kernel_rfl) (by decide +kernel) h2 hbel hlt2) trodAll_mk0))
    simp only [List.append_nil, List.nil_append] at hT
    exact hT
theorem over : Rows.vmemApartRow.holds Try.pinned (OpenSpec.ofChange Rows.vmemApartSpec) :=
  OpenClaim.holds_of_wide 4 Try.f4 rfl rfl rfl rfl rfl rfl rfl ⟨rfl, rfl, rfl, rfl, rfl⟩ rfl rfl rfl rfl rfl (by kernel_rfl) Try.func4 (by kernel_rfl)
    (of_decide_eq_true (by kernel_rfl)) (by unfold Func.isWrapper; first | (rw [if_pos (by decide +kernel)]; kernel_rfl) | (rw [if_neg (by decide +kernel)]; exact ⟨rfl, rfl⟩))
    (fun os started H enc _ => lifted os started H enc)
theorem proved : Rows.VmemApartSaid :=
  over
#print axioms proved
end Go.Proofs.Ytlfcnaalkjpgnaa.vmemApart
