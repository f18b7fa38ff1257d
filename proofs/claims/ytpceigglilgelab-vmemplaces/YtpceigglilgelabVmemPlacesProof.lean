/-
  For every two lists of numbers (64 bits each): what is reserved in a space of the landed package lies in no page that is there already, at a multiple of 512, never at page 0, and where the system says if that will do, as the law asks; the law returns true. No condition.
-/
import Derived.Test.YtpceigglilgelabPlaces
import Derived.Test.YtpceigglilgelabVmFc
import Derived.WalkKit
import Derived.ProofKit
import Derived.OpenShut
import Derived.Carry
import Derived.ChangeSlices
namespace Go.Proofs.Ytpceigglilgelab.vmemPlaces
open Go.ChangeShapes Go.WideShapes Go.ChangeAt Go.RowKit Go.Proofs.Sp
set_option linter.unusedVariables false

theorem own : ownKnob Try.prog.godebug = none := by kernel_rfl
theorem cellsU : Try.prog.cellsOf 22 = 1 := by kernel_rfl
theorem nums_u64 {zs : List Int} (hz : ∀ z ∈ zs, (Lit.int .u64 z).wf = true) (i : Nat) : 0 ≤ zs.getD i 0 ∧ zs.getD i 0 < 18446744073709551616 := by
  have := range_u64 hz i
  rw [List.getD_eq_getElem?_getD]
  omega
theorem arg_nil (w : World) (cap : Nat) (hc : cap = 0) : ArgAt w none 0 cap (fun _ => 0) := ⟨fun _ => ⟨rfl, hc⟩, fun _ h => by (cases h), fun _ => by decide⟩
theorem arg_list {w : World} {a : Addr} {len cap : Nat} {zs : List Int} (hc : ∀ i, i < len → w.cell? (a.add i) = some (.int .u64 (zs.getD i 0))) (hz : ∀ z ∈ zs, (Lit.int .u64 z).wf = true) : ArgAt w (some a) len cap (fun i => (zs.getD i 0).toNat) := by
  refine ⟨fun h => by (cases h), fun ad h i hi => ?_, fun i => ?_⟩
  · obtain rfl : a = ad := by injection h
    rw [hc i hi, Int.toNat_of_nonneg (nums_u64 hz i).1]
  · have := (nums_u64 hz i).2
    show (zs.getD i 0).toNat < _
    omega
/-- A list that came in, as the walk asks for it. -/
theorem arg_of {H : Type} {enc : TypeId × Value → H} {W : World} {o : Option Addr} {len cap : Nat} {d : DataW H} {p : List MemPlace} (h : DataW.Trod enc Try.prog W 0 (fun _ => true) true 26 (.slice o len cap) d p) : len ≤ maxLen ∧ ∃ X, ArgAt W o len cap X := by
  obtain ⟨fuel, hf⟩ := h
  rcases open_ints Try.underlying26 Try.underlying22 cellsU hf with ⟨hcs, hx⟩ | ⟨a, len', cap', zs, hcs, _, hl, hm, hz, hx, hcell, hwz⟩
  · simp [Value.cells] at hcs
    obtain ⟨rfl, rfl, rfl⟩ := hcs
    exact ⟨by decide, _, arg_nil W 0 rfl⟩
  · simp [Value.cells] at hcs
    obtain ⟨rfl, rfl, rfl⟩ := hcs
    have hzl : zs.length = cap := by simpa using hz
    exact ⟨by omega, _, arg_list (fun i hi => hcell i (by omega)) hwz⟩
theorem walk (o0 o1 : Option Addr) (l0 c0 l1 c1 : Nat) (w : World) (h0 : l0 ≤ maxLen ∧ ∃ X, ArgAt w o0 l0 c0 X) (h1 : l1 ≤ maxLen ∧ ∃ X, ArgAt w o1 l1 c1 X) :
    Calls Try.prog 4 #[.slice o0 l0 c0, .slice o1 l1 c1] w fun e w' => e = .returned (.bool true) ∧ Below w.heap.size w w' := by
  obtain ⟨m0, X0, a0⟩ := h0
  obtain ⟨m1, X1, a1⟩ := h1
  unfold maxLen at m0 m1
  by_cases early : 20 < l0 ∨ 20 < l1
  · exact places_early o0 o1 l0 c0 l1 c1 (by omega) (by omega) early w
  · exact places_core vface (fun T h => count_rows h 1 (by decide)) o0 o1 l0 c0 l1 c1 X0 X1 w a0 a1 (by omega) (by omega)
set_option maxRecDepth 100000 in
theorem lifted (os : Os) (started : os.Started) (H : Type) (enc : TypeId × Value → H) :
    ReturnsInHanded {} Try.checked os 4 .any (Rows.vmemPlacesSpec.pre6 enc Try.prog Try.f4 Rows.vmemPlacesRow.domain false) (Rows.vmemPlacesSpec.post enc Try.prog Try.f4 false true false false) := by
  refine returnsInHanded_of_change (C := Try.checked) own started (by kernel_rfl) Try.func4
    (ChangeSpec.witness6 (enc := enc) (C := Try.checked) false ⟨#[], #[.slice none 0 0, .slice none 0 0], []⟩ 8 (by kernel_rfl) (by kernel_rfl) (by kernel_rfl) (by kernel_rfl)) ?_
  intro W base args ds gs before hval0 hW hcnd _
  have hval : ∀ (j : Nat) t v, Try.f4.params[j]? = some t → args[j]? = some v → Value.okWide Try.prog W .any base t v := hval0
  have hW' := hW
  obtain ⟨p, q, hA0, hV, rfl, hfz, hnd⟩ := hW
  have hA : DataW.TrodAll enc Try.prog W 0 (fun _ => true) true Try.f4.params.toList args.toList ds p := hA0
  rw [Try.params4] at hA hval
  obtain ⟨v0, vs0, d0, ds0, p0, q0, hargs, rfl, rfl, h0, r0⟩ := trodAll_cons hA
  obtain ⟨v1, vs1, d1, ds1, p1, q1, rfl, rfl, rfl, h1, r1⟩ := trodAll_cons r0
  obtain ⟨rfl, rfl, rfl⟩ := trodAll_nil r1
  obtain rfl : args = #[v0, v1] := by cases args; simp_all
  obtain ⟨rfl, rfl⟩ := trodVars_none hV
  obtain ⟨o0, l0, c0, rfl⟩ := okWide_slice Try.underlying26 (hval 0 26 v0 rfl rfl)
  obtain ⟨o1, l1, c1, rfl⟩ := okWide_slice Try.underlying26 (hval 1 26 v1 rfl rfl)
  clear hA0 hval0
  simp only [List.append_nil] at hW'
  have hlt0 : ∀ x ∈ p0, x.block < W.heap.size := fun x hx => by simpa using hW'.lt x (List.mem_append_left _ hx)
  have hlt1 : ∀ x ∈ p1, x.block < W.heap.size := fun x hx => by simpa using hW'.lt x (List.mem_append_right _ hx)
  refine (walk o0 o1 l0 c0 l1 c1 W (arg_of h0) (arg_of h1)).mono fun e W' ⟨he, hbel⟩ => ?_
  subst he
  refine ⟨_, rfl, _, _, _, [], p0 ++ p1, [], hW', ?_, ?_, rfl, hbel.frame _, fun h => by cases h⟩
  · exact trodAll_cons_mk (shut_bool Try.underlying4 _) trodAll_mk0
  · have hT := trodAll_cons_mk (Below.trod (P := Try.prog) (by kernel_rfl) (by kernel_rfl) (by decide +kernel) h0 hbel hlt0) (trodAll_cons_mk (Below.trod (P := Try.prog) (by kernel_rfl) (by kernel_rfl) (by decide +kernel) h1 hbel hlt1) trodAll_mk0)
    simp only [List.append_nil] at hT
    exact hT
theorem over : Rows.vmemPlacesRow.holds Try.pinned (OpenSpec.ofChange Rows.vmemPlacesSpec) :=
  OpenClaim.holds_of_wide 4 Try.f4 rfl rfl rfl rfl rfl rfl rfl ⟨rfl, rfl, rfl, rfl, rfl⟩ rfl rfl rfl rfl rfl (by kernel_rfl) Try.func4 (by kernel_rfl)
    (of_decide_eq_true (by kernel_rfl)) (by unfold Func.isWrapper; first | (rw [if_pos (by decide +kernel)]; kernel_rfl) | (rw [if_neg (by decide +kernel)]; exact ⟨rfl, rfl⟩))
    (fun os started H enc _ => lifted os started H enc)
theorem proved : Rows.VmemPlacesSaid :=
  over
#print axioms proved
end Go.Proofs.Ytpceigglilgelab.vmemPlaces
