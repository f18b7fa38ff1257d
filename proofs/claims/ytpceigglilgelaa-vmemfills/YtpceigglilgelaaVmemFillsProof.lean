/-
  For every list of fills, every r (64 bits, signed) and every n (64 bits): pages that are made ready again have the fills, in order, as the law asks of the landed package; the law returns true. No condition.
-/
import Derived.Test.YtpceigglilgelaaLawF
import Derived.Test.YtpceigglilgelaaVmFc
import Derived.WalkKit
import Derived.ProofKit
import Derived.OpenShut
import Derived.Carry
import Derived.ChangeSlices
namespace Go.Proofs.Ytpceigglilgelaa.vmemFills
open Go.ChangeShapes Go.WideShapes Go.ChangeAt Go.RowKit Go.Proofs.Sp
set_option linter.unusedVariables false

theorem own : ownKnob Try.prog.godebug = none := by kernel_rfl
theorem cellsU : Try.prog.cellsOf 23 = 1 := by kernel_rfl
theorem spot_none {w : World} {b off : Nat} {sp : Option Nat} {v : Value} (h : w.cell? ⟨b, off, sp⟩ = some v) : sp = none := by
  unfold World.cell? at h
  cases sp with
  | none => rfl
  | some x => split at h <;> simp at h
theorem nums_u64 {zs : List Int} (hz : ∀ z ∈ zs, (Lit.int .u64 z).wf = true) (i : Nat) : 0 ≤ zs.getD i 0 ∧ zs.getD i 0 < 18446744073709551616 := by
  have := range_u64 hz i
  rw [List.getD_eq_getElem?_getD]
  omega
theorem walk (a0 : Option Addr) (len cap : Nat) (r n : Int) (hr : (Lit.int .i64 r).wf = true) (hn : (Lit.int .u64 n).wf = true) (w : World)
    (hs : (a0 = none ∧ len = 0 ∧ cap = 0) ∨ ∃ (a : Addr) (zs : List Int), a0 = some a ∧ len ≤ maxLen ∧ (∀ i, i < len → w.cell? (a.add i) = some (.int .u64 (zs.getD i 0))) ∧ ∀ z ∈ zs, (Lit.int .u64 z).wf = true) :
    Calls Try.prog 3 #[.slice a0 len cap, .int .i64 r, .int .u64 n] w fun e w' => e = .returned (.bool true) ∧ Below w.heap.size w w' := by
  have br := bounds_i64 hr
  have bn := bounds_u64 hn
  by_cases early : 50 < len ∨ r < 0 ∨ 10 < r ∨ n < 1 ∨ 10 < n
  · refine fills_early a0 len cap r n ?_ br bn early w
    rcases hs with ⟨_, h, _⟩ | ⟨_, _, _, h, _⟩
    · omega
    · unfold maxLen at h; omega
  · rcases hs with ⟨rfl, rfl, rfl⟩ | ⟨a, zs, rfl, _, hc, hz⟩
    · exact fills_nil vface r n (by omega) (by omega) (by omega) (by omega) w
    · by_cases l0 : len = 0
      · subst l0
        exact fills_zero vface a cap r n (by omega) (by omega) (by omega) (by omega) w
      · obtain ⟨b, off, sp⟩ := a
        have h0 := hc 0 (by omega)
        have hspot : sp = none := spot_none (by simpa [Addr.add] using h0)
        subst hspot
        have hb : b < w.heap.size := cell_lt (by simpa [Addr.add] using h0)
        refine fills_core vface b off len cap (fun i => (zs.getD i 0).toNat) r n (by omega) (by omega) (by omega) (by omega) (by omega) w hb (fun i hi => ?_) (fun i => ?_)
        · have := hc i hi
          rw [addr_add0] at this
          rw [this, Int.toNat_of_nonneg (nums_u64 hz i).1]
        · have := (nums_u64 hz i).2
          show (zs.getD i 0).toNat < _
          omega
set_option maxRecDepth 100000 in
theorem lifted (os : Os) (started : os.Started) (H : Type) (enc : TypeId × Value → H) :
    ReturnsInHanded {} Try.checked os 3 .any (Rows.vmemFillsSpec.pre6 enc Try.prog Try.f3 Rows.vmemFillsRow.domain false) (Rows.vmemFillsSpec.post enc Try.prog Try.f3 false true false false) := by
  refine returnsInHanded_of_change (C := Try.checked) own started (by kernel_rfl) Try.func3
    (ChangeSpec.witness6 (enc := enc) (C := Try.checked) false ⟨#[], #[.slice none 0 0, .int .i64 0, .int .u64 0], []⟩ 8 (by kernel_rfl) (by kernel_rfl) (by kernel_rfl) (by kernel_rfl)) ?_
  intro W base args ds gs before hval0 hW hcnd _
  have hval : ∀ (j : Nat) t v, Try.f3.params[j]? = some t → args[j]? = some v → Value.okWide Try.prog W .any base t v := hval0
  have hW' := hW
  obtain ⟨p, q, hA0, hV, rfl, hfz, hnd⟩ := hW
  have hA : DataW.TrodAll enc Try.prog W 0 (fun _ => true) true Try.f3.params.toList args.toList ds p := hA0
  rw [Try.params3] at hA hval
  obtain ⟨v0, vs0, d0, ds0, p0, q0, hargs, rfl, rfl, h0, r0⟩ := trodAll_cons hA
  obtain ⟨v1, vs1, d1, ds1, p1, q1, rfl, rfl, rfl, h1, r1⟩ := trodAll_cons r0
  obtain ⟨v2, vs2, d2, ds2, p2, q2, rfl, rfl, rfl, h2, r2⟩ := trodAll_cons r1
  obtain ⟨rfl, rfl, rfl⟩ := trodAll_nil r2
  obtain rfl : args = #[v0, v1, v2] := by cases args; simp_all
  obtain ⟨rfl, rfl⟩ := trodVars_none hV
  obtain ⟨a1, rfl, rfl, rfl, w1⟩ := open_int Try.underlying3 (hval 1 3 v1 rfl rfl) h1
  obtain ⟨a2, rfl, rfl, rfl, w2⟩ := open_int Try.underlying23 (hval 2 23 v2 rfl rfl) h2
  obtain ⟨a0, len, cap, rfl⟩ := okWide_slice Try.underlying22 (hval 0 22 v0 rfl rfl)
  clear hA0 hval0
  simp only [List.append_nil] at hW'
  have hlt : ∀ x ∈ p0, x.block < W.heap.size := fun x hx => by simpa using hW'.lt x hx
  have h0k := h0
  have hs : (a0 = none ∧ len = 0 ∧ cap = 0) ∨ ∃ (a : Addr) (zs : List Int), a0 = some a ∧ len ≤ maxLen ∧ (∀ i, i < len → W.cell? (a.add i) = some (.int .u64 (zs.getD i 0))) ∧ ∀ z ∈ zs, (Lit.int .u64 z).wf = true := by
    obtain ⟨fuel, hf⟩ := h0
    rcases open_ints Try.underlying22 Try.underlying23 cellsU hf with ⟨hcs, hx⟩ | ⟨a, len', cap', zs, hcs, _, hl, hm, hz, hx, hcell, hwz⟩
    · simp [Value.cells] at hcs
      exact Or.inl hcs
    · simp [Value.cells] at hcs
      obtain ⟨rfl, rfl, rfl⟩ := hcs
      have hzl : zs.length = cap := by simpa using hz
      exact Or.inr ⟨a, zs, rfl, by omega, fun i hi => hcell i (by omega), hwz⟩
  refine (walk a0 len cap a1 a2 w1 w2 W hs).mono fun e W' ⟨he, hbel⟩ => ?_
  subst he
  refine ⟨_, rfl, _, _, _, [], p0, [], hW', ?_, ?_, rfl, hbel.frame _, fun h => by cases h⟩
  · exact trodAll_cons_mk (shut_bool Try.underlying4 _) trodAll_mk0
  · have hT := trodAll_cons_mk (Below.trod (P := Try.prog) (by kernel_rfl) (by kernel_rfl) (by decide +kernel) h0k hbel hlt) (trodAll_cons_mk (shut_int Try.underlying3 w1) (trodAll_cons_mk (shut_int Try.underlying23 w2) trodAll_mk0))
    simp only [List.append_nil] at hT
    exact hT
theorem over : Rows.vmemFillsRow.holds Try.pinned (OpenSpec.ofChange Rows.vmemFillsSpec) :=
  OpenClaim.holds_of_wide 3 Try.f3 rfl rfl rfl rfl rfl rfl rfl ⟨rfl, rfl, rfl, rfl, rfl⟩ rfl rfl rfl rfl rfl (by kernel_rfl) Try.func3 (by kernel_rfl)
    (of_decide_eq_true (by kernel_rfl)) (by unfold Func.isWrapper; first | (rw [if_pos (by decide +kernel)]; kernel_rfl) | (rw [if_neg (by decide +kernel)]; exact ⟨rfl, rfl⟩))
    (fun os started H enc _ => lifted os started H enc)
theorem proved : Rows.VmemFillsSaid :=
  over
#print axioms proved
end Go.Proofs.Ytpceigglilgelaa.vmemFills
