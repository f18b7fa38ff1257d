/- The law's own heavy: are there too many steps? -/
import Derived.Test.YtlcbegmhmbegjaaNa
import Derived.Test.YtlcbegmhmbegjaaLst
namespace Go.Proofs.Ytlcbegmhmbegjaa
open Go.ChangeShapes Go.WideShapes Go.ChangeAt Go.RowKit Go.Proofs.Sc Go.Maps
set_option linter.unusedVariables false
set_option linter.unusedSimpArgs false

variable {w : World}
def HeavyP (L : List (List Stp)) (w : World) (e : Ending) (w' : World) : Prop := e = .returned (.bool (decide (400 < L.length + lens L))) ∧ w' = w
theorem heavy_core (v : Value) (L : List (List Stp)) (h : TasksAt w v L) (hm : L.length ≤ 9223372036854775400) (hb : ∀ t ∈ L, t.length ≤ 9223372036854775000) :
    Calls Try.prog 5 #[v] w (HeavyP L w) := by
  have HT := hide h
  have HB := hide hb
  obtain ⟨o, cap, rfl, h1, h2⟩ := h.shape
  obtain ⟨PO, hPO⟩ : ∃ PO, PO = HeavyP L w := ⟨_, rfl⟩
  rw [← hPO]
  have HP := hide hPO
  obtain ⟨k, hk⟩ : ∃ k, L.length = k := ⟨_, rfl⟩
  have HK := hide hk
  rw [hk] at h1 hm ⊢
  clear h hk hPO hb
  go_enter Try.func5, Try.ntmps5
  go_wp2_with fail
  go_loopw [3, 4] (fun sv iv wr => ∃ (i s : Nat), sv = .int .i64 (s : Int) ∧ iv = .int .i64 (i : Int) ∧ i ≤ k ∧ s ≤ 9223372036854775400 ∧ Hid (s = k + lens (L.take i)) ∧ wr = w) (fun _ iv _ => k - (intOf iv).toNat)
  case atStart => exact ⟨0, k, rfl, rfl, Nat.zero_le _, hm, hide (by simp [lens]), rfl⟩
  case round =>
    obtain ⟨i, s, rfl, rfl, hi, hs, hse, rfl⟩ := hrel
    by_cases hlt : i < k
    · have hil : i < L.length := by rw [HK.out]; exact hlt
      have i1 : (i : Int) < (k : Int) := by omega
      have i2 : (0 : Int) ≤ (i : Int) := by omega
      by_cases hs4 : s ≤ 400
      · have d : decide ((s : Int) ≤ 400) = true := decide_eq_true (by omega)
        obtain ⟨g, off, cap', o2, n2, c2, e1, _, hg, cv, hn2, h5, h6, hxx⟩ := HT.out.at (List.getElem?_eq_getElem hil)
        injection e1 with e1 e2 e3
        subst e1 e3
        have hbn : n2 ≤ 9223372036854775000 := by rw [hn2]; exact HB.out _ (List.getElem_mem hil)
        have hw : IntKind.i64.wrap ((s : Int) + (n2 : Int)) = ((s + n2 : Nat) : Int) := by
          unfold IntKind.wrap
          simp [IntKind.bits, IntKind.signed]
          split <;> omega
        have hs' : Hid (s + n2 = k + lens (L.take (i + 1))) := hide (by rw [lens_take hil, hn2, hse.out]; omega)
        clear hse hn2 hxx hil e2
        go_wp2_with fail
        go_roundw
        case rel => exact ⟨i + 1, s + n2, rfl, by go_num, by omega, by omega, hs', trivial⟩
        case measure => simp [intOf]; omega
      · have d : decide ((s : Int) ≤ 400) = false := decide_eq_false (by omega)
        have d' : decide ((s : Int) > 400) = true := decide_eq_true (by omega)
        have FN : Hid (PO (.returned (.bool true)) wr) := hide (by
          rw [HP.out]
          exact ⟨by rw [decide_eq_true (by have := hse.out; have := lens_take_le L i; have := HK.out; omega)], rfl⟩)
        clear hse HP
        go_wp2_with fail
        first | exact FN.out | (go_ret; exact FN.out)
    · obtain rfl : i = k := by omega
      have d0 : ¬ (i : Int) < (i : Int) := by omega
      have hse' := hse.out
      rw [List.take_of_length_le (by rw [HK.out]; exact Nat.le_refl _)] at hse'
      have FN : Hid (PO (.returned (.bool (decide ((s : Int) > 400)))) wr) := hide (by
        rw [HP.out]
        refine ⟨?_, rfl⟩
        have : ((s : Int) > 400) ↔ 400 < L.length + lens L := by have := HK.out; omega
        rw [decide_eq_decide.2 this])
      clear hse hse' HP
      go_wp2_with fail
      first | exact FN.out | (go_ret; exact FN.out)
end Go.Proofs.Ytlcbegmhmbegjaa
