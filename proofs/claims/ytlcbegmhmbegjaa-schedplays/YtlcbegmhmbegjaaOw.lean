/- The law's own copy of the tasks. -/
import Derived.Test.YtlcbegmhmbegjaaOt
import Derived.Test.YtlcbegmhmbegjaaHv
namespace Go.Proofs.Ytlcbegmhmbegjaa
open Go.ChangeShapes Go.WideShapes Go.ChangeAt Go.RowKit Go.Proofs.Sc Go.Maps
set_option linter.unusedVariables false
set_option linter.unusedSimpArgs false

/-- What own answers. -/
def OwnP (L : List (List Stp)) (w : World) (e : Ending) (w' : World) : Prop := ∃ v, e = .returned v ∧ Ot w w' v L
set_option maxRecDepth 100000 in
theorem own_core {w : World} (v : Value) (L : List (List Stp)) (h : TasksAt w v L) (hm : L.length + lens L ≤ 1000000) :
    Calls Try.prog 6 #[v] w (OwnP L w) := by
  have HT := hide h
  obtain ⟨o, cap, rfl, h1, h2⟩ := h.shape
  obtain ⟨PO, hPO⟩ : ∃ PO, PO = OwnP L w := ⟨_, rfl⟩
  rw [← hPO]
  have HP := hide hPO
  have HM := hide hm
  obtain ⟨k, hk⟩ : ∃ k, L.length = k := ⟨_, rfl⟩
  have HK := hide hk
  rw [hk] at h1 hm ⊢
  clear h hk hPO
  go_enter Try.func6, Try.ntmps6
  go_wp2_with fail
  go_loopw [3, 4] (fun lv iv wr => ∃ (i : Nat), iv = .int .i64 (i : Int) ∧ i ≤ k ∧ Hid (Ot w wr lv (L.take i))) (fun _ iv _ => k - (intOf iv).toNat)
  case atStart => exact ⟨0, rfl, Nat.zero_le _, hide (by simpa using Ot.start w)⟩
  case round =>
    obtain ⟨i, rfl, hi, hO⟩ := hrel
    have tl : (L.take i).length = i := by rw [List.length_take, HK.out]; omega
    obtain ⟨o2, c2, hv0, _, _⟩ := hO.out.shape
    rw [tl] at hv0
    subst hv0
    by_cases hlt : i < k
    · have hil : i < L.length := by rw [HK.out]; exact hlt
      have hpt := lens_part hil
      have htk := List.take_succ_eq_append_getElem hil
      have hB : Below w.heap.size w wr := hO.out.below
      obtain ⟨g, off, cap', o3, n3, c3, e1, _, hg, cv, hn3, h5, h6, hst⟩ := HT.out.at (List.getElem?_eq_getElem hil)
      injection e1 with e1 e2 e3
      subst e1 e3
      have cv' := (hB.cell (p := ⟨g, off + i, none⟩) hg).trans cv
      have gl : g < wr.heap.size := Nat.lt_of_lt_of_le hg hB.size
      obtain ⟨t, ht⟩ : ∃ t, L[i] = t := ⟨_, rfl⟩
      rw [ht] at hpt htk hn3 hst
      obtain ⟨W1, hW1⟩ : ∃ W1, W1 = wr.alloc (.cells #[] 36) := ⟨_, rfl⟩
      have B1 : Below wr.heap.size wr W1 := by rw [hW1]; exact (Below.refl _ _).alloc (Nat.le_refl _) _
      have hv : W1.ownsRow wr.heap.size 36 3 (.slice (some ⟨wr.heap.size, 0, none⟩) 0 0) 0 [] := ⟨rfl, Or.inr ⟨wr.heap.size, 0, #[], rfl, Nat.le_refl _, by rw [hW1]; exact heap_alloc_new _ _, Nat.le_refl _, Nat.zero_le _, rfl, rfl⟩⟩
      have hBW : Below w.heap.size w W1 := hB.trans (B1.mono hB.size)
      obtain ⟨o4, c4, w2, r1, s1, gr1⟩ := copy_run W1 wr.heap.size 34 hv (hst.kept hBW.size (fun x _ hx => hBW.block x hx)) (by have := HM.out; omega) B1.size
      have B2 : Below wr.heap.size wr w2 := B1.grown gr1 B1.size (fun x hx => by
        have hx : wr.heap.size = x := by simpa [Value.ownBlock] using hx
        omega)
      have O2 := hO.out.more B2
      obtain ⟨g5, cap5, w3, r3, O3⟩ := O2.push (by rw [tl]; omega) (hO.out.new s1) 22
      rw [← htk] at O3
      rw [tl] at r3 O3
      rw [hW1] at r1
      have R1 := hide r1
      have R3 := hide r3
      have OO := hide O3
      have cw : W1.cell? ⟨g, off + i, none⟩ = some (.slice o3 n3 c3) := (B1.cell (p := ⟨g, off + i, none⟩) gl).trans cv'
      have HW := hide hW1
      rw [← hn3] at R1 R3
      have i1 : (i : Int) < (k : Int) := by omega
      have i2 : (0 : Int) ≤ (i : Int) := by omega
      clear r1 r3 O3 O2 B2 gr1 s1 hv B1 hst hn3 ht htk hpt hil hB hBW cv e2 tl
      go_wp2_with (first
        | (at_builtin; refine list_append_run (by rfl) (.tmp 12) (.tmp 16) 34 (by rfl) (by rfl) (by rfl) R1.out ?_)
        | (at_builtin; refine list_append_run (by rfl) (.tmp 11) (.tmp 18) 22 (by rfl) (by rfl) (by rfl) R3.out ?_))
      go_roundw
      case rel => exact ⟨i + 1, by go_num, by omega, OO⟩
      case measure => simp [intOf]; omega
    · obtain rfl : i = k := by omega
      have d0 : ¬ (i : Int) < (i : Int) := by omega
      have hh := hO.out
      rw [List.take_of_length_le (by rw [HK.out]; exact Nat.le_refl _)] at hh
      have FN : Hid (PO (.returned (.slice o2 i c2)) wr) := hide (by rw [HP.out]; exact ⟨_, rfl, hh⟩)
      clear hh HP hO
      go_wp2_with fail
      first | exact FN.out | (go_ret; exact FN.out)
end Go.Proofs.Ytlcbegmhmbegjaa
