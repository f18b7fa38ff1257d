/- slices.Replace of rows: as many come in as go, in a full row. -/
import Derived.Test.YtpceigglilgelaaVmH
namespace Go.Proofs.Ytpceigglilgelaa
open Go.ChangeShapes Go.WideShapes Go.ChangeAt Go.RowKit Go.Proofs.Sp

set_option maxRecDepth 100000 in
set_option maxHeartbeats 4000000 in
/-- As many rows come in as go, and the row is full. -/
theorem replace_fit (g : Nat) (cur : List Value) (R F : List (Nat × Nat)) (i d : Nat) (fp : Option Addr) (c : Nat) (w : World) (hr : RowIs w g (i + F.length + d) cur) (hR : cur.take (R.length * 2) = flat2 R) (hln : R.length = i + F.length + d) (hn : i + F.length + d ≤ 70368744177664) (hd : 0 < d) (hij : 0 < F.length)
    (hF : 0 < F.length → ∃ h curF, fp = some ⟨h, 0, none⟩ ∧ h ≠ g ∧ RowIs w h c curF ∧ curF.take (F.length * 2) = flat2 F) :
    Calls Try.prog 60 #[.slice (some ⟨g, 0, none⟩) (i + F.length + d) (i + F.length + d), .int .i64 (i : Int), .int .i64 ((i : Int) + (F.length : Int)), .slice fp F.length c] w fun e w' => e = .returned (.slice (some ⟨g, 0, none⟩) (i + F.length + d) (i + F.length + d)) ∧ HoldsR w' g (i + F.length + d) (R.take i ++ F ++ R.drop (i + F.length)) ∧ w.grownBy w' (some g) := by
  obtain ⟨m, hlm⟩ : ∃ m, F.length = m := ⟨_, rfl⟩
  rw [hlm] at hF hr hln hn hij ⊢
  have HR := hide hR
  have Hr := hide hr
  have HLN := hide hln
  have HLM := hide hlm
  have HF := hide hF
  clear hR hr hln hlm hF
  have b1 : ((i : Int) == ((i : Int) + (m : Int))) = false := beq_eq_false_iff_ne.2 (by omega)
  have c1 : ¬ (i + m + d) = i := by omega
  have c2 : ¬ (i + m + d) = (i + m) := by omega
  have d0 : (0 : Int) ≤ (i : Int) := by omega
  have d4 : IntKind.i64.wrap ((i : Int) + (m : Int)) = (i : Int) + (m : Int) := by rw [IntKind.wrap_i64]; omega
  have d5 : ((i : Int) + (m : Int)).toNat = i + m := by omega
  have d6 : IntKind.i64.wrap ((i : Int) + (m : Int) + (d : Int)) = (i : Int) + (m : Int) + (d : Int) := by rw [IntKind.wrap_i64]; omega
  have d7 : ((i : Int) + (m : Int) + (d : Int)).toNat = i + m + d := by omega
  have d8 : (0 : Int) ≤ (i : Int) + (m : Int) := by omega
  have d9 : (0 : Int) ≤ (i : Int) + (m : Int) + (d : Int) := by omega
  have b2 : (((i : Int) + (m : Int)) == ((i : Int) + (m : Int) + (d : Int))) = false := beq_eq_false_iff_ne.2 (by omega)
  have d1 : (i : Int) ≤ (i : Int) + (m : Int) := by omega
  have d10 : (i : Int) + (m : Int) ≤ (i : Int) + (m : Int) + (d : Int) := by omega
  have d11 : (i : Int) ≤ (i : Int) + (m : Int) + (d : Int) := by omega
  go_enter Try.func60, Try.ntmps60
  go_wp2_with fail
  go_quiet (fail)
  go_wp2_with fail
  have hA := hide (head_of HR.out (i := i) (by rw [HLN.out]; omega))
  have hcl := Hr.out.len
  have FT1 := hide (show i * 2 + (flat2 F).length ≤ cur.length by rw [hcl, flat2_length, HLM.out]; omega)
  obtain ⟨w2, hrun2, hg2', hgrow2⟩ := run_copy_splice (P := Try.prog) (w.drewN nq) 54 54 3 88 2 Try.underlying54 sizeR (some ⟨g, i * 2, none⟩) fp (i + m + d - i) ((i + m + d) - i) m c g (i * 2) cur 88 Hr.out.heap (flat2 F) (by rw [flat2_length, HLM.out]; show _ = min _ _ * 2; omega) (by decide) (fun h0 => by
    have h0' : 0 < m := by have : 0 < min m (i + m + d - i) := h0; omega
    obtain ⟨h, curF, e1, e2, e3, e4⟩ := HF.out h0'
    exact ⟨rfl, _, e1, src_cells0 (W := w.drewN nq) ⟨e3.heap, e3.len, e3.cap⟩ (by rw [HLM.out]; exact e4)⟩) FT1.out (flat2_one _)
  have R2 : Hid (RowIs w2 g (i + m + d) (splice cur (i * 2) (flat2 F))) := RowIs.mk hg2' (by rw [length_splice _ _ _ FT1.out]; exact hcl) Hr.out.cap
  clear hg2'
  rw [hrun2]
  clear hrun2
  have D2 : Hid (∀ jj v, (flat2 (R.drop (i + m)))[jj]? = some v → w2.cell? ((⟨g, (i + m) * 2, none⟩ : Addr).add jj) = some v) := fun jj v hv => by
    rw [addr_add0, R2.out.cell]
    rw [flat2_drop, ← HR.out, List.getElem?_drop, List.getElem?_take] at hv
    split at hv
    · rw [← hv]
      show (cur.take (i * 2) ++ (flat2 F ++ cur.drop (i * 2 + (flat2 F).length)))[(i + m) * 2 + jj]? = _
      have l1 : (cur.take (i * 2)).length = i * 2 := by rw [List.length_take]; omega
      have l2 : (flat2 F).length = m * 2 := by rw [flat2_length, HLM.out]
      rw [List.getElem?_append_right (by omega), List.getElem?_append_right (by omega), List.getElem?_drop, l1, l2]
      congr 1; omega
    · cases hv
  have FT2 := hide (show (i + m) * 2 + (flat2 (R.drop (i + m))).length ≤ (splice cur (i * 2) (flat2 F)).length by rw [R2.out.len, flat2_length, List.length_drop, HLN.out]; omega)
  have LN2 := hide (show ∀ x y, min x y = d → (flat2 (R.drop (i + m))).length = Nat.min x y * 2 from fun x y hxy => by rw [flat2_length, List.length_drop, HLN.out]; show _ = min x y * 2; omega)
  go_wp2_with fail
  go_region_held3 (fun w' => True) (trivial) (first
    | (refine step_copy_sized rfl (.tmp 103) (.tmp 106) 54 54 rfl 88 2 Try.underlying54 sizeR (some ⟨g, (i + m) * 2, none⟩) (some ⟨g, (i + m) * 2, none⟩) d d d d (by simp [Act.eval] <;> omega) (by simp [Act.eval] <;> omega) g ((i + m) * 2) _ 88 R2.out.heap (flat2 (R.drop (i + m))) (LN2.out _ _ (by show min _ _ = _; omega)) (by decide) (fun _ => ⟨rfl, _, rfl, D2.out⟩) FT2.out (flat2_one _) ?_; intro w3 HG3 hgrow3))
  have hgrow3 := undrew hgrow3
  have FIN := hide (copies_fd (cur := cur) (R := R) (F := F) (i := i) (j := i + m) (by rw [HLN.out]; omega) hA.out (by rw [hcl, HLN.out, HLM.out]; omega))
  have R3 : Hid (RowIs w3 g (i + m + d) (splice (splice cur (i * 2) (flat2 F)) ((i + m) * 2) (flat2 (R.drop (i + m))))) := RowIs.mk HG3.out (by rw [length_splice _ _ _ FT2.out]; exact R2.out.len) Hr.out.cap
  clear HG3
  go_wp2_with fail
  obtain ⟨w4, cur4, hrun4, hg4, hl4, ht4, hgrow4⟩ := run_clear_behind (P := Try.prog) w3 54 0 88 _ Try.underlying54 (zeroR w3) zc2 (some ⟨g, 0, none⟩) 0 0 g ((i + m + d) * 2) _ 88 R3.out.heap (fun h => absurd h (by omega)) (by show (i + m + d) * 2 + 0 * 2 ≤ _; rw [R3.out.len]; omega)
  rw [hrun4]
  clear hrun4
  have FIN4 : Hid (HoldsR w4 g (i + m + d) (R.take i ++ F ++ R.drop (i + m))) := by
    refine HoldsR.mk ⟨cur4, ⟨hg4, by rw [hl4]; exact R3.out.len, Hr.out.cap⟩, ?_⟩ (by rw [len_of (by rw [HLN.out]; omega), HLN.out, HLM.out]; omega)
    have e := FIN.out
    rw [HLM.out] at e
    rw [← e]
    exact tail_take ht4 (by rw [len_of (by rw [HLN.out]; omega), HLN.out, HLM.out]; omega)
  have hgrow : w.grownBy w4 (some g) := ((show w.grownBy w2 (some g) from ⟨hgrow2.os, hgrow2.tape, hgrow2.output, hgrow2.size, hgrow2.block⟩).trans hgrow3).trans hgrow4
  clear hg4 hl4 ht4 hgrow2 hgrow3 hgrow4
  go_wp2_with fail
  go_ret
  exact ⟨rfl, FIN4.out, hgrow⟩
end Go.Proofs.Ytpceigglilgelaa
