/- slices.Insert of rows, where it grows; at the end; of nothing. -/
import Derived.Test.YtpceigglilgelaaVmD
import Derived.Maps.RangeWalk
namespace Go.Proofs.Ytpceigglilgelaa
open Go.ChangeShapes Go.WideShapes Go.ChangeAt Go.RowKit Go.Proofs.Sp
set_option linter.unusedVariables false
set_option linter.unusedSimpArgs false

set_option maxRecDepth 100000 in
set_option maxHeartbeats 4000000 in
theorem insert_grow (g cap h c : Nat) (cur curF : List Value) (R F : List (Nat × Nat)) (i : Nat) (w : World) (hr : RowIs w g cap cur) (hR : cur.take (R.length * 2) = flat2 R) (hrc : R.length ≤ cap) (hc : cap < R.length + F.length) (hi : i < R.length) (hn : R.length + F.length ≤ 4398046511104)
    (hf : RowIs w h c curF) (hF : curF.take (F.length * 2) = flat2 F) (hgh : h ≠ g) (hm : 0 < F.length) :
    Calls Try.prog 82 #[.slice (some ⟨g, 0, none⟩) R.length cap, .int .i64 (i : Int), .slice (some ⟨h, 0, none⟩) F.length c] w fun e w' => ∃ c', e = .returned (.slice (some ⟨w.heap.size, 0, none⟩) (R.length + F.length) c') ∧ HoldsR w' w.heap.size c' (R.take i ++ F ++ R.drop i) ∧ w.grownBy w' none := by
  obtain ⟨i0, hi0, hz0, hz1, hz2⟩ := info_parts infoR
  obtain ⟨n, hln⟩ : ∃ n, R.length = n := ⟨_, rfl⟩
  obtain ⟨m, hlm⟩ : ∃ m, F.length = m := ⟨_, rfl⟩
  rw [hln] at hR hrc hc hi hn ⊢
  rw [hlm] at hc hF hm hn ⊢
  obtain ⟨k, hk⟩ : ∃ k, k = n + m - i := ⟨_, rfl⟩
  have hik : i + k = n + m := by omega
  rw [← hik]
  have hik1 : i + k ≤ n + m := by omega
  have hik2 : n + m ≤ i + k := by omega
  clear hik
  have hgl := (Array.getElem?_eq_some_iff.1 hr.heap).1
  have hhl := (Array.getElem?_eq_some_iff.1 hf.heap).1
  have HR := hide hR
  have HF := hide hF
  have Hr := hide hr
  have Hf := hide hf
  have HLN := hide hln
  have HLM := hide hlm
  clear hR hF hr hf hln hlm hk
  have b0 : ((m : Int) == 0) = false := beq_eq_false_iff_ne.2 (by omega)
  have b1 : ((i : Int) == (n : Int)) = false := beq_eq_false_iff_ne.2 (by omega)
  have b2 : (cap : Int) < (n : Int) + (m : Int) := by omega
  have c1 : ¬ cap = i := by omega
  have d0 : (0 : Int) ≤ (i : Int) := by omega
  have d2 : (0 : Int) ≤ (i : Int) + (m : Int) := by omega
  have d4 : IntKind.i64.wrap ((i : Int) + (m : Int)) = (i : Int) + (m : Int) := by rw [IntKind.wrap_i64]; omega
  have d5 : ((i : Int) + (m : Int)).toNat = i + m := by omega
  have SO := hide (show ∀ j v, (flat2 (R.take i))[j]? = some v → w.cell? ((⟨g, 0, none⟩ : Addr).add j) = some v from fun j v hv => by
    rw [flat2_take, List.getElem?_take] at hv
    split at hv
    · exact src_cells0 Hr.out (by rw [HLN.out]; exact HR.out) j v hv
    · cases hv)
  have LO := hide (show (flat2 (R.take i)).length = i * 2 by rw [flat2_length, List.length_take, HLN.out]; omega)
  go_enter Try.func82, Try.ntmps82
  go_wp2_with (at_builtin; refine wpList_append_make rfl (.tmp 34) (.tmp 39) 54 3 rfl 88 i0 _ 2 16 Try.underlying54 Try.underlying3 hi0 hz0 hz1 hz2 rfl (by decide) ⟨g, 0, none⟩ i cap rfl (flat2 (R.take i)) LO.out SO.out k (by simp [Act.eval]; omega) (by omega) (by omega) (by unfold maxLen; omega) (by omega) ?_; intro c2 w1 more HG1 HL1 hc2 hcm hgrow1; go_frame)
  have e1 : ¬ c2 = i := by omega
  have e2 : ¬ c2 = i + m := by omega
  have e3 : (i : Int) + (m : Int) ≤ (i : Int) + (k : Int) := by omega
  have e4 : (i : Int) ≤ (i : Int) + (k : Int) := by omega
  have r1 : RowIs w1 w.heap.size c2 (flat2 (R.take i) ++ more) := ⟨HG1.out, HL1.out, hcm⟩
  have g1 := Hr.out.kept hgrow1 (by simp)
  have f1 := Hf.out.kept hgrow1 (by simp)
  have FT1 := hide (show i * 2 + (flat2 F).length ≤ (flat2 (R.take i) ++ more).length by rw [HL1.out, flat2_length, HLM.out]; omega)
  have SF1 := hide (src_cells0 f1 (by rw [HLM.out]; exact HF.out))
  have LN1 := hide (show ∀ x y, min x y = m → (flat2 F).length = Nat.min x y * 2 from fun x y hxy => by rw [flat2_length, HLM.out]; show _ = min x y * 2; omega)
  have R1 := hide r1
  have G1 := hide g1
  clear r1 g1 f1 HG1 SO LO
  go_wp2_with fail
  obtain ⟨w2, hrun2, hg2', hgrow2⟩ := run_copy_splice (P := Try.prog) w1 54 54 3 88 2 Try.underlying54 sizeR (some ⟨w.heap.size, i * 2, none⟩) (some ⟨h, 0, none⟩) k (c2 - i) m c w.heap.size (i * 2) _ 88 R1.out.heap (flat2 F) (LN1.out _ _ (by show min _ _ = _; omega)) (by decide) (fun _ => ⟨rfl, _, rfl, SF1.out⟩) FT1.out (flat2_one _)
  have HG2 := hide hg2'
  clear hg2'
  rw [hrun2]
  clear hrun2
  have r2 : RowIs w2 w.heap.size c2 (splice (flat2 (R.take i) ++ more) (i * 2) (flat2 F)) := ⟨HG2.out, by rw [length_splice _ _ _ FT1.out]; exact HL1.out, hcm⟩
  have g2 := G1.out.kept hgrow2 (by simp; omega)
  have FT2 := hide (show (i + m) * 2 + (flat2 (R.drop i)).length ≤ (splice (flat2 (R.take i) ++ more) (i * 2) (flat2 F)).length by rw [r2.len, flat2_length, List.length_drop, HLN.out]; omega)
  have SR := hide (src_cells g2 (by rw [HLN.out]; exact HR.out) i)
  have LN2 := hide (show ∀ x y, min x y = n - i → (flat2 (R.drop i)).length = Nat.min x y * 2 from fun x y hxy => by rw [flat2_length, List.length_drop, HLN.out]; show _ = min x y * 2; omega)
  have R2 := hide r2
  clear r2 g2 HG2 SF1 LN1
  go_wp2_with fail
  have y1 : (0 : Int) ≤ (i : Int) := by omega
  have y2 : (i : Int) ≤ (n : Int) := by omega
  have y3 : ¬ cap = i := by omega
  have y4 : i < cap := by omega
  go_region_held3 (fun w' => True) (trivial) (first
    | (refine step_copy_sized rfl (.tmp 50) (.tmp 53) 54 54 rfl 88 2 Try.underlying54 sizeR (some ⟨w.heap.size, (i + m) * 2, none⟩) (some ⟨g, i * 2, none⟩) (i + k - (i + m)) (c2 - (i + m)) (n - i) (cap - i) rfl rfl w.heap.size ((i + m) * 2) _ 88 R2.out.heap (flat2 (R.drop i)) (LN2.out _ _ (by show min _ _ = _; omega)) (by decide) (fun _ => ⟨rfl, _, rfl, SR.out⟩) FT2.out (flat2_one _) ?_; intro w3 HG3 hgrow3))
  have hgrow3 := undrew hgrow3
  have hgrow : w.grownBy w3 none := (hgrow1.andThen hgrow2 (fun j hj => Or.inl (by cases hj; omega))).andThen hgrow3 (fun j hj => Or.inl (by cases hj; omega))
  have FIN : Hid (HoldsR w3 w.heap.size c2 (R.take i ++ F ++ R.drop i)) := by
    have hln := HLN.out
    have hlm := HLM.out
    have hl1 := HL1.out
    refine HoldsR.mk ⟨_, ⟨HG3.out, by rw [length_splice _ _ _ FT2.out]; exact R2.out.len, hcm⟩, ?_⟩ (by rw [len_of (by omega)]; omega)
    have hA : (flat2 (R.take i) ++ more).take (i * 2) = flat2 (R.take i) := by
      have : i * 2 = (flat2 (R.take i)).length := by rw [flat2_length, List.length_take, hln]; omega
      rw [this]; exact List.take_left
    have := copies_fd (cur := flat2 (R.take i) ++ more) (R := R) (F := F) (i := i) (j := i) (by omega) hA (by rw [hln, hlm, hl1]; omega)
    rw [hlm] at this
    exact this
  clear HG3
  go_wp2_with fail
  go_ret
  exact ⟨c2, rfl, FIN.out, hgrow⟩
end Go.Proofs.Ytpceigglilgelaa
