/- slices.Replace of rows: more rows come in than go, in place; and where it grows. -/
import Derived.Test.YtpceigglilgelaaVmF
namespace Go.Proofs.Ytpceigglilgelaa
open Go.ChangeShapes Go.WideShapes Go.ChangeAt Go.RowKit Go.Proofs.Sp
set_option linter.unusedVariables false
set_option linter.unusedSimpArgs false

set_option maxRecDepth 100000 in
set_option maxHeartbeats 4000000 in
theorem replace_more (g cap h c : Nat) (cur curF : List Value) (R F : List (Nat × Nat)) (i j d : Nat) (w : World) (hr : RowIs w g cap cur) (hR : cur.take (R.length * 2) = flat2 R) (hln : R.length = j + d) (hn : cap ≤ 9223372036854775807) (hij : i < j) (hd : 0 < d) (hm : j < i + F.length) (hc : i + F.length + d ≤ cap)
    (hf : RowIs w h c curF) (hF : curF.take (F.length * 2) = flat2 F) (hgh : h ≠ g) :
    Calls Try.prog 60 #[.slice (some ⟨g, 0, none⟩) (j + d) cap, .int .i64 (i : Int), .int .i64 (j : Int), .slice (some ⟨h, 0, none⟩) F.length c] w fun e w' => e = .returned (.slice (some ⟨g, 0, none⟩) (i + F.length + d) cap) ∧ HoldsR w' g cap (R.take i ++ F ++ R.drop j) ∧ w.grownBy w' (some g) := by
  obtain ⟨m, hlm⟩ : ∃ m, F.length = m := ⟨_, rfl⟩
  rw [hlm] at hF hm hc ⊢
  have HR := hide hR
  have Hr := hide hr
  have HLN := hide hln
  have HLM := hide hlm
  have Hf := hide hf
  have HF := hide hF
  clear hR hr hln hlm hf hF
  have b1 : ((i : Int) == (j : Int)) = false := beq_eq_false_iff_ne.2 (by omega)
  have b2 : ((j : Int) == (j : Int) + (d : Int)) = false := beq_eq_false_iff_ne.2 (by omega)
  have c1 : ¬ cap = i := by omega
  have c2 : ¬ cap = j := by omega
  have d0 : (0 : Int) ≤ (i : Int) := by omega
  have d1 : (i : Int) ≤ (j : Int) := by omega
  have d2 : (i : Int) ≤ (j : Int) + (d : Int) := by omega
  have d3 : (j : Int) ≤ (j : Int) + (d : Int) := by omega
  have d4 : IntKind.i64.wrap ((i : Int) + (m : Int)) = (i : Int) + (m : Int) := by rw [IntKind.wrap_i64]; omega
  have d5 : ((i : Int) + (m : Int)).toNat = i + m := by omega
  have d6 : IntKind.i64.wrap ((i : Int) + (m : Int) + (d : Int)) = (i : Int) + (m : Int) + (d : Int) := by rw [IntKind.wrap_i64]; omega
  have d7 : ((i : Int) + (m : Int) + (d : Int)).toNat = i + m + d := by omega
  have d8 : (0 : Int) ≤ (i : Int) + (m : Int) := by omega
  have d9 : (0 : Int) ≤ (i : Int) + (m : Int) + (d : Int) := by omega
  have d10 : (i : Int) + (m : Int) ≤ (i : Int) + (m : Int) + (d : Int) := by omega
  have d11 : (i : Int) ≤ (cap : Int) := by omega
  have d12 : (j : Int) ≤ (cap : Int) := by omega
  have b3 : ¬ (cap : Int) < (i : Int) + (m : Int) + (d : Int) := by omega
  have b4 : ¬ (i : Int) + (m : Int) ≤ (j : Int) := by omega
  have c3 : ¬ cap = i + m := by omega
  have hov : ∀ (q la ca lb cb o : Nat), (callFunc 83 #[.slice (some ⟨g, o, none⟩) la ca, .slice (some ⟨h, 0, none⟩) lb cb]).run Try.prog (w.drewN q) = .ok (.value (.bool false)) (w.drewN q) := fun q la ca lb cb o =>
    overlaps_false (w.drewN q) _ _ la lb ca cb fun x y hx hy _ _ => by cases hx; cases hy; exact ⟨fun e => hgh e.symm, ⟨_, _, Hr.out.heap⟩, ⟨_, _, Hf.out.heap⟩⟩
  go_enter Try.func60, Try.ntmps60
  go_wp2_with fail
  go_quiet (fail)
  have hA := hide (head_of HR.out (i := i) (by rw [HLN.out]; omega))
  have hcl := Hr.out.len
  have SR := hide (src_cells (W := w.drewN nq) ⟨Hr.out.heap, Hr.out.len, Hr.out.cap⟩ HR.out j)
  have FT := hide (show (i + m) * 2 + (flat2 (R.drop j)).length ≤ cur.length by rw [flat2_length, List.length_drop, HLN.out, hcl]; omega)
  have LN2 := hide (show ∀ x y, min x y = d → (flat2 (R.drop j)).length = Nat.min x y * 2 from fun x y hxy => by rw [flat2_length, List.length_drop, HLN.out]; show _ = min x y * 2; omega)
  go_wp2_with fail
  go_region_held3 (fun w' => True) (trivial) (first
    | (refine step_copy_sized rfl (.tmp 126) (.tmp 129) 54 54 rfl 88 2 Try.underlying54 sizeR (some ⟨g, (i + m) * 2, none⟩) (some ⟨g, j * 2, none⟩) d (cap - (i + m)) d (cap - j) rfl rfl g ((i + m) * 2) cur 88 Hr.out.heap (flat2 (R.drop j)) (LN2.out _ _ (by show min _ _ = _; omega)) (by decide) (fun _ => ⟨rfl, _, rfl, SR.out⟩) FT.out (flat2_one _) ?_; intro w1 HG1 hgrow1))
  have hgrow1 : w.grownBy w1 (some g) := ⟨hgrow1.os, hgrow1.tape, hgrow1.output, hgrow1.size, hgrow1.block⟩
  have r1 : RowIs w1 g cap (splice cur ((i + m) * 2) (flat2 (R.drop j))) := ⟨HG1.out, by rw [length_splice _ _ _ FT.out]; exact hcl, Hr.out.cap⟩
  have f1 := Hf.out.kept hgrow1 (by simpa using hgh)
  have R1 := hide r1
  have SF1 := hide (src_cells0 f1 (by rw [HLM.out]; exact HF.out))
  have FT1 := hide (show i * 2 + (flat2 F).length ≤ (splice cur ((i + m) * 2) (flat2 (R.drop j))).length by rw [r1.len, flat2_length, HLM.out]; omega)
  clear r1 f1 HG1 SR hov
  go_wp2_with fail
  obtain ⟨w2, hrun2, hg2, hgrow2⟩ := run_copy_splice (P := Try.prog) w1 54 54 3 88 2 Try.underlying54 sizeR (some ⟨g, i * 2, none⟩) (some ⟨h, 0, none⟩) (i + m + d - i) (cap - i) m c g (i * 2) _ 88 R1.out.heap (flat2 F) (by rw [flat2_length, HLM.out]; show _ = min _ _ * 2; omega) (by decide) (fun _ => ⟨rfl, _, rfl, SF1.out⟩) FT1.out (flat2_one _)
  rw [hrun2]
  clear hrun2
  have hgrow : w.grownBy w2 (some g) := hgrow1.trans hgrow2
  have FIN : Hid (HoldsR w2 g cap (R.take i ++ F ++ R.drop j)) := by
    have hln := HLN.out
    have hlm := HLM.out
    refine HoldsR.mk ⟨_, ⟨hg2, by rw [length_splice _ _ _ FT1.out]; exact R1.out.len, Hr.out.cap⟩, ?_⟩ (by rw [len_of (by omega)]; omega)
    have := copies_df (cur := cur) (R := R) (F := F) (i := i) (j := j) (by omega) hA.out (by rw [hln, hlm, hcl]; omega)
    rw [hlm] at this
    exact this
  clear hg2
  go_wp2_with fail
  go_ret
  exact ⟨rfl, FIN.out, hgrow⟩

set_option maxRecDepth 100000 in
set_option maxHeartbeats 4000000 in
theorem replace_grow (g cap h c : Nat) (cur curF : List Value) (R F : List (Nat × Nat)) (i j d : Nat) (w : World) (hr : RowIs w g cap cur) (hR : cur.take (R.length * 2) = flat2 R) (hln : R.length = j + d) (hrc : j + d ≤ cap) (hn : i + F.length + d ≤ 4398046511104) (hij : i < j) (hd : 0 < d) (hc : cap < i + F.length + d)
    (hf : RowIs w h c curF) (hF : curF.take (F.length * 2) = flat2 F) (hgh : h ≠ g) :
    Calls Try.prog 60 #[.slice (some ⟨g, 0, none⟩) (j + d) cap, .int .i64 (i : Int), .int .i64 (j : Int), .slice (some ⟨h, 0, none⟩) F.length c] w fun e w' => ∃ c', e = .returned (.slice (some ⟨w.heap.size, 0, none⟩) (i + (F.length + d)) c') ∧ HoldsR w' w.heap.size c' (R.take i ++ F ++ R.drop j) ∧ w.grownBy w' none := by
  obtain ⟨i0, hi0, hz0, hz1, hz2⟩ := info_parts infoR
  obtain ⟨m, hlm⟩ : ∃ m, F.length = m := ⟨_, rfl⟩
  rw [hlm] at hF hn hc ⊢
  have hgl := (Array.getElem?_eq_some_iff.1 hr.heap).1
  have hhl := (Array.getElem?_eq_some_iff.1 hf.heap).1
  have HR := hide hR
  have Hr := hide hr
  have HLN := hide hln
  have HLM := hide hlm
  have Hf := hide hf
  have HF := hide hF
  clear hR hr hln hlm hf hF
  have b1 : ((i : Int) == (j : Int)) = false := beq_eq_false_iff_ne.2 (by omega)
  have b2 : ((j : Int) == (j : Int) + (d : Int)) = false := beq_eq_false_iff_ne.2 (by omega)
  have c1 : ¬ cap = i := by omega
  have c2 : ¬ cap = j := by omega
  have d0 : (0 : Int) ≤ (i : Int) := by omega
  have d1 : (i : Int) ≤ (j : Int) := by omega
  have d2 : (i : Int) ≤ (j : Int) + (d : Int) := by omega
  have d3 : (j : Int) ≤ (j : Int) + (d : Int) := by omega
  have d4 : IntKind.i64.wrap ((i : Int) + (m : Int)) = (i : Int) + (m : Int) := by rw [IntKind.wrap_i64]; omega
  have d5 : ((i : Int) + (m : Int)).toNat = i + m := by omega
  have d6 : IntKind.i64.wrap ((i : Int) + (m : Int) + (d : Int)) = (i : Int) + (m : Int) + (d : Int) := by rw [IntKind.wrap_i64]; omega
  have d7 : ((i : Int) + (m : Int) + (d : Int)).toNat = i + m + d := by omega
  have d8 : (0 : Int) ≤ (i : Int) + (m : Int) := by omega
  have d9 : (0 : Int) ≤ (i : Int) + (m : Int) + (d : Int) := by omega
  have d10 : (i : Int) + (m : Int) ≤ (i : Int) + (m : Int) + (d : Int) := by omega
  have d11 : (i : Int) ≤ (cap : Int) := by omega
  have d12 : (j : Int) ≤ (cap : Int) := by omega
  have b3 : (cap : Int) < (i : Int) + (m : Int) + (d : Int) := by omega
  have SO := hide (show ∀ j v, (flat2 (R.take i))[j]? = some v → w.cell? ((⟨g, 0, none⟩ : Addr).add j) = some v from fun j v hv => by
    rw [flat2_take, List.getElem?_take] at hv
    split at hv
    · exact src_cells0 Hr.out HR.out j v hv
    · cases hv)
  have LO := hide (show (flat2 (R.take i)).length = i * 2 by rw [flat2_length, List.length_take, HLN.out]; omega)
  go_enter Try.func60, Try.ntmps60
  go_wp2_with fail
  go_quiet (fail)
  go_wp2_with (at_builtin; refine wpList_append_make rfl (.tmp 63) (.tmp 66) 54 3 rfl 88 i0 _ 2 16 Try.underlying54 Try.underlying3 hi0 hz0 hz1 hz2 rfl (by decide) ⟨g, 0, none⟩ i cap rfl (flat2 (R.take i)) LO.out SO.out (m + d) (by simp [Act.eval]; omega) (by omega) (by omega) (by unfold maxLen; omega) (by omega) ?_; intro c2 w1 more HG1 HL1 hc2 hcm hgrow1; go_frame)
  have hgrow1 : w.grownBy w1 none := ⟨hgrow1.os, hgrow1.tape, hgrow1.output, hgrow1.size, hgrow1.block⟩
  have e1 : ¬ c2 = i := by omega
  have e2 : ¬ c2 = i + m := by omega
  have e3 : (i : Int) + (m : Int) ≤ (i : Int) + ((m : Int) + (d : Int)) := by omega
  have e4 : (i : Int) ≤ (i : Int) + ((m : Int) + (d : Int)) := by omega
  have r1 : RowIs w1 w.heap.size c2 (flat2 (R.take i) ++ more) := ⟨HG1.out, HL1.out, hcm⟩
  have g1 := Hr.out.kept hgrow1 (by simp)
  have f1 := Hf.out.kept hgrow1 (by simp)
  have FT1 := hide (show i * 2 + (flat2 F).length ≤ (flat2 (R.take i) ++ more).length by rw [HL1.out, flat2_length, HLM.out]; omega)
  have SF1 := hide (src_cells0 f1 (by rw [HLM.out]; exact HF.out))
  have R1 := hide r1
  have G1 := hide g1
  clear r1 g1 f1 HG1 SO LO
  go_wp2_with fail
  obtain ⟨w2, hrun2, hg2', hgrow2⟩ := run_copy_splice (P := Try.prog) w1 54 54 3 88 2 Try.underlying54 sizeR (some ⟨w.heap.size, i * 2, none⟩) (some ⟨h, 0, none⟩) (m + d) (c2 - i) m c w.heap.size (i * 2) _ 88 R1.out.heap (flat2 F) (by rw [flat2_length, HLM.out]; show _ = min _ _ * 2; omega) (by decide) (fun _ => ⟨rfl, _, rfl, SF1.out⟩) FT1.out (flat2_one _)
  have HG2 := hide hg2'
  clear hg2'
  rw [hrun2]
  clear hrun2
  have r2 : RowIs w2 w.heap.size c2 (splice (flat2 (R.take i) ++ more) (i * 2) (flat2 F)) := ⟨HG2.out, by rw [length_splice _ _ _ FT1.out]; exact HL1.out, hcm⟩
  have g2 := G1.out.kept hgrow2 (by simp; omega)
  have FT2 := hide (show (i + m) * 2 + (flat2 (R.drop j)).length ≤ (splice (flat2 (R.take i) ++ more) (i * 2) (flat2 F)).length by rw [r2.len, flat2_length, List.length_drop, HLN.out]; omega)
  have SR := hide (src_cells g2 HR.out j)
  have LN2 := hide (show ∀ x y, min x y = d → (flat2 (R.drop j)).length = Nat.min x y * 2 from fun x y hxy => by rw [flat2_length, List.length_drop, HLN.out]; show _ = min x y * 2; omega)
  have R2 := hide r2
  clear r2 g2 HG2 SF1
  go_wp2_with fail
  go_region_held3 (fun w' => True) (trivial) (first
    | (refine step_copy_sized rfl (.tmp 78) (.tmp 81) 54 54 rfl 88 2 Try.underlying54 sizeR (some ⟨w.heap.size, (i + m) * 2, none⟩) (some ⟨g, j * 2, none⟩) (i + (m + d) - (i + m)) (c2 - (i + m)) d (cap - j) rfl rfl w.heap.size ((i + m) * 2) _ 88 R2.out.heap (flat2 (R.drop j)) (LN2.out _ _ (by show min _ _ = _; omega)) (by decide) (fun _ => ⟨rfl, _, rfl, SR.out⟩) FT2.out (flat2_one _) ?_; intro w3 HG3 hgrow3))
  have hgrow3 := undrew hgrow3
  have hgrow : w.grownBy w3 none := (hgrow1.andThen hgrow2 (fun j hj => Or.inl (by cases hj; omega))).andThen hgrow3 (fun j hj => Or.inl (by cases hj; omega))
  have FIN : Hid (HoldsR w3 w.heap.size c2 (R.take i ++ F ++ R.drop j)) := by
    have hln := HLN.out
    have hlm := HLM.out
    have hl1 := HL1.out
    refine HoldsR.mk ⟨_, ⟨HG3.out, by rw [length_splice _ _ _ FT2.out]; exact R2.out.len, hcm⟩, ?_⟩ (by rw [len_of (by omega)]; omega)
    have hA : (flat2 (R.take i) ++ more).take (i * 2) = flat2 (R.take i) := by
      have : i * 2 = (flat2 (R.take i)).length := by rw [flat2_length, List.length_take, hln]; omega
      rw [this]; exact List.take_left
    have := copies_fd (cur := flat2 (R.take i) ++ more) (R := R) (F := F) (i := i) (j := j) (by omega) hA (by rw [hln, hlm, hl1]; omega)
    rw [hlm] at this
    exact this
  clear HG3
  go_wp2_with fail
  go_ret
  exact ⟨c2, rfl, FIN.out, hgrow⟩
end Go.Proofs.Ytpceigglilgelaa
