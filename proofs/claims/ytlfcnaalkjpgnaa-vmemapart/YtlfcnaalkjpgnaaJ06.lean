/- J06 of the proof of both laws: texts VmG, VmH, VmI, one behind the other. -/
import Derived.Test.YtlfcnaalkjpgnaaJ05
/- slices.Replace of rows: more rows come in than go, in place; and where it grows. -/
namespace Go.Proofs.Ytlfcnaalkjpgnaa
open Go.ChangeShapes Go.WideShapes Go.ChangeAt Go.RowKit Go.Proofs.Sp
set_option linter.unusedVariables false
set_option linter.unusedSimpArgs false

set_option maxRecDepth 100000 in
set_option maxHeartbeats 4000000 in
theorem replace_more (g cap h c : Nat) (cur curF : List Value) (R F : List (Nat × Nat)) (i j d : Nat) (w : World) (hr : RowIs w g cap cur) (hR : cur.take (R.length * 2) = flat2 R) (hln : R.length = j + d) (hn : cap ≤ 9223372036854775807) (hij : i < j) (hd : 0 < d) (hm : j < i + F.length) (hc : i + F.length + d ≤ cap)
    (hf : RowIs w h c curF) (hF : curF.take (F.length * 2) = flat2 F) (hgh : h ≠ g) :
    Calls Try.prog 63 #[.slice (some ⟨g, 0, none⟩) (j + d) cap, .int .i64 (i : Int), .int .i64 (j : Int), .slice (some ⟨h, 0, none⟩) F.length c] w fun e w' => e = .returned (.slice (some ⟨g, 0, none⟩) (i + F.length + d) cap) ∧ HoldsR w' g cap (R.take i ++ F ++ R.drop j) ∧ w.grownBy w' (some g) := by
  obtain ⟨m, hlm⟩ : ∃ m, F.length = m := ⟨_, rfl⟩
  rw [hlm] at hF hm hc ⊢
  have HR := hide hR
  have Hr := hide hr
  have HLN := hide hln
  have HLM := hide hlm
  have Hf := hide hf
  have HF := hide hF
  clear hR hr hln hlm hf hF
  have b1 : ((i : Int) == (j : Int)) = false := beq_eq_false_iff_ne.2 (by omega)
  have b2 : ((j : Int) == (j : Int) + (d : Int)) = false := beq_eq_false_iff_ne.2 (by omega)
  have c1 : ¬ cap = i := by omega
  have c2 : ¬ cap = j := by omega
  have d0 : (0 : Int) ≤ (i : Int) := by omega
  have d1 : (i : Int) ≤ (j : Int) := by omega
  have d2 : (i : Int) ≤ (j : Int) + (d : Int) := by omega
  have d3 : (j : Int) ≤ (j : Int) + (d : Int) := by omega
  have d4 : IntKind.i64.wrap ((i : Int) + (m : Int)) = (i : Int) + (m : Int) := by rw [IntKind.wrap_i64]; omega
  have d5 : ((i : Int) + (m : Int)).toNat = i + m := by omega
  have d6 : IntKind.i64.wrap ((i : Int) + (m : Int) + (d : Int)) = (i : Int) + (m : Int) + (d : Int) := by rw [IntKind.wrap_i64]; omega
  have d7 : ((i : Int) + (m : Int) + (d : Int)).toNat = i + m + d := by omega
  have d8 : (0 : Int) ≤ (i : Int) + (m : Int) := by omega
  have d9 : (0 : Int) ≤ (i : Int) + (m : Int) + (d : Int) := by omega
  have d10 : (i : Int) + (m : Int) ≤ (i : Int) + (m : Int) + (d : Int) := by omega
  have d11 : (i : Int) ≤ (cap : Int) := by omega
  have d12 : (j : Int) ≤ (cap : Int) := by omega
  have b3 : ¬ (cap : Int) < (i : Int) + (m : Int) + (d : Int) := by omega
  have b4 : ¬ (i : Int) + (m : Int) ≤ (j : Int) := by omega
  have c3 : ¬ cap = i + m := by omega
  have hov : ∀ (q la ca lb cb o : Nat), (callFunc 79 #[.slice (some ⟨g, o, none⟩) la ca, .slice (some ⟨h, 0, none⟩) lb cb]).run Try.prog (w.drewN q) = .ok (.value (.bool false)) (w.drewN q) := fun q la ca lb cb o =>
    overlaps_false (w.drewN q) _ _ la lb ca cb fun x y hx hy _ _ => by cases hx; cases hy; exact ⟨fun e => hgh e.symm, ⟨_, _, Hr.out.heap⟩, ⟨_, _, Hf.out.heap⟩⟩
  go_enter Try.func63, Try.ntmps63
  go_wp2_with fail
  go_quiet (fail)
  have hA := hide (head_of HR.out (i := i) (by rw [HLN.out]; omega))
  have hcl := Hr.out.len
  have SR := hide (src_cells (W := w.drewN nq) ⟨Hr.out.heap, Hr.out.len, Hr.out.cap⟩ HR.out j)
  have FT := hide (show (i + m) * 2 + (flat2 (R.drop j)).length ≤ cur.length by rw [flat2_length, List.length_drop, HLN.out, hcl]; omega)
  have LN2 := hide (show ∀ x y, min x y = d → (flat2 (R.drop j)).length = Nat.min x y * 2 from fun x y hxy => by rw [flat2_length, List.length_drop, HLN.out]; show _ = min x y * 2; omega)
  go_wp2_with fail
  go_region_held3 (fun w' => True) (trivial) (first
    | (refine step_copy_sized rfl (.tmp 126) (.tmp 129) 42 42 rfl 70 2 Try.underlying42 sizeR (some ⟨g, (i + m) * 2, none⟩) (some ⟨g, j * 2, none⟩) d (cap - (i + m)) d (cap - j) rfl rfl g ((i + m) * 2) cur 70 Hr.out.heap (flat2 (R.drop j)) (LN2.out _ _ (by show min _ _ = _; omega)) (by decide) (fun _ => ⟨rfl, _, rfl, SR.out⟩) FT.out (flat2_one _) ?_; intro w1 HG1 hgrow1))
  have hgrow1 : w.grownBy w1 (some g) := ⟨hgrow1.os, hgrow1.tape, hgrow1.output, hgrow1.size, hgrow1.block⟩
  have r1 : RowIs w1 g cap (splice cur ((i + m) * 2) (flat2 (R.drop j))) := ⟨HG1.out, by rw [length_splice _ _ _ FT.out]; exact hcl, Hr.out.cap⟩
  have f1 := Hf.out.kept hgrow1 (by simpa using hgh)
  have R1 := hide r1
  have SF1 := hide (src_cells0 f1 (by rw [HLM.out]; exact HF.out))
  have FT1 := hide (show i * 2 + (flat2 F).length ≤ (splice cur ((i + m) * 2) (flat2 (R.drop j))).length by rw [r1.len, flat2_length, HLM.out]; omega)
  clear r1 f1 HG1 SR hov
  go_wp2_with fail
  obtain ⟨w2, hrun2, hg2, hgrow2⟩ := run_copy_splice (P := Try.prog) w1 42 42 3 70 2 Try.underlying42 sizeR (some ⟨g, i * 2, none⟩) (some ⟨h, 0, none⟩) (i + m + d - i) (cap - i) m c g (i * 2) _ 70 R1.out.heap (flat2 F) (by rw [flat2_length, HLM.out]; show _ = min _ _ * 2; omega) (by decide) (fun _ => ⟨rfl, _, rfl, SF1.out⟩) FT1.out (flat2_one _)
  rw [hrun2]
  clear hrun2
  have hgrow : w.grownBy w2 (some g) := hgrow1.trans hgrow2
  have FIN : Hid (HoldsR w2 g cap (R.take i ++ F ++ R.drop j)) := by
    have hln := HLN.out
    have hlm := HLM.out
    refine HoldsR.mk ⟨_, ⟨hg2, by rw [length_splice _ _ _ FT1.out]; exact R1.out.len, Hr.out.cap⟩, ?_⟩ (by rw [len_of (by omega)]; omega)
    have := copies_df (cur := cur) (R := R) (F := F) (i := i) (j := j) (by omega) hA.out (by rw [hln, hlm, hcl]; omega)
    rw [hlm] at this
    exact this
  clear hg2
  go_wp2_with fail
  go_ret
  exact ⟨rfl, FIN.out, hgrow⟩

set_option maxRecDepth 100000 in
set_option maxHeartbeats 4000000 in
theorem replace_grow (g cap h c : Nat) (cur curF : List Value) (R F : List (Nat × Nat)) (i j d : Nat) (w : World) (hr : RowIs w g cap cur) (hR : cur.take (R.length * 2) = flat2 R) (hln : R.length = j + d) (hrc : j + d ≤ cap) (hn : i + F.length + d ≤ 4398046511104) (hij : i < j) (hd : 0 < d) (hc : cap < i + F.length + d)
    (hf : RowIs w h c curF) (hF : curF.take (F.length * 2) = flat2 F) (hgh : h ≠ g) :
    Calls Try.prog 63 #[.slice (some ⟨g, 0, none⟩) (j + d) cap, .int .i64 (i : Int), .int .i64 (j : Int), .slice (some ⟨h, 0, none⟩) F.length c] w fun e w' => ∃ c', e = .returned (.slice (some ⟨w.heap.size, 0, none⟩) (i + (F.length + d)) c') ∧ HoldsR w' w.heap.size c' (R.take i ++ F ++ R.drop j) ∧ w.grownBy w' none := by
  obtain ⟨i0, hi0, hz0, hz1, hz2⟩ := info_parts infoR
  obtain ⟨m, hlm⟩ : ∃ m, F.length = m := ⟨_, rfl⟩
  rw [hlm] at hF hn hc ⊢
  have hgl := (Array.getElem?_eq_some_iff.1 hr.heap).1
  have hhl := (Array.getElem?_eq_some_iff.1 hf.heap).1
  have HR := hide hR
  have Hr := hide hr
  have HLN := hide hln
  have HLM := hide hlm
  have Hf := hide hf
  have HF := hide hF
  clear hR hr hln hlm hf hF
  have b1 : ((i : Int) == (j : Int)) = false := beq_eq_false_iff_ne.2 (by omega)
  have b2 : ((j : Int) == (j : Int) + (d : Int)) = false := beq_eq_false_iff_ne.2 (by omega)
  have c1 : ¬ cap = i := by omega
  have c2 : ¬ cap = j := by omega
  have d0 : (0 : Int) ≤ (i : Int) := by omega
  have d1 : (i : Int) ≤ (j : Int) := by omega
  have d2 : (i : Int) ≤ (j : Int) + (d : Int) := by omega
  have d3 : (j : Int) ≤ (j : Int) + (d : Int) := by omega
  have d4 : IntKind.i64.wrap ((i : Int) + (m : Int)) = (i : Int) + (m : Int) := by rw [IntKind.wrap_i64]; omega
  have d5 : ((i : Int) + (m : Int)).toNat = i + m := by omega
  have d6 : IntKind.i64.wrap ((i : Int) + (m : Int) + (d : Int)) = (i : Int) + (m : Int) + (d : Int) := by rw [IntKind.wrap_i64]; omega
  have d7 : ((i : Int) + (m : Int) + (d : Int)).toNat = i + m + d := by omega
  have d8 : (0 : Int) ≤ (i : Int) + (m : Int) := by omega
  have d9 : (0 : Int) ≤ (i : Int) + (m : Int) + (d : Int) := by omega
  have d10 : (i : Int) + (m : Int) ≤ (i : Int) + (m : Int) + (d : Int) := by omega
  have d11 : (i : Int) ≤ (cap : Int) := by omega
  have d12 : (j : Int) ≤ (cap : Int) := by omega
  have b3 : (cap : Int) < (i : Int) + (m : Int) + (d : Int) := by omega
  have SO := hide (show ∀ j v, (flat2 (R.take i))[j]? = some v → w.cell? ((⟨g, 0, none⟩ : Addr).add j) = some v from fun j v hv => by
    rw [flat2_take, List.getElem?_take] at hv
    split at hv
    · exact src_cells0 Hr.out HR.out j v hv
    · cases hv)
  have LO := hide (show (flat2 (R.take i)).length = i * 2 by rw [flat2_length, List.length_take, HLN.out]; omega)
  go_enter Try.func63, Try.ntmps63
  go_wp2_with fail
  go_quiet (fail)
  go_wp2_with (at_builtin; refine wpList_append_make rfl (.tmp 63) (.tmp 66) 42 3 rfl 70 i0 _ 2 16 Try.underlying42 Try.underlying3 hi0 hz0 hz1 hz2 rfl (by decide) ⟨g, 0, none⟩ i cap rfl (flat2 (R.take i)) LO.out SO.out (m + d) (by simp [Act.eval]; omega) (by omega) (by omega) (by unfold maxLen; omega) (by omega) ?_; intro c2 w1 more HG1 HL1 hc2 hcm hgrow1; go_frame)
  have hgrow1 : w.grownBy w1 none := ⟨hgrow1.os, hgrow1.tape, hgrow1.output, hgrow1.size, hgrow1.block⟩
  have e1 : ¬ c2 = i := by omega
  have e2 : ¬ c2 = i + m := by omega
  have e3 : (i : Int) + (m : Int) ≤ (i : Int) + ((m : Int) + (d : Int)) := by omega
  have e4 : (i : Int) ≤ (i : Int) + ((m : Int) + (d : Int)) := by omega
  have r1 : RowIs w1 w.heap.size c2 (flat2 (R.take i) ++ more) := ⟨HG1.out, HL1.out, hcm⟩
  have g1 := Hr.out.kept hgrow1 (by simp)
  have f1 := Hf.out.kept hgrow1 (by simp)
  have FT1 := hide (show i * 2 + (flat2 F).length ≤ (flat2 (R.take i) ++ more).length by rw [HL1.out, flat2_length, HLM.out]; omega)
  have SF1 := hide (src_cells0 f1 (by rw [HLM.out]; exact HF.out))
  have R1 := hide r1
  have G1 := hide g1
  clear r1 g1 f1 HG1 SO LO
  go_wp2_with fail
  obtain ⟨w2, hrun2, hg2', hgrow2⟩ := run_copy_splice (P := Try.prog) w1 42 42 3 70 2 Try.underlying42 sizeR (some ⟨w.heap.size, i * 2, none⟩) (some ⟨h, 0, none⟩) (m + d) (c2 - i) m c w.heap.size (i * 2) _ 70 R1.out.heap (flat2 F) (by rw [flat2_length, HLM.out]; show _ = min _ _ * 2; omega) (by decide) (fun _ => ⟨rfl, _, rfl, SF1.out⟩) FT1.out (flat2_one _)
  have HG2 := hide hg2'
  clear hg2'
  rw [hrun2]
  clear hrun2
  have r2 : RowIs w2 w.heap.size c2 (splice (flat2 (R.take i) ++ more) (i * 2) (flat2 F)) := ⟨HG2.out, by rw [length_splice _ _ _ FT1.out]; exact HL1.out, hcm⟩
  have g2 := G1.out.kept hgrow2 (by simp; omega)
  have FT2 := hide (show (i + m) * 2 + (flat2 (R.drop j)).length ≤ (splice (flat2 (R.take i) ++ more) (i * 2) (flat2 F)).length by rw [r2.len, flat2_length, List.length_drop, HLN.out]; omega)
  have SR := hide (src_cells g2 HR.out j)
  have LN2 := hide (show ∀ x y, min x y = d → (flat2 (R.drop j)).length = Nat.min x y * 2 from fun x y hxy => by rw [flat2_length, List.length_drop, HLN.out]; show _ = min x y * 2; omega)
  have R2 := hide r2
  clear r2 g2 HG2 SF1
  go_wp2_with fail
  go_region_held3 (fun w' => True) (trivial) (first
    | (refine step_copy_sized rfl (.tmp 78) (.tmp 81) 42 42 rfl 70 2 Try.underlying42 sizeR (some ⟨w.heap.size, (i + m) * 2, none⟩) (some ⟨g, j * 2, none⟩) (i + (m + d) - (i + m)) (c2 - (i + m)) d (cap - j) rfl rfl w.heap.size ((i + m) * 2) _ 70 R2.out.heap (flat2 (R.drop j)) (LN2.out _ _ (by show min _ _ = _; omega)) (by decide) (fun _ => ⟨rfl, _, rfl, SR.out⟩) FT2.out (flat2_one _) ?_; intro w3 HG3 hgrow3))
  have hgrow3 := undrew hgrow3
  have hgrow : w.grownBy w3 none := (hgrow1.andThen hgrow2 (fun j hj => Or.inl (by cases hj; omega))).andThen hgrow3 (fun j hj => Or.inl (by cases hj; omega))
  have FIN : Hid (HoldsR w3 w.heap.size c2 (R.take i ++ F ++ R.drop j)) := by
    have hln := HLN.out
    have hlm := HLM.out
    have hl1 := HL1.out
    refine HoldsR.mk ⟨_, ⟨HG3.out, by rw [length_splice _ _ _ FT2.out]; exact R2.out.len, hcm⟩, ?_⟩ (by rw [len_of (by omega)]; omega)
    have hA : (flat2 (R.take i) ++ more).take (i * 2) = flat2 (R.take i) := by
      have : i * 2 = (flat2 (R.take i)).length := by rw [flat2_length, List.length_take, hln]; omega
      rw [this]; exact List.take_left
    have := copies_fd (cur := flat2 (R.take i) ++ more) (R := R) (F := F) (i := i) (j := j) (by omega) hA (by rw [hln, hlm, hl1]; omega)
    rw [hlm] at this
    exact this
  clear HG3
  go_wp2_with fail
  go_ret
  exact ⟨c2, rfl, FIN.out, hgrow⟩
end Go.Proofs.Ytlfcnaalkjpgnaa

/- slices.Insert and slices.Replace of rows, at the end. -/
namespace Go.Proofs.Ytlfcnaalkjpgnaa
open Go.ChangeShapes Go.WideShapes Go.ChangeAt Go.RowKit Go.Proofs.Sp
set_option linter.unusedVariables false
set_option linter.unusedSimpArgs false

theorem holds_own {w : World} {g cap : Nat} {R : List (Nat × Nat)} (h : HoldsR w g cap R) : w.ownsRow 0 70 2 (.slice (some ⟨g, 0, none⟩) R.length cap) R.length (flat2 R) := by
  obtain ⟨⟨cur, hr, ht⟩, hl⟩ := h
  exact ⟨flat2_length R, Or.inr ⟨g, cap, cur.toArray, rfl, Nat.zero_le _, hr.heap, hl, hr.cap, by simpa using hr.len, by simpa using ht⟩⟩
theorem own_holds {w : World} {b g cap : Nat} {R : List (Nat × Nat)} (h : w.ownsRow b 70 2 (.slice (some ⟨g, 0, none⟩) R.length cap) R.length (flat2 R)) : HoldsR w g cap R := by
  rcases h.2 with ⟨h1, _⟩ | ⟨g', cap', cur, h1, h2, h3, h4, h5, h6, h7⟩
  · cases h1
  · cases h1
    exact ⟨⟨cur.toList, ⟨by simpa using h3, by simpa using h6, h5⟩, h7⟩, h4⟩
theorem holds_take {w : World} {g cap : Nat} {R : List (Nat × Nat)} (h : HoldsR w g cap R) (i : Nat) : HoldsR w g cap (R.take i) := by
  obtain ⟨⟨cur, hr, ht⟩, hl⟩ := h
  refine ⟨⟨cur, hr, ?_⟩, by rw [List.length_take]; omega⟩
  rw [flat2_take, ← ht, List.take_take, List.length_take]
  by_cases c : i ≤ R.length
  · congr 1; omega
  · rw [Nat.min_eq_right (by omega), Nat.min_eq_right (by omega)]

theorem insert_none (g cap n i : Nat) (fp : Option Addr) (c : Nat) (w : World) (hrc : n ≤ cap) (hi : i ≤ n) (hn : cap ≤ 9223372036854775807) :
    Calls Try.prog 78 #[.slice (some ⟨g, 0, none⟩) n cap, .int .i64 (i : Int), .slice fp 0 c] w fun e w' => e = .returned (.slice (some ⟨g, 0, none⟩) n cap) ∧ w' = w := by
  have d0 : (0 : Int) ≤ (i : Int) := by omega
  have d1 : (i : Int) ≤ (n : Int) := by omega
  by_cases c1 : cap = i
  all_goals
    go_enter Try.func78, Try.ntmps78
    go_wp2_with fail
    go_ret
    exact ⟨rfl, rfl⟩
set_option maxRecDepth 100000 in
set_option maxHeartbeats 4000000 in
theorem insert_end (g cap h c : Nat) (cur curF : List Value) (R F : List (Nat × Nat)) (n m : Nat) (w : World) (hr : RowIs w g cap cur) (hR : cur.take (R.length * 2) = flat2 R) (hln : R.length = n) (hlm : F.length = m) (hrc : n ≤ cap) (hn : n ≤ 4398046511104) (hm : 0 < m) (hm2 : m ≤ 2)
    (hf : RowIs w h c curF) (hF : curF.take (m * 2) = flat2 F) (hfc : m ≤ c) :
    Calls Try.prog 78 #[.slice (some ⟨g, 0, none⟩) n cap, .int .i64 (n : Int), .slice (some ⟨h, 0, none⟩) m c] w fun e w' => ∃ g' c', e = .returned (.slice (some ⟨g', 0, none⟩) (n + m) c') ∧ HoldsR w' g' c' (R ++ F) ∧ w.grownBy w' (some g) ∧ (g' = g ∨ w.heap.size ≤ g') := by
  obtain ⟨i0, hi0, hz0, hz1, hz2⟩ := info_parts infoR
  have OW := hide (holds_own (HoldsR.mk ⟨cur, hr, hR⟩ (by rw [hln]; exact hrc)))
  rw [hln] at OW
  have SF := hide (src_cells0 hf (by rw [hlm]; exact hF))
  have LF := hide (show (flat2 F).length = m * 2 by rw [flat2_length, hlm])
  have HLN := hide hln
  have HLM := hide hlm
  clear hr hR hf hF hln hlm
  have b0 : ((m : Int) == 0) = false := beq_eq_false_iff_ne.2 (by omega)
  have d0 : (0 : Int) ≤ (n : Int) := by omega
  have fin : ∀ (g1 cap1 : Nat) (w1 : World), w1.ownsRow 0 70 2 (.slice (some ⟨g1, 0, none⟩) (n + m) cap1) (n + m) (flat2 R ++ flat2 F) → HoldsR w1 g1 cap1 (R ++ F) := fun g1 cap1 w1 ho => by
    refine own_holds (b := 0) ?_
    rw [List.length_append, flat2_append, HLN.out, HLM.out]; exact ho
  have FIN := hide fin
  clear fin
  by_cases c1 : cap = n
  · subst c1
    go_enter Try.func78, Try.ntmps78
    go_wp2_with (at_builtin; refine wpList_append_lies _ rfl (.tmp 23) (.tmp 24) 42 rfl 0 70 i0 _ 2 16 Try.underlying42 hi0 hz0 hz1 hz2 rfl (by decide) (.slice (some ⟨g, 0, none⟩) cap cap) cap (flat2 R) rfl OW.out ⟨h, 0, none⟩ m c (flat2 F) rfl LF.out SF.out (flat2_one _) hm (by unfold maxLen; omega) (by omega) (Nat.zero_le _) w.heap.size rfl ?_; intro g1 cap1 w1 hown1 hgrow1 hat1 hlt1)
    have fin := FIN.out g1 cap1 w1 hown1
    clear hown1
    go_ret
    exact ⟨g1, cap1, rfl, fin, hgrow1, hat1.imp (fun e => by simpa [Value.ownBlock] using e.symm) (fun e => by omega)⟩
  · go_enter Try.func78, Try.ntmps78
    go_wp2_with (at_builtin; refine wpList_append_lies _ rfl (.tmp 23) (.tmp 24) 42 rfl 0 70 i0 _ 2 16 Try.underlying42 hi0 hz0 hz1 hz2 rfl (by decide) (.slice (some ⟨g, 0, none⟩) n cap) n (flat2 R) rfl OW.out ⟨h, 0, none⟩ m c (flat2 F) rfl LF.out SF.out (flat2_one _) hm (by unfold maxLen; omega) (by omega) (Nat.zero_le _) w.heap.size rfl ?_; intro g1 cap1 w1 hown1 hgrow1 hat1 hlt1)
    have fin := FIN.out g1 cap1 w1 hown1
    clear hown1
    go_ret
    exact ⟨g1, cap1, rfl, fin, hgrow1, hat1.imp (fun e => by simpa [Value.ownBlock] using e.symm) (fun e => by omega)⟩
set_option maxRecDepth 100000 in
set_option maxHeartbeats 4000000 in
/-- Replace up to the end, where it grows. -/
theorem replace_end_grow (g cap h c : Nat) (R F : List (Nat × Nat)) (i j m : Nat) (w : World) (hr : HoldsR w g cap R) (hln : R.length = j) (hlm : F.length = m) (hrc : j ≤ cap) (hn : j ≤ 4398046511104) (hij : i < j) (hm2 : m ≤ 2) (hm : cap < i + m)
    (hf : HoldsR w h c F) :
    Calls Try.prog 63 #[.slice (some ⟨g, 0, none⟩) j cap, .int .i64 (i : Int), .int .i64 (j : Int), .slice (some ⟨h, 0, none⟩) m c] w fun e w' => ∃ g' c', e = .returned (.slice (some ⟨g', 0, none⟩) (i + m) c') ∧ HoldsR w' g' c' (R.take i ++ F) ∧ w.grownBy w' (some g) ∧ (g' = g ∨ w.heap.size ≤ g') := by
  obtain ⟨i0, hi0, hz0, hz1, hz2⟩ := info_parts infoR
  have hti : (R.take i).length = i := by rw [List.length_take]; omega
  have OW := hide (holds_own (holds_take hr i))
  rw [hti] at OW
  obtain ⟨⟨curF, hf1, hf2⟩, hf3⟩ := hf
  have SF := hide (src_cells0 hf1 hf2)
  have LF := hide (show (flat2 F).length = m * 2 by rw [flat2_length, hlm])
  have fin : ∀ (g1 cap1 : Nat) (w1 : World), w1.ownsRow 0 70 2 (.slice (some ⟨g1, 0, none⟩) (i + m) cap1) (i + m) (flat2 (R.take i) ++ flat2 F) → HoldsR w1 g1 cap1 (R.take i ++ F) := fun g1 cap1 w1 ho => by
    refine own_holds (b := 0) ?_
    rw [List.length_append, flat2_append, hti, hlm]; exact ho
  have FIN := hide fin
  clear fin hr hf1 hf2 hf3 hln hlm hti
  have b1 : ((i : Int) == (j : Int)) = false := beq_eq_false_iff_ne.2 (by omega)
  have c1 : ¬ cap = i := by omega
  have d0 : (0 : Int) ≤ (i : Int) := by omega
  have d1 : (i : Int) ≤ (j : Int) := by omega
  have d11 : (i : Int) ≤ (cap : Int) := by omega
  have b5 : ¬ (i : Int) + (m : Int) < (j : Int) := by omega
  go_enter Try.func63, Try.ntmps63
  go_wp2_with (at_builtin; refine wpList_append_lies _ rfl (.tmp 32) (.tmp 33) 42 rfl 0 70 i0 _ 2 16 Try.underlying42 hi0 hz0 hz1 hz2 rfl (by decide) (.slice (some ⟨g, 0, none⟩) i cap) i (flat2 (R.take i)) rfl OW.out ⟨h, 0, none⟩ m c (flat2 F) rfl LF.out SF.out (flat2_one _) (by omega) (by unfold maxLen; omega) (by omega) (Nat.zero_le _) w.heap.size rfl ?_; intro g1 cap1 w1 hown1 hgrow1 hat1 hlt1)
  have fin := FIN.out g1 cap1 w1 hown1
  clear hown1
  go_ret
  exact ⟨g1, cap1, rfl, fin, hgrow1, hat1.imp (fun e => by simpa [Value.ownBlock] using e.symm) (fun e => by omega)⟩
set_option maxRecDepth 100000 in
set_option maxHeartbeats 4000000 in
/-- .. where there is room. -/
theorem replace_end_room (g cap : Nat) (fp : Option Addr) (c : Nat) (R F : List (Nat × Nat)) (i j m : Nat) (w : World) (hr : HoldsR w g cap R) (hln : R.length = j) (hlm : F.length = m) (hrc : j ≤ cap) (hn : cap ≤ 9223372036854775807) (hij : i < j) (hm : i + m ≤ cap)
    (hf : (m = 0 ∧ fp = none ∧ c = 0) ∨ (0 < m ∧ ∃ h, fp = some ⟨h, 0, none⟩ ∧ HoldsR w h c F)) :
    Calls Try.prog 63 #[.slice (some ⟨g, 0, none⟩) j cap, .int .i64 (i : Int), .int .i64 (j : Int), .slice fp m c] w fun e w' => e = .returned (.slice (some ⟨g, 0, none⟩) (i + m) cap) ∧ HoldsR w' g cap (R.take i ++ F) ∧ w.grownBy w' (some g) := by
  obtain ⟨i0, hi0, hz0, hz1, hz2⟩ := info_parts infoR
  have hti : (R.take i).length = i := by rw [List.length_take]; omega
  have OW := hide (holds_own (holds_take hr i))
  rw [hti] at OW
  obtain ⟨⟨cur, hr1, hr2⟩, hr3⟩ := hr
  have hA := hide (head_of hr2 (i := i) (by omega))
  have hcl := hr1.len
  have Hr := hide hr1
  have b1 : ((i : Int) == (j : Int)) = false := beq_eq_false_iff_ne.2 (by omega)
  have c1 : ¬ cap = i := by omega
  have d0 : (0 : Int) ≤ (i : Int) := by omega
  have d1 : (i : Int) ≤ (j : Int) := by omega
  have d11 : (i : Int) ≤ (cap : Int) := by omega
  have d8 : (0 : Int) ≤ (i : Int) + (m : Int) := by omega
  rcases hf with ⟨hm0, hfp, hc0⟩ | ⟨hm0, h, hfp, ⟨curF, hf1, hf2⟩, hf3⟩
  · subst hm0 hfp hc0
    have hF0 : F = [] := List.eq_nil_of_length_eq_zero hlm
    subst hF0
    rw [List.append_nil, Nat.add_zero]
    have HLN := hide hln
    have HTI := hide hti
    clear hr1 hr2 hr3 hln hlm hti
    go_enter Try.func63, Try.ntmps63
    go_wp2_with (at_builtin; refine wpList_append_own_none rfl (.tmp 32) (.tmp 33) 42 rfl 0 70 i0 2 Try.underlying42 hi0 (.slice (some ⟨g, 0, none⟩) i cap) i (flat2 (R.take i)) rfl OW.out rfl ?_)
    obtain ⟨w4, cur4, hrun4, hg4, hl4, ht4, hgrow4⟩ := run_clear_behind (P := Try.prog) w 42 0 70 _ Try.underlying42 (zeroR w) zc2 (some ⟨g, i * 2, none⟩) (j - i) (cap - i) g (i * 2) _ 70 Hr.out.heap (fun _ => rfl) (by show i * 2 + (j - i) * 2 ≤ _; rw [hcl]; omega)
    rw [hrun4]
    clear hrun4
    have FIN4 : Hid (HoldsR w4 g cap (R.take i)) := by
      refine HoldsR.mk ⟨cur4, ⟨hg4, by rw [hl4]; exact hcl, Hr.out.cap⟩, ?_⟩ (by rw [HTI.out]; omega)
      rw [HTI.out, ht4]; exact hA.out
    clear hg4 hl4 ht4
    go_wp2_with fail
    go_ret
    exact ⟨rfl, FIN4.out, hgrow4⟩
  · subst hfp
    have SF := hide (src_cells0 hf1 hf2)
    have LF := hide (show (flat2 F).length = m * 2 by rw [flat2_length, hlm])
    have HLN := hide hln
    have HLM := hide hlm
    have HTI := hide hti
    have FT := hide (show i * 2 + (flat2 F).length ≤ cur.length by rw [flat2_length, hlm, hcl]; omega)
    clear hr1 hr2 hr3 hln hlm hf1 hf2 hf3 hti OW
    have hR1 : ∀ (w1 : World) (cur1 : List Value), w1.heap[g]? = some (.cells (List.toArray cur1) 70 (0, 0)) → cur1.length = cur.length → cur1.take ((i + m) * 2) = (splice cur (i * 2) (flat2 F)).take ((i + m) * 2) → HoldsR w1 g cap (R.take i ++ F) := fun w1 cur1 a1 a2 a3 => by
      refine HoldsR.mk ⟨cur1, ⟨a1, by rw [a2]; exact hcl, Hr.out.cap⟩, ?_⟩ (by rw [List.length_append, HTI.out, HLM.out]; omega)
      rw [List.length_append, HTI.out, HLM.out, a3, flat2_append, ← hA.out]
      unfold splice
      have l1 : (cur.take (i * 2)).length = i * 2 := by rw [List.length_take]; omega
      have l2 := LF.out
      rw [← List.append_assoc, List.take_append_of_le_length (by rw [List.length_append]; omega)]
      exact List.take_of_length_le (by rw [List.length_append]; omega)
    have HR1 := hide hR1
    clear hR1
    by_cases b5 : (i : Int) + (m : Int) < (j : Int)
    · have c3 : ¬ cap = i + m := by omega
      have d5 : ((i : Int) + (m : Int)).toNat = i + m := by omega
      have d10 : (i : Int) + (m : Int) ≤ (j : Int) := by omega
      go_enter Try.func63, Try.ntmps63
      go_wp2_with (at_builtin; refine wpList_append_room2 rfl (.tmp 32) (.tmp 33) 42 rfl 70 i0 2 Try.underlying42 hi0 hz1 g i cap rfl cur Hr.out.heap ⟨h, 0, none⟩ m c rfl (flat2 F) LF.out SF.out (flat2_one _) hm FT.out ?_; intro w1 HG1 hgrow1)
      obtain ⟨w4, cur4, hrun4, hg4, hl4, ht4, hgrow4⟩ := run_clear_behind (P := Try.prog) w1 42 0 70 _ Try.underlying42 (zeroR w1) zc2 (some ⟨g, (i + m) * 2, none⟩) (j - (i + m)) (cap - (i + m)) g ((i + m) * 2) _ 70 HG1.out (fun _ => rfl) (by show (i + m) * 2 + (j - (i + m)) * 2 ≤ _; rw [length_splice _ _ _ FT.out, hcl]; omega)
      rw [hrun4]
      clear hrun4
      have FIN4 := hide (HR1.out w4 cur4 hg4 (by rw [hl4, length_splice _ _ _ FT.out]) ht4)
      clear hg4 hl4 ht4 HG1
      go_wp2_with fail
      go_ret
      exact ⟨rfl, FIN4.out, hgrow1.trans hgrow4⟩
    · go_enter Try.func63, Try.ntmps63
      go_wp2_with (at_builtin; refine wpList_append_room2 rfl (.tmp 32) (.tmp 33) 42 rfl 70 i0 2 Try.underlying42 hi0 hz1 g i cap rfl cur Hr.out.heap ⟨h, 0, none⟩ m c rfl (flat2 F) LF.out SF.out (flat2_one _) hm FT.out ?_; intro w1 HG1 hgrow1)
      have FIN4 := hide (HR1.out w1 _ HG1.out (length_splice _ _ _ FT.out) rfl)
      clear HG1
      go_ret
      exact ⟨rfl, FIN4.out, hgrow1⟩
end Go.Proofs.Ytlfcnaalkjpgnaa

/- slices.Replace of rows: as many come in as go, in a full row. -/
namespace Go.Proofs.Ytlfcnaalkjpgnaa
open Go.ChangeShapes Go.WideShapes Go.ChangeAt Go.RowKit Go.Proofs.Sp

set_option maxRecDepth 100000 in
set_option maxHeartbeats 4000000 in
/-- As many rows come in as go, and the row is full. -/
theorem replace_fit (g : Nat) (cur : List Value) (R F : List (Nat × Nat)) (i d : Nat) (fp : Option Addr) (c : Nat) (w : World) (hr : RowIs w g (i + F.length + d) cur) (hR : cur.take (R.length * 2) = flat2 R) (hln : R.length = i + F.length + d) (hn : i + F.length + d ≤ 70368744177664) (hd : 0 < d) (hij : 0 < F.length)
    (hF : 0 < F.length → ∃ h curF, fp = some ⟨h, 0, none⟩ ∧ h ≠ g ∧ RowIs w h c curF ∧ curF.take (F.length * 2) = flat2 F) :
    Calls Try.prog 63 #[.slice (some ⟨g, 0, none⟩) (i + F.length + d) (i + F.length + d), .int .i64 (i : Int), .int .i64 ((i : Int) + (F.length : Int)), .slice fp F.length c] w fun e w' => e = .returned (.slice (some ⟨g, 0, none⟩) (i + F.length + d) (i + F.length + d)) ∧ HoldsR w' g (i + F.length + d) (R.take i ++ F ++ R.drop (i + F.length)) ∧ w.grownBy w' (some g) := by
  obtain ⟨m, hlm⟩ : ∃ m, F.length = m := ⟨_, rfl⟩
  rw [hlm] at hF hr hln hn hij ⊢
  have HR := hide hR
  have Hr := hide hr
  have HLN := hide hln
  have HLM := hide hlm
  have HF := hide hF
  clear hR hr hln hlm hF
  have b1 : ((i : Int) == ((i : Int) + (m : Int))) = false := beq_eq_false_iff_ne.2 (by omega)
  have c1 : ¬ (i + m + d) = i := by omega
  have c2 : ¬ (i + m + d) = (i + m) := by omega
  have d0 : (0 : Int) ≤ (i : Int) := by omega
  have d4 : IntKind.i64.wrap ((i : Int) + (m : Int)) = (i : Int) + (m : Int) := by rw [IntKind.wrap_i64]; omega
  have d5 : ((i : Int) + (m : Int)).toNat = i + m := by omega
  have d6 : IntKind.i64.wrap ((i : Int) + (m : Int) + (d : Int)) = (i : Int) + (m : Int) + (d : Int) := by rw [IntKind.wrap_i64]; omega
  have d7 : ((i : Int) + (m : Int) + (d : Int)).toNat = i + m + d := by omega
  have d8 : (0 : Int) ≤ (i : Int) + (m : Int) := by omega
  have d9 : (0 : Int) ≤ (i : Int) + (m : Int) + (d : Int) := by omega
  have b2 : (((i : Int) + (m : Int)) == ((i : Int) + (m : Int) + (d : Int))) = false := beq_eq_false_iff_ne.2 (by omega)
  have d1 : (i : Int) ≤ (i : Int) + (m : Int) := by omega
  have d10 : (i : Int) + (m : Int) ≤ (i : Int) + (m : Int) + (d : Int) := by omega
  have d11 : (i : Int) ≤ (i : Int) + (m : Int) + (d : Int) := by omega
  go_enter Try.func63, Try.ntmps63
  go_wp2_with fail
  go_quiet (fail)
  go_wp2_with fail
  have hA := hide (head_of HR.out (i := i) (by rw [HLN.out]; omega))
  have hcl := Hr.out.len
  have FT1 := hide (show i * 2 + (flat2 F).length ≤ cur.length by rw [hcl, flat2_length, HLM.out]; omega)
  obtain ⟨w2, hrun2, hg2', hgrow2⟩ := run_copy_splice (P := Try.prog) (w.drewN nq) 42 42 3 70 2 Try.underlying42 sizeR (some ⟨g, i * 2, none⟩) fp (i + m + d - i) ((i + m + d) - i) m c g (i * 2) cur 70 Hr.out.heap (flat2 F) (by rw [flat2_length, HLM.out]; show _ = min _ _ * 2; omega) (by decide) (fun h0 => by
    have h0' : 0 < m := by have : 0 < min m (i + m + d - i) := h0; omega
    obtain ⟨h, curF, e1, e2, e3, e4⟩ := HF.out h0'
    exact ⟨rfl, _, e1, src_cells0 (W := w.drewN nq) ⟨e3.heap, e3.len, e3.cap⟩ (by rw [HLM.out]; exact e4)⟩) FT1.out (flat2_one _)
  have R2 : Hid (RowIs w2 g (i + m + d) (splice cur (i * 2) (flat2 F))) := RowIs.mk hg2' (by rw [length_splice _ _ _ FT1.out]; exact hcl) Hr.out.cap
  clear hg2'
  rw [hrun2]
  clear hrun2
  have D2 : Hid (∀ jj v, (flat2 (R.drop (i + m)))[jj]? = some v → w2.cell? ((⟨g, (i + m) * 2, none⟩ : Addr).add jj) = some v) := fun jj v hv => by
    rw [addr_add0, R2.out.cell]
    rw [flat2_drop, ← HR.out, List.getElem?_drop, List.getElem?_take] at hv
    split at hv
    · rw [← hv]
      show (cur.take (i * 2) ++ (flat2 F ++ cur.drop (i * 2 + (flat2 F).length)))[(i + m) * 2 + jj]? = _
      have l1 : (cur.take (i * 2)).length = i * 2 := by rw [List.length_take]; omega
      have l2 : (flat2 F).length = m * 2 := by rw [flat2_length, HLM.out]
      rw [List.getElem?_append_right (by omega), List.getElem?_append_right (by omega), List.getElem?_drop, l1, l2]
      congr 1; omega
    · cases hv
  have FT2 := hide (show (i + m) * 2 + (flat2 (R.drop (i + m))).length ≤ (splice cur (i * 2) (flat2 F)).length by rw [R2.out.len, flat2_length, List.length_drop, HLN.out]; omega)
  have LN2 := hide (show ∀ x y, min x y = d → (flat2 (R.drop (i + m))).length = Nat.min x y * 2 from fun x y hxy => by rw [flat2_length, List.length_drop, HLN.out]; show _ = min x y * 2; omega)
  go_wp2_with fail
  go_region_held3 (fun w' => True) (trivial) (first
    | (refine step_copy_sized rfl (.tmp 103) (.tmp 106) 42 42 rfl 70 2 Try.underlying42 sizeR (some ⟨g, (i + m) * 2, none⟩) (some ⟨g, (i + m) * 2, none⟩) d d d d (by simp [Act.eval] <;> omega) (by simp [Act.eval] <;> omega) g ((i + m) * 2) _ 70 R2.out.heap (flat2 (R.drop (i + m))) (LN2.out _ _ (by show min _ _ = _; omega)) (by decide) (fun _ => ⟨rfl, _, rfl, D2.out⟩) FT2.out (flat2_one _) ?_; intro w3 HG3 hgrow3))
  have hgrow3 := undrew hgrow3
  have FIN := hide (copies_fd (cur := cur) (R := R) (F := F) (i := i) (j := i + m) (by rw [HLN.out]; omega) hA.out (by rw [hcl, HLN.out, HLM.out]; omega))
  have R3 : Hid (RowIs w3 g (i + m + d) (splice (splice cur (i * 2) (flat2 F)) ((i + m) * 2) (flat2 (R.drop (i + m))))) := RowIs.mk HG3.out (by rw [length_splice _ _ _ FT2.out]; exact R2.out.len) Hr.out.cap
  clear HG3
  go_wp2_with fail
  obtain ⟨w4, cur4, hrun4, hg4, hl4, ht4, hgrow4⟩ := run_clear_behind (P := Try.prog) w3 42 0 70 _ Try.underlying42 (zeroR w3) zc2 (some ⟨g, 0, none⟩) 0 0 g ((i + m + d) * 2) _ 70 R3.out.heap (fun h => absurd h (by omega)) (by show (i + m + d) * 2 + 0 * 2 ≤ _; rw [R3.out.len]; omega)
  rw [hrun4]
  clear hrun4
  have FIN4 : Hid (HoldsR w4 g (i + m + d) (R.take i ++ F ++ R.drop (i + m))) := by
    refine HoldsR.mk ⟨cur4, ⟨hg4, by rw [hl4]; exact R3.out.len, Hr.out.cap⟩, ?_⟩ (by rw [len_of (by rw [HLN.out]; omega), HLN.out, HLM.out]; omega)
    have e := FIN.out
    rw [HLM.out] at e
    rw [← e]
    exact tail_take ht4 (by rw [len_of (by rw [HLN.out]; omega), HLN.out, HLM.out]; omega)
  have hgrow : w.grownBy w4 (some g) := ((show w.grownBy w2 (some g) from ⟨hgrow2.os, hgrow2.tape, hgrow2.output, hgrow2.size, hgrow2.block⟩).trans hgrow3).trans hgrow4
  clear hg4 hl4 ht4 hgrow2 hgrow3 hgrow4
  go_wp2_with fail
  go_ret
  exact ⟨rfl, FIN4.out, hgrow⟩
end Go.Proofs.Ytlfcnaalkjpgnaa
