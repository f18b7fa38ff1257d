/- slices.Insert and slices.Replace, of rows (two cells each). -/
import Derived.Test.YtpceigglilgelaaVmA
import Derived.Test.YtpceigglilgelaaOps
import Derived.Deep.RegionHeld3
namespace Go.Proofs.Ytpceigglilgelaa
open Go.ChangeShapes Go.WideShapes Go.ChangeAt Go.RowKit Go.Proofs.Sp

theorem infoR : (Try.prog.info? 88).map (fun i => (i.zero, i.size, i.bytes)) = some (some (.agg #[.int .u64 0, .int .i64 0]), 2, 16) := by kernel_rfl
theorem sizeR : (Try.prog.info? 88).map (·.size) = some 2 := by kernel_rfl
theorem zeroR (w : World) : (zeroValue 88).run Try.prog w = .ok (.agg #[.int .u64 0, .int .i64 0]) w := by kernel_rfl
def flat2 (R : List (Nat × Nat)) : List Value := R.flatMap fun x => [.int .u64 (x.1 : Int), .int .i64 (x.2 : Int)]
theorem flat2_cons (x : Nat × Nat) (R : List (Nat × Nat)) : flat2 (x :: R) = .int .u64 (x.1 : Int) :: .int .i64 (x.2 : Int) :: flat2 R := by simp [flat2]
theorem flat2_length (R : List (Nat × Nat)) : (flat2 R).length = R.length * 2 := by
  induction R with
  | nil => rfl
  | cons x r ih => rw [flat2_cons]; simp [ih]; omega
theorem flat2_append (A B : List (Nat × Nat)) : flat2 (A ++ B) = flat2 A ++ flat2 B := by simp [flat2]
theorem flat2_take (R : List (Nat × Nat)) (i : Nat) : flat2 (R.take i) = (flat2 R).take (i * 2) := by
  induction R generalizing i with
  | nil => simp [flat2]
  | cons x r ih =>
    cases i with
    | zero => simp [flat2]
    | succ i => rw [List.take_succ_cons, flat2_cons, flat2_cons, ih, show (i + 1) * 2 = i * 2 + 1 + 1 by omega]; rfl
theorem flat2_drop (R : List (Nat × Nat)) (i : Nat) : flat2 (R.drop i) = (flat2 R).drop (i * 2) := by
  induction R generalizing i with
  | nil => simp [flat2]
  | cons x r ih =>
    cases i with
    | zero => simp
    | succ i => rw [List.drop_succ_cons, flat2_cons, ih, show (i + 1) * 2 = i * 2 + 1 + 1 by omega]; rfl
theorem flat2_one (R : List (Nat × Nat)) : ∀ v ∈ flat2 R, v.oneCell' = true := by
  intro v hv
  unfold flat2 at hv
  obtain ⟨x, _, hx⟩ := List.mem_flatMap.1 hv
  simp at hx
  rcases hx with rfl | rfl <;> rfl
theorem flat2_get (R : List (Nat × Nat)) (i : Nat) (h : i < R.length) : (flat2 R)[i * 2]? = some (.int .u64 (R[i].1 : Int)) ∧ (flat2 R)[i * 2 + 1]? = some (.int .i64 (R[i].2 : Int)) := by
  induction R generalizing i with
  | nil => exact absurd h (by simp)
  | cons x r ih =>
    rw [flat2_cons]
    cases i with
    | zero => exact ⟨rfl, rfl⟩
    | succ i =>
      have := ih i (by simpa using h)
      rw [show (i + 1) * 2 = i * 2 + 1 + 1 by omega]
      exact this

/-- A block of rows, known whole. -/
structure RowIs (w : World) (g cap : Nat) (cur : List Value) : Prop where
  heap : w.heap[g]? = some (.cells cur.toArray 88 (0, 0))
  len : cur.length = cap * 2
  cap : cap ≤ maxLen
theorem RowIs.cell {w : World} {g cap : Nat} {cur : List Value} (h : RowIs w g cap cur) (k : Nat) : w.cell? ⟨g, k, none⟩ = cur[k]? := by
  rw [cell_of_row w g k cur.toArray _ (0, 0) h.heap]; simp
theorem RowIs.kept {w w' : World} {g cap : Nat} {cur : List Value} {row : Option Nat} (h : RowIs w g cap cur) (hg : w.grownBy w' row) (hne : some g ≠ row) : RowIs w' g cap cur :=
  ⟨by rw [hg.block g (Array.getElem?_eq_some_iff.1 h.heap).1 hne]; exact h.heap, h.len, h.cap⟩
/-- The list R in the row's head. -/
structure HoldsR (w : World) (g cap : Nat) (R : List (Nat × Nat)) : Prop where
  row : ∃ cur, RowIs w g cap cur ∧ cur.take (R.length * 2) = flat2 R
  le : R.length ≤ cap
/-- Rows that are put in: nil, or in a row of their own. -/
def FreshAt (w : World) (v : Value) (F : List (Nat × Nat)) (g : Nat) : Prop :=
  (v = .slice none 0 0 ∧ F = []) ∨ ∃ h c, v = .slice (some ⟨h, 0, none⟩) F.length c ∧ h ≠ g ∧ 0 < F.length ∧ HoldsR w h c F

theorem splice_two (cur F D : List Value) (a : Nat) (h : a + F.length + D.length ≤ cur.length) : (splice (splice cur a F) (a + F.length) D).take (a + F.length + D.length) = cur.take a ++ F ++ D := by
  have e1 : (splice cur a F).take (a + F.length) = cur.take a ++ F := by
    unfold splice
    rw [← List.append_assoc, List.take_append_of_le_length (by simp; omega)]
    exact List.take_of_length_le (by simp; omega)
  have l1 := length_splice cur a F (by omega)
  show ((splice cur a F).take (a + F.length) ++ (D ++ (splice cur a F).drop (a + F.length + D.length))).take _ = _
  rw [e1, ← List.append_assoc, List.take_append_of_le_length (by simp; omega)]
  exact List.take_of_length_le (by simp; omega)
theorem splice_two' (cur F D : List Value) (a : Nat) (h : a + F.length + D.length ≤ cur.length) : (splice (splice cur (a + F.length) D) a F).take (a + F.length + D.length) = cur.take a ++ F ++ D := by
  have l1 := length_splice cur (a + F.length) D (by omega)
  have e1 : (splice cur (a + F.length) D).take a = cur.take a := by
    unfold splice
    rw [List.take_append_of_le_length (by simp; omega), List.take_take]
    congr 1; omega
  have e2 : ((splice cur (a + F.length) D).drop (a + F.length)).take D.length = D := by
    unfold splice
    rw [List.drop_append_of_le_length (by simp; omega), List.drop_eq_nil_of_le (by simp; omega)]
    simp
  show ((splice cur (a + F.length) D).take a ++ (F ++ (splice cur (a + F.length) D).drop (a + F.length))).take _ = _
  rw [e1, ← List.append_assoc, List.take_append]
  have e3 : (cur.take a ++ F).length = a + F.length := by simp; omega
  rw [List.take_of_length_le (by omega), e3, show a + F.length + D.length - (a + F.length) = D.length by omega, e2]

theorem undrew {w w' : World} {row : Option Nat} (h : w.drew.grownBy w' row) : w.grownBy w' row := ⟨h.os, h.tape, h.output, h.size, h.block⟩
theorem len_of {R F : List (Nat × Nat)} {i j : Nat} (hi : i ≤ R.length) : (R.take i ++ F ++ R.drop j).length = i + F.length + (R.length - j) := by simp; omega
theorem copies_fd {cur : List Value} {R F : List (Nat × Nat)} {i j : Nat} (hi : i ≤ R.length) (hA : cur.take (i * 2) = flat2 (R.take i)) (hfit : i * 2 + F.length * 2 + (R.length - j) * 2 ≤ cur.length) :
    (splice (splice cur (i * 2) (flat2 F)) ((i + F.length) * 2) (flat2 (R.drop j))).take ((R.take i ++ F ++ R.drop j).length * 2) = flat2 (R.take i ++ F ++ R.drop j) := by
  have h := splice_two cur (flat2 F) (flat2 (R.drop j)) (i * 2) (by rw [flat2_length, flat2_length, List.length_drop]; exact hfit)
  rw [flat2_length F] at h
  rw [len_of hi, flat2_append, flat2_append, ← hA, ← h, flat2_length, List.length_drop, show (i + F.length) * 2 = i * 2 + F.length * 2 by omega, show (i + F.length + (R.length - j)) * 2 = i * 2 + F.length * 2 + (R.length - j) * 2 by omega]
theorem copies_df {cur : List Value} {R F : List (Nat × Nat)} {i j : Nat} (hi : i ≤ R.length) (hA : cur.take (i * 2) = flat2 (R.take i)) (hfit : i * 2 + F.length * 2 + (R.length - j) * 2 ≤ cur.length) :
    (splice (splice cur ((i + F.length) * 2) (flat2 (R.drop j))) (i * 2) (flat2 F)).take ((R.take i ++ F ++ R.drop j).length * 2) = flat2 (R.take i ++ F ++ R.drop j) := by
  have h := splice_two' cur (flat2 F) (flat2 (R.drop j)) (i * 2) (by rw [flat2_length, flat2_length, List.length_drop]; exact hfit)
  rw [flat2_length F] at h
  rw [len_of hi, flat2_append, flat2_append, ← hA, ← h, flat2_length, List.length_drop, show (i + F.length) * 2 = i * 2 + F.length * 2 by omega, show (i + F.length + (R.length - j)) * 2 = i * 2 + F.length * 2 + (R.length - j) * 2 by omega]
theorem head_of {cur : List Value} {R : List (Nat × Nat)} (hR : cur.take (R.length * 2) = flat2 R) {i : Nat} (hi : i ≤ R.length) : cur.take (i * 2) = flat2 (R.take i) := by
  rw [flat2_take, ← hR, List.take_take]; congr 1; omega
theorem overlaps_false (w : World) (a b : Option Addr) (la lb ca cb : Nat)
    (h : ∀ x y, a = some x → b = some y → 0 < la → 0 < lb → x.block ≠ y.block ∧ (∃ c t, w.heap[x.block]? = some (.cells c t (0, 0))) ∧ ∃ c t, w.heap[y.block]? = some (.cells c t (0, 0))) :
    (callFunc 83 #[.slice a la ca, .slice b lb cb]).run Try.prog w = .ok (.value (.bool false)) w := by
  obtain ⟨i0, hi, _⟩ := info_parts infoR
  rw [run_callFunc_extern (e := Extern.SlicesOverlaps.overlaps #[54, 54] #[4]) Try.func83 (by kernel_rfl) (by kernel_rfl) (by kernel_rfl) (by kernel_rfl) _ w]
  have := run_overlaps_apart (P := Try.prog) w 54 88 i0 #[4] [54] Try.underlying54 hi a b la lb ca cb h
  rw [this]
  rfl
theorem src_cells {W : World} {g cap : Nat} {cur : List Value} {R : List (Nat × Nat)} (hr : RowIs W g cap cur) (hR : cur.take (R.length * 2) = flat2 R) (i : Nat) : ∀ j v, (flat2 (R.drop i))[j]? = some v → W.cell? ((⟨g, i * 2, none⟩ : Addr).add j) = some v := by
  intro j v hv
  rw [addr_add0, hr.cell]
  rw [flat2_drop, ← hR, List.getElem?_drop, List.getElem?_take] at hv
  split at hv
  · exact hv
  · cases hv
theorem src_cells0 {W : World} {g cap : Nat} {cur : List Value} {R : List (Nat × Nat)} (hr : RowIs W g cap cur) (hR : cur.take (R.length * 2) = flat2 R) : ∀ j v, (flat2 R)[j]? = some v → W.cell? ((⟨g, 0, none⟩ : Addr).add j) = some v := by
  have := src_cells hr hR 0
  simpa using this

set_option maxRecDepth 100000 in
set_option maxHeartbeats 4000000 in
/-- Insert, where there is room. -/
theorem insert_room (g cap h c : Nat) (cur curF : List Value) (R F : List (Nat × Nat)) (i : Nat) (w : World) (hr : RowIs w g cap cur) (hR : cur.take (R.length * 2) = flat2 R) (hc : R.length + F.length ≤ cap) (hi : i < R.length) (hn : cap ≤ 9223372036854775807)
    (hf : RowIs w h c curF) (hF : curF.take (F.length * 2) = flat2 F) (hgh : h ≠ g) (hm : 0 < F.length) :
    Calls Try.prog 82 #[.slice (some ⟨g, 0, none⟩) R.length cap, .int .i64 (i : Int), .slice (some ⟨h, 0, none⟩) F.length c] w fun e w' => e = .returned (.slice (some ⟨g, 0, none⟩) (R.length + F.length) cap) ∧ HoldsR w' g cap (R.take i ++ F ++ R.drop i) ∧ w.grownBy w' (some g) := by
  obtain ⟨n, hln⟩ : ∃ n, R.length = n := ⟨_, rfl⟩
  obtain ⟨m, hlm⟩ : ∃ m, F.length = m := ⟨_, rfl⟩
  rw [hln] at hR hc hi ⊢
  rw [hlm] at hc hF hm ⊢
  have HR := hide hR
  have HF := hide hF
  have Hr := hide hr
  have Hf := hide hf
  have HLN := hide hln
  have HLM := hide hlm
  clear hR hF hr hf hln hlm
  have b0 : ((m : Int) == 0) = false := beq_eq_false_iff_ne.2 (by omega)
  have b1 : ((i : Int) == (n : Int)) = false := beq_eq_false_iff_ne.2 (by omega)
  have b2 : ¬ (cap : Int) < (n : Int) + (m : Int) := by omega
  have c1 : ¬ cap = i := by omega
  have c2 : ¬ cap = i + m := by omega
  have d0 : (0 : Int) ≤ (i : Int) := by omega
  have d1 : (i : Int) ≤ (n : Int) + (m : Int) := by omega
  have d2 : (0 : Int) ≤ (i : Int) + (m : Int) := by omega
  have d3 : (i : Int) + (m : Int) ≤ (n : Int) + (m : Int) := by omega
  have d4 : IntKind.i64.wrap ((i : Int) + (m : Int)) = (i : Int) + (m : Int) := by rw [IntKind.wrap_i64]; omega
  have d5 : ((i : Int) + (m : Int)).toNat = i + m := by omega
  have hov : ∀ (la ca lb cb o : Nat), (callFunc 83 #[.slice (some ⟨h, 0, none⟩) la ca, .slice (some ⟨g, o, none⟩) lb cb]).run Try.prog w = .ok (.value (.bool false)) w := fun la ca lb cb o =>
    overlaps_false w _ _ la lb ca cb fun x y hx hy _ _ => by cases hx; cases hy; exact ⟨hgh, ⟨_, _, Hf.out.heap⟩, ⟨_, _, Hr.out.heap⟩⟩
  have SR := hide (src_cells Hr.out (by rw [HLN.out]; exact HR.out) i)
  have SF := hide (src_cells0 Hf.out (by rw [HLM.out]; exact HF.out))
  have FT := hide (show (i + m) * 2 + (flat2 (R.drop i)).length ≤ cur.length by rw [flat2_length, List.length_drop, HLN.out, Hr.out.len]; omega)
  have LN := hide (show (flat2 (R.drop i)).length = Nat.min (n + m - i) (n + m - (i + m)) * 2 by rw [flat2_length, List.length_drop, HLN.out, show Nat.min (n + m - i) (n + m - (i + m)) = n - i by show min _ _ = _; omega])
  go_enter Try.func82, Try.ntmps82
  go_wp2_with fail
  go_region_held3 (fun w' => True) (trivial) (first
    | (refine step_copy_sized rfl (.tmp 73) (.tmp 76) 54 54 rfl 88 2 Try.underlying54 sizeR (some ⟨g, (i + m) * 2, none⟩) (some ⟨g, i * 2, none⟩) (n + m - (i + m)) (cap - (i + m)) (n + m - i) (cap - i) rfl rfl g ((i + m) * 2) cur 88 Hr.out.heap (flat2 (R.drop i)) LN.out (by decide) (fun _ => ⟨rfl, _, rfl, SR.out⟩) FT.out (flat2_one _) ?_; intro w1 HG1 hgrow1))
  have r1 : RowIs w1 g cap (splice cur ((i + m) * 2) (flat2 (R.drop i))) := ⟨HG1.out, by rw [length_splice _ _ _ FT.out]; exact Hr.out.len, Hr.out.cap⟩
  have hgrow1 := undrew hgrow1
  have f1 := Hf.out.kept hgrow1 (by simpa using hgh)
  have R1 := hide r1
  have SF1 := hide (src_cells0 f1 (by rw [HLM.out]; exact HF.out))
  have FT1 := hide (show i * 2 + (flat2 F).length ≤ (splice cur ((i + m) * 2) (flat2 (R.drop i))).length by rw [r1.len, flat2_length, HLM.out]; omega)
  have LN1 := hide (show (flat2 F).length = Nat.min m (n + m - i) * 2 by rw [flat2_length, HLM.out, show Nat.min m (n + m - i) = m by show min _ _ = _; omega])
  clear r1 f1 HG1 SF FT SR hov
  go_wp2_with (refine wpList_copy_sized rfl (.tmp 80) (.tmp 81) 54 54 rfl 88 2 Try.underlying54 sizeR (some ⟨g, i * 2, none⟩) (some ⟨h, 0, none⟩) (n + m - i) (cap - i) m c rfl rfl g (i * 2) _ 88 R1.out.heap (flat2 F) LN1.out (by decide) (fun _ => ⟨rfl, _, rfl, SF1.out⟩) FT1.out (flat2_one _) ?_; intro w2 HG2 hgrow2)
  have hgrow : w.grownBy w2 (some g) := hgrow1.trans hgrow2
  have FIN : Hid (HoldsR w2 g cap (R.take i ++ F ++ R.drop i)) := by
    have hln := HLN.out
    have hlm := HLM.out
    have hcur := Hr.out.len
    refine HoldsR.mk ⟨_, ⟨HG2.out, by rw [length_splice _ _ _ FT1.out]; exact R1.out.len, Hr.out.cap⟩, ?_⟩ (by rw [len_of (by omega)]; omega)
    have := copies_df (cur := cur) (R := R) (F := F) (i := i) (j := i) (by omega) (head_of (by rw [hln]; exact HR.out) (by omega)) (by rw [hln, hlm, hcur]; omega)
    rw [hlm] at this
    exact this
  go_ret
  exact ⟨rfl, FIN.out, hgrow⟩
end Go.Proofs.Ytpceigglilgelaa
