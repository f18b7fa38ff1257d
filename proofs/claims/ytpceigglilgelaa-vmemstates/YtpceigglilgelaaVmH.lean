/- slices.Insert and slices.Replace of rows, at the end. -/
import Derived.Test.YtpceigglilgelaaVmG
namespace Go.Proofs.Ytpceigglilgelaa
open Go.ChangeShapes Go.WideShapes Go.ChangeAt Go.RowKit Go.Proofs.Sp
set_option linter.unusedVariables false
set_option linter.unusedSimpArgs false

theorem holds_own {w : World} {g cap : Nat} {R : List (Nat × Nat)} (h : HoldsR w g cap R) : w.ownsRow 0 88 2 (.slice (some ⟨g, 0, none⟩) R.length cap) R.length (flat2 R) := by
  obtain ⟨⟨cur, hr, ht⟩, hl⟩ := h
  exact ⟨flat2_length R, Or.inr ⟨g, cap, cur.toArray, rfl, Nat.zero_le _, hr.heap, hl, hr.cap, by simpa using hr.len, by simpa using ht⟩⟩
theorem own_holds {w : World} {b g cap : Nat} {R : List (Nat × Nat)} (h : w.ownsRow b 88 2 (.slice (some ⟨g, 0, none⟩) R.length cap) R.length (flat2 R)) : HoldsR w g cap R := by
  rcases h.2 with ⟨h1, _⟩ | ⟨g', cap', cur, h1, h2, h3, h4, h5, h6, h7⟩
  · cases h1
  · cases h1
    exact ⟨⟨cur.toList, ⟨by simpa using h3, by simpa using h6, h5⟩, h7⟩, h4⟩
theorem holds_take {w : World} {g cap : Nat} {R : List (Nat × Nat)} (h : HoldsR w g cap R) (i : Nat) : HoldsR w g cap (R.take i) := by
  obtain ⟨⟨cur, hr, ht⟩, hl⟩ := h
  refine ⟨⟨cur, hr, ?_⟩, by rw [List.length_take]; omega⟩
  rw [flat2_take, ← ht, List.take_take, List.length_take]
  by_cases c : i ≤ R.length
  · congr 1; omega
  · rw [Nat.min_eq_right (by omega), Nat.min_eq_right (by omega)]

theorem insert_none (g cap n i : Nat) (fp : Option Addr) (c : Nat) (w : World) (hrc : n ≤ cap) (hi : i ≤ n) (hn : cap ≤ 9223372036854775807) :
    Calls Try.prog 82 #[.slice (some ⟨g, 0, none⟩) n cap, .int .i64 (i : Int), .slice fp 0 c] w fun e w' => e = .returned (.slice (some ⟨g, 0, none⟩) n cap) ∧ w' = w := by
  have d0 : (0 : Int) ≤ (i : Int) := by omega
  have d1 : (i : Int) ≤ (n : Int) := by omega
  by_cases c1 : cap = i
  all_goals
    go_enter Try.func82, Try.ntmps82
    go_wp2_with fail
    go_ret
    exact ⟨rfl, rfl⟩
set_option maxRecDepth 100000 in
set_option maxHeartbeats 4000000 in
theorem insert_end (g cap h c : Nat) (cur curF : List Value) (R F : List (Nat × Nat)) (n m : Nat) (w : World) (hr : RowIs w g cap cur) (hR : cur.take (R.length * 2) = flat2 R) (hln : R.length = n) (hlm : F.length = m) (hrc : n ≤ cap) (hn : n ≤ 4398046511104) (hm : 0 < m) (hm2 : m ≤ 2)
    (hf : RowIs w h c curF) (hF : curF.take (m * 2) = flat2 F) (hfc : m ≤ c) :
    Calls Try.prog 82 #[.slice (some ⟨g, 0, none⟩) n cap, .int .i64 (n : Int), .slice (some ⟨h, 0, none⟩) m c] w fun e w' => ∃ g' c', e = .returned (.slice (some ⟨g', 0, none⟩) (n + m) c') ∧ HoldsR w' g' c' (R ++ F) ∧ w.grownBy w' (some g) ∧ (g' = g ∨ w.heap.size ≤ g') := by
  obtain ⟨i0, hi0, hz0, hz1, hz2⟩ := info_parts infoR
  have OW := hide (holds_own (HoldsR.mk ⟨cur, hr, hR⟩ (by rw [hln]; exact hrc)))
  rw [hln] at OW
  have SF := hide (src_cells0 hf (by rw [hlm]; exact hF))
  have LF := hide (show (flat2 F).length = m * 2 by rw [flat2_length, hlm])
  have HLN := hide hln
  have HLM := hide hlm
  clear hr hR hf hF hln hlm
  have b0 : ((m : Int) == 0) = false := beq_eq_false_iff_ne.2 (by omega)
  have d0 : (0 : Int) ≤ (n : Int) := by omega
  have fin : ∀ (g1 cap1 : Nat) (w1 : World), w1.ownsRow 0 88 2 (.slice (some ⟨g1, 0, none⟩) (n + m) cap1) (n + m) (flat2 R ++ flat2 F) → HoldsR w1 g1 cap1 (R ++ F) := fun g1 cap1 w1 ho => by
    refine own_holds (b := 0) ?_
    rw [List.length_append, flat2_append, HLN.out, HLM.out]; exact ho
  have FIN := hide fin
  clear fin
  by_cases c1 : cap = n
  · subst c1
    go_enter Try.func82, Try.ntmps82
    go_wp2_with (at_builtin; refine wpList_append_lies _ rfl (.tmp 23) (.tmp 24) 54 rfl 0 88 i0 _ 2 16 Try.underlying54 hi0 hz0 hz1 hz2 rfl (by decide) (.slice (some ⟨g, 0, none⟩) cap cap) cap (flat2 R) rfl OW.out ⟨h, 0, none⟩ m c (flat2 F) rfl LF.out SF.out (flat2_one _) hm (by unfold maxLen; omega) (by omega) (Nat.zero_le _) w.heap.size rfl ?_; intro g1 cap1 w1 hown1 hgrow1 hat1 hlt1)
    have fin := FIN.out g1 cap1 w1 hown1
    clear hown1
    go_ret
    exact ⟨g1, cap1, rfl, fin, hgrow1, hat1.imp (fun e => by simpa [Value.ownBlock] using e.symm) (fun e => by omega)⟩
  · go_enter Try.func82, Try.ntmps82
    go_wp2_with (at_builtin; refine wpList_append_lies _ rfl (.tmp 23) (.tmp 24) 54 rfl 0 88 i0 _ 2 16 Try.underlying54 hi0 hz0 hz1 hz2 rfl (by decide) (.slice (some ⟨g, 0, none⟩) n cap) n (flat2 R) rfl OW.out ⟨h, 0, none⟩ m c (flat2 F) rfl LF.out SF.out (flat2_one _) hm (by unfold maxLen; omega) (by omega) (Nat.zero_le _) w.heap.size rfl ?_; intro g1 cap1 w1 hown1 hgrow1 hat1 hlt1)
    have fin := FIN.out g1 cap1 w1 hown1
    clear hown1
    go_ret
    exact ⟨g1, cap1, rfl, fin, hgrow1, hat1.imp (fun e => by simpa [Value.ownBlock] using e.symm) (fun e => by omega)⟩
set_option maxRecDepth 100000 in
set_option maxHeartbeats 4000000 in
/-- Replace up to the end, where it grows. -/
theorem replace_end_grow (g cap h c : Nat) (R F : List (Nat × Nat)) (i j m : Nat) (w : World) (hr : HoldsR w g cap R) (hln : R.length = j) (hlm : F.length = m) (hrc : j ≤ cap) (hn : j ≤ 4398046511104) (hij : i < j) (hm2 : m ≤ 2) (hm : cap < i + m)
    (hf : HoldsR w h c F) :
    Calls Try.prog 60 #[.slice (some ⟨g, 0, none⟩) j cap, .int .i64 (i : Int), .int .i64 (j : Int), .slice (some ⟨h, 0, none⟩) m c] w fun e w' => ∃ g' c', e = .returned (.slice (some ⟨g', 0, none⟩) (i + m) c') ∧ HoldsR w' g' c' (R.take i ++ F) ∧ w.grownBy w' (some g) ∧ (g' = g ∨ w.heap.size ≤ g') := by
  obtain ⟨i0, hi0, hz0, hz1, hz2⟩ := info_parts infoR
  have hti : (R.take i).length = i := by rw [List.length_take]; omega
  have OW := hide (holds_own (holds_take hr i))
  rw [hti] at OW
  obtain ⟨⟨curF, hf1, hf2⟩, hf3⟩ := hf
  have SF := hide (src_cells0 hf1 hf2)
  have LF := hide (show (flat2 F).length = m * 2 by rw [flat2_length, hlm])
  have fin : ∀ (g1 cap1 : Nat) (w1 : World), w1.ownsRow 0 88 2 (.slice (some ⟨g1, 0, none⟩) (i + m) cap1) (i + m) (flat2 (R.take i) ++ flat2 F) → HoldsR w1 g1 cap1 (R.take i ++ F) := fun g1 cap1 w1 ho => by
    refine own_holds (b := 0) ?_
    rw [List.length_append, flat2_append, hti, hlm]; exact ho
  have FIN := hide fin
  clear fin hr hf1 hf2 hf3 hln hlm hti
  have b1 : ((i : Int) == (j : Int)) = false := beq_eq_false_iff_ne.2 (by omega)
  have c1 : ¬ cap = i := by omega
  have d0 : (0 : Int) ≤ (i : Int) := by omega
  have d1 : (i : Int) ≤ (j : Int) := by omega
  have d11 : (i : Int) ≤ (cap : Int) := by omega
  have b5 : ¬ (i : Int) + (m : Int) < (j : Int) := by omega
  go_enter Try.func60, Try.ntmps60
  go_wp2_with (at_builtin; refine wpList_append_lies _ rfl (.tmp 32) (.tmp 33) 54 rfl 0 88 i0 _ 2 16 Try.underlying54 hi0 hz0 hz1 hz2 rfl (by decide) (.slice (some ⟨g, 0, none⟩) i cap) i (flat2 (R.take i)) rfl OW.out ⟨h, 0, none⟩ m c (flat2 F) rfl LF.out SF.out (flat2_one _) (by omega) (by unfold maxLen; omega) (by omega) (Nat.zero_le _) w.heap.size rfl ?_; intro g1 cap1 w1 hown1 hgrow1 hat1 hlt1)
  have fin := FIN.out g1 cap1 w1 hown1
  clear hown1
  go_ret
  exact ⟨g1, cap1, rfl, fin, hgrow1, hat1.imp (fun e => by simpa [Value.ownBlock] using e.symm) (fun e => by omega)⟩
set_option maxRecDepth 100000 in
set_option maxHeartbeats 4000000 in
/-- .. where there is room. -/
theorem replace_end_room (g cap : Nat) (fp : Option Addr) (c : Nat) (R F : List (Nat × Nat)) (i j m : Nat) (w : World) (hr : HoldsR w g cap R) (hln : R.length = j) (hlm : F.length = m) (hrc : j ≤ cap) (hn : cap ≤ 9223372036854775807) (hij : i < j) (hm : i + m ≤ cap)
    (hf : (m = 0 ∧ fp = none ∧ c = 0) ∨ (0 < m ∧ ∃ h, fp = some ⟨h, 0, none⟩ ∧ HoldsR w h c F)) :
    Calls Try.prog 60 #[.slice (some ⟨g, 0, none⟩) j cap, .int .i64 (i : Int), .int .i64 (j : Int), .slice fp m c] w fun e w' => e = .returned (.slice (some ⟨g, 0, none⟩) (i + m) cap) ∧ HoldsR w' g cap (R.take i ++ F) ∧ w.grownBy w' (some g) := by
  obtain ⟨i0, hi0, hz0, hz1, hz2⟩ := info_parts infoR
  have hti : (R.take i).length = i := by rw [List.length_take]; omega
  have OW := hide (holds_own (holds_take hr i))
  rw [hti] at OW
  obtain ⟨⟨cur, hr1, hr2⟩, hr3⟩ := hr
  have hA := hide (head_of hr2 (i := i) (by omega))
  have hcl := hr1.len
  have Hr := hide hr1
  have b1 : ((i : Int) == (j : Int)) = false := beq_eq_false_iff_ne.2 (by omega)
  have c1 : ¬ cap = i := by omega
  have d0 : (0 : Int) ≤ (i : Int) := by omega
  have d1 : (i : Int) ≤ (j : Int) := by omega
  have d11 : (i : Int) ≤ (cap : Int) := by omega
  have d8 : (0 : Int) ≤ (i : Int) + (m : Int) := by omega
  rcases hf with ⟨hm0, hfp, hc0⟩ | ⟨hm0, h, hfp, ⟨curF, hf1, hf2⟩, hf3⟩
  · subst hm0 hfp hc0
    have hF0 : F = [] := List.eq_nil_of_length_eq_zero hlm
    subst hF0
    rw [List.append_nil, Nat.add_zero]
    have HLN := hide hln
    have HTI := hide hti
    clear hr1 hr2 hr3 hln hlm hti
    go_enter Try.func60, Try.ntmps60
    go_wp2_with (at_builtin; refine wpList_append_own_none rfl (.tmp 32) (.tmp 33) 54 rfl 0 88 i0 2 Try.underlying54 hi0 (.slice (some ⟨g, 0, none⟩) i cap) i (flat2 (R.take i)) rfl OW.out rfl ?_)
    obtain ⟨w4, cur4, hrun4, hg4, hl4, ht4, hgrow4⟩ := run_clear_behind (P := Try.prog) w 54 0 88 _ Try.underlying54 (zeroR w) zc2 (some ⟨g, i * 2, none⟩) (j - i) (cap - i) g (i * 2) _ 88 Hr.out.heap (fun _ => rfl) (by show i * 2 + (j - i) * 2 ≤ _; rw [hcl]; omega)
    rw [hrun4]
    clear hrun4
    have FIN4 : Hid (HoldsR w4 g cap (R.take i)) := by
      refine HoldsR.mk ⟨cur4, ⟨hg4, by rw [hl4]; exact hcl, Hr.out.cap⟩, ?_⟩ (by rw [HTI.out]; omega)
      rw [HTI.out, ht4]; exact hA.out
    clear hg4 hl4 ht4
    go_wp2_with fail
    go_ret
    exact ⟨rfl, FIN4.out, hgrow4⟩
  · subst hfp
    have SF := hide (src_cells0 hf1 hf2)
    have LF := hide (show (flat2 F).length = m * 2 by rw [flat2_length, hlm])
    have HLN := hide hln
    have HLM := hide hlm
    have HTI := hide hti
    have FT := hide (show i * 2 + (flat2 F).length ≤ cur.length by rw [flat2_length, hlm, hcl]; omega)
    clear hr1 hr2 hr3 hln hlm hf1 hf2 hf3 hti OW
    have hR1 : ∀ (w1 : World) (cur1 : List Value), w1.heap[g]? = some (.cells (List.toArray cur1) 88 (0, 0)) → cur1.length = cur.length → cur1.take ((i + m) * 2) = (splice cur (i * 2) (flat2 F)).take ((i + m) * 2) → HoldsR w1 g cap (R.take i ++ F) := fun w1 cur1 a1 a2 a3 => by
      refine HoldsR.mk ⟨cur1, ⟨a1, by rw [a2]; exact hcl, Hr.out.cap⟩, ?_⟩ (by rw [List.length_append, HTI.out, HLM.out]; omega)
      rw [List.length_append, HTI.out, HLM.out, a3, flat2_append, ← hA.out]
      unfold splice
      have l1 : (cur.take (i * 2)).length = i * 2 := by rw [List.length_take]; omega
      have l2 := LF.out
      rw [← List.append_assoc, List.take_append_of_le_length (by rw [List.length_append]; omega)]
      exact List.take_of_length_le (by rw [List.length_append]; omega)
    have HR1 := hide hR1
    clear hR1
    by_cases b5 : (i : Int) + (m : Int) < (j : Int)
    · have c3 : ¬ cap = i + m := by omega
      have d5 : ((i : Int) + (m : Int)).toNat = i + m := by omega
      have d10 : (i : Int) + (m : Int) ≤ (j : Int) := by omega
      go_enter Try.func60, Try.ntmps60
      go_wp2_with (at_builtin; refine wpList_append_room2 rfl (.tmp 32) (.tmp 33) 54 rfl 88 i0 2 Try.underlying54 hi0 hz1 g i cap rfl cur Hr.out.heap ⟨h, 0, none⟩ m c rfl (flat2 F) LF.out SF.out (flat2_one _) hm FT.out ?_; intro w1 HG1 hgrow1)
      obtain ⟨w4, cur4, hrun4, hg4, hl4, ht4, hgrow4⟩ := run_clear_behind (P := Try.prog) w1 54 0 88 _ Try.underlying54 (zeroR w1) zc2 (some ⟨g, (i + m) * 2, none⟩) (j - (i + m)) (cap - (i + m)) g ((i + m) * 2) _ 88 HG1.out (fun _ => rfl) (by show (i + m) * 2 + (j - (i + m)) * 2 ≤ _; rw [length_splice _ _ _ FT.out, hcl]; omega)
      rw [hrun4]
      clear hrun4
      have FIN4 := hide (HR1.out w4 cur4 hg4 (by rw [hl4, length_splice _ _ _ FT.out]) ht4)
      clear hg4 hl4 ht4 HG1
      go_wp2_with fail
      go_ret
      exact ⟨rfl, FIN4.out, hgrow1.trans hgrow4⟩
    · go_enter Try.func60, Try.ntmps60
      go_wp2_with (at_builtin; refine wpList_append_room2 rfl (.tmp 32) (.tmp 33) 54 rfl 88 i0 2 Try.underlying54 hi0 hz1 g i cap rfl cur Hr.out.heap ⟨h, 0, none⟩ m c rfl (flat2 F) LF.out SF.out (flat2_one _) hm FT.out ?_; intro w1 HG1 hgrow1)
      have FIN4 := hide (HR1.out w1 _ HG1.out (length_splice _ _ _ FT.out) rfl)
      clear HG1
      go_ret
      exact ⟨rfl, FIN4.out, hgrow1⟩
end Go.Proofs.Ytpceigglilgelaa
