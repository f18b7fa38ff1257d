/- What is done under the guard: Load, Store, Zero within. -/
import Derived.Test.YtpceigglilgelaaVmRa
import Derived.Test.YtpceigglilgelaaVmKa
import Derived.Test.YtpceigglilgelaaVmZ
namespace Go.Proofs.Ytpceigglilgelaa
open Go.ChangeShapes Go.WideShapes Go.ChangeAt Go.RowKit Go.Proofs.Sp
set_option linter.unusedVariables false
set_option linter.unusedSimpArgs false

theorem WordsM.kept {w w' : World} {b bp bf n : Nat} {MP MF : Nat → Nat} {A : Nat → Nat → Nat} (h : WordsM w b bp bf n MP MF A) (h8 : w'.cell? ⟨b, 8, none⟩ = w.cell? ⟨b, 8, none⟩) (h9 : w'.cell? ⟨b, 9, none⟩ = w.cell? ⟨b, 9, none⟩) (hk : ∀ x, WFoot bp bf MP x → w'.heap[x]? = w.heap[x]?) : WordsM w' b bp bf n MP MF A :=
  ⟨h8.trans h.c8, h9.trans h.c9, h.mp.kept (hk bp (Or.inl rfl)), h.mf.kept (hk bf (Or.inr (Or.inl rfl))), fun p hp => (h.arr p hp).kept (hk _ (Or.inr (Or.inr ⟨p, by omega⟩))), h.one, h.sep, h.ne⟩
theorem WordsM.below {w w' : World} {b bp bf n : Nat} {MP MF : Nat → Nat} {A : Nat → Nat → Nat} (h : WordsM w b bp bf n MP MF A) (hk : Below w.heap.size w w') : WordsM w' b bp bf n MP MF A :=
  h.kept (hk.cell (p := ⟨b, 8, none⟩) (cell_lt h.c8)) (hk.cell (p := ⟨b, 9, none⟩) (cell_lt h.c9)) (fun x hx => hk.block x (h.foot hx).1)
theorem drew_below (w : World) : Below w.heap.size w w.drew := ⟨rfl, rfl, rfl, Nat.le_refl _, fun _ _ => rfl⟩

set_option maxRecDepth 100000 in
theorem load1_ok (b x y z g cap bp bf n : Nat) (R : List (Nat × Nat)) (f : Nat → Nat) (MP MF : Nat → Nat) (A : Nat → Nat → Nat) (a : Int) (h0 : 0 ≤ a) (h1 : a < 18446744073709551616) (hn : R.length ≤ 70368744177664) (w : World) (hL : ListAt w b 3 g cap R) (hs : Seg f 0 R 34359738368) (hz : ∀ p, 34359738368 ≤ p → f p = 0)
    (hW : WordsM w b bp bf n MP MF A) (cx : w.cell? ⟨x, 0, none⟩ = some (.pointer (some ⟨b, 0, none⟩))) (cy : w.cell? ⟨y, 0, none⟩ = some (.int .u64 a)) (cz : w.cell? ⟨z, 0, none⟩ = some (.int .u64 0)) (fz : w.frozen? ⟨z, 0, none⟩ = false) (nx : x ≠ z) (ny : y ≠ z)
    (h : a % 8 = 0) (hr : f (a / 8192).toNat = 2) :
    Calls Try.prog 37 #[.pointer (some ⟨x, 0, none⟩), .pointer (some ⟨y, 0, none⟩), .pointer (some ⟨z, 0, none⟩)] w fun e w' => e = .returned (.tuple #[]) ∧ ∃ w2, Below w.heap.size w w2 ∧ w' = w2.setCell ⟨z, 0, none⟩ (.int .u64 (wordAt MP MF A (a.toNat / 8192) (a.toNat % 8192 / 8) : Nat)) := by
  have hxl := cell_lt cx
  have hyl := cell_lt cy
  have hzl := cell_lt cz
  have HL := hide hL
  have HS := hide hs
  have HZ := hide hz
  have HW := hide hW
  have HR := hide hr
  clear hL hs hz hW hr
  go_enter Try.func37, Try.ntmps37
  go_wp2_with fail
  refine (touch_ok b g cap R f a h0 h1 hn w HL.out HS.out HZ.out h HR.out).mono ?_
  rintro e w1 ⟨rfl, B1⟩
  have HB := hide B1
  have W1 := hide (HW.out.below B1)
  obtain ⟨q1, q2⟩ := bcell B1
  have cx1 := (q1 x 0 hxl).trans cx
  have cy1 := (q1 y 0 hyl).trans cy
  have cz1 := (q1 z 0 hzl).trans cz
  have fz1 := (q2 z 0 hzl).trans fz
  clear q1 q2 B1 HL HS HZ HW HR cx cy cz fz
  go_wp2_with fail
  refine still_tail 4 (by kernel_rfl) (by kernel_rfl) ?_
  simp only [List.take_succ_cons, List.take_zero, List.drop_succ_cons, List.drop_zero]
  repeat still_step
  refine wpStill_nil ?_
  go_wp2_with fail
  refine (wload_core b bp bf n MP MF A w1.drew (W1.out.below (drew_below _)) a h0 h1).mono ?_
  rintro e w' ⟨rfl, hw'⟩
  rw [hw']
  clear hw' w'
  go_wp2_with fail
  go_end0
  exact ⟨rfl, w1.drew, HB.out.trans ((drew_below w1).mono HB.out.size), by first | rfl | simp⟩
theorem load1_bad (b x y z : Nat) (a c : Int) (w : World) (cx : w.cell? ⟨x, 0, none⟩ = some (.pointer (some ⟨b, 0, none⟩))) (cy : w.cell? ⟨y, 0, none⟩ = some (.int .u64 a))
    (hT : Calls Try.prog 38 #[.pointer (some ⟨b, 0, none⟩), .int .u64 a] w fun e w' => e = .panicked [{ v := .iface 99 (.agg #[.int .i64 c]), recovered := false }] ∧ Below w.heap.size w w') :
    Calls Try.prog 37 #[.pointer (some ⟨x, 0, none⟩), .pointer (some ⟨y, 0, none⟩), .pointer (some ⟨z, 0, none⟩)] w fun e w' => e = .panicked [{ v := .iface 99 (.agg #[.int .i64 c]), recovered := false }] ∧ Below w.heap.size w w' := by
  have HT := hide hT
  clear hT
  go_enter Try.func37, Try.ntmps37
  go_wp2_with fail
  refine HT.out.mono ?_
  rintro e w1 ⟨rfl, B1⟩
  go_wp2_with fail
  exact ⟨rfl, rfl, B1⟩
theorem store1_bad (b x y z : Nat) (a c : Int) (w : World) (cx : w.cell? ⟨x, 0, none⟩ = some (.pointer (some ⟨b, 0, none⟩))) (cy : w.cell? ⟨y, 0, none⟩ = some (.int .u64 a))
    (hT : Calls Try.prog 38 #[.pointer (some ⟨b, 0, none⟩), .int .u64 a] w fun e w' => e = .panicked [{ v := .iface 99 (.agg #[.int .i64 c]), recovered := false }] ∧ Below w.heap.size w w') :
    Calls Try.prog 49 #[.pointer (some ⟨x, 0, none⟩), .pointer (some ⟨y, 0, none⟩), .pointer (some ⟨z, 0, none⟩)] w fun e w' => e = .panicked [{ v := .iface 99 (.agg #[.int .i64 c]), recovered := false }] ∧ Below w.heap.size w w' := by
  have HT := hide hT
  clear hT
  go_enter Try.func49, Try.ntmps49
  go_wp2_with fail
  refine HT.out.mono ?_
  rintro e w1 ⟨rfl, B1⟩
  go_wp2_with fail
  exact ⟨rfl, rfl, B1⟩
set_option maxRecDepth 100000 in
theorem store1_ok (b x y z bp bf n : Nat) (MP MF : Nat → Nat) (A : Nat → Nat → Nat) (a : Int) (v : Nat) (h0 : 0 ≤ a) (h1 : a < 18446744073709551616) (hv : v < 18446744073709551616) (hn : n ≤ 4398046511104) (w : World)
    (hW : WordsM w b bp bf n MP MF A) (cx : w.cell? ⟨x, 0, none⟩ = some (.pointer (some ⟨b, 0, none⟩))) (cy : w.cell? ⟨y, 0, none⟩ = some (.int .u64 a)) (cz : w.cell? ⟨z, 0, none⟩ = some (.int .u64 (v : Int)))
    (hT : Calls Try.prog 38 #[.pointer (some ⟨b, 0, none⟩), .int .u64 a] w fun e w' => e = .returned (.tuple #[]) ∧ Below w.heap.size w w') :
    Calls Try.prog 49 #[.pointer (some ⟨x, 0, none⟩), .pointer (some ⟨y, 0, none⟩), .pointer (some ⟨z, 0, none⟩)] w fun e w' => e = .returned (.tuple #[]) ∧ ∃ w2, Below w.heap.size w w2 ∧ WPost w2 w' b bp bf (n + 1) MP MF (fun q => q ≠ a.toNat / 8192) (fun q j => if q = a.toNat / 8192 ∧ j = a.toNat % 8192 / 8 then v else wordAt MP MF A q j) := by
  have hxl := cell_lt cx
  have hyl := cell_lt cy
  have hzl := cell_lt cz
  have HW := hide hW
  have HT := hide hT
  clear hT hW
  obtain ⟨PO, hPO⟩ : ∃ PO : World → Prop, PO = fun w' => ∃ w2, Below w.heap.size w w2 ∧ WPost w2 w' b bp bf (n + 1) MP MF (fun q => q ≠ a.toNat / 8192) (fun q j => if q = a.toNat / 8192 ∧ j = a.toNat % 8192 / 8 then v else wordAt MP MF A q j) := ⟨_, rfl⟩
  suffices Calls Try.prog 49 #[.pointer (some ⟨x, 0, none⟩), .pointer (some ⟨y, 0, none⟩), .pointer (some ⟨z, 0, none⟩)] w fun e w' => e = .returned (.tuple #[]) ∧ PO w' by rw [hPO] at this; exact this
  have FIN := hide hPO
  clear hPO
  go_enter Try.func49, Try.ntmps49
  go_wp2_with fail
  refine HT.out.mono ?_
  rintro e w1 ⟨rfl, B1⟩
  have HB := hide B1
  have W1 := hide (HW.out.below B1)
  obtain ⟨q1, q2⟩ := bcell B1
  have cx1 := (q1 x 0 hxl).trans cx
  have cy1 := (q1 y 0 hyl).trans cy
  have cz1 := (q1 z 0 hzl).trans cz
  clear q1 q2 B1 HW HT cx cy cz
  go_wp2_with fail
  refine still_tail 5 (by kernel_rfl) (by kernel_rfl) ?_
  simp only [List.take_succ_cons, List.take_zero, List.drop_succ_cons, List.drop_zero]
  repeat still_step
  refine wpStill_nil ?_
  go_wp2_with fail
  refine (wstore_core b bp bf n MP MF A w1.drew (W1.out.below (drew_below _)) hn a h0 h1 v hv).mono ?_
  rintro e w' ⟨rfl, hP⟩
  go_wp2_with fail
  go_end0
  refine ⟨rfl, ?_⟩
  rw [FIN.out]
  exact ⟨w1.drew, HB.out.trans ((drew_below w1).mono HB.out.size), hP.out⟩
theorem zero1_bad (b x y z : Nat) (a n c : Int) (w : World) (cx : w.cell? ⟨x, 0, none⟩ = some (.pointer (some ⟨b, 0, none⟩))) (cy : w.cell? ⟨y, 0, none⟩ = some (.int .u64 a)) (cz : w.cell? ⟨z, 0, none⟩ = some (.int .u64 n))
    (hT : Calls Try.prog 52 #[.pointer (some ⟨b, 0, none⟩), .int .u64 a, .int .u64 n] w fun e w' => e = .panicked [{ v := .iface 99 (.agg #[.int .i64 c]), recovered := false }] ∧ Below w.heap.size w w') :
    Calls Try.prog 51 #[.pointer (some ⟨x, 0, none⟩), .pointer (some ⟨y, 0, none⟩), .pointer (some ⟨z, 0, none⟩)] w fun e w' => e = .panicked [{ v := .iface 99 (.agg #[.int .i64 c]), recovered := false }] ∧ Below w.heap.size w w' := by
  have HT := hide hT
  clear hT
  go_enter Try.func51, Try.ntmps51
  go_wp2_with fail
  refine HT.out.mono ?_
  rintro e w1 ⟨rfl, B1⟩
  go_wp2_with fail
  exact ⟨rfl, rfl, B1⟩
set_option maxRecDepth 100000 in
/-- What 'zero' within leaves: any contract of it. -/
theorem zero1_ok (b x y z bp bf n : Nat) (MP MF : Nat → Nat) (A : Nat → Nat → Nat) (a c : Int) (PO : World → World → Prop) (w : World)
    (hW : WordsM w b bp bf n MP MF A) (cx : w.cell? ⟨x, 0, none⟩ = some (.pointer (some ⟨b, 0, none⟩))) (cy : w.cell? ⟨y, 0, none⟩ = some (.int .u64 a)) (cz : w.cell? ⟨z, 0, none⟩ = some (.int .u64 c))
    (hT : Calls Try.prog 52 #[.pointer (some ⟨b, 0, none⟩), .int .u64 a, .int .u64 c] w fun e w' => e = .returned (.tuple #[]) ∧ Below w.heap.size w w')
    (hZ : ∀ w, WordsM w b bp bf n MP MF A → Calls Try.prog 53 #[.pointer (some ⟨b, 8, none⟩), .int .u64 a, .int .u64 c] w fun e w' => e = .returned (.tuple #[]) ∧ PO w w') :
    Calls Try.prog 51 #[.pointer (some ⟨x, 0, none⟩), .pointer (some ⟨y, 0, none⟩), .pointer (some ⟨z, 0, none⟩)] w fun e w' => e = .returned (.tuple #[]) ∧ ∃ w2, Below w.heap.size w w2 ∧ PO w2 w' := by
  have hxl := cell_lt cx
  have hyl := cell_lt cy
  have hzl := cell_lt cz
  have HW := hide hW
  have HT := hide hT
  have HZ := hide hZ
  clear hT hW hZ
  go_enter Try.func51, Try.ntmps51
  go_wp2_with fail
  refine HT.out.mono ?_
  rintro e w1 ⟨rfl, B1⟩
  have HB := hide B1
  have W1 := hide (HW.out.below B1)
  obtain ⟨q1, q2⟩ := bcell B1
  have cx1 := (q1 x 0 hxl).trans cx
  have cy1 := (q1 y 0 hyl).trans cy
  have cz1 := (q1 z 0 hzl).trans cz
  clear q1 q2 B1 HW HT cx cy cz
  go_wp2_with fail
  refine still_tail 5 (by kernel_rfl) (by kernel_rfl) ?_
  simp only [List.take_succ_cons, List.take_zero, List.drop_succ_cons, List.drop_zero]
  repeat still_step
  refine wpStill_nil ?_
  go_wp2_with fail
  refine (HZ.out w1.drew (W1.out.below (drew_below _))).mono ?_
  rintro e w' ⟨rfl, hP⟩
  have HP := hide hP
  clear hP
  go_wp2_with fail
  go_end0
  exact ⟨rfl, w1.drew, HB.out.trans ((drew_below w1).mono HB.out.size), HP.out⟩
end Go.Proofs.Ytpceigglilgelaa
