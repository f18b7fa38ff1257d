/- act: each arm does the same to both. -/
import Derived.Test.YtblfefibgoiaaaaDoorSq
import Derived.Test.YtblfefibgoiaaaaDoorAr
namespace Go.Proofs.YtblfefibgoiaaaaDoor
open Go.ChangeShapes Go.WideShapes Go.ChangeAt Go.RowKit Go.Proofs.Sn Go.Shelf
set_option linter.unusedVariables false
set_option linter.unusedSimpArgs false

attribute [local go_sem] Oper.semAt_some

section
variable {N : Nat} {w W W' : World} {sb rb p : Nat} {G : Geo} {S : St}
/-- Behind an act. -/
def ActTo (N : Nat) (w : World) (sb rb p : Nat) (G : Geo) (e : Ending) (W' : World) : Prop := e = .returned (.bool true) ∧ ∃ S', PP N w W' sb rb p G (fun _ => False) S' S'
/-- The law's own copy of an act, beside both spans. -/
theorem act_box (h : PP N w W sb rb p G (fun _ => False) S S) (x i : Int) (a : Int) : PP N w (W.alloc (.cells #[.int .i64 x, .int .i64 i, .int .u64 a] 36)) sb rb p G (fun z => z = W.heap.size) S S ∧ Bk (W.alloc (.cells #[.int .i64 x, .int .i64 i, .int .u64 a] 36)) W.heap.size 36 #[.int .i64 x, .int .i64 i, .int .u64 a] :=
  ⟨h.made (below_alloc W _) (fun z hz => .inr (by rw [hz, World.size_alloc]; omega)), World.alloc_heap_new W _⟩
theorem PP.alone {A : Nat → Prop} {S1 S2 : St} (h : PP N w W sb rb p G A S1 S2) : PP N w W sb rb p G (fun _ => False) S1 S2 := h.less (fun z hz => hz.elim)

set_option maxRecDepth 100000 in
set_option maxHeartbeats 1000000 in
theorem act_1 (h : PP N w W sb rb p G (fun _ => False) S S) (i a : Int) (i0 : -9223372036854775808 ≤ i) (i1 : i ≤ 9223372036854775807) (a0 : 0 ≤ a) (a1 : a ≤ 18446744073709551615) :
    Calls Tryd.prog 14 #[.pointer (some ⟨sb, 0, none⟩), .pointer (some ⟨rb, 0, none⟩), .agg #[.int .i64 1, .int .i64 i, .int .u64 a]] W (ActTo N w sb rb p G) := by
  obtain ⟨hb, kb⟩ := act_box h 1 i a
  obtain ⟨R, hR⟩ : ∃ R : Ending → World → Prop, R = ActTo N w sb rb p G := ⟨_, rfl⟩
  rw [← hR]
  have FIN := hide (show ∀ A S' W', PP N w W' sb rb p G A S' S' → R (.returned (.bool true)) W' from fun A S' W' h => by rw [hR]; exact ⟨rfl, S', h.alone⟩)
  clear hR
  obtain ⟨ab, hab⟩ : ∃ ab, W.heap.size = ab := ⟨_, rfl⟩
  obtain ⟨WA, hWA⟩ : ∃ WA, W.alloc (.cells #[.int .i64 1, .int .i64 i, .int .u64 a] 36) = WA := ⟨_, rfl⟩
  rw [hWA, hab] at hb kb
  obtain ⟨ans, S', hq, L, RR⟩ := both_next hb
  obtain ⟨x1, x2, rfl⟩ := hq
  have CL := hide L
  have CR := hide RR
  clear L RR
  have HH := hide (And.intro hab hWA)
  have y0 : WA.cell? ⟨ab, 0, none⟩ = some (.int .i64 1) := kb.cell 0 _ rfl
  have y1 : WA.cell? ⟨ab, 1, none⟩ = some (.int .i64 i) := kb.cell 1 _ rfl
  have y2 : WA.cell? ⟨ab, 2, none⟩ = some (.int .u64 a) := kb.cell 2 _ rfl
  have KB := hide kb
  have HB := hide hb
  have CELL := hide (show ∀ X, LeftO (fun z => z = ab) WA X → X.cell? ⟨ab, 1, none⟩ = some (.int .i64 i) ∧ X.cell? ⟨ab, 2, none⟩ = some (.int .u64 a) from fun X lf => ⟨(lf.bk kb rfl).cell 1 _ rfl, (lf.bk kb rfl).cell 2 _ rfl⟩)
  clear h hb kb hab hWA
  go_enter Tryd.func14, Tryd.ntmps14
  go_upto_region 1 with fail
  rw [HH.out.2, HH.out.1]
  go_wp2_with fail
  refine CL.out.mono ?_
  rintro e W1 ⟨rfl, p1, lf1⟩
  obtain ⟨u1, u2⟩ := CELL.out W1 lf1
  have C2 := hide (CR.out W1 p1)
  clear CL CR p1 lf1 y0 y1 y2
  go_wp2_with fail
  refine C2.out.mono ?_
  rintro e W2 ⟨rfl, p2, -⟩
  have FF := hide (FIN.out _ _ _ p2)
  clear C2 p2
  go_wp2_with fail
  first | exact FF.out | (go_ret; exact FF.out)
set_option maxRecDepth 100000 in
set_option maxHeartbeats 1000000 in
theorem act_5 (h : PP N w W sb rb p G (fun _ => False) S S) (i a : Int) (i0 : -9223372036854775808 ≤ i) (i1 : i ≤ 9223372036854775807) (a0 : 0 ≤ a) (a1 : a ≤ 18446744073709551615) :
    Calls Tryd.prog 14 #[.pointer (some ⟨sb, 0, none⟩), .pointer (some ⟨rb, 0, none⟩), .agg #[.int .i64 5, .int .i64 i, .int .u64 a]] W (ActTo N w sb rb p G) := by
  obtain ⟨hb, kb⟩ := act_box h 5 i a
  obtain ⟨R, hR⟩ : ∃ R : Ending → World → Prop, R = ActTo N w sb rb p G := ⟨_, rfl⟩
  rw [← hR]
  have FIN := hide (show ∀ A S' W', PP N w W' sb rb p G A S' S' → R (.returned (.bool true)) W' from fun A S' W' h => by rw [hR]; exact ⟨rfl, S', h.alone⟩)
  clear hR
  obtain ⟨ab, hab⟩ : ∃ ab, W.heap.size = ab := ⟨_, rfl⟩
  obtain ⟨WA, hWA⟩ : ∃ WA, W.alloc (.cells #[.int .i64 5, .int .i64 i, .int .u64 a] 36) = WA := ⟨_, rfl⟩
  rw [hWA, hab] at hb kb
  obtain ⟨ans, S', hq, L, RR⟩ := both_die hb
  obtain ⟨x1, rfl⟩ := hq
  have CL := hide L
  have CR := hide RR
  clear L RR
  have HH := hide (And.intro hab hWA)
  have y0 : WA.cell? ⟨ab, 0, none⟩ = some (.int .i64 5) := kb.cell 0 _ rfl
  have y1 : WA.cell? ⟨ab, 1, none⟩ = some (.int .i64 i) := kb.cell 1 _ rfl
  have y2 : WA.cell? ⟨ab, 2, none⟩ = some (.int .u64 a) := kb.cell 2 _ rfl
  have KB := hide kb
  have HB := hide hb
  have CELL := hide (show ∀ X, LeftO (fun z => z = ab) WA X → X.cell? ⟨ab, 1, none⟩ = some (.int .i64 i) ∧ X.cell? ⟨ab, 2, none⟩ = some (.int .u64 a) from fun X lf => ⟨(lf.bk kb rfl).cell 1 _ rfl, (lf.bk kb rfl).cell 2 _ rfl⟩)
  clear h hb kb hab hWA
  go_enter Tryd.func14, Tryd.ntmps14
  go_upto_region 1 with fail
  rw [HH.out.2, HH.out.1]
  go_wp2_with fail
  refine CL.out.mono ?_
  rintro e W1 ⟨rfl, p1, lf1⟩
  obtain ⟨u1, u2⟩ := CELL.out W1 lf1
  have C2 := hide (CR.out W1 p1)
  clear CL CR p1 lf1 y0 y1 y2
  go_wp2_with fail
  refine C2.out.mono ?_
  rintro e W2 ⟨rfl, p2, -⟩
  have FF := hide (FIN.out _ _ _ p2)
  clear C2 p2
  go_wp2_with fail
  first | exact FF.out | (go_ret; exact FF.out)
set_option maxRecDepth 100000 in
set_option maxHeartbeats 1000000 in
theorem act_7 (h : PP N w W sb rb p G (fun _ => False) S S) (i a : Int) (i0 : -9223372036854775808 ≤ i) (i1 : i ≤ 9223372036854775807) (a0 : 0 ≤ a) (a1 : a ≤ 18446744073709551615) :
    Calls Tryd.prog 14 #[.pointer (some ⟨sb, 0, none⟩), .pointer (some ⟨rb, 0, none⟩), .agg #[.int .i64 7, .int .i64 i, .int .u64 a]] W (ActTo N w sb rb p G) := by
  obtain ⟨hb, kb⟩ := act_box h 7 i a
  obtain ⟨R, hR⟩ : ∃ R : Ending → World → Prop, R = ActTo N w sb rb p G := ⟨_, rfl⟩
  rw [← hR]
  have FIN := hide (show ∀ A S' W', PP N w W' sb rb p G A S' S' → R (.returned (.bool true)) W' from fun A S' W' h => by rw [hR]; exact ⟨rfl, S', h.alone⟩)
  clear hR
  obtain ⟨ab, hab⟩ : ∃ ab, W.heap.size = ab := ⟨_, rfl⟩
  obtain ⟨WA, hWA⟩ : ∃ WA, W.alloc (.cells #[.int .i64 7, .int .i64 i, .int .u64 a] 36) = WA := ⟨_, rfl⟩
  rw [hWA, hab] at hb kb
  obtain ⟨x, hx⟩ : ∃ x : Nat, (x : Int) = a := ⟨a.toNat, by omega⟩
  obtain ⟨ans, S', hq, L, RR⟩ := both_index hb x (by omega)
  obtain ⟨x1, x2, rfl⟩ := hq
  have CL := hide L
  have CR := hide RR
  clear L RR
  rw [hx] at CL CR
  clear hx
  have HH := hide (And.intro hab hWA)
  have y0 : WA.cell? ⟨ab, 0, none⟩ = some (.int .i64 7) := kb.cell 0 _ rfl
  have y1 : WA.cell? ⟨ab, 1, none⟩ = some (.int .i64 i) := kb.cell 1 _ rfl
  have y2 : WA.cell? ⟨ab, 2, none⟩ = some (.int .u64 a) := kb.cell 2 _ rfl
  have KB := hide kb
  have HB := hide hb
  have CELL := hide (show ∀ X, LeftO (fun z => z = ab) WA X → X.cell? ⟨ab, 1, none⟩ = some (.int .i64 i) ∧ X.cell? ⟨ab, 2, none⟩ = some (.int .u64 a) from fun X lf => ⟨(lf.bk kb rfl).cell 1 _ rfl, (lf.bk kb rfl).cell 2 _ rfl⟩)
  clear h hb kb hab hWA
  go_enter Tryd.func14, Tryd.ntmps14
  go_upto_region 1 with fail
  rw [HH.out.2, HH.out.1]
  go_wp2_with fail
  refine CL.out.mono ?_
  rintro e W1 ⟨rfl, p1, lf1⟩
  obtain ⟨u1, u2⟩ := CELL.out W1 lf1
  have C2 := hide (CR.out W1 p1)
  clear CL CR p1 lf1 y0 y1 y2
  go_wp2_with fail
  refine C2.out.mono ?_
  rintro e W2 ⟨rfl, p2, -⟩
  have FF := hide (FIN.out _ _ _ p2)
  clear C2 p2
  go_wp2_with fail
  first | exact FF.out | (go_ret; exact FF.out)
set_option maxRecDepth 100000 in
set_option maxHeartbeats 1000000 in
theorem act_2 (h : PP N w W sb rb p G (fun _ => False) S S) (i a : Int) (i0 : -9223372036854775808 ≤ i) (i1 : i ≤ 9223372036854775807) (a0 : 0 ≤ a) (a1 : a ≤ 18446744073709551615) :
    Calls Tryd.prog 14 #[.pointer (some ⟨sb, 0, none⟩), .pointer (some ⟨rb, 0, none⟩), .agg #[.int .i64 2, .int .i64 i, .int .u64 a]] W (ActTo N w sb rb p G) := by
  obtain ⟨hb, kb⟩ := act_box h 2 i a
  obtain ⟨R, hR⟩ : ∃ R : Ending → World → Prop, R = ActTo N w sb rb p G := ⟨_, rfl⟩
  rw [← hR]
  have FIN := hide (show ∀ A S' W', PP N w W' sb rb p G A S' S' → R (.returned (.bool true)) W' from fun A S' W' h => by rw [hR]; exact ⟨rfl, S', h.alone⟩)
  clear hR
  obtain ⟨ab, hab⟩ : ∃ ab, W.heap.size = ab := ⟨_, rfl⟩
  obtain ⟨WA, hWA⟩ : ∃ WA, W.alloc (.cells #[.int .i64 2, .int .i64 i, .int .u64 a] 36) = WA := ⟨_, rfl⟩
  rw [hWA, hab] at hb kb
  obtain ⟨ans, S', hq, L, RR⟩ := both_give (hb.read (drew_below WA)) i
  obtain ⟨x1, rfl⟩ := hq
  have CL := hide L
  have CR := hide RR
  clear L RR
  have HH := hide (And.intro hab hWA)
  have y0 : WA.cell? ⟨ab, 0, none⟩ = some (.int .i64 2) := kb.cell 0 _ rfl
  have y1 : WA.cell? ⟨ab, 1, none⟩ = some (.int .i64 i) := kb.cell 1 _ rfl
  have y2 : WA.cell? ⟨ab, 2, none⟩ = some (.int .u64 a) := kb.cell 2 _ rfl
  have KB := hide kb
  have HB := hide hb
  have CELL := hide (show ∀ X, LeftO (fun z => z = ab) WA X → X.cell? ⟨ab, 1, none⟩ = some (.int .i64 i) ∧ X.cell? ⟨ab, 2, none⟩ = some (.int .u64 a) from fun X lf => ⟨(lf.bk kb rfl).cell 1 _ rfl, (lf.bk kb rfl).cell 2 _ rfl⟩)
  clear h hb kb hab hWA
  go_enter Tryd.func14, Tryd.ntmps14
  go_upto_region 1 with fail
  rw [HH.out.2, HH.out.1]
  go_wp2_with fail
  go_region_held3 (fun w' => w'.cell? ⟨ab, 1, none⟩ = some (.int .i64 i)) (first | (go_keep; done)) (first
    | (go_at_call 16; refine CL.out.mono ?_; rintro e W1 ⟨rfl, p1, lf1⟩; have v1 := (lf1.bk (KB.out.below (drew_below WA)) rfl).cell 1 (.int .i64 i) rfl; have C2 := hide (CR.out W1 p1); have K1 := hide (lf1.bk (KB.out.below (drew_below WA)) rfl); clear CL CR p1 lf1 y0 y1 y2)
    | (go_at_call 34; refine C2.out.mono ?_; rintro e W2 ⟨rfl, p2, lf2⟩; have v2 := (lf2.bk K1.out rfl).cell 1 (.int .i64 i) rfl; have P2 := hide p2; clear C2 p2 lf2 v1))
  have FF := hide (FIN.out _ _ _ P2.out)
  go_wp2_with fail
  first | exact FF.out | (go_ret; exact FF.out)
set_option maxRecDepth 100000 in
set_option maxHeartbeats 1000000 in
theorem act_3 (h : PP N w W sb rb p G (fun _ => False) S S) (i a : Int) (i0 : -9223372036854775808 ≤ i) (i1 : i ≤ 9223372036854775807) (a0 : 0 ≤ a) (a1 : a ≤ 18446744073709551615) :
    Calls Tryd.prog 14 #[.pointer (some ⟨sb, 0, none⟩), .pointer (some ⟨rb, 0, none⟩), .agg #[.int .i64 3, .int .i64 i, .int .u64 a]] W (ActTo N w sb rb p G) := by
  obtain ⟨hb, kb⟩ := act_box h 3 i a
  obtain ⟨R, hR⟩ : ∃ R : Ending → World → Prop, R = ActTo N w sb rb p G := ⟨_, rfl⟩
  rw [← hR]
  have FIN := hide (show ∀ A S' W', PP N w W' sb rb p G A S' S' → R (.returned (.bool true)) W' from fun A S' W' h => by rw [hR]; exact ⟨rfl, S', h.alone⟩)
  clear hR
  obtain ⟨ab, hab⟩ : ∃ ab, W.heap.size = ab := ⟨_, rfl⟩
  obtain ⟨WA, hWA⟩ : ∃ WA, W.alloc (.cells #[.int .i64 3, .int .i64 i, .int .u64 a] 36) = WA := ⟨_, rfl⟩
  rw [hWA, hab] at hb kb
  obtain ⟨ans, S', hq, L, RR⟩ := both_mark (hb.read (drew_below WA)) i
  obtain ⟨x1, rfl⟩ := hq
  have CL := hide L
  have CR := hide RR
  clear L RR
  have HH := hide (And.intro hab hWA)
  have y0 : WA.cell? ⟨ab, 0, none⟩ = some (.int .i64 3) := kb.cell 0 _ rfl
  have y1 : WA.cell? ⟨ab, 1, none⟩ = some (.int .i64 i) := kb.cell 1 _ rfl
  have y2 : WA.cell? ⟨ab, 2, none⟩ = some (.int .u64 a) := kb.cell 2 _ rfl
  have KB := hide kb
  have HB := hide hb
  have CELL := hide (show ∀ X, LeftO (fun z => z = ab) WA X → X.cell? ⟨ab, 1, none⟩ = some (.int .i64 i) ∧ X.cell? ⟨ab, 2, none⟩ = some (.int .u64 a) from fun X lf => ⟨(lf.bk kb rfl).cell 1 _ rfl, (lf.bk kb rfl).cell 2 _ rfl⟩)
  clear h hb kb hab hWA
  go_enter Tryd.func14, Tryd.ntmps14
  go_upto_region 1 with fail
  rw [HH.out.2, HH.out.1]
  go_wp2_with fail
  go_region_held3 (fun w' => w'.cell? ⟨ab, 1, none⟩ = some (.int .i64 i)) (first | (go_keep; done)) (first
    | (go_at_call 19; refine CL.out.mono ?_; rintro e W1 ⟨rfl, p1, lf1⟩; have v1 := (lf1.bk (KB.out.below (drew_below WA)) rfl).cell 1 (.int .i64 i) rfl; have C2 := hide (CR.out W1 p1); have K1 := hide (lf1.bk (KB.out.below (drew_below WA)) rfl); clear CL CR p1 lf1 y0 y1 y2)
    | (go_at_call 35; refine C2.out.mono ?_; rintro e W2 ⟨rfl, p2, lf2⟩; have v2 := (lf2.bk K1.out rfl).cell 1 (.int .i64 i) rfl; have P2 := hide p2; clear C2 p2 lf2 v1))
  have FF := hide (FIN.out _ _ _ P2.out)
  go_wp2_with fail
  first | exact FF.out | (go_ret; exact FF.out)
set_option maxRecDepth 100000 in
set_option maxHeartbeats 1000000 in
theorem act_4 (h : PP N w W sb rb p G (fun _ => False) S S) (i a : Int) (i0 : -9223372036854775808 ≤ i) (i1 : i ≤ 9223372036854775807) (a0 : 0 ≤ a) (a1 : a ≤ 18446744073709551615) :
    Calls Tryd.prog 14 #[.pointer (some ⟨sb, 0, none⟩), .pointer (some ⟨rb, 0, none⟩), .agg #[.int .i64 4, .int .i64 i, .int .u64 a]] W (ActTo N w sb rb p G) := by
  obtain ⟨hb, kb⟩ := act_box h 4 i a
  obtain ⟨R, hR⟩ : ∃ R : Ending → World → Prop, R = ActTo N w sb rb p G := ⟨_, rfl⟩
  rw [← hR]
  have FIN := hide (show ∀ A S' W', PP N w W' sb rb p G A S' S' → R (.returned (.bool true)) W' from fun A S' W' h => by rw [hR]; exact ⟨rfl, S', h.alone⟩)
  clear hR
  obtain ⟨ab, hab⟩ : ∃ ab, W.heap.size = ab := ⟨_, rfl⟩
  obtain ⟨WA, hWA⟩ : ∃ WA, W.alloc (.cells #[.int .i64 4, .int .i64 i, .int .u64 a] 36) = WA := ⟨_, rfl⟩
  rw [hWA, hab] at hb kb
  obtain ⟨X, er, S', hX, L, RR⟩ := both_sweep hb
  have CL := hide L
  have CR := hide RR
  have HX := hide hX
  clear L RR hX
  have HH := hide (And.intro hab hWA)
  have y0 : WA.cell? ⟨ab, 0, none⟩ = some (.int .i64 4) := kb.cell 0 _ rfl
  have y1 : WA.cell? ⟨ab, 1, none⟩ = some (.int .i64 i) := kb.cell 1 _ rfl
  have y2 : WA.cell? ⟨ab, 2, none⟩ = some (.int .u64 a) := kb.cell 2 _ rfl
  have KB := hide kb
  have HB := hide hb
  have CELL := hide (show ∀ X, LeftO (fun z => z = ab) WA X → X.cell? ⟨ab, 1, none⟩ = some (.int .i64 i) ∧ X.cell? ⟨ab, 2, none⟩ = some (.int .u64 a) from fun X lf => ⟨(lf.bk kb rfl).cell 1 _ rfl, (lf.bk kb rfl).cell 2 _ rfl⟩)
  clear h hb kb hab hWA
  go_enter Tryd.func14, Tryd.ntmps14
  go_upto_region 1 with fail
  rw [HH.out.2, HH.out.1]
  go_wp2_with fail
  refine CL.out.mono ?_
  rintro e W1 ⟨vr, rfl, o1, p1, lf1⟩
  have C2 := hide (CR.out W1 _ p1)
  have O1 := hide o1
  obtain ⟨or1, cr1, er1⟩ := row_form o1
  subst er1
  clear CL CR p1 lf1 y0 y1 y2 o1
  go_wp2_with fail
  refine C2.out.mono ?_
  rintro e W2 ⟨vr2, rfl, o2, p2, lf2⟩
  have CI := hide (list_any HX.out (lf2.row O1.out (fun g hg => .inr hg)) o2)
  have P2 := hide p2
  obtain ⟨or2, cr2, er2⟩ := row_form o2
  subst er2
  clear C2 p2 lf2 o2
  go_wp2_with fail
  refine CI.out.mono ?_
  rintro e W3 ⟨rfl, j, hw⟩
  rw [hw]
  have FF := hide (FIN.out _ _ _ (P2.out.read (below_dN W2 j)))
  clear hw CI
  go_wp2_with fail
  first | exact FF.out | (go_ret; exact FF.out)
set_option maxRecDepth 100000 in
set_option maxHeartbeats 1000000 in
theorem act_6 (h : PP N w W sb rb p G (fun _ => False) S S) (i a : Int) (i0 : -9223372036854775808 ≤ i) (i1 : i ≤ 9223372036854775807) (a0 : 0 ≤ a) (a1 : a ≤ 18446744073709551615) :
    Calls Tryd.prog 14 #[.pointer (some ⟨sb, 0, none⟩), .pointer (some ⟨rb, 0, none⟩), .agg #[.int .i64 6, .int .i64 i, .int .u64 a]] W (ActTo N w sb rb p G) := by
  obtain ⟨hb, kb⟩ := act_box h 6 i a
  obtain ⟨R, hR⟩ : ∃ R : Ending → World → Prop, R = ActTo N w sb rb p G := ⟨_, rfl⟩
  rw [← hR]
  have FIN := hide (show ∀ A S' W', PP N w W' sb rb p G A S' S' → R (.returned (.bool true)) W' from fun A S' W' h => by rw [hR]; exact ⟨rfl, S', h.alone⟩)
  clear hR
  obtain ⟨ab, hab⟩ : ∃ ab, W.heap.size = ab := ⟨_, rfl⟩
  obtain ⟨WA, hWA⟩ : ∃ WA, W.alloc (.cells #[.int .i64 6, .int .i64 i, .int .u64 a] 36) = WA := ⟨_, rfl⟩
  rw [hWA, hab] at hb kb
  obtain ⟨ans, S', hq, L, RR⟩ := both_slot hb i
  obtain ⟨x1, x2, rfl⟩ := hq
  have CL := hide L
  have CR := hide RR
  clear L RR
  have HH := hide (And.intro hab hWA)
  have y0 : WA.cell? ⟨ab, 0, none⟩ = some (.int .i64 6) := kb.cell 0 _ rfl
  have y1 : WA.cell? ⟨ab, 1, none⟩ = some (.int .i64 i) := kb.cell 1 _ rfl
  have y2 : WA.cell? ⟨ab, 2, none⟩ = some (.int .u64 a) := kb.cell 2 _ rfl
  have KB := hide kb
  have HB := hide hb
  have CELL := hide (show ∀ X, LeftO (fun z => z = ab) WA X → X.cell? ⟨ab, 1, none⟩ = some (.int .i64 i) ∧ X.cell? ⟨ab, 2, none⟩ = some (.int .u64 a) from fun X lf => ⟨(lf.bk kb rfl).cell 1 _ rfl, (lf.bk kb rfl).cell 2 _ rfl⟩)
  clear h hb kb hab hWA
  go_enter Tryd.func14, Tryd.ntmps14
  go_upto_region 1 with fail
  rw [HH.out.2, HH.out.1]
  go_wp2_with fail
  refine CL.out.mono ?_
  rintro e W1 ⟨rfl, p1, lf1⟩
  obtain ⟨u1, u2⟩ := CELL.out W1 lf1
  have K1 := hide (lf1.bk KB.out rfl)
  have C2 := hide (CR.out W1 p1)
  clear CL CR p1 lf1 y0 y1 y2
  go_wp2_with fail
  refine C2.out.mono ?_
  rintro e W2 ⟨rfl, p2, lf2⟩
  have K2 := hide (lf2.bk K1.out rfl)
  have z1 : W2.cell? ⟨ab, 1, none⟩ = some (.int .i64 i) := K2.out.cell 1 _ rfl
  have P2 := hide p2
  have D1 := hide (fun j => p_used (p2.read (below_dN W2 j)) i i0 i1)
  have D2 := hide (fun j => p_rused (p2.read (below_dN W2 j)) i)
  have D3 := hide (fun j => p_marked (p2.read (below_dN W2 j)) i i0 i1)
  have D4 := hide (fun j => p_rmarked (p2.read (below_dN W2 j)) i)
  generalize uat S'.u i = b1 at *
  generalize uat S'.m i = b2 at *
  clear C2 p2 lf2
  go_wp2_with fail
  go_quiet (first
    | (go_at_call 24; refine Calls.quiet_of_same (D1.out _))
    | (go_at_call 40; refine Calls.quiet_of_same (D2.out _))
    | (go_at_call 25; refine Calls.quiet_of_same (D3.out _))
    | (go_at_call 41; refine Calls.quiet_of_same (D4.out _)))
  have FX := hide (fun n => FIN.out _ _ _ (P2.out.read (below_dN W2 n)))
  go_wp2_with fail
  first | exact FX.out _ | (go_ret; exact FX.out _)
set_option maxRecDepth 100000 in
theorem act_0 (h : PP N w W sb rb p G (fun _ => False) S S) (x i a : Int) (hx : x ≠ 1 ∧ x ≠ 2 ∧ x ≠ 3 ∧ x ≠ 4 ∧ x ≠ 5 ∧ x ≠ 6 ∧ x ≠ 7) :
    Calls Tryd.prog 14 #[.pointer (some ⟨sb, 0, none⟩), .pointer (some ⟨rb, 0, none⟩), .agg #[.int .i64 x, .int .i64 i, .int .u64 a]] W (ActTo N w sb rb p G) := by
  obtain ⟨hb, kb⟩ := act_box h x i a
  obtain ⟨R, hR⟩ : ∃ R : Ending → World → Prop, R = ActTo N w sb rb p G := ⟨_, rfl⟩
  rw [← hR]
  have FF := hide (show R (.returned (.bool true)) (W.alloc (.cells #[.int .i64 x, .int .i64 i, .int .u64 a] 36)) from by rw [hR]; exact ⟨rfl, S, hb.alone⟩)
  obtain ⟨h1, h2, h3, h4, h5, h6, h7⟩ := hx
  have e1 : (x == 1) = false := by simpa using h1
  have e2 : (x == 2) = false := by simpa using h2
  have e3 : (x == 3) = false := by simpa using h3
  have e4 : (x == 4) = false := by simpa using h4
  have e5 : (x == 5) = false := by simpa using h5
  have e6 : (x == 6) = false := by simpa using h6
  have e7 : (x == 7) = false := by simpa using h7
  clear h hb kb hR h1 h2 h3 h4 h5 h6 h7
  go_enter Tryd.func14, Tryd.ntmps14
  go_wp2_with fail
  first | exact FF.out | (go_ret; exact FF.out)
theorem act_any (h : PP N w W sb rb p G (fun _ => False) S S) (x i a : Int) (i0 : -9223372036854775808 ≤ i) (i1 : i ≤ 9223372036854775807) (a0 : 0 ≤ a) (a1 : a ≤ 18446744073709551615) :
    Calls Tryd.prog 14 #[.pointer (some ⟨sb, 0, none⟩), .pointer (some ⟨rb, 0, none⟩), .agg #[.int .i64 x, .int .i64 i, .int .u64 a]] W (ActTo N w sb rb p G) := by
  by_cases c1 : x = 1
  · subst c1; exact act_1 h i a i0 i1 a0 a1
  by_cases c2 : x = 2
  · subst c2; exact act_2 h i a i0 i1 a0 a1
  by_cases c3 : x = 3
  · subst c3; exact act_3 h i a i0 i1 a0 a1
  by_cases c4 : x = 4
  · subst c4; exact act_4 h i a i0 i1 a0 a1
  by_cases c5 : x = 5
  · subst c5; exact act_5 h i a i0 i1 a0 a1
  by_cases c6 : x = 6
  · subst c6; exact act_6 h i a i0 i1 a0 a1
  by_cases c7 : x = 7
  · subst c7; exact act_7 h i a i0 i1 a0 a1
  exact act_0 h x i a ⟨c1, c2, c3, c4, c5, c6, c7⟩
end
end Go.Proofs.YtblfefibgoiaaaaDoor
