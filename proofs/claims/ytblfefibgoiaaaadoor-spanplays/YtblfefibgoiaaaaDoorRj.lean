/- The reference's span is made: New of a class, Manual: contracts. -/
import Derived.Test.YtblfefibgoiaaaaDoorRi
namespace Go.Proofs.YtblfefibgoiaaaaDoor
open Go.ChangeShapes Go.WideShapes Go.ChangeAt Go.RowKit Go.Proofs.Sn Go.Shelf
set_option linter.unusedVariables false
set_option linter.unusedSimpArgs false

attribute [local go_sem] Oper.semAt_some

set_option maxRecDepth 100000 in
theorem rnew_cls (page k : Nat) (noptr : Bool) {cl : Cl.Cls} (hr : rtB page cl.pages = true) (k1 : 1 ≤ k) (k2 : k < 68) (hc : (Cl.zeroC :: Cl.table)[k]? = some cl) (W : World) :
    Calls Tryd.prog 10 #[.int .u64 (page : Nat), .int .u64 (cl.pages : Nat), .int .i64 (k : Nat), .bool noptr] W fun e W' => ∃ rb, e = .returned (.tuple #[.pointer (some ⟨rb, 0, none⟩), .int .i64 0]) ∧ RMade W W' rb page (geo page cl.pages k noptr cl.size) 1 := by
  obtain ⟨R, hR⟩ : ∃ R : Ending → World → Prop, R = fun e W' => ∃ rb, e = .returned (.tuple #[.pointer (some ⟨rb, 0, none⟩), .int .i64 0]) ∧ RMade W W' rb page (geo page cl.pages k noptr cl.size) 1 := ⟨_, rfl⟩
  rw [← hR]
  have HR := hide hR
  clear hR
  have le := rt_le hr
  have lp := rp_le le.1
  have tf := table_at k1 hc
  have C := hide (rt_any page cl.pages (by omega) (by omega) W)
  rw [hr] at C
  have sl : (geo page cl.pages k noptr cl.size).slots = cl.slots := tf.1.symm
  have w1 : IntKind.i64.wrap (cl.pages : Int) = (cl.pages : Int) := by rw [IntKind.wrap_i64]; omega
  have w2 : IntKind.i64.wrap ((cl.pages : Int) * 8192) = (cl.pages : Int) * 8192 := by rw [IntKind.wrap_i64]; omega
  have w3 : IntKind.u64.wrap (cl.pages : Int) = (cl.pages : Int) := by rw [IntKind.wrap_u64]; omega
  have dk : decide (0 < k) = true := decide_eq_true (by omega)
  have dk2 : decide (67 < (k : Int)) = false := decide_eq_false (by omega)
  have k9 : (k : Int) < 68 := by omega
  have kp : 0 < k := by omega
  have ki : (k : Int) ≤ 67 := by omega
  have HC := hide hc
  have TF := hide tf
  have SL := hide sl
  have kb : Bk (W.alloc (.cells #[.int .u64 (page : Nat), .int .u64 (cl.pages : Nat), .int .i64 1, .int .i64 (k : Nat), .bool noptr, .int .i64 ((cl.pages : Int) * 8192), .int .i64 1, .slice none 0 0, .slice none 0 0, .int .i64 0] 70)) W.heap.size 70 #[.int .u64 (page : Nat), .int .u64 (cl.pages : Nat), .int .i64 1, .int .i64 (k : Nat), .bool noptr, .int .i64 ((cl.pages : Int) * 8192), .int .i64 1, .slice none 0 0, .slice none 0 0, .int .i64 0] := World.alloc_heap_new W _
  have KB := hide kb
  clear hr le lp tf hc sl kb
  go_enter Tryd.func10, Tryd.ntmps10
  go_wp2_with fail
  refine C.out.mono ?_
  rintro e W1 ⟨rfl, hw⟩
  rw [hw]
  clear hw C W1
  go_wp2_with fail
  refine (refTable _).mono ?_
  rintro e W1 ⟨g, cap, rfl, o1, b1⟩
  have kB := KB.out.below b1
  have gne : g ≠ W.heap.size := by
    have := (o1.lt g rfl).1
    rw [World.size_alloc] at this
    omega
  have la := list_at o1 (by rw [List.length_cons, Cl.table_len])
  obtain ⟨x0, x1, x2, x3⟩ := la k cl HC.out
  have y5 := kB.cell 5 (.int .i64 ((cl.pages : Int) * 8192)) rfl
  have f5 := kB.fz 5
  have kC := kB.set 5 (.int .i64 (cl.size : Nat))
  have la2 := la.kept (kept_set (F := fun z => z = W.heap.size) W1 W.heap.size 5 (.int .i64 (cl.size : Nat)) rfl) gne
  obtain ⟨u0, u1, u2, u3⟩ := la2 k cl HC.out
  have y6 := kC.cell 6 (.int .i64 1) rfl
  have f6 := kC.fz 6
  have kD := kC.set 6 (.int .i64 (cl.slots : Nat))
  have kE : Bk ((W1.setCell ⟨W.heap.size, 5, none⟩ (.int .i64 (cl.size : Nat))).setCell ⟨W.heap.size, 6, none⟩ (.int .i64 (cl.slots : Nat))) W.heap.size 70 (cellsR page (geo page cl.pages k noptr cl.size) 1 (.slice none 0 0) (.slice none 0 0) 0) := by
    unfold cellsR
    rw [SL.out]
    exact kD
  have bW : Below W.heap.size W ((W1.setCell ⟨W.heap.size, 5, none⟩ (.int .i64 (cl.size : Nat))).setCell ⟨W.heap.size, 6, none⟩ (.int .i64 (cl.slots : Nat))) := by
    refine Below.setCell (Below.setCell ((below_alloc W _).trans (b1.mono ?_)) (Nat.le_refl _) _) (Nat.le_refl _) _
    rw [World.size_alloc]; omega
  have r0 := RfAt.bare (N := W.heap.size) kE (Nat.le_refl _)
  have y66 := r0.c6
  rw [SL.out] at y66
  obtain ⟨X2, q1, q2, q3, q4, X3, t1, t2, t3, t4, t5⟩ := fill_rows r0 SL.out (by have := TF.out; omega) (by rw [World.size_setCell, World.size_setCell]; have := b1.size; rw [World.size_alloc] at this; omega)
  have FF := hide (show R (.returned (.tuple #[.pointer (some ⟨W.heap.size, 0, none⟩), .int .i64 0])) _ from by
    rw [HR.out]
    refine ⟨_, rfl, ⟨_, _, _, _, t4, funext (bl_rep _), funext (bl_rep _), kept_new bW t5 (Nat.le_refl _), fun z hz => (t4.own hz).1⟩⟩)
  simp only [World.size_setCell] at q1 q4 t1 FF
  clear o1 b1 kB la kC la2 kD kE bW r0 t4 t5 HR TF SL HC KB
  go_wp2_with fail
  first | exact FF.out | (go_ret2; exact FF.out)
/-! ### Manual -/
theorem rmanual_no (page pages : Nat) (elem : Int) (h1 : page < 18446744073709551616) (h2 : pages < 18446744073709551616) (h : manB page pages elem = false) (W : World) :
    Calls Tryd.prog 12 #[.int .u64 (page : Nat), .int .u64 (pages : Nat), .int .i64 elem] W fun e W' => e = .returned (.tuple #[.pointer none, .int .i64 1]) ∧ W' = W := by
  have C := hide (rt_any page pages h1 h2 W)
  cases c1 : rtB page pages with
  | false =>
    rw [c1] at C
    clear h h1 h2 c1
    go_enter Tryd.func12, Tryd.ntmps12
    go_wp2_with fail
    refine C.out.mono ?_
    rintro e W1 ⟨rfl, hw⟩
    rw [hw]
    clear hw C W1
    go_wp2_with fail
    go_ret2
    exact ⟨rfl, rfl⟩
  | true =>
    rw [c1] at C
    have le := rt_le c1
    have lp := rp_le le.1
    obtain ⟨P, hP⟩ : ∃ P : Int, (pages : Int) = P := ⟨_, rfl⟩
    have w1 : IntKind.i64.wrap P = P := by rw [IntKind.wrap_i64]; omega
    have w2 : IntKind.i64.wrap (P * 8192) = P * 8192 := by rw [IntKind.wrap_i64]; omega
    by_cases c3 : elem < 8
    · have d3 : decide (elem < 8) = true := decide_eq_true c3
      rw [hP] at C ⊢
      clear h h1 h2 c1 le lp w1 w2 hP
      go_enter Tryd.func12, Tryd.ntmps12
      go_wp2_with fail
      refine C.out.mono ?_
      rintro e W1 ⟨rfl, hw⟩
      rw [hw]
      clear hw C W1
      go_wp2_with fail
      go_ret2
      exact ⟨rfl, rfl⟩
    · have d3 : decide (elem < 8) = false := decide_eq_false c3
      have d4 : decide (P * 8192 < elem) = true := decide_eq_true (by
        unfold manB at h
        rw [le.1, decide_eq_true le.2, decide_eq_true (show 8 ≤ elem by omega)] at h
        simp at h
        omega)
      have c4 := of_decide_eq_true d4
      rw [hP] at C ⊢
      clear h h1 h2 c1 le lp hP
      go_enter Tryd.func12, Tryd.ntmps12
      go_wp2_with fail
      refine C.out.mono ?_
      rintro e W1 ⟨rfl, hw⟩
      rw [hw]
      clear hw C W1
      go_wp2_with fail
      go_ret2
      exact ⟨rfl, rfl⟩
set_option maxRecDepth 100000 in
theorem rmanual_made (page pages elem : Nat) (h : manB page pages elem = true) (W : World) :
    Calls Tryd.prog 12 #[.int .u64 (page : Nat), .int .u64 (pages : Nat), .int .i64 (elem : Nat)] W fun e W' => ∃ rb, e = .returned (.tuple #[.pointer (some ⟨rb, 0, none⟩), .int .i64 0]) ∧ RMade W W' rb page (geo page pages 0 false elem) 2 := by
  obtain ⟨R, hR⟩ : ∃ R : Ending → World → Prop, R = fun e W' => ∃ rb, e = .returned (.tuple #[.pointer (some ⟨rb, 0, none⟩), .int .i64 0]) ∧ RMade W W' rb page (geo page pages 0 false elem) 2 := ⟨_, rfl⟩
  rw [← hR]
  have HR := hide hR
  clear hR
  obtain ⟨r, c2, c3, c4⟩ := man_le h
  have le := rp_le r
  have C := hide (rt_any page pages (by omega) (by omega) W)
  rw [show rtB page pages = true by unfold rtB; rw [r, decide_eq_true c2]; rfl] at C
  obtain ⟨P, hP⟩ : ∃ P : Int, (pages : Int) = P := ⟨_, rfl⟩
  obtain ⟨E, hE⟩ : ∃ E : Int, (elem : Int) = E := ⟨_, rfl⟩
  obtain ⟨q, hq⟩ : ∃ q : Nat, pages * 8192 / elem = q := ⟨_, rfl⟩
  have w1 : IntKind.i64.wrap P = P := by rw [IntKind.wrap_i64]; omega
  have w2 : IntKind.i64.wrap (P * 8192) = P * 8192 := by rw [IntKind.wrap_i64]; omega
  have q0 : (P * 8192) / E = (q : Int) := by rw [← hq, ← hP, ← hE, Int.natCast_ediv]; push_cast; rfl
  have q1 : (P * 8192).tdiv E = (q : Int) := by rw [Int.tdiv_eq_ediv_of_nonneg (by omega)]; exact q0
  have ql := Nat.div_le_self (pages * 8192) elem
  rw [hq] at ql
  have w3 : IntKind.i64.wrap (q : Int) = (q : Int) := by rw [IntKind.wrap_i64]; omega
  have z : (E == 0) = false := by simp; omega
  have E8 : 8 ≤ E := by omega
  have d3 : decide (E < 8) = false := decide_eq_false (by omega)
  have d4 : decide (P * 8192 < E) = false := decide_eq_false (by omega)
  have kb : Bk (W.alloc (.cells #[.int .u64 (page : Nat), .int .u64 P, .int .i64 2, .int .i64 0, .bool false, .int .i64 E, .int .i64 (q : Nat), .slice none 0 0, .slice none 0 0, .int .i64 0] 70)) W.heap.size 70 (cellsR page (geo page pages 0 false elem) 2 (.slice none 0 0) (.slice none 0 0) 0) := by
    unfold cellsR
    rw [show (geo page pages 0 false elem).slots = q from hq, show (((geo page pages 0 false elem).elem : Nat) : Int) = E from hE, show (((geo page pages 0 false elem).pages : Nat) : Int) = P from hP]
    exact World.alloc_heap_new W _
  have r0 := RfAt.bare (N := W.heap.size) kb (Nat.le_refl _)
  have FF := hide (show R (.returned (.tuple #[.pointer (some ⟨W.heap.size, 0, none⟩), .int .i64 0])) _ from by
    rw [HR.out]
    exact ⟨_, rfl, ⟨_, _, _, _, r0, funext bl_nil, funext bl_nil, below_alloc W _, fun z hz => (r0.own hz).1⟩⟩)
  rw [hP] at C ⊢
  rw [hE]
  clear h r c2 c3 c4 le hP hE HR hq ql kb r0
  go_enter Tryd.func12, Tryd.ntmps12
  go_wp2_with fail
  refine C.out.mono ?_
  rintro e W1 ⟨rfl, hw⟩
  rw [hw]
  clear hw C W1
  go_wp2_with fail
  first | exact FF.out | (go_ret2; exact FF.out)
end Go.Proofs.YtblfefibgoiaaaaDoor
