/- What a law compares: lists, and what Info tells; same. -/
import Derived.Test.YtblfefibgoiaaaaDoorPp
import Derived.Laws.StructEq
namespace Go.Proofs.YtblfefibgoiaaaaDoor
open Go.ChangeShapes Go.WideShapes Go.ChangeAt Go.RowKit Go.Proofs.Sn Go.Shelf
set_option linter.unusedVariables false
set_option linter.unusedSimpArgs false

attribute [local go_sem] Oper.semAt_some

theorem eq_info (d : Nat) (a0 a1 a2 a3 a5 a6 a7 : Int) (a4 a8 a9 : Bool) (w : World) : (Op.equalIn (d + 1 + 1) 47 (.agg #[.int .u64 a0, .int .i64 a1, .int .i64 a2, .int .i64 a3, .bool a4, .int .i64 a5, .int .i64 a6, .int .i64 a7, .bool a8, .bool a9]) (.agg #[.int .u64 a0, .int .i64 a1, .int .i64 a2, .int .i64 a3, .bool a4, .int .i64 a5, .int .i64 a6, .int .i64 a7, .bool a8, .bool a9])).run Tryd.prog w = .ok true w := by
  have hu : Tryd.prog.underlying 47 = some (.struct (Tryd.prog.fieldsOf 47)) := by kernel_rfl
  have hh : Tryd.prog.stoodInHeld 47 = false := by kernel_rfl
  rw [run_equalIn_agg w (d + 1) _ _ _ hu hh]
  have hf : (Tryd.prog.fieldsOf 47).toList.map (fun f => (f.name, f.type, f.offset)) = [("Base", 22, 0), ("Pages", 3, 1), ("State", 3, 2), ("Class", 3, 3), ("NoPtr", 4, 4), ("Elem", 3, 5), ("Slots", 3, 6), ("Used", 3, 7), ("Swept", 4, 8), ("Held", 4, 9)] := by kernel_rfl
  have hq : ∀ (x : Int) (w : World), (Op.equalIn (d + 1) 22 (.int .u64 x) (.int .u64 x)).run Tryd.prog w = .ok true w := fun x w => by rw [run_equalIn_int w d _ _ _ x x Tryd.underlying22]; simp
  have hi : ∀ (x : Int) (w : World), (Op.equalIn (d + 1) 3 (.int .i64 x) (.int .i64 x)).run Tryd.prog w = .ok true w := fun x w => by rw [run_equalIn_int w d _ _ _ x x Tryd.underlying3]; simp
  have hb : ∀ (x : Bool) (w : World), (Op.equalIn (d + 1) 4 (.bool x) (.bool x)).run Tryd.prog w = .ok true w := fun x w => by rw [run_equalIn_bool w d _ x x Tryd.underlying4]; simp
  generalize (Tryd.prog.fieldsOf 47).toList = l at hf ⊢
  rcases l with _ | ⟨f0, _ | ⟨f1, _ | ⟨f2, _ | ⟨f3, _ | ⟨f4, _ | ⟨f5, _ | ⟨f6, _ | ⟨f7, _ | ⟨f8, _ | ⟨f9, _ | ⟨f10, l⟩⟩⟩⟩⟩⟩⟩⟩⟩⟩⟩
  · simp at hf
  · simp at hf
  · simp at hf
  · simp at hf
  · simp at hf
  · simp at hf
  · simp at hf
  · simp at hf
  · simp at hf
  · simp at hf
  · skip
    simp only [List.map_cons, List.map_nil, List.cons.injEq, Prod.mk.injEq, and_true] at hf
    obtain ⟨⟨n0, t0, o0⟩, ⟨n1, t1, o1⟩, ⟨n2, t2, o2⟩, ⟨n3, t3, o3⟩, ⟨n4, t4, o4⟩, ⟨n5, t5, o5⟩, ⟨n6, t6, o6⟩, ⟨n7, t7, o7⟩, ⟨n8, t8, o8⟩, n9, t9, o9⟩ := hf
    have hpu : ∀ (xs : Array Value) (i : Nat) (v : Value) (w : World), xs[i]? = some v → (part 22 xs i).run Tryd.prog w = .ok v w := fun xs i v w h => by
      have ha := Tryd.isAgg22
      simp [part, ha, go_sem, h]
    have hpi : ∀ (xs : Array Value) (i : Nat) (v : Value) (w : World), xs[i]? = some v → (part 3 xs i).run Tryd.prog w = .ok v w := fun xs i v w h => by
      have ha := Tryd.isAgg3
      simp [part, ha, go_sem, h]
    have hpb : ∀ (xs : Array Value) (i : Nat) (v : Value) (w : World), xs[i]? = some v → (part 4 xs i).run Tryd.prog w = .ok v w := fun xs i v w h => by
      have ha := Tryd.isAgg4
      simp [part, ha, go_sem, h]
    have p0 := fun w => hpu #[.int .u64 a0, .int .i64 a1, .int .i64 a2, .int .i64 a3, .bool a4, .int .i64 a5, .int .i64 a6, .int .i64 a7, .bool a8, .bool a9] 0 (.int .u64 a0) w rfl
    have p1 := fun w => hpi #[.int .u64 a0, .int .i64 a1, .int .i64 a2, .int .i64 a3, .bool a4, .int .i64 a5, .int .i64 a6, .int .i64 a7, .bool a8, .bool a9] 1 (.int .i64 a1) w rfl
    have p2 := fun w => hpi #[.int .u64 a0, .int .i64 a1, .int .i64 a2, .int .i64 a3, .bool a4, .int .i64 a5, .int .i64 a6, .int .i64 a7, .bool a8, .bool a9] 2 (.int .i64 a2) w rfl
    have p3 := fun w => hpi #[.int .u64 a0, .int .i64 a1, .int .i64 a2, .int .i64 a3, .bool a4, .int .i64 a5, .int .i64 a6, .int .i64 a7, .bool a8, .bool a9] 3 (.int .i64 a3) w rfl
    have p4 := fun w => hpb #[.int .u64 a0, .int .i64 a1, .int .i64 a2, .int .i64 a3, .bool a4, .int .i64 a5, .int .i64 a6, .int .i64 a7, .bool a8, .bool a9] 4 (.bool a4) w rfl
    have p5 := fun w => hpi #[.int .u64 a0, .int .i64 a1, .int .i64 a2, .int .i64 a3, .bool a4, .int .i64 a5, .int .i64 a6, .int .i64 a7, .bool a8, .bool a9] 5 (.int .i64 a5) w rfl
    have p6 := fun w => hpi #[.int .u64 a0, .int .i64 a1, .int .i64 a2, .int .i64 a3, .bool a4, .int .i64 a5, .int .i64 a6, .int .i64 a7, .bool a8, .bool a9] 6 (.int .i64 a6) w rfl
    have p7 := fun w => hpi #[.int .u64 a0, .int .i64 a1, .int .i64 a2, .int .i64 a3, .bool a4, .int .i64 a5, .int .i64 a6, .int .i64 a7, .bool a8, .bool a9] 7 (.int .i64 a7) w rfl
    have p8 := fun w => hpb #[.int .u64 a0, .int .i64 a1, .int .i64 a2, .int .i64 a3, .bool a4, .int .i64 a5, .int .i64 a6, .int .i64 a7, .bool a8, .bool a9] 8 (.bool a8) w rfl
    have p9 := fun w => hpb #[.int .u64 a0, .int .i64 a1, .int .i64 a2, .int .i64 a3, .bool a4, .int .i64 a5, .int .i64 a6, .int .i64 a7, .bool a8, .bool a9] 9 (.bool a9) w rfl
    simp only [Op.eqFields, n0, t0, o0, n1, t1, o1, n2, t2, o2, n3, t3, o3, n4, t4, o4, n5, t5, o5, n6, t6, o6, n7, t7, o7, n8, t8, o8, n9, t9, o9, ne_eq, String.reduceEq, not_false_eq_true, if_true, Sem.run_bind, p0, p1, p2, p3, p4, p5, p6, p7, p8, p9, Result.andThen_ok, hq, hi, hb, Sem.run_ite, Sem.run_pure]
    rfl
  · simp at hf
theorem list_any {N M : Nat} {W : World} {va vb : Value} {X : List Nat} (hn : X.length ≤ 65536) (ha : W.ownsRow N 3 1 va X.length (X.map encI)) (hb : W.ownsRow M 3 1 vb X.length (X.map encI)) :
    Calls Tryd.prog 37 #[va, vb] W fun e W' => e = .returned (.bool true) ∧ ∃ j, W' = W.drewN j := by
  obtain ⟨R, hR⟩ : ∃ R : Ending → World → Prop, R = fun e W' => e = .returned (.bool true) ∧ ∃ j, W' = W.drewN j := ⟨_, rfl⟩
  rw [← hR]
  have FIN := hide (show ∀ j, R (.returned (.bool true)) (W.drewN j) from fun j => by rw [hR]; exact ⟨rfl, j, rfl⟩)
  clear hR
  have HA := hide ha
  have HB := hide hb
  obtain ⟨oa, ca, rfl⟩ := row_form ha
  obtain ⟨ob, cb, rfl⟩ := row_form hb
  obtain ⟨n, hn'⟩ : ∃ n : Nat, X.length = n := ⟨_, rfl⟩
  have HN := hide hn'
  rw [hn'] at hn ⊢
  clear ha hb hn'
  go_enter Tryd.func37, Tryd.ntmps37
  go_wp2_with fail
  go_loopw [5] (fun vi wr => ∃ (i j : Nat), vi = .int .i64 (i : Nat) ∧ i ≤ n ∧ wr = W.drewN j) (fun vi _ => n - (zi vi).toNat)
  case atStart => exact ⟨0, 0, rfl, by omega, rfl⟩
  case round =>
    obtain ⟨i, j, rfl, hi, hw⟩ := hrel
    rw [hw]
    clear hw
    have pi3 : IntKind.i64.wrap ((i : Int) + 1) = (i : Int) + 1 := by rw [IntKind.wrap_i64]; omega
    by_cases c : i < n
    · have d : decide ((i : Int) < (n : Int)) = true := decide_eq_true (by omega)
      obtain ⟨ga, ca', ea, _, _⟩ := HA.out.form (by rw [HN.out]; omega)
      obtain ⟨gb, cb', eb, _, _⟩ := HB.out.form (by rw [HN.out]; omega)
      obtain ⟨rfl, rfl⟩ : oa = some ⟨ga, 0, none⟩ ∧ ca = ca' := by simp at ea; exact ea
      obtain ⟨rfl, rfl⟩ : ob = some ⟨gb, 0, none⟩ ∧ cb = cb' := by simp at eb; exact eb
      have ha := HA.out
      have hb := HB.out
      have x1 : W.cell? ⟨ga, i, none⟩ = some (.int .i64 (X[i]'(by rw [HN.out]; exact c) : Nat)) := by
        rw [ha.cellAt i (by rw [HN.out]; omega), List.getElem?_map, List.getElem?_eq_getElem (by rw [HN.out]; exact c)]
        rfl
      have x2 : W.cell? ⟨gb, i, none⟩ = some (.int .i64 (X[i]'(by rw [HN.out]; exact c) : Nat)) := by
        rw [hb.cellAt i (by rw [HN.out]; omega), List.getElem?_map, List.getElem?_eq_getElem (by rw [HN.out]; exact c)]
        rfl
      generalize X[i]'(by rw [HN.out]; exact c) = x at x1 x2
      have i0 : 0 ≤ (i : Int) := by omega
      have i1 : (i : Int) < (n : Int) := by omega
      clear ha hb ea eb
      go_wp2_with fail
      go_quiet (fail)
      go_wp2_with fail
      exact ⟨⟨i + 1, _, by push_cast; rfl, by omega, rfl⟩, by simp only [zi]; omega⟩
    · have d : decide ((i : Int) < (n : Int)) = false := decide_eq_false (by omega)
      have FF := hide (FIN.out j)
      go_wp2_with fail
      first | exact FF.out | (go_ret; exact FF.out)
section
variable {N : Nat} {w W W' : World} {sb rb p : Nat} {G : Geo} {A : Nat → Prop} {S : St}
theorem p_info (h : PP N w W sb rb p G A S S) : Calls Tryd.prog 20 #[.pointer (some ⟨sb, 0, none⟩)] W fun e W' => e = .returned (infoV G S.st (Bt.cnt S.u 0 G.slots)) ∧ Below W.heap.size W W' := ls_info h.choose_spec.1
theorem p_rinfo (h : PP N w W sb rb p G A S S) : Calls Tryd.prog 43 #[.pointer (some ⟨rb, 0, none⟩)] W fun e W' => e = .returned (infoV G S.st (Bt.cnt S.u 0 G.slots)) ∧ Below W.heap.size W W' := by
  have su := h.ok.su
  have g := h.g
  obtain ⟨F, l, r, d⟩ := h
  obtain ⟨v1, v2, L1, L2, a, b, c, hF⟩ := r.ex
  have e : Bt.cnt S.u 0 G.slots = Bt.cnt (bl L1) 0 L1.length := by
    rw [cnt_ext (u := bl L1) (a := L1.length) (b := G.slots) (fun i hi => bl_lt hi) (by rw [b]; exact su), b]
  rw [e]
  exact rinfo_any a g r.hp
theorem p_used (h : PP N w W sb rb p G A S S) (i : Int) (h0 : -9223372036854775808 ≤ i) (h1 : i ≤ 9223372036854775807) : Calls Tryd.prog 24 #[.pointer (some ⟨sb, 0, none⟩), .int .i64 i] W fun e W' => e = .returned (.bool (uat S.u i)) ∧ W' = W := ls_used h.choose_spec.1 i h0 h1
theorem p_marked (h : PP N w W sb rb p G A S S) (i : Int) (h0 : -9223372036854775808 ≤ i) (h1 : i ≤ 9223372036854775807) : Calls Tryd.prog 25 #[.pointer (some ⟨sb, 0, none⟩), .int .i64 i] W fun e W' => e = .returned (.bool (uat S.m i)) ∧ W' = W := ls_marked h.choose_spec.1 i h0 h1
theorem p_rused (h : PP N w W sb rb p G A S S) (i : Int) : Calls Tryd.prog 40 #[.pointer (some ⟨rb, 0, none⟩), .int .i64 i] W fun e W' => e = .returned (.bool (uat S.u i)) ∧ W' = W := by
  obtain ⟨F, l, r, d⟩ := h
  obtain ⟨v1, v2, L1, L2, a, b, c, hF⟩ := r.ex
  rw [← b]
  exact rused_any a i
theorem p_rmarked (h : PP N w W sb rb p G A S S) (i : Int) : Calls Tryd.prog 41 #[.pointer (some ⟨rb, 0, none⟩), .int .i64 i] W fun e W' => e = .returned (.bool (uat S.m i)) ∧ W' = W := by
  obtain ⟨F, l, r, d⟩ := h
  obtain ⟨v1, v2, L1, L2, a, b, c, hF⟩ := r.ex
  rw [← c]
  exact rmarked_any a i
set_option maxRecDepth 100000 in
theorem same_any (h : PP N w W sb rb p G A S S) : Calls Tryd.prog 15 #[.pointer (some ⟨sb, 0, none⟩), .pointer (some ⟨rb, 0, none⟩)] W fun e W' => e = .returned (.bool true) ∧ PP N w W' sb rb p G A S S := by
  obtain ⟨R, hR⟩ : ∃ R : Ending → World → Prop, R = fun e W' => e = .returned (.bool true) ∧ PP N w W' sb rb p G A S S := ⟨_, rfl⟩
  rw [← hR]
  have FIN := hide (show ∀ W', PP N w W' sb rb p G A S S → R (.returned (.bool true)) W' from fun W' h => by rw [hR]; exact ⟨rfl, h⟩)
  clear hR
  have C1 := hide (p_info h)
  have H := hide h
  have EQ : ∀ X, (Op.equalIn 10000 47 (infoV G S.st (Bt.cnt S.u 0 G.slots)) (infoV G S.st (Bt.cnt S.u 0 G.slots))).run Tryd.prog X = .ok true X := fun X => eq_info 9998 _ _ _ _ _ _ _ _ _ _ X
  have C2 := hide (fun W' (h' : PP N w W' sb rb p G A S S) => p_rinfo h')
  obtain ⟨c, hc⟩ : ∃ c : Nat, Bt.cnt S.u 0 G.slots = c := ⟨_, rfl⟩
  rw [hc] at C1 C2 EQ
  unfold infoV at C1 C2 EQ
  clear h hc
  go_enter Tryd.func15, Tryd.ntmps15
  go_wp2_with fail
  refine C1.out.mono ?_
  rintro e W1 ⟨rfl, b1⟩
  have H1 := hide (H.out.read b1)
  have C3 := hide (C2.out W1 H1.out)
  clear C1 C2 b1
  go_wp2_with fail
  refine C3.out.mono ?_
  rintro e W2 ⟨rfl, b2⟩
  have H2 := hide (H1.out.read b2)
  clear C3 b2
  go_wp2_with fail
  clear EQ
  go_loopw [5] (fun vi wr => ∃ i : Nat, vi = .int .i64 ((i : Int) - 1) ∧ i ≤ 41 ∧ wr = W2) (fun vi _ => 41 - (zi vi + 1).toNat)
  case atStart => exact ⟨0, rfl, by omega, rfl⟩
  case round =>
    obtain ⟨i, rfl, hi, hw⟩ := hrel
    rw [hw]
    clear hw
    obtain ⟨I, hI⟩ : ∃ I : Int, (i : Int) - 1 = I := ⟨_, rfl⟩
    have pi3 : IntKind.i64.wrap (I + 1) = I + 1 := by rw [IntKind.wrap_i64]; omega
    have NX := hide (show I + 1 = ((i + 1 : Nat) : Int) - 1 by omega)
    have MS := hide (show i < 41 → 41 - (I + 1 + 1).toNat < 41 - (I + 1).toNat by omega)
    have D1 := hide (p_used H2.out I (by omega) (by omega))
    have D2 := hide (p_rused H2.out I)
    have D3 := hide (p_marked H2.out I (by omega) (by omega))
    have D4 := hide (p_rmarked H2.out I)
    generalize uat S.u I = a1 at *
    generalize uat S.m I = a2 at *
    by_cases c2 : i < 41
    · have d : decide (I < 40) = true := decide_eq_true (by omega)
      have n1 : (a1 != a1) = false := by cases a1 <;> rfl
      have n2 : (a2 != a2) = false := by cases a2 <;> rfl
      rw [hI]
      have C2 := hide c2
      clear hI c2 hi
      go_wp2_with fail
      refine D1.out.mono ?_
      rintro e W3 ⟨rfl, hw⟩
      rw [hw]
      clear hw D1 W3
      go_wp2_with fail
      refine D2.out.mono ?_
      rintro e W3 ⟨rfl, hw⟩
      rw [hw]
      clear hw D2 W3
      go_wp2_with fail
      refine D3.out.mono ?_
      rintro e W3 ⟨rfl, hw⟩
      rw [hw]
      clear hw D3 W3
      go_wp2_with fail
      refine D4.out.mono ?_
      rintro e W3 ⟨rfl, hw⟩
      rw [hw]
      clear hw D4 W3
      go_wp2_with fail
      exact ⟨⟨i + 1, by rw [NX.out], by have := C2.out; omega, trivial⟩, by simp only [zi]; exact MS.out C2.out⟩
    · have d : decide (I < 40) = false := decide_eq_false (by omega)
      have FF := hide (FIN.out W2 H2.out)
      rw [hI]
      clear hI D1 D2 D3 D4
      go_wp2_with fail
      first | exact FF.out | (go_ret; exact FF.out)
end
end Go.Proofs.YtblfefibgoiaaaaDoor
