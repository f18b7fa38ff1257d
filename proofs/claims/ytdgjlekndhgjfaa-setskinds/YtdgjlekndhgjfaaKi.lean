/- SetsKinds, walked. -/
import Derived.Test.YtdgjlekndhgjfaaSj
namespace Go.Proofs.Ytdgjlekndhgjfaa
open Go.ChangeShapes Go.WideShapes Go.ChangeAt Go.RowKit Go.Shelf Go.Proofs.Rx Go.Maps Go.Proofs.Hm
set_option linter.unusedVariables false
set_option linter.unusedSimpArgs false

attribute [local go_sem] Oper.semAt_some

theorem low_one (f : On → Bool) (y : On) : low f [y] = if f y then some y else none := by
  show low1 f none y = _
  unfold low1
  simp
theorem kinds_walk_arg (cl : Int) (np fu sw : Bool) (oth : Int) (hA : cl < 0 ∨ 67 < cl) (W : World) :
    Calls Try.prog 6 #[.int .i64 cl, .bool np, .bool fu, .bool sw, .int .i64 oth] W fun e W' => e = .returned (.bool true) ∧ Below W.heap.size W W' := by
  by_cases c1 : cl < 0
  · have d1 : decide (cl < 0) = true := decide_eq_true c1
    clear hA c1
    go_enter Try.func6, Try.ntmps6
    go_wp2_with fail
    go_ret
    exact ⟨rfl, Below.refl _ _⟩
  · have d1 : decide (cl < 0) = false := decide_eq_false c1
    have d2 : decide (67 < cl) = true := decide_eq_true (by omega)
    clear hA c1
    go_enter Try.func6, Try.ntmps6
    go_wp2_with fail
    go_ret
    exact ⟨rfl, Below.refl _ _⟩
set_option maxRecDepth 100000 in
set_option maxHeartbeats 4000000 in
theorem kinds_walk (cl : Int) (np fu sw : Bool) (oth : Int) (hA : 0 ≤ cl ∧ cl ≤ 67) (ho : -9223372036854775808 ≤ oth ∧ oth ≤ 9223372036854775807) (W : World) :
    Calls Try.prog 6 #[.int .i64 cl, .bool np, .bool fu, .bool sw, .int .i64 oth] W fun e W' => e = .returned (.bool true) ∧ Below W.heap.size W W' := by
  obtain ⟨R, hR⟩ : ∃ R : Ending → World → Prop, R = fun e W' => e = .returned (.bool true) ∧ Below W.heap.size W W' := ⟨_, rfl⟩
  rw [← hR]
  have FIN := hide (show ∀ W' W'' l, Sep W.heap.size W W' l → Below W'.heap.size W' W'' → R (.returned (.bool true)) W'' from fun W' W'' l h b => by rw [hR]; exact ⟨rfl, h.be.trans (b.mono h.nw)⟩)
  clear hR
  have hcb : -9223372036854775808 ≤ cl ∧ cl ≤ 9223372036854775807 := by omega
  have aT : argB 3 cl = true := by
    unfold argB
    simp
    omega
  have C0 := hide (fnew (Sep.start W))
  have C1 := hide (fun (s : Nat) W1 (h : Sep W.heap.size W W1 [tSets s 0 []]) => h.call 0 (Nat.zero_lt_succ _) rfl (fun F hF => fput hF (by decide) 3 8192 cl np fu sw (by decide) (by decide)))
  rw [show putE [] 3 8192 cl = 0 by unfold putE; rw [aT]; rfl, show putL [] 3 8192 cl np fu sw = [⟨3, 8192, ⟨cl, np, fu⟩, sw⟩] by unfold putL; rw [aT]; rfl] at C1
  obtain ⟨y, hy⟩ : ∃ y : On, y = ⟨3, 8192, ⟨cl, np, fu⟩, sw⟩ := ⟨_, rfl⟩
  rw [← hy] at C1
  have yi : y.id = 3 := by rw [hy]
  have yb : y.base = 8192 := by rw [hy]
  have yk : y.kd = ⟨cl, np, fu⟩ := by rw [hy]
  have ys : y.sw = sw := by rw [hy]
  have t1 : twice [y] 3 16384 = true := twice_iff.2 ⟨y, List.mem_cons_self, .inl yi⟩
  have t2 : twice [y] 4 8192 = true := twice_iff.2 ⟨y, List.mem_cons_self, .inr yb⟩
  have C2 := hide (fun (s : Nat) W1 (h : Sep W.heap.size W W1 [tSets s 3 [y]]) => h.call 0 (Nat.zero_lt_succ _) rfl (fun F hF => fput hF (by decide) 3 16384 cl np fu sw (by decide) (by decide)))
  rw [show putE [y] 3 16384 cl = 34 by unfold putE; rw [aT, t1]; rfl, show putL [y] 3 16384 cl np fu sw = [y] by unfold putL; rw [aT, t1]; rfl] at C2
  have C3 := hide (fun (s : Nat) W1 (h : Sep W.heap.size W W1 [tSets s 6 [y]]) => h.call 0 (Nat.zero_lt_succ _) rfl (fun F hF => fput hF (by decide) 4 8192 5 false false true (by decide) (by decide)))
  rw [show putE [y] 4 8192 5 = 34 by unfold putE; rw [t2]; rfl, show putL [y] 4 8192 5 false false true = [y] by unfold putL; rw [t2]; rfl] at C3
  have CT := hide (fun (s : Nat) (X : Int) (A B D : Bool) (hX : -9223372036854775808 ≤ X ∧ X ≤ 9223372036854775807) (hne : (X == cl) = false ∨ (A == np) = false ∨ (B == fu) = false ∨ (D == sw) = false) W1 (h : Sep W.heap.size W W1 [tSets s 9 [y]]) => show Calls Try.prog 15 #[.pointer (some ⟨s, 0, none⟩), .int .i64 X, .bool A, .bool B, .bool D] W1 fun e W' => e = .returned (.tuple #[.int .i64 0, .bool false]) ∧ Sep W.heap.size W W' [tSets s 9 [y]] from by
    have := h.call 0 (Nat.zero_lt_succ _) rfl (fun F hF => ftake hF (by decide) X A B D hX)
    have nf : fits ⟨X, A, B⟩ D y = false := by
      cases e : fits ⟨X, A, B⟩ D y with
      | false => rfl
      | true =>
        obtain ⟨e1, e2⟩ := fits_iff.1 e
        rw [yk] at e1
        rw [ys] at e2
        injection e1 with e3 e4 e5
        rw [e3, e4, e5, e2] at hne
        simp at hne
    rw [low_one, nf] at this
    exact this)
  have C5 := hide (fun (s : Nat) W1 (h : Sep W.heap.size W W1 [tSets s 9 [y]]) => h.call 0 (Nat.zero_lt_succ _) rfl (fun F hF => fleast hF))
  have e5 : low uns [y] = if sw then none else some y := by
    rw [low_one]
    unfold uns
    rw [ys]
    cases sw <;> rfl
  rw [e5] at C5
  have C6 := hide (fun (s : Nat) W1 (h : Sep W.heap.size W W1 [tSets s 9 [y]]) => show Calls Try.prog 15 #[.pointer (some ⟨s, 0, none⟩), .int .i64 cl, .bool np, .bool fu, .bool sw] W1 fun e W' => e = .returned (.tuple #[.int .i64 3, .bool true]) ∧ Sep W.heap.size W W' [tSets s 9 []] from by
    have := h.call 0 (Nat.zero_lt_succ _) rfl (fun F hF => ftake hF (by decide) cl np fu sw hcb)
    have nf : fits ⟨cl, np, fu⟩ sw y = true := fits_iff.2 ⟨yk, ys⟩
    rw [low_one, nf] at this
    rw [show lowI (if true = true then some y else none) = 3 from yi, show takeL [y] (if true = true then some y else none) = [] by simp [takeL]] at this
    exact this)
  have C7 := hide (fun (s : Nat) W1 (h : Sep W.heap.size W W1 [tSets s 9 []]) => h.call 0 (Nat.zero_lt_succ _) rfl (fun F hF => fremove hF (by decide) 3 (by decide)))
  rw [show removeE [] 3 = 35 by decide, show removeL [] 3 = [] by decide] at C7
  have C8 := hide (fun (s : Nat) W1 (h : Sep W.heap.size W W1 [tSets s 9 []]) => h.call 0 (Nat.zero_lt_succ _) rfl (fun F hF => fput hF (by decide) 3 8192 cl np fu sw (by decide) (by decide)))
  rw [show putE [] 3 8192 cl = 0 by unfold putE; rw [aT]; rfl, show putL [] 3 8192 cl np fu sw = [y] by unfold putL; rw [aT, hy]; rfl] at C8
  have CA := hide awake14
  have d1 : decide (cl < 0) = false := decide_eq_false (by omega)
  have d2 : decide (67 < cl) = false := decide_eq_false (by omega)
  have yI : (y.id == 3) = true := by rw [yi]; rfl
  have YI := hide yi
  clear hy yb yk ys t1 t2 aT e5 hA yi yI
  go_enter Try.func6, Try.ntmps6
  go_wp2_with fail
  refine C0.out.mono ?_
  rintro e W1 ⟨s, rfl, h1⟩
  have D1 := hide (C1.out s W1 h1)
  clear C0 C1 h1
  go_wp2_with fail
  refine D1.out.mono ?_
  rintro e W2 ⟨rfl, h2⟩
  have D2 := hide (C2.out s W2 h2)
  clear D1 C2 h2
  go_wp2_with fail
  refine D2.out.mono ?_
  rintro e W3 ⟨rfl, h3⟩
  have D3 := hide (C3.out s W3 h3)
  clear D2 C3 h3
  go_wp2_with fail
  refine D3.out.mono ?_
  rintro e W4 ⟨rfl, h4⟩
  have H4 := hide h4
  clear D3 h4
  go_wp2_with fail
  go_loopw [12] (fun vk wr => ∃ (k : Nat), vk = .int .i64 (k : Nat) ∧ k ≤ 16 ∧ Hid (Sep W.heap.size W wr [tSets s 9 [y]])) (fun vk _ => 16 - (zi vk).toNat)
  case atStart => exact ⟨0, rfl, by omega, H4⟩
  case round =>
    clear H4
    obtain ⟨k, rfl, hk, HS⟩ := hrel
    have pi3 : IntKind.i64.wrap ((k : Int) + 1) = (k : Int) + 1 := by rw [IntKind.wrap_i64]; omega
    by_cases c : k < 16
    · have d : decide ((k : Int) < 16) = true := decide_eq_true (by omega)
      have d' : decide (k < 16) = true := decide_eq_true c
      obtain ⟨z8, h8⟩ : ∃ z, bits .and .i64 (k : Int) 8 = z := ⟨_, rfl⟩
      obtain ⟨z1, h1⟩ : ∃ z, bits .and .i64 (k : Int) 1 = z := ⟨_, rfl⟩
      obtain ⟨z2, h2⟩ : ∃ z, bits .and .i64 (k : Int) 2 = z := ⟨_, rfl⟩
      obtain ⟨z4, h4⟩ : ∃ z, bits .and .i64 (k : Int) 4 = z := ⟨_, rfl⟩
      by_cases c8 : z8 = 0
      · go_wp2_with fail
        · exact ⟨⟨k + 1, by push_cast; rfl, by omega, HS⟩, by simp only [zi]; omega⟩
        all_goals
          refine (CT.out s _ _ _ _ hcb ?_ _ HS.out).mono ?_
          · first | exact .inr (.inr (.inr (by first | assumption | exact beq_eq_false_iff_ne.2 (by assumption)))) | exact .inr (.inr (.inl (by first | assumption | exact beq_eq_false_iff_ne.2 (by assumption)))) | exact .inr (.inl (by first | assumption | exact beq_eq_false_iff_ne.2 (by assumption))) | exact .inl (by first | assumption | exact beq_eq_false_iff_ne.2 (by assumption))
          · rintro e W5 ⟨rfl, h5⟩
            have H5 := hide h5
            clear h5
            go_wp2_with fail
            exact ⟨⟨k + 1, by push_cast; rfl, by omega, H5⟩, by simp only [zi]; omega⟩
      · have c8' : (z8 == 0) = false := by simpa using c8
        by_cases co : oth = cl
        · subst co
          clear c8
          go_wp2_with fail
          · exact ⟨⟨k + 1, by push_cast; rfl, by omega, HS⟩, by simp only [zi]; omega⟩
          all_goals
            refine (CT.out s _ _ _ _ ho ?_ _ HS.out).mono ?_
            · first | exact .inl (by first | assumption | exact beq_eq_false_iff_ne.2 (by assumption)) | exact .inr (.inr (.inr (by first | assumption | exact beq_eq_false_iff_ne.2 (by assumption)))) | exact .inr (.inr (.inl (by first | assumption | exact beq_eq_false_iff_ne.2 (by assumption)))) | exact .inr (.inl (by first | assumption | exact beq_eq_false_iff_ne.2 (by assumption)))
            · rintro e W5 ⟨rfl, h5⟩
              have H5 := hide h5
              clear h5
              go_wp2_with fail
              exact ⟨⟨k + 1, by push_cast; rfl, by omega, H5⟩, by simp only [zi]; omega⟩
        · have co' : (oth == cl) = false := by simpa using co
          clear c8 co
          go_wp2_with fail
          all_goals
            refine (CT.out s _ _ _ _ ho ?_ _ HS.out).mono ?_
            · first | exact .inl (by first | assumption | exact beq_eq_false_iff_ne.2 (by assumption)) | exact .inr (.inr (.inr (by first | assumption | exact beq_eq_false_iff_ne.2 (by assumption)))) | exact .inr (.inr (.inl (by first | assumption | exact beq_eq_false_iff_ne.2 (by assumption)))) | exact .inr (.inl (by first | assumption | exact beq_eq_false_iff_ne.2 (by assumption)))
            · rintro e W5 ⟨rfl, h5⟩
              have H5 := hide h5
              clear h5
              go_wp2_with fail
              exact ⟨⟨k + 1, by push_cast; rfl, by omega, H5⟩, by simp only [zi]; omega⟩
    · have d : decide ((k : Int) < 16) = false := decide_eq_false (by omega)
      have d' : decide (k < 16) = false := decide_eq_false c
      have D5 := hide (C5.out s wr HS.out)
      clear CT C5
      cases sw with
      | true =>
        go_wp2_with fail
        refine D5.out.mono ?_
        rintro e W5 ⟨rfl, h5⟩
        have D6 := hide (C6.out s W5 h5)
        clear D5 C6 h5
        simp only [if_true, lowI, Option.isSome_none]
        go_wp2_with fail
        refine D6.out.mono ?_
        rintro e W6 ⟨rfl, h6⟩
        have D7 := hide (C7.out s W6 h6)
        clear D6 C7 h6
        go_wp2_with fail
        refine D7.out.mono ?_
        rintro e W7 ⟨rfl, h7⟩
        have D8 := hide (C8.out s W7 h7)
        clear D7 C8 h7
        go_wp2_with fail
        refine D8.out.mono ?_
        rintro e W8 ⟨rfl, h8⟩
        have H8 := hide h8
        clear D8 h8
        go_wp2_with fail
        refine (CA.out W8).mono ?_
        rintro e W9 ⟨rfl, b9⟩
        have FF := hide (FIN.out W8 W9 _ H8.out b9)
        clear CA b9 FIN H8
        go_wp2_with fail
        first | exact FF.out | (go_ret; exact FF.out)
      | false =>
        go_wp2_with fail
        refine D5.out.mono ?_
        rintro e W5 ⟨rfl, h5⟩
        have D6 := hide (C6.out s W5 h5)
        clear D5 C6 h5
        simp only [Bool.false_eq_true, if_false, lowI, Option.isSome_some, YI.out]
        go_wp2_with fail
        refine D6.out.mono ?_
        rintro e W6 ⟨rfl, h6⟩
        have D7 := hide (C7.out s W6 h6)
        clear D6 C7 h6
        go_wp2_with fail
        refine D7.out.mono ?_
        rintro e W7 ⟨rfl, h7⟩
        have D8 := hide (C8.out s W7 h7)
        clear D7 C8 h7
        go_wp2_with fail
        refine D8.out.mono ?_
        rintro e W8 ⟨rfl, h8⟩
        have H8 := hide h8
        clear D8 h8
        go_wp2_with fail
        refine (CA.out W8).mono ?_
        rintro e W9 ⟨rfl, b9⟩
        have FF := hide (FIN.out W8 W9 _ H8.out b9)
        clear CA b9 FIN H8
        go_wp2_with fail
        first | exact FF.out | (go_ret; exact FF.out)
theorem kinds_int (cl : Int) (np fu sw : Bool) (oth : Int) (ho : -9223372036854775808 ≤ oth ∧ oth ≤ 9223372036854775807) (W : World) :
    Calls Try.prog 6 #[.int .i64 cl, .bool np, .bool fu, .bool sw, .int .i64 oth] W fun e W' => e = .returned (.bool true) ∧ Below W.heap.size W W' := by
  by_cases c : cl < 0 ∨ 67 < cl
  · exact kinds_walk_arg cl np fu sw oth c W
  · exact kinds_walk cl np fu sw oth (by omega) ho W
end Go.Proofs.Ytdgjlekndhgjfaa
