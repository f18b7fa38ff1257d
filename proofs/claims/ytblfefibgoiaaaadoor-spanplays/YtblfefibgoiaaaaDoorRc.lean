/- The reference's span in memory: Give, SetMark, Die, Slot, Index, Info: contracts. -/
import Derived.Test.YtblfefibgoiaaaaDoorRb
namespace Go.Proofs.YtblfefibgoiaaaaDoor
open Go.ChangeShapes Go.WideShapes Go.ChangeAt Go.RowKit Go.Proofs.Sn Go.Shelf
set_option linter.unusedVariables false
set_option linter.unusedSimpArgs false

attribute [local go_sem] Oper.semAt_some

section
variable {N : Nat} {W W' : World} {rb : Nat} {v1 v2 : Value} {p : Nat} {G : Geo} {st look : Nat} {L1 L2 : List Bool}
/-! ### Give -/
theorem rgive_state (h : RfAt N W rb v1 v2 p G st L1 L2 look) (hs : st ≠ 2) (i : Int) : Calls Tryd.prog 34 #[.pointer (some ⟨rb, 0, none⟩), .int .i64 i] W fun e W' => e = .returned (.int .i64 33) ∧ W' = W := by
  have y := h.c2
  have d : ((st : Int) != 2) = true := by simp; omega
  have d' : ((st : Int) == 2) = false := by simp; omega
  clear h
  go_enter Tryd.func34, Tryd.ntmps34
  go_wp2_with fail
  go_ret
  exact ⟨rfl, rfl⟩
theorem rgive_arg (h : RfAt N W rb v1 v2 p G 2 L1 L2 look) (i : Int) (hi : inB G.slots i = false) : Calls Tryd.prog 34 #[.pointer (some ⟨rb, 0, none⟩), .int .i64 i] W fun e W' => e = .returned (.int .i64 1) ∧ W' = W := by
  have y : W.cell? ⟨rb, 2, none⟩ = some (.int .i64 2) := h.c2
  have y6 := h.c6
  clear h
  by_cases c : i < 0
  · have d : decide (i < 0) = true := decide_eq_true c
    clear hi
    go_enter Tryd.func34, Tryd.ntmps34
    go_wp2_with fail
    go_ret
    exact ⟨rfl, rfl⟩
  · have d : decide (i < 0) = false := decide_eq_false c
    have d2 : decide ((G.slots : Int) ≤ i) = true := decide_eq_true ((inB_false.1 hi).resolve_left c)
    have c2 := (inB_false.1 hi).resolve_left c
    clear hi
    generalize G.slots = n at *
    go_enter Tryd.func34, Tryd.ntmps34
    go_wp2_with fail
    go_ret
    exact ⟨rfl, rfl⟩
theorem rgive_free (h : RfAt N W rb v1 v2 p G 2 L1 L2 look) (k : Nat) (hi : k < G.slots) (hu : bl L1 k = false) : Calls Tryd.prog 34 #[.pointer (some ⟨rb, 0, none⟩), .int .i64 (k : Nat)] W fun e W' => e = .returned (.int .i64 31) ∧ W' = W := by
  have y : W.cell? ⟨rb, 2, none⟩ = some (.int .i64 2) := h.c2
  have y6 := h.c6
  have y7 := h.c7
  have l1 := h.l1
  have C := hide (at_any h.w1 (by omega) (k : Int))
  rw [uat_nat, hu] at C
  obtain ⟨o, cap, rfl⟩ := row_form h.w1
  have d2 : decide (G.slots ≤ k) = false := decide_eq_false (by omega)
  clear h hu l1
  go_enter Tryd.func34, Tryd.ntmps34
  go_wp2_with fail
  refine C.out.mono ?_
  rintro e W1 ⟨rfl, hw⟩
  rw [hw]
  clear hw C W1
  go_wp2_with fail
  go_ret
  exact ⟨rfl, rfl⟩
set_option maxRecDepth 100000 in
theorem rgive_ok (h : RfAt N W rb v1 v2 p G 2 L1 L2 look) (k : Nat) (hi : k < G.slots) (hu : bl L1 k = true) : Calls Tryd.prog 34 #[.pointer (some ⟨rb, 0, none⟩), .int .i64 (k : Nat)] W fun e W' => e = .returned (.int .i64 0) ∧ RfTo N W W' rb v1 v2 p G 2 (upd (bl L1) k false) (bl L2) (min look k) := by
  have y : W.cell? ⟨rb, 2, none⟩ = some (.int .i64 2) := h.c2
  have y6 := h.c6
  have y7 := h.c7
  have l1 := h.l1
  have C := hide (at_any h.w1 (by omega) (k : Int))
  rw [uat_nat, hu] at C
  have kl := bl_lt hu
  obtain ⟨g, cap, e1, x1, x2⟩ := bcellAt h.w1 kl
  subst e1
  have d2 : decide (G.slots ≤ k) = false := decide_eq_false (by omega)
  obtain ⟨s1, k1⟩ := h.setOut k false
  have z9 := s1.c9
  have f9 := s1.bk.fz 9
  obtain ⟨s2, k2⟩ := s1.setLook k
  have eb := bl_set kl false
  have FA := hide (show look ≤ k → RfTo N W (W.setCell ⟨g, k, none⟩ (.bool false)) rb (.slice (some ⟨g, 0, none⟩) L1.length cap) v2 p G 2 (upd (bl L1) k false) (bl L2) (min look k) from fun hl => by
    rw [Nat.min_eq_left hl]
    exact ⟨_, v2, _, L2, s1, eb, rfl, k1.mono (fun z hz => .inr (.inl (by rw [hz]; rfl))), fun z hz => .inl hz⟩)
  have FB := hide (show k < look → RfTo N W ((W.setCell ⟨g, k, none⟩ (.bool false)).setCell ⟨rb, 9, none⟩ (.int .i64 (k : Nat))) rb (.slice (some ⟨g, 0, none⟩) L1.length cap) v2 p G 2 (upd (bl L1) k false) (bl L2) (min look k) from fun hl => by
    rw [Nat.min_eq_right (by omega)]
    exact ⟨_, v2, _, L2, s2, eb, rfl, (k1.mono (G := ownS rb (.slice (some ⟨g, 0, none⟩) L1.length cap) v2) (fun z hz => .inr (.inl (by rw [hz]; rfl)))).trans (k2.mono (G := ownS rb (.slice (some ⟨g, 0, none⟩) L1.length cap) v2) fun z hz => .inl hz) (fun _ _ f => f), fun z hz => .inl hz⟩)
  obtain ⟨m, hm⟩ : ∃ m : Nat, L1.length = m := ⟨_, rfl⟩
  rw [hm] at y7 C FA FB kl ⊢
  have kk1 : (k : Int) < (m : Int) := by omega
  have kk0 : 0 ≤ (k : Int) := by omega
  by_cases c : k < look
  · have dc : decide (k < look) = true := decide_eq_true c
    have FF := hide (FB.out c)
    clear h hu l1 s1 s2 k1 k2 eb FA FB hm
    go_enter Tryd.func34, Tryd.ntmps34
    go_wp2_with fail
    refine C.out.mono ?_
    rintro e W1 ⟨rfl, hw⟩
    rw [hw]
    clear hw C W1
    go_wp2_with fail
    go_ret
    exact ⟨rfl, FF.out⟩
  · have dc : decide (k < look) = false := decide_eq_false c
    have FF := hide (FA.out (by omega))
    clear h hu l1 s1 s2 k1 k2 eb FA FB hm
    go_enter Tryd.func34, Tryd.ntmps34
    go_wp2_with fail
    refine C.out.mono ?_
    rintro e W1 ⟨rfl, hw⟩
    rw [hw]
    clear hw C W1
    go_wp2_with fail
    go_ret
    exact ⟨rfl, FF.out⟩
/-! ### SetMark -/
theorem rmark_state (h : RfAt N W rb v1 v2 p G st L1 L2 look) (hs : st ≠ 1) (i : Int) : Calls Tryd.prog 35 #[.pointer (some ⟨rb, 0, none⟩), .int .i64 i] W fun e W' => e = .returned (.int .i64 33) ∧ W' = W := by
  have y := h.c2
  have d : ((st : Int) != 1) = true := by simp; omega
  have d' : ((st : Int) == 1) = false := by simp; omega
  clear h
  go_enter Tryd.func35, Tryd.ntmps35
  go_wp2_with fail
  go_ret
  exact ⟨rfl, rfl⟩
theorem rmark_arg (h : RfAt N W rb v1 v2 p G 1 L1 L2 look) (i : Int) (hi : inB G.slots i = false) : Calls Tryd.prog 35 #[.pointer (some ⟨rb, 0, none⟩), .int .i64 i] W fun e W' => e = .returned (.int .i64 1) ∧ W' = W := by
  have y : W.cell? ⟨rb, 2, none⟩ = some (.int .i64 1) := h.c2
  have y6 := h.c6
  clear h
  by_cases c : i < 0
  · have d : decide (i < 0) = true := decide_eq_true c
    clear hi
    go_enter Tryd.func35, Tryd.ntmps35
    go_wp2_with fail
    go_ret
    exact ⟨rfl, rfl⟩
  · have d : decide (i < 0) = false := decide_eq_false c
    have d2 : decide ((G.slots : Int) ≤ i) = true := decide_eq_true ((inB_false.1 hi).resolve_left c)
    have c2 := (inB_false.1 hi).resolve_left c
    clear hi
    generalize G.slots = n at *
    go_enter Tryd.func35, Tryd.ntmps35
    go_wp2_with fail
    go_ret
    exact ⟨rfl, rfl⟩
theorem rmark_ok (h : RfAt N W rb v1 v2 p G 1 L1 L2 look) (hN : N ≤ W.heap.size) (hn : G.slots ≤ 65536) (k : Nat) (hi : k < G.slots) : Calls Tryd.prog 35 #[.pointer (some ⟨rb, 0, none⟩), .int .i64 (k : Nat)] W fun e W' => e = .returned (.int .i64 0) ∧ RfTo N W W' rb v1 v2 p G 1 (bl L1) (upd (bl L2) k true) look := by
  have y : W.cell? ⟨rb, 2, none⟩ = some (.int .i64 1) := h.c2
  have y6 := h.c6
  have y8 := h.c8
  have l2 := h.l2
  have CP := hide (put_any h.w2 hN k (by omega) (by omega) true)
  have d2 : decide (G.slots ≤ k) = false := decide_eq_false (by omega)
  obtain ⟨o, cap, rfl⟩ := row_form h.w2
  have H := hide h
  have HL := hide (And.intro l2 (And.intro hn hi))
  have k0 : ¬ (k : Int) < 0 := by omega
  clear h l2 hn hN
  go_enter Tryd.func35, Tryd.ntmps35
  go_wp2_with fail
  refine CP.out.mono ?_
  rintro e W1 ⟨v', L', rfl, a1, a2, a3, a4, a5⟩
  have s1 := (H.out).putM (by have := HL.out; omega) a3 a4 a5
  have z8 := (H.out.bk.kept a4 H.out.n1).cell 8 _ rfl
  have f8 := (H.out.bk.kept a4 H.out.n1).fz 8
  have FF := hide (show RfTo N W _ rb v1 (.slice o L2.length cap) p G 1 (bl L1) (upd (bl L2) k true) look from ⟨v1, v', L1, L', s1.1, rfl, a2, s1.2.1, s1.2.2⟩)
  obtain ⟨o9, cap9, e9⟩ := row_form a3
  subst e9
  clear a1 a2 a3 a4 a5 s1 CP
  go_wp2_with fail
  go_ret
  exact ⟨rfl, FF.out⟩
/-! ### Die -/
theorem rdie_no (h : RfAt N W rb v1 v2 p G st L1 L2 look) (hs : st = 0 ∨ 0 < Bt.cnt (bl L1) 0 L1.length) : Calls Tryd.prog 38 #[.pointer (some ⟨rb, 0, none⟩)] W fun e W' => e = .returned (.int .i64 33) ∧ W' = W := by
  have y := h.c2
  have C := hide (rcount_any h)
  clear h
  by_cases z : st = 0
  · subst z
    have y' : W.cell? ⟨rb, 2, none⟩ = some (.int .i64 0) := y
    clear y
    go_enter Tryd.func38, Tryd.ntmps38
    go_wp2_with fail
    go_ret
    exact ⟨rfl, rfl⟩
  · have d : ((st : Int) == 0) = false := by simp; omega
    have c0 := hs.resolve_left z
    generalize Bt.cnt (bl L1) 0 L1.length = c at *
    have d2 : decide (0 < c) = true := decide_eq_true c0
    clear hs z
    go_enter Tryd.func38, Tryd.ntmps38
    go_wp2_with fail
    refine C.out.mono ?_
    rintro e W1 ⟨rfl, hw⟩
    rw [hw]
    clear hw C W1
    go_wp2_with fail
    go_ret
    exact ⟨rfl, rfl⟩
theorem rdie_ok (h : RfAt N W rb v1 v2 p G st L1 L2 look) (hs : st ≠ 0) (hc : Bt.cnt (bl L1) 0 L1.length = 0) : Calls Tryd.prog 38 #[.pointer (some ⟨rb, 0, none⟩)] W fun e W' => e = .returned (.int .i64 0) ∧ RfTo N W W' rb v1 v2 p G 0 (fun _ => false) (fun _ => false) look := by
  have y := h.c2
  have C := hide (rcount_any h)
  rw [hc, show ((0 : Nat) : Int) = 0 from rfl] at C
  have d : ((st : Int) == 0) = false := by simp; omega
  have f2 := h.bk.fz 2
  obtain ⟨s1, k1⟩ := h.setState 0
  have f7 := s1.bk.fz 7
  have y7 := s1.c7
  obtain ⟨s2, k2⟩ := s1.dropUsed
  have f8 := s2.bk.fz 8
  have y8 := s2.c8
  obtain ⟨s3, k3⟩ := s2.dropMarks
  rw [show ((0 : Nat) : Int) = 0 from rfl] at f7 y7 s2 k2 f8 y8 s3 k3 k1
  have FIN := hide (show RfTo N W _ rb v1 v2 p G 0 (fun _ => false) (fun _ => false) look from ⟨_, _, _, _, s3, funext bl_nil, funext bl_nil, ((k1.mono (G := ownS rb v1 v2) fun z hz => .inl hz).trans (k2.mono (G := ownS rb v1 v2) fun z hz => .inl hz) (fun _ _ f => f)).trans (k3.mono (G := ownS rb v1 v2) fun z hz => .inl hz) (fun _ _ f => f), fun z hz => by
    rcases hz with hz | hz | hz
    · exact .inl (.inl hz)
    · exact absurd hz (own_none _)
    · exact absurd hz (own_none _)⟩)
  clear h s1 s2 s3 k1 k2 k3 hs hc
  go_enter Tryd.func38, Tryd.ntmps38
  go_wp2_with fail
  refine C.out.mono ?_
  rintro e W1 ⟨rfl, hw⟩
  rw [hw]
  clear hw C W1
  go_wp2_with fail
  go_ret
  exact ⟨rfl, FIN.out⟩
/-! ### Slot -/
theorem rslot_no (h : RfAt N W rb v1 v2 p G st L1 L2 look) (i : Int) (hi : inB G.slots i = false) : Calls Tryd.prog 39 #[.pointer (some ⟨rb, 0, none⟩), .int .i64 i] W fun e W' => e = .returned (.tuple #[.int .u64 0, .int .i64 1]) ∧ W' = W := by
  have y6 := h.c6
  clear h
  by_cases c : i < 0
  · have d : decide (i < 0) = true := decide_eq_true c
    clear hi
    go_enter Tryd.func39, Tryd.ntmps39
    go_wp2_with fail
    go_ret2
    exact ⟨rfl, rfl⟩
  · have d : decide (i < 0) = false := decide_eq_false c
    have d2 : decide ((G.slots : Int) ≤ i) = true := decide_eq_true ((inB_false.1 hi).resolve_left c)
    have c2 := (inB_false.1 hi).resolve_left c
    clear hi
    generalize G.slots = n at *
    go_enter Tryd.func39, Tryd.ntmps39
    go_wp2_with fail
    go_ret2
    exact ⟨rfl, rfl⟩
set_option maxRecDepth 100000 in
theorem rslot_ok (h : RfAt N W rb v1 v2 p G st L1 L2 look) (g : GOk G) (hp : G.base = p * 8192) (k : Nat) (hi : k < G.slots) : Calls Tryd.prog 39 #[.pointer (some ⟨rb, 0, none⟩), .int .i64 (k : Nat)] W fun e W' => e = .returned (.tuple #[.int .u64 ((G.base + k * G.elem : Nat) : Int), .int .i64 0]) ∧ ∃ j, W' = W.drewN j := by
  have y0 := h.c0
  have y5 := h.c5
  have y6 := h.c6
  have m1 : k * G.elem ≤ G.slots * G.elem := Nat.mul_le_mul_right _ (by omega)
  have b1 := g.b1
  have e1 := g.e1
  have s1 := g.s1
  have d2 : decide (G.slots ≤ k) = false := decide_eq_false (by omega)
  have bb : 0 ≤ (k : Int) * (G.elem : Int) := Int.mul_nonneg (by omega) (by omega)
  have eq : ((k * G.elem : Nat) : Int) = (k : Int) * (G.elem : Int) := by push_cast; rfl
  rw [show ((G.base + k * G.elem : Nat) : Int) = (p : Int) * 8192 + (k : Int) * (G.elem : Int) by rw [hp]; push_cast; rfl]
  have w0 : IntKind.u64.wrap ((p : Int) * 8192) = (p : Int) * 8192 := by rw [IntKind.wrap_u64]; omega
  have w1 : IntKind.u64.wrap (k : Int) = (k : Int) := by rw [IntKind.wrap_u64]; omega
  have w2 : IntKind.u64.wrap (G.elem : Int) = (G.elem : Int) := by rw [IntKind.wrap_u64]; omega
  have w3 : IntKind.u64.wrap ((k : Int) * (G.elem : Int)) = (k : Int) * (G.elem : Int) := by rw [IntKind.wrap_u64]; omega
  have w4 : IntKind.u64.wrap ((p : Int) * 8192 + (k : Int) * (G.elem : Int)) = (p : Int) * 8192 + (k : Int) * (G.elem : Int) := by rw [IntKind.wrap_u64]; omega
  clear h m1 b1 e1 s1 bb eq g hp
  go_enter Tryd.func39, Tryd.ntmps39
  go_wp2_with fail
  first | (go_ret2; exact ⟨rfl, 0, rfl⟩) | (go_quiet (fail); go_wp2_with fail; go_ret2; exact ⟨rfl, _, rfl⟩)
/-! ### Index -/
set_option maxRecDepth 100000 in
theorem rindex_no (h : RfAt N W rb v1 v2 p G st L1 L2 look) (g : GOk G) (hp : G.base = p * 8192) (a : Nat) (ha : a < 18446744073709551616) (hi : idxV G a = none) : Calls Tryd.prog 42 #[.pointer (some ⟨rb, 0, none⟩), .int .u64 (a : Nat)] W fun e W' => e = .returned (.tuple #[.int .i64 0, .int .i64 10]) ∧ ∃ j, W' = W.drewN j := by
  have y0 := h.c0
  have y5 := h.c5
  have y6 := h.c6
  have e0 := g.e0
  have e1 := g.e1
  have s1 := g.s1
  have b1 := g.b1
  obtain ⟨B, hB⟩ : ∃ B : Int, (p : Int) * 8192 = B := ⟨_, rfl⟩
  have w0 : IntKind.u64.wrap ((p : Int) * 8192) = B := by rw [IntKind.wrap_u64]; omega
  obtain ⟨X, hX⟩ : ∃ X : Int, (a : Int) = X := ⟨_, rfl⟩
  rw [hX]
  rcases idx_none hi with c1 | ⟨c1, c2⟩
  · have d1 : decide (X < B) = true := decide_eq_true (by omega)
    clear h e0 e1 s1 b1 g hi hp hB hX c1 ha
    go_enter Tryd.func42, Tryd.ntmps42
    go_wp2_with fail
    go_quiet (fail)
    go_wp2_with fail
    go_ret2
    exact ⟨rfl, _, rfl⟩
  · have d1 : decide (X < B) = false := decide_eq_false (by omega)
    obtain ⟨q, hq⟩ : ∃ q : Nat, (a - G.base) / G.elem = q := ⟨_, rfl⟩
    obtain ⟨A, hA⟩ : ∃ A : Int, X - B = A := ⟨_, rfl⟩
    have hAn : A = ((a - G.base : Nat) : Int) := by omega
    have wA : IntKind.u64.wrap (X - B) = A := by rw [IntKind.wrap_u64]; omega
    have w1 : IntKind.u64.wrap (G.slots : Int) = (G.slots : Int) := by rw [IntKind.wrap_u64]; omega
    have w2 : IntKind.u64.wrap (G.elem : Int) = (G.elem : Int) := by rw [IntKind.wrap_u64]; omega
    have q0 : A / (G.elem : Int) = (q : Int) := by rw [hAn, ← hq, Int.natCast_ediv]
    have q1 : A.tdiv (G.elem : Int) = (q : Int) := by rw [Int.tdiv_eq_ediv_of_nonneg (by omega)]; exact q0
    have z : ((G.elem : Int) == 0) = false := by simp; omega
    have ql := Nat.div_le_self (a - G.base) G.elem
    have w3 : IntKind.u64.wrap (q : Int) = (q : Int) := by rw [IntKind.wrap_u64]; omega
    have d2 : decide (G.slots ≤ q) = true := decide_eq_true (by omega)
    have d2' : G.slots ≤ q := by omega
    clear h e1 s1 b1 g hi hp hB hX c1 c2 hA hAn ql ha hq
    go_enter Tryd.func42, Tryd.ntmps42
    go_wp2_with fail
    go_quiet (fail)
    go_wp2_with fail
    go_ret2
    exact ⟨rfl, _, rfl⟩
set_option maxRecDepth 100000 in
theorem rindex_ok (h : RfAt N W rb v1 v2 p G st L1 L2 look) (g : GOk G) (hp : G.base = p * 8192) (a k : Nat) (ha : a < 18446744073709551616) (hi : idxV G a = some k) : Calls Tryd.prog 42 #[.pointer (some ⟨rb, 0, none⟩), .int .u64 (a : Nat)] W fun e W' => e = .returned (.tuple #[.int .i64 (k : Nat), .int .i64 0]) ∧ ∃ j, W' = W.drewN j := by
  have y0 := h.c0
  have y5 := h.c5
  have y6 := h.c6
  have e0 := g.e0
  have e1 := g.e1
  have s1 := g.s1
  have b1 := g.b1
  obtain ⟨B, hB⟩ : ∃ B : Int, (p : Int) * 8192 = B := ⟨_, rfl⟩
  have w0 : IntKind.u64.wrap ((p : Int) * 8192) = B := by rw [IntKind.wrap_u64]; omega
  obtain ⟨X, hX⟩ : ∃ X : Int, (a : Int) = X := ⟨_, rfl⟩
  rw [hX]
  obtain ⟨c1, c2, c4⟩ := idx_some hi
  have d1 : decide (X < B) = false := decide_eq_false (by omega)
  obtain ⟨A, hA⟩ : ∃ A : Int, X - B = A := ⟨_, rfl⟩
  have hAn : A = ((a - G.base : Nat) : Int) := by omega
  have wA : IntKind.u64.wrap (X - B) = A := by rw [IntKind.wrap_u64]; omega
  have w1 : IntKind.u64.wrap (G.slots : Int) = (G.slots : Int) := by rw [IntKind.wrap_u64]; omega
  have w2 : IntKind.u64.wrap (G.elem : Int) = (G.elem : Int) := by rw [IntKind.wrap_u64]; omega
  have q0 : A / (G.elem : Int) = (k : Int) := by rw [hAn, c4, Int.natCast_ediv]
  have q1 : A.tdiv (G.elem : Int) = (k : Int) := by rw [Int.tdiv_eq_ediv_of_nonneg (by omega)]; exact q0
  have z : ((G.elem : Int) == 0) = false := by simp; omega
  have w3 : IntKind.u64.wrap (k : Int) = (k : Int) := by rw [IntKind.wrap_u64]; omega
  have w4 : IntKind.i64.wrap (k : Int) = (k : Int) := by rw [IntKind.wrap_i64]; omega
  have d2 : decide (G.slots ≤ k) = false := decide_eq_false (by omega)
  have d2' : k < G.slots := by omega
  clear h e1 s1 b1 g hi hp hB hX c1 c2 c4 hA hAn ha
  go_enter Tryd.func42, Tryd.ntmps42
  go_wp2_with fail
  go_quiet (fail)
  go_wp2_with fail
  go_ret2
  exact ⟨rfl, _, rfl⟩
end
end Go.Proofs.YtblfefibgoiaaaaDoor
