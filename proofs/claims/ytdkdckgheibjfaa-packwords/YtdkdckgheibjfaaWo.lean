/- PackWords, PackBack: their walks. -/
import Derived.Test.YtdkdckgheibjfaaRa
import Derived.Test.YtdkdckgheibjfaaPf
namespace Go.Proofs.Ytdkdckgheibjfaa
open Go.ChangeShapes Go.WideShapes Go.ChangeAt Go.RowKit Go.Proofs.Pk Go.Maps
set_option linter.unusedVariables false
set_option linter.unusedSimpArgs false

theorem pack_back {a : Sm} {v : Int} (h : PackV a v 0) : UnV v a 0 ∧ 0 ≤ v ∧ v < 18446744073709551616 := by
  generalize he : (0 : Int) = e at h
  cases h with
  | no h => omega
  | full h hm =>
    obtain ⟨s, m, y⟩ := a
    obtain ⟨h1, h2, h3, h4, h5, h6⟩ := h
    dsimp only at h1 h2 h3 h4 h5 h6 hm
    obtain ⟨rfl, rfl, rfl⟩ : s = 2097152 ∧ m = 2097152 ∧ y = 2097152 := by omega
    exact ⟨.full rfl, by decide, by decide⟩
  | low h hm =>
    obtain ⟨s, m, y⟩ := a
    have H := h
    obtain ⟨h1, h2, h3, h4, h5, h6⟩ := h
    dsimp only at h1 h2 h3 h4 h5 h6 hm ⊢
    have e : parts (s + m * 2097152 + y * 4398046511104) = ⟨s, m, y⟩ := by
      unfold parts
      congr 1 <;> omega
    refine ⟨?_, by omega, by omega⟩
    have := UnV.low (x := s + m * 2097152 + y * 4398046511104) (by omega) (by rw [e]; exact H)
    rwa [e] at this
theorem unpack_back {x : Int} {a : Sm} (hx : 0 ≤ x) (h : UnV x a 0) : PackV a x 0 := by
  generalize he : (0 : Int) = e at h
  cases h with
  | full h => subst h; exact .full ⟨by decide, by decide, by decide, by decide, by decide, .inr ⟨rfl, rfl⟩⟩ rfl
  | high h => omega
  | bad h hn => omega
  | low h hb =>
    have := PackV.low hb (by unfold parts; dsimp only; omega)
    have e : (parts x).s + (parts x).m * 2097152 + (parts x).e * 4398046511104 = x := by unfold parts; dsimp only; omega
    rwa [e] at this
theorem PackV.err {a : Sm} {v e : Int} (h : PackV a v e) : e = 0 ∨ e = 1 := by cases h <;> simp
theorem UnV.err {x : Int} {a : Sm} {e : Int} (h : UnV x a e) : e = 0 ∨ e = 1 := by cases h <;> simp
set_option maxRecDepth 100000 in
set_option maxHeartbeats 2000000 in
theorem words_core (a : Sm) (x : Int) (h0 : 0 ≤ x) (h1 : x < 18446744073709551616) (w : World) : Calls Try.prog 3 #[sumV a, .int .u64 x] w fun e w' => e = .returned (.bool true) ∧ Below w.heap.size w w' := by
  obtain ⟨v, e, hv⟩ := PackV.some a
  obtain ⟨b, f, hu⟩ := UnV.some x
  have C1 := fun w => hide (pack_any a v e hv w)
  have C2 := fun w => hide (rpack_any a v e hv w)
  have C3 := fun w => hide (unpack_any x h0 h1 b f hu w)
  have C4 := fun w => hide (runpack_any x h0 h1 b f hu w)
  obtain ⟨s, m, y⟩ := a
  obtain ⟨S, M, Y⟩ := b
  unfold sumV at C1 C2 C3 C4 ⊢
  dsimp only at C1 C2 C3 C4 ⊢
  have d1 : (v == v) = true := beq_self_eq_true _
  have d2 : (e == e) = true := beq_self_eq_true _
  have d3 : (f == f) = true := beq_self_eq_true _
  obtain ⟨N, hN⟩ : ∃ N, w.heap.size = N := ⟨_, rfl⟩
  obtain ⟨w0, hw0⟩ : ∃ w0, w0 = w.alloc (.cells #[.int .i64 s, .int .i64 m, .int .i64 y] 23) := ⟨_, rfl⟩
  have S0 : Hid (Bx N N w w0 s m y) := hide (by rw [hw0, ← hN]; exact Bx.new (Below.refl _ _) (Nat.le_refl _))
  have HW := hide hw0
  have HNN := hide hN
  clear hv hu hw0 hN
  go_enter Try.func3, Try.ntmps3
  go_wp2_with fail
  rw [← HW.out, HNN.out]
  refine (C1 _).out.mono ?_
  rintro _ w1 ⟨rfl, b1⟩
  have S1 := hide (S0.out.next b1)
  have c0 := S1.out.c0
  have c1 := S1.out.c1
  have c2 := S1.out.c2
  clear b1 HW S0
  go_wp2_with fail
  refine (C2 _).out.mono ?_
  rintro _ w2 ⟨rfl, b2⟩
  have S2 := hide (S1.out.next b2)
  clear b2 c0 c1 c2 S1
  go_wp2_with fail
  refine (C3 _).out.mono ?_
  rintro _ w3 ⟨rfl, b3⟩
  have S3 := hide (S2.out.next b3)
  clear b3 S2
  obtain ⟨w4, hw4⟩ : ∃ w4, w4 = w3.alloc (.cells #[.int .i64 S, .int .i64 M, .int .i64 Y] 23) := ⟨_, rfl⟩
  have R4 : Hid (Bx N w3.heap.size w w4 S M Y) := hide (by rw [hw4]; exact Bx.new S3.out.be (by have := S3.out.lt; have := S3.out.le; omega))
  have HW := hide hw4
  clear hw4
  go_wp2_with fail
  rw [← HW.out]
  refine (C4 _).out.mono ?_
  rintro _ w5 ⟨rfl, b5⟩
  have R5 := hide (R4.out.next b5)
  clear b5 R4 HW
  obtain ⟨w6, hw6⟩ : ∃ w6, w6 = w5.alloc (.cells #[.int .i64 S, .int .i64 M, .int .i64 Y] 23) := ⟨_, rfl⟩
  have hz : N ≤ w5.heap.size := by have := R5.out.lt; have := R5.out.le; omega
  have T6 : Hid (Bx N w5.heap.size w w6 S M Y) := hide (by rw [hw6]; exact Bx.new R5.out.be hz)
  have R6 : Hid (Bx N w3.heap.size w w6 S M Y) := hide (R5.out.next (by rw [hw6]; exact alloc1 _ _))
  have hlt := R5.out.lt
  have c0 := R5.out.c0
  have c1 := R5.out.c1
  have c2 := R5.out.c2
  have HW := hide hw6
  clear hw6
  go_wp2_with fail
  rw [← HW.out]
  refine (awake_any _).mono ?_
  rintro _ w7 ⟨rfl, b7⟩
  have F := hide (T6.out.next b7)
  clear b7
  go_wp2_with fail
  go_ret
  exact ⟨rfl, by first | exact F.out.be | (rw [HNN.out]; exact F.out.be)⟩
set_option maxRecDepth 100000 in
set_option maxHeartbeats 2000000 in
theorem back_core (a : Sm) (x : Int) (h0 : 0 ≤ x) (h1 : x < 18446744073709551616) (w : World) : Calls Try.prog 5 #[sumV a, .int .u64 x] w fun e w' => e = .returned (.bool true) ∧ Below w.heap.size w w' := by
  obtain ⟨N, hN⟩ : ∃ N, w.heap.size = N := ⟨_, rfl⟩
  -- what comes behind the first half
  obtain ⟨v, e, hv⟩ := PackV.some a
  obtain ⟨b, f, hu⟩ := UnV.some x
  have C1 := fun w => hide (pack_any a v e hv w)
  have C3 := fun w => hide (unpack_any x h0 h1 b f hu w)
  have D1 : e = 0 → ∀ w, Hid (Calls Try.prog 10 #[.int .u64 v] w fun r w' => r = .returned (.tuple #[sumV a, .int .i64 0]) ∧ Below w.heap.size w w') := fun z w => hide (by
    subst z
    have k := pack_back hv
    exact unpack_any v k.2.1 k.2.2 a 0 k.1 w)
  have D2 : f = 0 → ∀ w, Hid (Calls Try.prog 8 #[sumV b] w fun r w' => r = .returned (.tuple #[.int .u64 x, .int .i64 0]) ∧ Below w.heap.size w w') := fun z w => hide (by
    subst z
    exact pack_any b x 0 (unpack_back h0 hu) w)
  have e01 := hv.err
  have f01 := hu.err
  clear hv hu
  obtain ⟨s, m, y⟩ := a
  obtain ⟨S, M, Y⟩ := b
  unfold sumV at C1 C3 D1 D2 ⊢
  dsimp only at C1 C3 D1 D2 ⊢
  obtain ⟨w0, hw0⟩ : ∃ w0, w0 = w.alloc (.cells #[.int .i64 s, .int .i64 m, .int .i64 y] 23) := ⟨_, rfl⟩
  have S0 : Hid (Bx N N w w0 s m y) := hide (by rw [hw0, ← hN]; exact Bx.new (Below.refl _ _) (Nat.le_refl _))
  have HW := hide hw0
  have HNN := hide hN
  clear hw0 hN
  have tail : ∀ (W : World), Bx N N w W s m y → Hid (Calls Try.prog 12 #[] W fun e w' => e = .returned (.bool true) ∧ Below N w w') := fun W hW => hide ((awake_any W).mono fun e w' h => ⟨h.1, (hW.next h.2).be⟩)
  rcases e01 with rfl | rfl
  all_goals rcases f01 with rfl | rfl
  all_goals
    have hx : (x == x) = true := beq_self_eq_true _
    go_enter Try.func5, Try.ntmps5
    go_wp2_with fail
    rw [← HW.out, HNN.out]
    refine (C1 _).out.mono ?_
    rintro _ w1 ⟨rfl, b1⟩
    have S1 := hide (S0.out.next b1)
    clear b1 HW S0
    go_wp2_with fail
  · refine (D1 (by first | exact trivial | rfl) _).out.mono ?_
    rintro _ w2 ⟨rfl, b2⟩
    have S2 := hide (S1.out.next b2)
    have hlt := S2.out.lt
    have c0 := S2.out.c0
    have c1 := S2.out.c1
    have c2 := S2.out.c2
    clear b2 S1
    obtain ⟨w3, hw3⟩ : ∃ w3, w3 = w2.alloc (.cells #[.int .i64 s, .int .i64 m, .int .i64 y] 23) := ⟨_, rfl⟩
    have S3 : Hid (Bx N N w w3 s m y) := hide (S2.out.next (by rw [hw3]; exact alloc1 _ _))
    have HW := hide hw3
    clear hw3
    go_wp2_with fail
    rw [← HW.out]
    refine (C3 _).out.mono ?_
    rintro _ w4 ⟨rfl, b4⟩
    have S4 := hide (S3.out.next b4)
    clear b4
    obtain ⟨w5, hw5⟩ : ∃ w5, w5 = w4.alloc (.cells #[.int .i64 S, .int .i64 M, .int .i64 Y] 23) := ⟨_, rfl⟩
    have S5 : Hid (Bx N N w w5 s m y) := hide (S4.out.next (by rw [hw5]; exact alloc1 _ _))
    have HV := hide hw5
    clear hw5
    go_wp2_with fail
    rw [← HV.out]
    refine (D2 (by first | exact trivial | rfl) _).out.mono ?_
    rintro _ w6 ⟨rfl, b6⟩
    have S6 := hide (S5.out.next b6)
    clear b6
    go_wp2_with fail
    refine (tail _ S6.out).out.mono ?_
    rintro _ w7 ⟨rfl, b7⟩
    have F := hide b7
    clear b7
    go_wp2_with fail
    go_ret
    exact ⟨rfl, by first | exact F.out | (rw [HNN.out]; exact F.out)⟩
  · refine (D1 (by first | exact trivial | rfl) _).out.mono ?_
    rintro _ w2 ⟨rfl, b2⟩
    have S2 := hide (S1.out.next b2)
    have hlt := S2.out.lt
    have c0 := S2.out.c0
    have c1 := S2.out.c1
    have c2 := S2.out.c2
    clear b2 S1
    obtain ⟨w3, hw3⟩ : ∃ w3, w3 = w2.alloc (.cells #[.int .i64 s, .int .i64 m, .int .i64 y] 23) := ⟨_, rfl⟩
    have S3 : Hid (Bx N N w w3 s m y) := hide (S2.out.next (by rw [hw3]; exact alloc1 _ _))
    have HW := hide hw3
    clear hw3
    go_wp2_with fail
    rw [← HW.out]
    refine (C3 _).out.mono ?_
    rintro _ w4 ⟨rfl, b4⟩
    have S4 := hide (S3.out.next b4)
    clear b4
    obtain ⟨w5, hw5⟩ : ∃ w5, w5 = w4.alloc (.cells #[.int .i64 S, .int .i64 M, .int .i64 Y] 23) := ⟨_, rfl⟩
    have S5 : Hid (Bx N N w w5 s m y) := hide (S4.out.next (by rw [hw5]; exact alloc1 _ _))
    have HV := hide hw5
    clear hw5
    go_wp2_with fail
    rw [← HV.out]
    refine (tail _ S5.out).out.mono ?_
    rintro _ w7 ⟨rfl, b7⟩
    have F := hide b7
    clear b7
    go_wp2_with fail
    go_ret
    exact ⟨rfl, by first | exact F.out | (rw [HNN.out]; exact F.out)⟩
  · refine (C3 _).out.mono ?_
    rintro _ w4 ⟨rfl, b4⟩
    have S4 := hide (S1.out.next b4)
    clear b4
    obtain ⟨w5, hw5⟩ : ∃ w5, w5 = w4.alloc (.cells #[.int .i64 S, .int .i64 M, .int .i64 Y] 23) := ⟨_, rfl⟩
    have S5 : Hid (Bx N N w w5 s m y) := hide (S4.out.next (by rw [hw5]; exact alloc1 _ _))
    have HV := hide hw5
    clear hw5
    go_wp2_with fail
    rw [← HV.out]
    refine (D2 (by first | exact trivial | rfl) _).out.mono ?_
    rintro _ w6 ⟨rfl, b6⟩
    have S6 := hide (S5.out.next b6)
    clear b6
    go_wp2_with fail
    refine (tail _ S6.out).out.mono ?_
    rintro _ w7 ⟨rfl, b7⟩
    have F := hide b7
    clear b7
    go_wp2_with fail
    go_ret
    exact ⟨rfl, by first | exact F.out | (rw [HNN.out]; exact F.out)⟩
  · refine (C3 _).out.mono ?_
    rintro _ w4 ⟨rfl, b4⟩
    have S4 := hide (S1.out.next b4)
    clear b4
    obtain ⟨w5, hw5⟩ : ∃ w5, w5 = w4.alloc (.cells #[.int .i64 S, .int .i64 M, .int .i64 Y] 23) := ⟨_, rfl⟩
    have S5 : Hid (Bx N N w w5 s m y) := hide (S4.out.next (by rw [hw5]; exact alloc1 _ _))
    have HV := hide hw5
    clear hw5
    go_wp2_with fail
    rw [← HV.out]
    refine (tail _ S5.out).out.mono ?_
    rintro _ w7 ⟨rfl, b7⟩
    have F := hide b7
    clear b7
    go_wp2_with fail
    go_ret
    exact ⟨rfl, by first | exact F.out | (rw [HNN.out]; exact F.out)⟩
end Go.Proofs.Ytdkdckgheibjfaa
