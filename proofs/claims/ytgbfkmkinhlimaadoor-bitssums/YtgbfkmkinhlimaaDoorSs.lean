/- BitsSums: its walk. -/
import Derived.Test.YtgbfkmkinhlimaaDoorEq
import Derived.Deep.RegionWith
namespace Go.Proofs.YtgbfkmkinhlimaaDoor
open Go.ChangeShapes Go.WideShapes Go.ChangeAt Go.RowKit Go.Proofs.Bt Go.Shelf
set_option linter.unusedVariables false
set_option linter.unusedSimpArgs false
attribute [local go_sem] eqRow eqWords

theorem sum_le {f : Nat → Bool} {s m e : Nat} (h : SumP f s m e) : s ≤ m ∧ e ≤ m ∧ m ≤ 512 ∧ m + cnt f 0 512 ≤ 512 := by
  obtain ⟨c, c1, c2⟩ := h.mx
  have hs := h.s512
  have he := h.e512
  refine ⟨?_, ?_, by omega, ?_⟩
  · by_cases l : s ≤ m
    · exact l
    · exact absurd (fun k hk => h.sc k (by omega)) (h.mn 0 (by omega))
  · by_cases l : e ≤ m
    · exact l
    · exact absurd (fun k hk => h.ec k (by omega)) (h.mn (512 - e) (by omega))
  · have e1 : cnt f 0 512 = cnt f 0 c + (cnt f c m + cnt f (c + m) (512 - c - m)) := by
      have h1 := cnt_add f 0 c (m + (512 - c - m))
      rw [cnt_add f (0 + c), show c + (m + (512 - c - m)) = 512 by omega, Nat.zero_add] at h1
      exact h1
    have e2 := cnt_zero.2 c2
    have e3 := cnt_le f 0 c
    have e4 := cnt_le f (c + m) (512 - c - m)
    omega
theorem find_yes {w w' : World} {f : Nat → Bool} {s m e : Nat} {r : Ending} (h : SumP f s m e) (hm : 0 < m) (hr : FindR w f (m : Nat) 0 r w') : ∃ i, r = .returned (.tuple #[.int .i64 i, .bool true]) ∧ Below w.heap.size w w' := by
  obtain ⟨i, ok, rfl, hp, hb⟩ := hr
  rcases hp with ⟨rfl, _⟩ | ⟨rfl, rfl, hx⟩
  · exact ⟨i, rfl, hb⟩
  · exfalso
    obtain ⟨c, c1, c2⟩ := h.mx
    rcases hx with hx | hx
    · omega
    · exact hx c (by omega) (by omega) (by rw [Int.toNat_natCast]; exact c2)
theorem find_no {w w' : World} {f : Nat → Bool} {s m e : Nat} {r : Ending} (h : SumP f s m e) (hr : FindR w f ((m : Int) + 1) 0 r w') : r = .returned (.tuple #[.int .i64 0, .bool false]) ∧ Below w.heap.size w w' := by
  obtain ⟨i, ok, rfl, hp, hb⟩ := hr
  rcases hp with ⟨rfl, _, a, rfl, _, a1, a2, _⟩ | ⟨rfl, rfl, hx⟩
  · exfalso
    rw [show ((m : Int) + 1).toNat = m + 1 by omega] at a1 a2
    exact h.mn a a1 a2
  · exact ⟨rfl, hb⟩

theorem sum_all {f : Nat → Bool} {s m e : Nat} (h : SumP f s m e) : (s < 512 ∧ e < 512) ∨ (s = 512 ∧ e = 512 ∧ m = 512) := by
  obtain ⟨h1, h2, h3, _⟩ := sum_le h
  have hs := h.s512
  have he := h.e512
  by_cases l : s = 512
  · right
    refine ⟨l, ?_, by omega⟩
    by_cases k : e < 512
    · exfalso
      have := h.es k
      have h5 := h.sc (511 - e) (by omega)
      rw [Nat.zero_add, this] at h5
      cases h5
    · omega
  · left
    refine ⟨by omega, ?_⟩
    by_cases k : e < 512
    · exact k
    · exfalso
      have := h.ss (by omega)
      have h5 := h.ec s (by omega)
      rw [show 512 - e + s = s by omega, this] at h5
      cases h5
/-- A row of the law's own and a summary. -/
structure S2 (N Q : Nat) (w W : World) (f : Nat → Bool) (s m e : Int) : Prop where
  st : St N (N + 1) w W f
  su : SumAt W Q s m e
theorem S2.next {N Q : Nat} {w W W' : World} {f : Nat → Bool} {s m e : Int} (h : S2 N Q w W f s m e) (k : Below W.heap.size W W') : S2 N Q w W' f s m e := ⟨h.st.next k, h.su.below k⟩

set_option maxRecDepth 100000 in
set_option maxHeartbeats 4000000 in
theorem sums_any (g : Nat → Nat) (hg : ∀ k, g k < 18446744073709551616) (w : World) (ht : TabW w) :
    Calls Tryd.prog 6 #[words g] w fun e w' => e = .returned (.bool true) ∧ Below w.heap.size w w' := by
  obtain ⟨N, hN⟩ : ∃ N, w.heap.size = N := ⟨_, rfl⟩
  rw [hN]
  obtain ⟨w2, hw2⟩ : ∃ w2, w2 = (w.alloc (.cells (cells8 g) 23)).alloc (.cells (cells8 g) 25) := ⟨_, rfl⟩
  have T2 := hide (st_start g hg w ht w2 hw2 N hN).1
  have HW := hide hw2
  obtain ⟨f, hf⟩ : ∃ f, f = bitW g := ⟨_, rfl⟩
  rw [← hf] at T2
  clear ht hg hw2 hf
  unfold words cells8
  go_enter Tryd.func6, Tryd.ntmps6
  go_wp2_with fail
  have hw := HW.out
  unfold cells8 at hw
  rw [← hw]
  clear hw HW
  refine (sum_any (N + 1) f w2 T2.out.ro T2.out.ta).mono ?_
  rintro r w3 ⟨s, m, e, rfl, hp, b3⟩
  have T3 := hide (T2.out.next b3)
  clear T2 b3
  obtain ⟨p1, p2, p3, p4⟩ := sum_le hp
  have p5 := hp.s512
  have p6 := hp.e512
  have pa := sum_all hp
  have cA := fun w h => count_int (N + 1) f w h 0 (s : Int) (by omega) (by omega) (by omega)
  rw [show (0 : Int).toNat = 0 from rfl, Int.toNat_natCast, cnt_zero.2 hp.sc] at cA
  have cB := fun w h => count_int (N + 1) f w h (512 - (e : Int)) (e : Int) (by omega) (by omega) (by omega)
  rw [show (512 - (e : Int)).toNat = 512 - e by omega, Int.toNat_natCast, cnt_zero.2 hp.ec] at cB
  have cS : s < 512 → ∀ w, RowF w (N + 1) f → Calls Tryd.prog 15 #[.pointer (some ⟨N + 1, 0, none⟩), .int .i64 (s : Int)] w fun e w' => e = .returned (.bool true) ∧ w' = w := fun h w hr => by
    have := get_any (N + 1) f w hr s h
    rw [hp.ss h] at this
    exact this
  have cE : e < 512 → ∀ w, RowF w (N + 1) f → Calls Tryd.prog 15 #[.pointer (some ⟨N + 1, 0, none⟩), .int .i64 (511 - (e : Int))] w fun e w' => e = .returned (.bool true) ∧ w' = w := fun h w hr => by
    have := get_any (N + 1) f w hr (511 - e) (by omega)
    rw [hp.es h, show ((511 - e : Nat) : Int) = 511 - (e : Int) by omega] at this
    exact this
  have cF : 0 < m → ∀ w, RowF w (N + 1) f → TabW w → Calls Tryd.prog 18 #[.pointer (some ⟨N + 1, 0, none⟩), .int .i64 (m : Int), .int .i64 0] w fun r w' => ∃ i, r = .returned (.tuple #[.int .i64 i, .bool true]) ∧ Below w.heap.size w w' := fun h w hr ht =>
    (find_any (N + 1) f (m : Int) 0 (by omega) (by omega) w hr ht).mono fun r w' hh => find_yes hp h hh
  have cG : ∀ w, RowF w (N + 1) f → TabW w → Calls Tryd.prog 18 #[.pointer (some ⟨N + 1, 0, none⟩), .int .i64 ((m : Int) + 1), .int .i64 0] w fun r w' => r = .returned (.tuple #[.int .i64 0, .bool false]) ∧ Below w.heap.size w w' := fun w hr ht =>
    (find_any (N + 1) f ((m : Int) + 1) 0 (by omega) (by omega) w hr ht).mono fun r w' hh => find_no hp hh
  have cC := fun w h => count_int (N + 1) f w h 0 512 (by omega) (by omega) (by omega)
  rw [show (0 : Int).toNat = 0 from rfl, show (512 : Int).toNat = 512 from rfl] at cC
  obtain ⟨Ct, hC⟩ : ∃ C : Int, ((cnt f 0 512 : Nat) : Int) = C := ⟨_, rfl⟩
  obtain ⟨A, hA⟩ : ∃ A : Int, (s : Int) = A := ⟨_, rfl⟩
  obtain ⟨M, hM⟩ : ∃ M : Int, (m : Int) = M := ⟨_, rfl⟩
  obtain ⟨E, hE⟩ : ∃ E : Int, (e : Int) = E := ⟨_, rfl⟩
  rw [hC] at cC
  rw [hA] at cA cS
  rw [hE] at cB cE
  rw [hM] at cF cG
  rw [hA, hM, hE]
  have CA := hide cA
  have CB := hide cB
  have CC := hide cC
  have CS : Hid (A < 512 → _) := hide (fun h => cS (by omega))
  have CE : Hid (E < 512 → _) := hide (fun h => cE (by omega))
  have CF : Hid (0 < M → _) := hide (fun h => cF (by omega))
  have CG := hide cG
  have g1 : decide (A < 0) = false := decide_eq_false (by omega)
  have g2 : decide (E < 0) = false := decide_eq_false (by omega)
  have g3 : decide (512 < M) = false := decide_eq_false (by omega)
  have g4 : decide (M < A) = false := decide_eq_false (by omega)
  have g5 : decide (M < E) = false := decide_eq_false (by omega)
  have g6 : decide (M ≤ 512 - Ct) = true := decide_eq_true (by omega)
  have r1 : 0 ≤ A := by omega
  have r2 : 0 ≤ E := by omega
  have r3 : 0 ≤ M := by omega
  have r4 : A ≤ 512 := by omega
  have r5 : E ≤ 512 := by omega
  have r6 : M ≤ 512 := by omega
  have r7 : 0 ≤ Ct := by omega
  have r8 : Ct ≤ 512 := by omega
  have g7 := wrap_in (512 - Ct) (by omega) (by omega)
  have PA : (A < 512 ∧ E < 512 ∧ (0 < M ∨ M ≤ 0)) ∨ (512 ≤ A ∧ 512 ≤ E ∧ 0 < M) := by omega
  clear cA cB cC cS cE cF cG hA hM hE hC p1 p2 p3 p4 p5 p6 pa hp
  simp only [sumV]
  go_wp2_with fail
  obtain ⟨Q, hQ⟩ : ∃ Q, w3.heap.size = Q := ⟨_, rfl⟩
  obtain ⟨W4, hW4⟩ : ∃ W4, w3.alloc (.cells #[.int .i64 A, .int .i64 M, .int .i64 E] 44) = W4 := ⟨_, rfl⟩
  have S4 : Hid (S2 N Q w W4 f A M E) := hide ⟨T3.out.next (by rw [← hW4]; exact (Below.refl _ _).alloc (Nat.le_refl _) _), by rw [← hW4, ← hQ]; exact World.alloc_heap_new w3 _⟩
  rw [hQ, hW4]
  clear hQ hW4 T3
  refine (CA.out _ S4.out.st.ro).mono ?_
  rintro r w5 ⟨rfl, b5⟩
  have S5 := hide (S4.out.next b5)
  clear S4 b5 CA
  have c0 := S5.out.su.c0
  have c1 := S5.out.su.c1
  have c2 := S5.out.su.c2
  go_wp2_with fail
  refine (CB.out _ S5.out.st.ro).mono ?_
  rintro r w6 ⟨rfl, b6⟩
  have S6 := hide (S5.out.next b6)
  clear S5 b6 CB c0 c1 c2
  have c0 := S6.out.su.c0
  have c1 := S6.out.su.c1
  have c2 := S6.out.su.c2
  have fin : ∀ (W : World), S2 N Q w W f A M E → Calls Tryd.prog 17 #[] W fun e w' => e = .returned (.bool true) ∧ Below N w w' := fun W hS => (awake_any W hS.st.ta).mono fun e w' ⟨h1, h2⟩ => ⟨h1, (hS.next h2).st.be⟩
  have FIN := hide fin
  clear fin
  rcases PA with ⟨l1, l2, l3 | l3⟩ | ⟨l1, l2, l3⟩
  · skip
    go_wp2_with fail
    refine (CS.out l1 _ S6.out.st.ro).mono ?_
    rintro r w' ⟨rfl, hw'⟩; rw [hw']; clear hw' w'
    go_wp2_with fail
    refine (CE.out l2 _ S6.out.st.ro).mono ?_
    rintro r w' ⟨rfl, hw'⟩; rw [hw']; clear hw' w'
    go_wp2_with fail
    refine (CF.out l3 _ S6.out.st.ro S6.out.st.ta).mono ?_
    rintro r w7 ⟨i7, rfl, b7⟩
    have S7 := hide (S6.out.next b7)
    clear S6 b7 CF c0 c1 c2
    have c0 := S7.out.su.c0
    have c1 := S7.out.su.c1
    have c2 := S7.out.su.c2
    go_wp2_with fail
    refine (CG.out _ S7.out.st.ro S7.out.st.ta).mono ?_
    rintro r w8 ⟨rfl, b8⟩
    have S8 := hide (S7.out.next b8)
    clear S7 b8 CG c0 c1 c2
    have c0 := S8.out.su.c0
    have c1 := S8.out.su.c1
    have c2 := S8.out.su.c2
    have D8 := hide (S8.out.next (drew_below w8))
    go_wp2_with fail
    go_region_with (first
      | (go_at_call 13; refine (CC.out _ D8.out.st.ro).mono ?_; rintro r w9 ⟨rfl, b9⟩; have S9 := hide (D8.out.next b9); clear b9; have cm := S9.out.su.c1)
      | (go_at_call 17; refine (FIN.out _ S9.out).mono ?_; rintro r w10 ⟨rfl, B10⟩; have B10 := hide B10))
    all_goals
      go_wp2_with fail
      go_ret
      exact ⟨rfl, B10.out⟩
  · skip
    go_wp2_with fail
    refine (CS.out l1 _ S6.out.st.ro).mono ?_
    rintro r w' ⟨rfl, hw'⟩; rw [hw']; clear hw' w'
    go_wp2_with fail
    refine (CE.out l2 _ S6.out.st.ro).mono ?_
    rintro r w' ⟨rfl, hw'⟩; rw [hw']; clear hw' w'
    have S7 := S6
    clear S6
    go_wp2_with fail
    refine (CG.out _ S7.out.st.ro S7.out.st.ta).mono ?_
    rintro r w8 ⟨rfl, b8⟩
    have S8 := hide (S7.out.next b8)
    clear S7 b8 CG c0 c1 c2
    have c0 := S8.out.su.c0
    have c1 := S8.out.su.c1
    have c2 := S8.out.su.c2
    have D8 := hide (S8.out.next (drew_below w8))
    go_wp2_with fail
    go_region_with (first
      | (go_at_call 13; refine (CC.out _ D8.out.st.ro).mono ?_; rintro r w9 ⟨rfl, b9⟩; have S9 := hide (D8.out.next b9); clear b9; have cm := S9.out.su.c1)
      | (go_at_call 17; refine (FIN.out _ S9.out).mono ?_; rintro r w10 ⟨rfl, B10⟩; have B10 := hide B10))
    all_goals
      go_wp2_with fail
      go_ret
      exact ⟨rfl, B10.out⟩
  · have m1 : decide (A < 512) = false := decide_eq_false (by omega)
    have m2 : decide (E < 512) = false := decide_eq_false (by omega)
    clear l1 l2
    go_wp2_with fail
    refine (CF.out l3 _ S6.out.st.ro S6.out.st.ta).mono ?_
    rintro r w7 ⟨i7, rfl, b7⟩
    have S7 := hide (S6.out.next b7)
    clear S6 b7 CF c0 c1 c2
    have c0 := S7.out.su.c0
    have c1 := S7.out.su.c1
    have c2 := S7.out.su.c2
    go_wp2_with fail
    refine (CG.out _ S7.out.st.ro S7.out.st.ta).mono ?_
    rintro r w8 ⟨rfl, b8⟩
    have S8 := hide (S7.out.next b8)
    clear S7 b8 CG c0 c1 c2
    have c0 := S8.out.su.c0
    have c1 := S8.out.su.c1
    have c2 := S8.out.su.c2
    have D8 := hide (S8.out.next (drew_below w8))
    go_wp2_with fail
    go_region_with (first
      | (go_at_call 13; refine (CC.out _ D8.out.st.ro).mono ?_; rintro r w9 ⟨rfl, b9⟩; have S9 := hide (D8.out.next b9); clear b9; have cm := S9.out.su.c1)
      | (go_at_call 17; refine (FIN.out _ S9.out).mono ?_; rintro r w10 ⟨rfl, B10⟩; have B10 := hide B10))
    all_goals
      go_wp2_with fail
      go_ret
      exact ⟨rfl, B10.out⟩
end Go.Proofs.YtgbfkmkinhlimaaDoor
