/- PackWhole: its walk. -/
import Derived.Test.YtdkdckgheibjfaaPg
import Derived.Test.YtdkdckgheibjfaaPl
namespace Go.Proofs.Ytdkdckgheibjfaa
open Go.ChangeShapes Go.WideShapes Go.ChangeAt Go.RowKit Go.Proofs.Pk Go.Maps
set_option linter.unusedVariables false
set_option linter.unusedSimpArgs false

theorem rep_nth (s : Sm) (n j : Nat) (h : j < n) : nth (List.replicate n s) j = s := nth_at (by rw [List.getElem?_replicate, if_pos h])
theorem rep_snoc (s : Sm) (i : Nat) : List.replicate i s ++ [s] = List.replicate (i + 1) s := by rw [List.replicate_succ']
theorem rep_rr {s : Sm} {n : Nat} {p : Int} (h1 : 1 ≤ p) (h2 : p ≤ 32768) (hn : n ≤ 64) (hs : Rgt s p) : RR (List.replicate n s) p := ⟨h1, by omega, by rw [List.length_replicate]; exact hn, fun j hj => by rw [List.length_replicate] at hj; rw [rep_nth s n j hj]; exact hs⟩
set_option maxRecDepth 100000 in
set_option maxHeartbeats 2000000 in
theorem whole_core (n : Nat) (p : Int) (free : Bool) (s : Sm) (B : Int) (hs : Hid (if free then s = ⟨p, p, p⟩ ∧ B = (n : Int) * p else s = ⟨0, 0, 0⟩ ∧ B = 0)) (n1 : 1 ≤ n) (n2 : n ≤ 64) (p1 : 1 ≤ p) (p2 : p ≤ 32768) (w : World) :
    Calls Try.prog 7 #[.int .i64 (n : Int), .int .i64 p, .bool free] w fun e w' => e = .returned (.bool true) ∧ Below w.heap.size w w' := by
  obtain ⟨N, hN⟩ : ∃ N : Int, (n : Int) = N := ⟨_, rfl⟩
  have z1 : 1 ≤ N := by omega
  have z2 : N ≤ 64 := by omega
  have qb : N * p ≤ 2097152 := by
    have : N * p ≤ 64 * p := Int.mul_le_mul_of_nonneg_right (by omega) (by omega)
    omega
  have qa : 1 ≤ N * p := by
    have : 1 * p ≤ N * p := Int.mul_le_mul_of_nonneg_right (by omega) (by omega)
    omega
  have QA := hide qa
  have d1 : decide (N < 1) = false := decide_eq_false (by omega)
  have d2 : decide (64 < N) = false := decide_eq_false (by omega)
  have d3 : decide (p < 1) = false := decide_eq_false (by omega)
  have d4 : decide (32768 < p) = false := decide_eq_false (by omega)
  have hrg : Rgt s p := by
    have := hs.out
    cases free
    · rw [this.1]; exact rgt_zero p p1
    · rw [this.1]; exact rgt_full p p1
  have RRH := hide (rep_rr p1 p2 n2 hrg)
  have nn : ∀ j, j < n → nth (List.replicate n s) j = s := fun j hj => rep_nth s n j hj
  have MG : Hid (mg p (nth (List.replicate n s)) (List.replicate n s).length = ⟨B, B, B⟩) := hide (by
    rw [List.length_replicate]
    have := hs.out
    cases free
    · rw [this.2]; exact mg_none p1 n (fun j hj => (nn j hj).trans this.1)
    · rw [this.2]; exact mg_full p1 n (fun j hj => (nn j hj).trans this.1))
  have F1 : Hid (FitP p (N * p) (nth (List.replicate n s)) (List.replicate n s).length 0 free) := hide (by
    have hm := MG.out
    rw [List.length_replicate] at hm ⊢
    have := hs.out
    cases free
    · exact fit_none qa (by rw [hm, this.2]; dsimp only; omega)
    · rw [← hN]; exact fit_full p1 n1 (fun j hj => (nn j hj).trans this.1))
  have F2 : Hid (FitP p (N * p + 1) (nth (List.replicate n s)) (List.replicate n s).length 0 false) := hide (by
    have hm := MG.out
    have := hs.out
    refine fit_none (by omega) ?_
    rw [hm]
    dsimp only
    cases free
    · rw [this.2]; omega
    · rw [this.2, hN]; omega)
  clear nn hrg
  obtain ⟨S, M, E⟩ := s
  rw [hN]
  have HS := hs
  clear hs
  go_enter Try.func7, Try.ntmps7
  go_wp2_with fail
  go_loopw [7, 8] (fun lv iv wr => ∃ (i : Nat), iv = .int .i64 (i : Int) ∧ (i : Int) ≤ N ∧ Hid (Os w wr lv (List.replicate i ⟨S, M, E⟩))) (fun _ iv _ => (N - intOf iv).toNat)
  case atStart => exact ⟨0, rfl, by omega, hide (Os.start w)⟩
  case round =>
    obtain ⟨i, rfl, hi, hO⟩ := hrel
    obtain ⟨o, c, hv⟩ := hO.out.shape
    subst hv
    by_cases hlt : (i : Int) < N
    · obtain ⟨W1, hW1⟩ : ∃ W1, W1 = wr.alloc (.cells #[.int .i64 S, .int .i64 M, .int .i64 E] 23) := ⟨_, rfl⟩
      have hz : W1.heap.size = wr.heap.size + 1 := by rw [hW1]; simp
      have O1 := hO.out.next (show Below wr.heap.size wr W1 by rw [hW1]; exact alloc1 _ _)
      obtain ⟨g, cap, w3, r3, O3⟩ := O1.push (by rw [List.length_replicate]; omega) ⟨S, M, E⟩ 32
      rw [rep_snoc] at O3
      dsimp only at r3
      rw [hz, hW1] at r3
      have R3 := hide r3
      have OO := hide O3
      have hl : (List.replicate i (⟨S, M, E⟩ : Sm)).length = i := List.length_replicate
      rw [hl] at R3 OO ⊢
      clear r3 O3 O1 hW1 hz hl hO
      have CS : free = true ∧ Hid (S = p ∧ M = p ∧ E = p) ∨ free = false ∧ Hid (S = 0 ∧ M = 0 ∧ E = 0) := by
        have := HS.out
        cases free
        · exact .inr ⟨rfl, hide (by have := this.1; injection this with a b c; exact ⟨a, b, c⟩)⟩
        · exact .inl ⟨rfl, hide (by have := this.1; injection this with a b c; exact ⟨a, b, c⟩)⟩
      rcases CS with ⟨rfl, CS⟩ | ⟨rfl, CS⟩
      all_goals
        obtain ⟨a, b, c⟩ := CS.out
        subst a b c
        clear HS F1 F2 MG RRH
        go_wp2_with (at_builtin; refine list_append_run (by rfl) (.tmp 44) (.tmp 46) 32 (by rfl) (by rfl) (by rfl) R3.out ?_)
        go_roundw
        case rel => exact ⟨i + 1, by go_num, by omega, OO⟩
        case measure => simp [intOf]; omega
    · have hin : i = n := by omega
      subst hin
      have d0 : ¬ (i : Int) < N := hlt
      have A0 := hide hO.out.sums
      have hl : (List.replicate i (⟨S, M, E⟩ : Sm)).length = i := List.length_replicate
      have BE := hide hO.out.be
      rw [hl] at A0 ⊢
      clear hO hl
      go_wp2_with fail
      refine (merge_core A0.out p).mono ?_
      intro e w1 h1
      obtain ⟨rfl, b1⟩ := h1.at RRH.out
      rw [MG.out]
      have B1 := hide (BE.out.trans (b1.mono BE.out.size))
      have A1 := hide (A0.out.below b1)
      clear h1 b1 A0 BE MG
      unfold sumV
      dsimp only
      have BB : free = true ∧ B = N * p ∨ free = false ∧ B = 0 := by
        have := HS.out
        rw [hN] at this
        cases free
        · exact .inr ⟨rfl, this.2⟩
        · exact .inl ⟨rfl, this.2⟩
      clear HS
      obtain ⟨w2, hw2⟩ : ∃ w2, w2 = w1.alloc (.cells #[.int .i64 B, .int .i64 B, .int .i64 B] 23) := ⟨_, rfl⟩
      obtain ⟨w3, hw3⟩ : ∃ w3, w3 = w2.alloc (.cells #[.int .i64 B, .int .i64 B, .int .i64 B] 23) := ⟨_, rfl⟩
      have B2 : Hid (Below w.heap.size w w2) := hide (by rw [hw2]; exact B1.out.alloc B1.out.size _)
      have X2 : Bx w.heap.size w1.heap.size w w2 B B B := by rw [hw2]; exact Bx.new B1.out B1.out.size
      have X3 : Hid (Bx w.heap.size w1.heap.size w w3 B B B) := hide (X2.next (by rw [hw3]; exact alloc1 _ _))
      have Y3 : Hid (Bx w.heap.size w2.heap.size w w3 B B B) := hide (by rw [hw3]; exact Bx.new B2.out B2.out.size)
      have hz : w2.heap.size = w1.heap.size + 1 := by rw [hw2]; simp
      rw [hz] at Y3
      have A3 := hide ((A1.out.below (show Below w1.heap.size w1 w2 by rw [hw2]; exact alloc1 _ _)).below (show Below w2.heap.size w2 w3 by rw [hw3]; exact alloc1 _ _))
      have HW : Hid (w3 = (w1.alloc (.cells #[.int .i64 B, .int .i64 B, .int .i64 B] 23)).alloc (.cells #[.int .i64 B, .int .i64 B, .int .i64 B] 23)) := hide (by rw [hw3, hw2])
      clear hw2 hw3 B2 X2 hz A1 B1
      rcases BB with ⟨rfl, rfl⟩ | ⟨rfl, rfl⟩
      all_goals
        go_wp2_with fail
        rw [← HW.out]
        refine (fits_core A3.out p _).mono ?_
        intro e w4 h4
        obtain ⟨rfl, b4⟩ := h4.at QA.out RRH.out F1.out
        have X4 := hide (X3.out.next b4)
        have Y4 := hide (Y3.out.next b4)
        have A4 := hide (A3.out.below b4)
        clear h4 b4 X3 Y3 A3 HW
        go_wp2_with fail
        refine (fits_core A4.out p _).mono ?_
        intro e w5 h5
        obtain ⟨rfl, b5⟩ := h5.at (by have := QA.out; omega) RRH.out F2.out
        have X5 := hide (X4.out.next b5)
        have Y5 := hide (Y4.out.next b5)
        have x0 := X5.out.c0
        have x1 := X5.out.c1
        have x2 := X5.out.c2
        have y0 := Y5.out.c0
        have y1 := Y5.out.c1
        have y2 := Y5.out.c2
        clear h5 b5 X4 Y4 A4
        go_wp2_with fail
        refine (awake_any _).mono ?_
        rintro _ w6 ⟨rfl, b6⟩
        have F := hide (X5.out.next b6)
        clear b6
        go_wp2_with fail
        go_ret
        exact ⟨rfl, F.out.be⟩
theorem whole_out (n p : Int) (free : Bool) (h : n < 1 ∨ 64 < n ∨ p < 1 ∨ 32768 < p) (w : World) :
    Calls Try.prog 7 #[.int .i64 n, .int .i64 p, .bool free] w fun e w' => e = .returned (.bool true) ∧ Below w.heap.size w w' := by
  have q : decide (n < 1) = true ∨ (decide (n < 1) = false ∧ (decide (64 < n) = true ∨ (decide (64 < n) = false ∧ (decide (p < 1) = true ∨ (decide (p < 1) = false ∧ decide (32768 < p) = true))))) := by
    simp only [decide_eq_true_eq, decide_eq_false_iff_not]
    omega
  clear h
  rcases q with e1 | ⟨e1, e2 | ⟨e2, e3 | ⟨e3, e4⟩⟩⟩
  all_goals
    go_enter Try.func7, Try.ntmps7
    go_wp2_with fail
    go_ret
    exact ⟨rfl, Below.refl _ _⟩
theorem whole_any (n p : Int) (free : Bool) (w : World) :
    Calls Try.prog 7 #[.int .i64 n, .int .i64 p, .bool free] w fun e w' => e = .returned (.bool true) ∧ Below w.heap.size w w' := by
  by_cases h : n < 1 ∨ 64 < n ∨ p < 1 ∨ 32768 < p
  · exact whole_out n p free h w
  · obtain ⟨k, rfl⟩ := Int.eq_ofNat_of_zero_le (show 0 ≤ n by omega)
    cases free
    · exact whole_core k p false ⟨0, 0, 0⟩ 0 (hide ⟨rfl, rfl⟩) (by omega) (by omega) (by omega) (by omega) w
    · exact whole_core k p true ⟨p, p, p⟩ _ (hide ⟨rfl, rfl⟩) (by omega) (by omega) (by omega) (by omega) w
end Go.Proofs.Ytdkdckgheibjfaa
