/- BitsFirst: its walk. -/
import Derived.Test.YtgbfkmkinhlimaaDoorSh
namespace Go.Proofs.YtgbfkmkinhlimaaDoor
open Go.ChangeShapes Go.WideShapes Go.ChangeAt Go.RowKit Go.Proofs.Bt Go.Shelf
set_option linter.unusedVariables false
set_option linter.unusedSimpArgs false

set_option maxRecDepth 100000 in
set_option maxHeartbeats 2000000 in
theorem first_core (g : Nat → Nat) (hg : ∀ k, g k < 18446744073709551616) (n from_ : Int) (h1 : 1 ≤ n) (h2 : n ≤ 512) (h3 : 0 ≤ from_) (h4 : from_ ≤ 512) (w : World) (ht : TabW w) :
    Calls Tryd.prog 5 #[words g, .int .i64 n, .int .i64 from_] w fun e w' => e = .returned (.bool true) ∧ Below w.heap.size w w' := by
  obtain ⟨N, hN⟩ : ∃ N, w.heap.size = N := ⟨_, rfl⟩
  rw [hN]
  obtain ⟨w2, hw2⟩ : ∃ w2, w2 = (w.alloc (.cells (cells8 g) 23)).alloc (.cells (cells8 g) 25) := ⟨_, rfl⟩
  have S2 := hide (st_start g hg w ht w2 hw2 N hN).1
  have HW := hide hw2
  obtain ⟨f, hf⟩ : ∃ f, f = bitW g := ⟨_, rfl⟩
  rw [← hf] at S2
  clear ht hg hw2 hf
  have e1 : decide (n < 1) = false := decide_eq_false (by omega)
  have e2 : decide (512 < n) = false := decide_eq_false (by omega)
  have e3 : decide (from_ < 0) = false := decide_eq_false (by omega)
  have e4 : decide (512 < from_) = false := decide_eq_false (by omega)
  unfold words cells8
  go_enter Tryd.func5, Tryd.ntmps5
  go_wp2_with fail
  have hw := HW.out
  unfold cells8 at hw
  rw [← hw]
  clear hw HW
  refine (find_any (N + 1) f n from_ (by omega) (by omega) w2 S2.out.ro S2.out.ta).mono ?_
  rintro e w3 ⟨i, ok, rfl, hf, b3⟩
  have S3 := hide (S2.out.next b3)
  clear S2 b3
  have fin : ∀ (to : Int), to ≤ 513 - n → (∀ c : Nat, from_.toNat ≤ c → (c : Int) < to → ¬ Clr f c n.toNat) → Hid (to ≤ 513 - n ∧ ∀ k : Int, from_ ≤ k → k < to → cnt f k.toNat n.toNat ≠ 0) := fun to h h' => hide ⟨h, fun k k1 k2 hc => h' k.toNat (by omega) (by omega) (cnt_zero.1 hc)⟩
  rcases hf with ⟨rfl, _, a, rfl, f2, f3, f4, f5⟩ | ⟨rfl, rfl, f2⟩
  · have FN := fin (a : Int) (by omega) (fun c c1 c2 => f5 c c1 (by omega))
    have cz : cnt f a n.toNat = 0 := cnt_zero.2 f4
    have cC := fun w h => count_int (N + 1) f w h (a : Int) n (by omega) (by omega) (by omega)
    rw [Int.toNat_natCast, cz] at cC
    have CC := hide cC
    obtain ⟨A, hA⟩ : ∃ A : Int, (a : Int) = A := ⟨_, rfl⟩
    rw [hA] at FN CC ⊢
    have g1 : from_ ≤ A := by omega
    have g2 : A ≤ 512 - n := by omega
    clear fin f2 f3 f4 f5 cz cC hA
    go_wp2_with fail
    refine (CC.out _ S3.out.ro).mono ?_
    rintro e w4 ⟨rfl, b4⟩
    have S4 := hide (S3.out.next b4)
    clear S3 b4 CC
    go_wp2_with fail
    go_loopw [11] (fun v wr => ∃ k : Int, v = .int .i64 k ∧ from_ ≤ k ∧ k ≤ A ∧ Hid (St N (N + 1) w wr f)) (fun v _ => (A - intOf v).toNat)
    case atStart => exact ⟨from_, rfl, by omega, by omega, S4⟩
    case round =>
      obtain ⟨k, rfl, k1, k2, HS⟩ := hrel
      by_cases hlt : k < A
      · have hne := FN.out.2 k k1 hlt
        have hz : (((cnt f k.toNat n.toNat : Nat) : Int) == 0) = false := by simp; exact hne
        clear hne
        go_wp2_with fail
        refine (count_int (N + 1) f _ HS.out.ro k n (by omega) (by omega) (by omega)).mono ?_
        rintro e w5 ⟨rfl, b5⟩
        have S5 := hide (HS.out.next b5)
        clear b5 HS
        go_wp2_with fail
        refine ⟨⟨k + 1, rfl, by omega, by omega, S5⟩, ?_⟩
        simp [intOf]; omega
      · have hge : A ≤ k := by omega
        clear hlt
        go_wp2_with fail
        refine (awake_any _ HS.out.ta).mono ?_
        rintro e w5 ⟨rfl, b5⟩
        have S5 := hide (HS.out.next b5)
        clear b5 HS
        go_wp2_with fail
        go_ret
        exact ⟨rfl, S5.out.be⟩
  · have FN := fin (513 - n) (by omega) (fun c c1 c2 => by
      rcases f2 with f2 | f2
      · omega
      · exact f2 c c1 (by omega))
    clear fin f2
    go_wp2_with fail
    go_loopw [11] (fun v wr => ∃ k : Int, v = .int .i64 k ∧ from_ ≤ k ∧ (k ≤ 513 - n ∨ k = from_) ∧ Hid (St N (N + 1) w wr f)) (fun v _ => (513 - n - intOf v).toNat)
    case atStart => exact ⟨from_, rfl, by omega, .inr rfl, S3⟩
    case round =>
      obtain ⟨k, rfl, k1, k2, HS⟩ := hrel
      by_cases hlt : k < 513 - n
      · have hne := FN.out.2 k k1 hlt
        have hz : (((cnt f k.toNat n.toNat : Nat) : Int) == 0) = false := by simp; exact hne
        clear hne
        have K2 := hide k2
        clear k2
        go_wp2_with fail
        refine (count_int (N + 1) f _ HS.out.ro k n (by omega) (by omega) (by omega)).mono ?_
        rintro e w5 ⟨rfl, b5⟩
        have S5 := hide (HS.out.next b5)
        clear b5 HS
        go_wp2_with fail
        refine ⟨⟨k + 1, rfl, by omega, .inl (by omega), S5⟩, ?_⟩
        simp [intOf]; omega
      · have hge : 513 - n ≤ k := by omega
        have K2 := hide k2
        clear hlt k2
        go_wp2_with fail
        refine (awake_any _ HS.out.ta).mono ?_
        rintro e w5 ⟨rfl, b5⟩
        have S5 := hide (HS.out.next b5)
        clear b5 HS
        go_wp2_with fail
        go_ret
        exact ⟨rfl, S5.out.be⟩
theorem first_out (g : Nat → Nat) (n from_ : Int) (h : n < 1 ∨ 512 < n ∨ from_ < 0 ∨ 512 < from_) (w : World) :
    Calls Tryd.prog 5 #[words g, .int .i64 n, .int .i64 from_] w fun e w' => e = .returned (.bool true) ∧ Below w.heap.size w w' := by
  unfold words cells8
  have q : decide (n < 1) = true ∨ (decide (n < 1) = false ∧ (decide (512 < n) = true ∨ (decide (512 < n) = false ∧ (decide (from_ < 0) = true ∨ (decide (from_ < 0) = false ∧ decide (512 < from_) = true))))) := by
    by_cases a : n < 1
    · exact .inl (decide_eq_true a)
    · refine .inr ⟨decide_eq_false a, ?_⟩
      by_cases b : 512 < n
      · exact .inl (decide_eq_true b)
      · refine .inr ⟨decide_eq_false b, ?_⟩
        by_cases c : from_ < 0
        · exact .inl (decide_eq_true c)
        · exact .inr ⟨decide_eq_false c, decide_eq_true (by omega)⟩
  clear h
  rcases q with e1 | ⟨e1, e2 | ⟨e2, e3 | ⟨e3, e4⟩⟩⟩
  all_goals
    go_enter Tryd.func5, Tryd.ntmps5
    go_wp2_with fail
    go_ret
    exact ⟨rfl, (Below.refl _ w).alloc (Nat.le_refl _) _⟩
theorem first_any (g : Nat → Nat) (hg : ∀ k, g k < 18446744073709551616) (n from_ : Int) (w : World) (ht : TabW w) :
    Calls Tryd.prog 5 #[words g, .int .i64 n, .int .i64 from_] w fun e w' => e = .returned (.bool true) ∧ Below w.heap.size w w' := by
  by_cases h : n < 1 ∨ 512 < n ∨ from_ < 0 ∨ 512 < from_
  · exact first_out g n from_ h w
  · exact first_core g hg n from_ (by omega) (by omega) (by omega) (by omega) w ht
end Go.Proofs.YtgbfkmkinhlimaaDoor
