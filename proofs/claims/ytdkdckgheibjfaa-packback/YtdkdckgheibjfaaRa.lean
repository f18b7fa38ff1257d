/- The reference's Pack, Unpack, Right, right. -/
import Derived.Test.YtdkdckgheibjfaaPe
namespace Go.Proofs.Ytdkdckgheibjfaa
open Go.ChangeShapes Go.WideShapes Go.ChangeAt Go.RowKit Go.Proofs.Pk Go.Maps
set_option linter.unusedVariables false
set_option linter.unusedSimpArgs false

set_option maxRecDepth 100000 in
theorem rpack_any (a : Sm) (v e : Int) (h : PackV a v e) (w : World) : Calls Try.prog 9 #[sumV a] w fun r w' => r = .returned (.tuple #[.int .u64 v, .int .i64 e]) ∧ Below w.heap.size w w' := by
  obtain ⟨s, m, y⟩ := a
  unfold sumV
  have nz : ¬ Bnd ⟨s, m, y⟩ 2097152 → decide (s < 0) = true ∨ decide (s < 0) = false ∧ (decide (m < 0) = true ∨ decide (m < 0) = false ∧ (decide (y < 0) = true ∨ decide (y < 0) = false ∧ (decide (2097152 < s) = true ∨ decide (2097152 < s) = false ∧ (decide (2097152 < m) = true ∨ decide (2097152 < m) = false ∧ (decide (2097152 < y) = true ∨ decide (2097152 < y) = false ∧ (decide (m < s) = true ∨ decide (m < s) = false ∧ (decide (m < y) = true ∨ decide (m < y) = false ∧ (m == 2097152) = true ∧ ((s == 2097152) = false ∨ (s == 2097152) = true ∧ (y == 2097152) = false)))))))) := by
    unfold Bnd
    dsimp only
    simp only [decide_eq_true_eq, decide_eq_false_iff_not, beq_eq_false_iff_ne, beq_iff_eq, ne_eq]
    omega
  have yz : Bnd ⟨s, m, y⟩ 2097152 → decide (s < 0) = false ∧ decide (m < 0) = false ∧ decide (y < 0) = false ∧ decide (2097152 < s) = false ∧ decide (2097152 < m) = false ∧ decide (2097152 < y) = false ∧ decide (m < s) = false ∧ decide (m < y) = false := by
    unfold Bnd
    dsimp only
    simp only [decide_eq_true_eq, decide_eq_false_iff_not, beq_eq_false_iff_ne, beq_iff_eq, ne_eq]
    omega
  cases h with
  | no h =>
    have q := nz h
    clear h nz yz
    rcases q with d1 | ⟨d1, d2 | ⟨d2, d3 | ⟨d3, d4 | ⟨d4, d5 | ⟨d5, d6 | ⟨d6, d7 | ⟨d7, d8 | ⟨d8, d9, d10 | ⟨d10, d11⟩⟩⟩⟩⟩⟩⟩⟩⟩
    all_goals
      go_enter Try.func9, Try.ntmps9
      go_wp2_with fail
      exact bodyPost_ret (results_tmp2 Try.results9 _ _ _) rfl ⟨rfl, alloc1 _ _⟩
  | full h hm =>
    obtain ⟨d1, d2, d3, d4, d5, d6, d7, d8⟩ := yz h
    dsimp only at hm
    obtain ⟨_, _, _, _, _, h6⟩ := h
    dsimp only at h6
    have d9 : (s == 2097152) = true := beq_iff_eq.2 (by omega)
    have d10 : (y == 2097152) = true := beq_iff_eq.2 (by omega)
    clear hm h6 nz yz
    go_enter Try.func9, Try.ntmps9
    go_wp2_with fail
    exact bodyPost_ret (results_tmp2 Try.results9 _ _ _) rfl ⟨rfl, alloc1 _ _⟩
  | low h hm =>
    obtain ⟨d1, d2, d3, d4, d5, d6, d7, d8⟩ := yz h
    obtain ⟨h1, h2, h3, h4, h5, h6⟩ := h
    dsimp only at h1 h2 h3 h4 h5 h6 hm
    have d9 : (s == 2097152) = false := beq_eq_false_iff_ne.2 (by omega)
    have d10 : (m == 2097152) = false := beq_eq_false_iff_ne.2 (by omega)
    have b1 : s < 2097152 := by omega
    have b2 : y < 2097152 := by omega
    have b3 : 0 ≤ m := by omega
    dsimp only
    clear h5 h6 nz yz h3 h4
    go_enter Try.func9, Try.ntmps9
    go_wp2_with fail
    refine bodyPost_ret (results_tmp2 Try.results9 _ _ _) rfl ⟨?_, alloc1 _ _⟩
    congr 5
    simp
    omega
set_option maxRecDepth 100000 in
theorem runpack_any (x : Int) (h0 : 0 ≤ x) (h1 : x < 18446744073709551616) (a : Sm) (e : Int) (h : UnV x a e) (w : World) : Calls Try.prog 11 #[.int .u64 x] w fun r w' => r = .returned (.tuple #[sumV a, .int .i64 e]) ∧ Below w.heap.size w w' := by
  obtain ⟨N, hN⟩ : ∃ N, w.heap.size = N := ⟨_, rfl⟩
  have NB : ∀ x y z : Int, Hid (Bx N N w (w.alloc (.cells #[.int .i64 x, .int .i64 y, .int .i64 z] 23)) x y z) := fun x y z => hide (by rw [← hN]; exact Bx.new (Below.refl _ _) (Nat.le_refl _))
  have w1 := wrap64_small (x % 2097152) (by omega) (by omega)
  have w2 := wrap64_small (x / 2097152 % 2097152) (by omega) (by omega)
  have w3 := wrap64_small (x / 2097152 / 2097152) (by omega) (by omega)
  have e2 : x / 2097152 / 2097152 = x / 4398046511104 := by omega
  cases h with
  | full h =>
    subst h
    go_enter Try.func11, Try.ntmps11
    go_wp2_with fail
    exact bodyPost_ret (ret_ce Try.results11 rfl rfl (NB _ _ _).out) rfl ⟨rfl, by first | exact (NB _ _ _).out.be | (rw [hN]; exact (NB _ _ _).out.be)⟩
  | high h =>
    have d : (x == 9223372036854775808) = false := beq_eq_false_iff_ne.2 (by omega)
    have d2 : decide (9223372036854775808 < x) = true := decide_eq_true h
    go_enter Try.func11, Try.ntmps11
    go_wp2_with fail
    exact bodyPost_ret (ret_ce Try.results11 rfl rfl (NB _ _ _).out) rfl ⟨rfl, by first | exact (NB _ _ _).out.be | (rw [hN]; exact (NB _ _ _).out.be)⟩
  | bad h hn =>
    have d : (x == 9223372036854775808) = false := beq_eq_false_iff_ne.2 (by omega)
    have d2 : decide (9223372036854775808 < x) = false := decide_eq_false (by omega)
    have q : decide (x / 2097152 % 2097152 < x % 2097152) = true ∨ decide (x / 2097152 % 2097152 < x % 2097152) = false ∧ decide (x / 2097152 % 2097152 < x / 4398046511104) = true := by
      unfold Bnd parts at hn
      dsimp only at hn
      simp only [decide_eq_true_eq, decide_eq_false_iff_not]
      omega
    rw [← e2] at q
    clear hn e2
    obtain ⟨A, hA⟩ : ∃ A, x % 2097152 = A := ⟨_, rfl⟩
    obtain ⟨B, hB⟩ : ∃ A, x / 2097152 % 2097152 = A := ⟨_, rfl⟩
    obtain ⟨C, hC⟩ : ∃ A, x / 2097152 / 2097152 = A := ⟨_, rfl⟩
    rw [hA, hB, hC] at q
    rw [hA] at w1
    rw [hB] at w2
    rw [hC] at w3
    rcases q with q | ⟨q, q2⟩
    all_goals
      go_enter Try.func11, Try.ntmps11
      go_wp2_with fail
      have F := (NB 0 0 0).out.next (alloc1 _ (.cells #[.int .i64 A, .int .i64 B, .int .i64 C] 23))
      exact bodyPost_ret (ret_ce Try.results11 rfl rfl F) rfl ⟨rfl, by first | exact F.be | (rw [hN]; exact F.be)⟩
  | low h hb =>
    have d : (x == 9223372036854775808) = false := beq_eq_false_iff_ne.2 (by omega)
    have d2 : decide (9223372036854775808 < x) = false := decide_eq_false (by omega)
    have q1 : decide (x / 2097152 % 2097152 < x % 2097152) = false := by
      unfold Bnd parts at hb
      dsimp only at hb
      simp only [decide_eq_false_iff_not]
      omega
    have q2 : decide (x / 2097152 % 2097152 < x / 2097152 / 2097152) = false := by
      unfold Bnd parts at hb
      dsimp only at hb
      simp only [decide_eq_false_iff_not]
      omega
    unfold parts
    rw [← e2]
    clear hb e2
    obtain ⟨A, hA⟩ : ∃ A, x % 2097152 = A := ⟨_, rfl⟩
    obtain ⟨B, hB⟩ : ∃ A, x / 2097152 % 2097152 = A := ⟨_, rfl⟩
    obtain ⟨C, hC⟩ : ∃ A, x / 2097152 / 2097152 = A := ⟨_, rfl⟩
    rw [hA, hB] at q1
    rw [hB, hC] at q2
    rw [hA] at w1
    rw [hB] at w2
    rw [hC] at w3
    rw [hA, hB, hC]
    go_enter Try.func11, Try.ntmps11
    go_wp2_with fail
    have F := (NB A B C).out.next (alloc1 _ (.cells #[.int .i64 A, .int .i64 B, .int .i64 C] 23))
    exact bodyPost_ret (ret_ce Try.results11 rfl rfl F) rfl ⟨rfl, by first | exact F.be | (rw [hN]; exact F.be)⟩
theorem Right_yes (a : Sm) (p : Int) (h : Rgt a p) (h2 : p ≤ 2097152) (w : World) : Calls Try.prog 24 #[sumV a, .int .i64 p] w fun e w' => e = .returned (.bool true) ∧ Below w.heap.size w w' := by
  obtain ⟨s, m, y⟩ := a
  unfold sumV
  obtain ⟨⟨h1, h2, h3, h4, h5, h6⟩, h7⟩ := h
  dsimp only at h1 h2 h3 h4 h5 h6 h7
  have d1 : decide (s < 0) = false := decide_eq_false (by omega)
  have d2 : decide (m < 0) = false := decide_eq_false (by omega)
  have d3 : decide (y < 0) = false := decide_eq_false (by omega)
  have d4 : decide (m < s) = false := decide_eq_false (by omega)
  have d5 : decide (m < y) = false := decide_eq_false (by omega)
  have d6 : decide (p < m) = false := decide_eq_false (by omega)
  by_cases c : m = p
  · have d7 : (s == p) = true := beq_iff_eq.2 (by omega)
    have d8 : (m == p) = true := beq_iff_eq.2 (by omega)
    have d9 : (y == p) = true := beq_iff_eq.2 (by omega)
    clear h1 h2 h3 h4 h5 h6 h7 c
    go_enter Try.func24, Try.ntmps24
    go_wp2_with fail
    go_ret
    exact ⟨rfl, alloc1 _ _⟩
  · have d7 : (s == p) = false := beq_eq_false_iff_ne.2 (by omega)
    have d8 : (m == p) = false := beq_eq_false_iff_ne.2 (by omega)
    have d9 : (y == p) = false := beq_eq_false_iff_ne.2 (by omega)
    have d10 : decide (p ≤ s + y) = false := decide_eq_false (by omega)
    have b1 : 0 ≤ s + y := by omega
    have b2 : s + y ≤ 4194304 := by omega
    clear h1 h2 h3 h4 h5 h6 h7 c
    go_enter Try.func24, Try.ntmps24
    go_wp2_with fail
    go_ret
    exact ⟨rfl, alloc1 _ _⟩
set_option maxRecDepth 100000 in
theorem Right_no (a : Sm) (p : Int) (h : ¬ Rgt a p) (hp : p ≤ 2097152) (w : World) : Calls Try.prog 24 #[sumV a, .int .i64 p] w fun e w' => e = .returned (.bool false) ∧ Below w.heap.size w w' := by
  obtain ⟨s, m, y⟩ := a
  unfold sumV
  have q : decide (s < 0) = true ∨ decide (s < 0) = false ∧ (decide (m < 0) = true ∨ decide (m < 0) = false ∧ (decide (y < 0) = true ∨ decide (y < 0) = false ∧ (decide (m < s) = true ∨ decide (m < s) = false ∧ (decide (m < y) = true ∨ decide (m < y) = false ∧ (decide (p < m) = true ∨ decide (p < m) = false ∧ (0 ≤ s + y ∧ s + y ≤ 4194304) ∧ ((s == p) = true ∧ (m == p) = true ∧ (y == p) = false ∨ (s == p) = false ∧ ((m == p) = true ∨ (m == p) = false ∧ (y == p) = false ∧ decide (p ≤ s + y) = true))))))) := by
    unfold Rgt Bnd at h
    dsimp only at h
    simp only [decide_eq_true_eq, decide_eq_false_iff_not, beq_eq_false_iff_ne, beq_iff_eq, ne_eq]
    omega
  clear h
  rcases q with d1 | ⟨d1, d2 | ⟨d2, d3 | ⟨d3, d4 | ⟨d4, d5 | ⟨d5, d6 | ⟨d6, ⟨b1, b2⟩, ⟨d7, d8, d9⟩ | ⟨d7, d8 | ⟨d8, d9, d10⟩⟩⟩⟩⟩⟩⟩⟩
  all_goals
    go_enter Try.func24, Try.ntmps24
    go_wp2_with fail
    go_ret
    exact ⟨rfl, alloc1 _ _⟩
set_option maxRecDepth 100000 in
theorem rrows_core {w : World} {v : Value} {t : List Sm} {T : Nat → Prop} (h : SumsAt w v t T) (p : Int) : Calls Try.prog 22 #[v, .int .i64 p] w (RowsP t p w) := by
  obtain ⟨o, cap, rfl, h1, h2⟩ := h.shape
  have H := hide h
  obtain ⟨PO, hPO⟩ : ∃ PO, PO = RowsP t p w := ⟨_, rfl⟩
  rw [← hPO]
  have HP := hide hPO
  obtain ⟨n, hn⟩ : ∃ n, t.length = n := ⟨_, rfl⟩
  have HN := hide hn
  rw [hn] at H h1 ⊢
  clear h hPO hn
  have bad : ¬ (1 ≤ p ∧ p ≤ 2097152 ∧ n ≤ 64) → Hid (PO (.returned (.bool false)) w) := fun z => hide (by rw [HP.out]; exact RowsP.no (fun y => z ⟨y.p1, y.p2, by rw [← HN.out]; exact y.len⟩) (Below.refl _ _))
  have q : decide (p < 1) = true ∨ decide (p < 1) = false ∧ (decide (2097152 < p) = true ∨ decide (2097152 < p) = false ∧ (decide (64 < (n : Int)) = true ∨ decide (64 < (n : Int)) = false)) := by
    simp only [decide_eq_true_eq, decide_eq_false_iff_not]
    omega
  rcases q with d1 | ⟨d1, d2 | ⟨d2, d3 | d3⟩⟩
  · have FN := bad (by simp only [decide_eq_true_eq] at d1; omega)
    clear bad H HP
    go_enter Try.func22, Try.ntmps22
    go_wp2_with fail
    first | exact FN.out | (go_ret; exact FN.out)
  · have FN := bad (by simp only [decide_eq_true_eq] at d2; omega)
    clear bad H HP
    go_enter Try.func22, Try.ntmps22
    go_wp2_with fail
    first | exact FN.out | (go_ret; exact FN.out)
  · have FN := bad (by simp only [decide_eq_true_eq] at d3; omega)
    clear bad H HP
    go_enter Try.func22, Try.ntmps22
    go_wp2_with fail
    first | exact FN.out | (go_ret; exact FN.out)
  · have z1 : 1 ≤ p := by simp only [decide_eq_false_iff_not] at d1; omega
    have z2 : p ≤ 2097152 := by simp only [decide_eq_false_iff_not] at d2; omega
    have z3 : n ≤ 64 := by simp only [decide_eq_false_iff_not] at d3; omega
    clear bad
    go_enter Try.func22, Try.ntmps22
    go_wp2_with fail
    go_loopw [5] (fun iv wr => ∃ (i : Nat), iv = .int .i64 (i : Int) ∧ i ≤ n ∧ Hid (∀ j, j < i → Rgt (nth t j) p) ∧ Hid (Below w.heap.size w wr)) (fun iv _ => n - (intOf iv).toNat)
    case atStart => exact ⟨0, rfl, Nat.zero_le _, hide (fun j hj => by omega), hide (Below.refl _ _)⟩
    case round =>
      obtain ⟨i, rfl, hi, ha, hB⟩ := hrel
      by_cases hlt : i < n
      · obtain ⟨g, off, x, rfl, hx, hg, c0, c1, c2⟩ := H.out.at hB.out hlt
        have i1 : (i : Int) < (n : Int) := by omega
        have i2 : (0 : Int) ≤ (i : Int) := by omega
        have hxn := nth_at hx
        clear hx
        by_cases e : Rgt x p
        · have CB := fun w => hide (Right_yes x p e z2 w)
          have ha' : Hid (∀ j, j < i + 1 → Rgt (nth t j) p) := hide (fun j hj => by
            by_cases z : j = i
            · subst z; rw [hxn]; exact e
            · exact ha.out j (by omega))
          clear hxn e ha
          obtain ⟨s, m, y⟩ := x
          unfold sumV at CB
          dsimp only at CB c0 c1 c2
          go_wp2_with fail
          refine (CB _).out.mono ?_
          rintro e w' ⟨rfl, hb⟩
          have HB := hide (hB.out.trans (hb.mono hB.out.size))
          clear hb CB
          go_wp2_with fail
          go_roundw
          case rel => exact ⟨i + 1, by go_num, by omega, ha', HB⟩
          case measure => simp [intOf]; omega
        · have CB := fun w => hide (Right_no x p e z2 w)
          have NR : Hid (¬ RR t p) := hide (fun z => e (by have := z.all i (by rw [HN.out]; exact hlt); rwa [hxn] at this))
          clear hxn e ha
          obtain ⟨s, m, y⟩ := x
          unfold sumV at CB
          dsimp only at CB c0 c1 c2
          go_wp2_with fail
          refine (CB _).out.mono ?_
          rintro e w' ⟨rfl, hb⟩
          have FN : Hid (PO (.returned (.bool false)) w') := hide (by rw [HP.out]; exact RowsP.no NR.out (hB.out.trans (hb.mono hB.out.size)))
          clear hb CB
          go_wp2_with fail
          first | exact FN.out | (go_ret; exact FN.out)
      · obtain rfl : i = n := by omega
        have FN : Hid (PO (.returned (.bool true)) wr) := hide (by rw [HP.out]; exact RowsP.yes ⟨z1, z2, by rw [HN.out]; exact z3, fun j hj => ha.out j (by rw [← HN.out]; exact hj)⟩ hB.out)
        have d0 : ¬ (i : Int) < (i : Int) := by omega
        clear ha HP
        go_wp2_with fail
        first | exact FN.out | (go_ret; exact FN.out)
end Go.Proofs.Ytdkdckgheibjfaa
