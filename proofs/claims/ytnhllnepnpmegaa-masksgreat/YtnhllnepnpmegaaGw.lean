/- MasksGreat: the walk. -/
import Derived.Test.YtnhllnepnpmegaaGt
namespace Go.Proofs.Ytnhllnepnpmegaa
open Go.ChangeShapes Go.WideShapes Go.ChangeAt Go.RowKit Go.Shelf Go.Proofs.Rx Go.Maps Go.Proofs.Bt
set_option linter.unusedVariables false
set_option linter.unusedSimpArgs false

attribute [local go_sem] Oper.semAt_some

def gF (len n : Nat) (X : Nat → Bool) : Nat → Bool := writeF (fun _ => false) 1099511627776 (8 * (len * n)) (len : Int) len n X
section
variable {len n : Nat} {X : Nat → Bool}
theorem great_lim (h1 : 1 ≤ len) (h4 : n ≤ 68719476736 / len) : len * n ≤ 68719476736 := by
  have := (Nat.le_div_iff_mul_le (show 0 < len by omega)).1 h4
  rw [Nat.mul_comm]; exact this
theorem great_part {i j : Nat} (h1 : 1 ≤ len) (hj : 1 ≤ j) (h : i + j ≤ n) (h4 : n ≤ 68719476736 / len) : Right (1099511627776 + 8 * (len * i)) (8 * (len * j)) := by
  have l := great_lim h1 h4
  have l2 : len * (i + j) ≤ len * n := Nat.mul_le_mul_left _ h
  rw [Nat.mul_add] at l2
  have l3 : 1 ≤ len * j := Nat.mul_pos h1 hj
  refine ⟨by omega, by omega, by omega, by omega, by omega⟩
theorem great_E (h1 : 1 ≤ len) (h2 : len ≤ 1000) (h3 : 1 ≤ n) (h4 : n ≤ 68719476736 / len) : writeE 1099511627776 (8 * (len * n)) (len : Int) len n = 0 := by
  unfold writeE
  have r := great_part (i := 0) h1 h3 (by omega) h4
  rw [Nat.mul_zero, Nat.mul_zero, Nat.add_zero] at r
  rw [if_pos ⟨r, by unfold RightT; omega⟩, if_neg]
  rw [show 8 * (len * n) / 8 = len * n by omega, Nat.mul_div_cancel_left n (show 0 < len by omega)]
  omega
theorem gF_eq (h1 : 1 ≤ len) (h2 : len ≤ 1000) (h3 : 1 ≤ n) (h4 : n ≤ 68719476736 / len) (x : Nat) : gF len n X x = thF 137438953472 len n (cutF X len) x := by
  unfold gF writeF
  rw [if_pos (great_E h1 h2 h3 h4)]
  show (if _ then _ else _) = _
  have e : (1099511627776 + 8 * (len * n)) / 8 = 137438953472 + len * n := by omega
  rw [e]
  split
  · rfl
  · rename_i c
    unfold thF
    rw [decide_eq_false (by rw [Nat.mul_comm n len]; exact c)]; rfl
theorem gF_points (h1 : 1 ≤ len) (h2 : len ≤ 1000) (h3 : 1 ≤ n) (h4 : n ≤ 68719476736 / len) {i j : Nat} (hj : 1 ≤ j) (h : i + j ≤ n) : pointsV (gF len n X) (1099511627776 + 8 * (len * i)) (8 * (len * j)) = j * cnt X 0 len ∧ clearE (1099511627776 + 8 * (len * i)) (8 * (len * j)) = 0 := by
  have r := great_part (n := n) h1 hj h h4
  unfold pointsV clearE
  rw [if_pos r, if_pos r]
  refine ⟨?_, rfl⟩
  rw [show (1099511627776 + 8 * (len * i)) / 8 = 137438953472 + len * i by omega, show 8 * (len * j) / 8 = len * j by omega, ← great_row (p := 137438953472) (n := n) h1 i j h]
  exact cnt_congr fun k hk => gF_eq h1 h2 h3 h4 _
theorem gF_cleared (h1 : 1 ≤ len) (h2 : len ≤ 1000) (h3 : 1 ≤ n) (h4 : n ≤ 68719476736 / len) {k : Nat} (hk : 1 ≤ k) (h : k ≤ n) : clearE (1099511627776 + 8 * (len * (k - 1))) (8 * len) = 0 ∧ pointsV (clearF (gF len n X) (1099511627776 + 8 * (len * (k - 1))) (8 * len)) 1099511627776 (8 * (len * n)) = (n - 1) * cnt X 0 len ∧ clearE 1099511627776 (8 * (len * n)) = 0 := by
  have r := great_part (n := n) (i := k - 1) (j := 1) h1 (by omega) (by omega) h4
  rw [Nat.mul_one] at r
  have r2 := great_part (n := n) (i := 0) (j := n) h1 h3 (by omega) h4
  rw [Nat.mul_zero, Nat.mul_zero, Nat.add_zero] at r2
  unfold pointsV clearE
  rw [if_pos r, if_pos r2, if_pos r2]
  refine ⟨rfl, ?_, rfl⟩
  rw [show 1099511627776 / 8 = 137438953472 by decide, show 8 * (len * n) / 8 = len * n by omega]
  refine great_cut h1 hk h fun x => ?_
  unfold clearF
  rw [if_pos r]
  have e2 : len * k = len * (k - 1) + len := by
    have : len * k = len * ((k - 1) + 1) := by congr 1; omega
    rw [this, Nat.mul_add, Nat.mul_one]
  unfold layF
  rw [show (1099511627776 + 8 * (len * (k - 1))) / 8 = 137438953472 + len * (k - 1) by omega, show (1099511627776 + 8 * (len * (k - 1)) + 8 * len) / 8 = 137438953472 + len * k by omega]
  split
  · rfl
  · exact gF_eq h1 h2 h3 h4 x
end
set_option maxRecDepth 100000 in
set_option maxHeartbeats 4000000 in
theorem great_any {w : World} {o : Option Addr} {len cap : Nat} {X : Nat → Bool} (hX : BoolsAt w o len cap X) (hlen : len ≤ maxLen) (a1 a2 : Int) (w1 : (Lit.int .u64 a1).wf = true) (w2 : (Lit.int .u64 a2).wf = true) :
    Calls Try.prog 5 #[.slice o len cap, .int .u64 a1, .int .u64 a2] w fun e w' => e = .returned (.bool true) ∧ Below w.heap.size w w' := by
  obtain ⟨R, hR⟩ : ∃ R : Ending → World → Prop, R = fun e w' => e = .returned (.bool true) ∧ Below w.heap.size w w' := ⟨_, rfl⟩
  rw [← hR]
  have b1 := bounds_u64 w1
  have b2 := bounds_u64 w2
  have hl0 : len ≤ 9223372036854775807 := by unfold maxLen at hlen; omega
  have DONE := hide (show ∀ w', Below w.heap.size w w' → R (.returned (.bool true)) w' from fun w' h => by rw [hR]; exact ⟨rfl, h⟩)
  clear hR
  obtain ⟨LN, hLN⟩ : ∃ L : Int, (len : Int) = L := ⟨_, rfl⟩
  have l0 : 0 ≤ LN := by omega
  have l9 : LN ≤ 9223372036854775807 := by omega
  have FF := hide (DONE.out w (Below.refl _ _))
  by_cases c1 : len < 1
  · have d1 : decide (LN < 1) = true := decide_eq_true (by omega)
    clear hX hlen w1 w2 DONE hl0 c1
    go_enter Try.func5, Try.ntmps5
    go_wp2_with fail
    first | exact FF.out | (go_ret; exact FF.out)
  have d1 : decide (LN < 1) = false := decide_eq_false (by omega)
  by_cases c2 : 1000 < len
  · have d2 : decide (1000 < LN) = true := decide_eq_true (by omega)
    clear hX hlen w1 w2 DONE hl0 c1 c2
    go_enter Try.func5, Try.ntmps5
    go_wp2_with fail
    first | exact FF.out | (go_ret; exact FF.out)
  have d2 : decide (1000 < LN) = false := decide_eq_false (by omega)
  by_cases c3 : a1 < 1
  · have d3 : decide (a1 < 1) = true := decide_eq_true c3
    clear hX hlen w1 w2 DONE hl0 c1 c2 c3
    go_enter Try.func5, Try.ntmps5
    go_wp2_with fail
    first | exact FF.out | (go_ret; exact FF.out)
  have d3 : decide (a1 < 1) = false := decide_eq_false c3
  have dz : (LN = 0) = False := by simp; omega
  have q0 : 0 ≤ 68719476736 / LN := Int.ediv_nonneg (by decide) l0
  have q1 : 68719476736 / LN ≤ 68719476736 := Int.ediv_le_self _ (by decide)
  have td : (68719476736 : Int).tdiv LN = 68719476736 / LN := Int.tdiv_eq_ediv_of_nonneg (by decide)
  have wq : IntKind.u64.wrap (68719476736 / LN) = 68719476736 / LN := by rw [IntKind.wrap_u64]; omega
  by_cases c4 : 68719476736 / LN < a1
  · have d4 : decide (68719476736 / LN < a1) = true := decide_eq_true c4
    clear hX hlen w1 w2 DONE hl0 c1 c2 c3 c4
    go_enter Try.func5, Try.ntmps5
    go_wp2_with fail
    first | exact FF.out | (go_ret; exact FF.out)
  have d4 : decide (68719476736 / LN < a1) = false := decide_eq_false c4
  obtain ⟨n, rfl⟩ : ∃ n : Nat, a1 = n := ⟨a1.toNat, by omega⟩
  obtain ⟨cu, rfl⟩ : ∃ n : Nat, a2 = n := ⟨a2.toNat, by omega⟩
  have h1 : 1 ≤ len := by omega
  have h2 : len ≤ 1000 := by omega
  have h3 : 1 ≤ n := by omega
  have h4 : n ≤ 68719476736 / len := by
    have e : (68719476736 : Int) / LN = ((68719476736 / len : Nat) : Int) := by rw [← hLN, Int.natCast_ediv]; rfl
    rw [e] at c4
    omega
  have lim := great_lim h1 h4
  have hk := Nat.mod_lt cu (show 0 < n by omega)
  obtain ⟨k, hkk⟩ : ∃ k, cu % n = k := ⟨_, rfl⟩
  rw [hkk] at hk
  obtain ⟨ea, hea⟩ : ∃ ea, cnt X 0 len = ea := ⟨_, rfl⟩
  have eal : ea ≤ len := by rw [← hea]; exact cnt_le _ _ _
  have cd : ∀ i, i ≤ len → cnt X 0 i ≤ 1000 := fun i hi => by have := cnt_le X 0 i; omega
  have CD := hide cd
  have nk : ∀ i, i ≤ n → len * i ≤ 68719476736 := fun i hi => Nat.le_trans (Nat.mul_le_mul_left _ hi) lim
  have nke : ∀ i, i ≤ n → i * ea ≤ 68719476736 := fun i hi => Nat.le_trans (Nat.mul_le_mul hi eal) (by rw [Nat.mul_comm]; exact lim)
  -- the calls
  have S0 := hide ((Sep.start w).new)
  have CP := hide (show ∀ (W1 : World), Below w.heap.size w W1 → ∃ g cap' W2, (Builtin.append_ #[32, 32] 32 #[.slice (some ⟨W1.heap.size, 0, none⟩) 0 0, .slice o len cap]).run Try.prog (W1.alloc (.cells #[] 4)) = .ok (.slice (some ⟨g, 0, none⟩) len cap') W2 ∧ BoolsAt W2 (some ⟨g, 0, none⟩) len cap' X ∧ Below W1.heap.size W1 W2 from fun W1 hb => by
    obtain ⟨g, cap', W2, r, ow, bl, _, _⟩ := copy_bools (BoolsAt.below hX hb) h1 (by omega)
    exact ⟨g, cap', W2, r, row_bools ow, bl⟩)
  obtain ⟨N, hN⟩ : ∃ N : Int, (n : Int) = N := ⟨_, rfl⟩
  obtain ⟨CU, hCU⟩ : ∃ N : Int, (cu : Int) = N := ⟨_, rfl⟩
  obtain ⟨K, hK⟩ : ∃ N : Int, (k : Int) = N := ⟨_, rfl⟩
  obtain ⟨EA, hEA⟩ : ∃ N : Int, (ea : Int) = N := ⟨_, rfl⟩
  have eLN : ((8 * (len * n) : Nat) : Int) = 8 * LN * N := by rw [Int.natCast_mul, Int.natCast_mul, hLN, hN, Int.mul_assoc]; rfl
  have eLK : ((8 * (len * k) : Nat) : Int) = 8 * LN * K := by rw [Int.natCast_mul, Int.natCast_mul, hLN, hK, Int.mul_assoc]; rfl
  have eLNK : k ≤ n → ((8 * (len * (n - k)) : Nat) : Int) = 8 * LN * (N - K) := fun h => by rw [Int.natCast_mul, Int.natCast_mul, hLN, Int.natCast_sub h, hN, hK, Int.mul_assoc]; rfl
  have eLK1 : 1 ≤ k → ((8 * (len * (k - 1)) : Nat) : Int) = 8 * LN * (K - 1) := fun h => by rw [Int.natCast_mul, Int.natCast_mul, hLN, Int.natCast_sub h, hK, Int.mul_assoc]; rfl
  have eNE : ((n * ea : Nat) : Int) = N * EA := by rw [Int.natCast_mul, hN, hEA]
  have eKE : ((k * ea : Nat) : Int) = K * EA := by rw [Int.natCast_mul, hK, hEA]
  have eNKE : (((n - k) * ea : Nat) : Int) = (N - K) * EA := by rw [Int.natCast_mul, Int.natCast_sub (by omega), hN, hK, hEA]
  have eN1E : (((n - 1) * ea : Nat) : Int) = (N - 1) * EA := by rw [Int.natCast_mul, Int.natCast_sub h3, hN, hEA]; rfl
  have z1 := nk n (Nat.le_refl _)
  have z2 := nk k (by omega)
  have z3 := nk (n - k) (by omega)
  have z4 := nk (k - 1) (by omega)
  have y1 := nke n (Nat.le_refl _)
  have y2 := nke k (by omega)
  have y3 := nke (n - k) (by omega)
  have y4 := nke (n - 1) (by omega)
  have CWr := hide (show ∀ (m : Nat) (W1 W2 : World) (g cap' : Nat), Sep w.heap.size w W1 [tMk m (fun _ => false)] → Below W1.heap.size W1 W2 → BoolsAt W2 (some ⟨g, 0, none⟩) len cap' X → Calls Try.prog 11 #[.pointer (some ⟨m, 0, none⟩), .int .u64 1099511627776, .int .u64 (8 * LN * N), .agg #[.int .i64 LN, .slice (some ⟨g, 0, none⟩) len cap'], .int .u64 N] W2 fun e W' => e = .returned (.int .i64 0) ∧ Sep w.heap.size w W' [tMk m (gF len n X)] from fun m W1 W2 g cap' hs hb hx => by
    have C := (hs.read hb).write 0 (Nat.zero_lt_succ _) rfl 1099511627776 (8 * (len * n)) n (by decide) (by omega) (by omega) LN (by omega) (by omega) hl0 hx
    rw [eLN, hN, ← hLN, great_E h1 h2 h3 h4] at C
    rw [hLN] at C
    have e : writeF (fun _ => false) 1099511627776 (8 * (len * n)) LN len n X = gF len n X := by unfold gF; rw [hLN]
    rw [e] at C
    exact C)
  have CP1 := hide (show ∀ (m : Nat) (W1 : World), Sep w.heap.size w W1 [tMk m (gF len n X)] → Calls Try.prog 13 #[.pointer (some ⟨m, 0, none⟩), .int .u64 1099511627776, .int .u64 (8 * LN * N)] W1 fun e W' => e = .returned (.tuple #[.int .u64 (N * EA), .int .i64 0]) ∧ Sep w.heap.size w W' [tMk m (gF len n X)] from fun m W1 hs => by
    have C := hs.points 0 (Nat.zero_lt_succ _) rfl 1099511627776 (8 * (len * n)) (by decide) (by omega)
    have P := gF_points (X := X) (i := 0) (j := n) h1 h2 h3 h4 h3 (by omega)
    rw [Nat.mul_zero, Nat.mul_zero, Nat.add_zero, hea] at P
    rw [eLN, P.1, P.2, eNE] at C
    exact C.mono fun _ _ ⟨a, _, b⟩ => ⟨a, b⟩)
  have CP2 := hide (show k ≠ 0 → ∀ (m : Nat) (W1 : World), Sep w.heap.size w W1 [tMk m (gF len n X)] → Calls Try.prog 13 #[.pointer (some ⟨m, 0, none⟩), .int .u64 1099511627776, .int .u64 (8 * LN * K)] W1 fun e W' => e = .returned (.tuple #[.int .u64 (K * EA), .int .i64 0]) ∧ Sep w.heap.size w W' [tMk m (gF len n X)] from fun hk0 m W1 hs => by
    have C := hs.points 0 (Nat.zero_lt_succ _) rfl 1099511627776 (8 * (len * k)) (by decide) (by omega)
    have P := gF_points (X := X) (i := 0) (j := k) h1 h2 h3 h4 (by omega) (by omega)
    rw [Nat.mul_zero, Nat.mul_zero, Nat.add_zero, hea] at P
    rw [eLK, P.1, P.2, eKE] at C
    exact C.mono fun _ _ ⟨a, _, b⟩ => ⟨a, b⟩)
  have CP3 := hide (show k ≠ 0 → ∀ (m : Nat) (W1 : World), Sep w.heap.size w W1 [tMk m (gF len n X)] → Calls Try.prog 13 #[.pointer (some ⟨m, 0, none⟩), .int .u64 (1099511627776 + 8 * LN * K), .int .u64 (8 * LN * (N - K))] W1 fun e W' => e = .returned (.tuple #[.int .u64 ((N - K) * EA), .int .i64 0]) ∧ Sep w.heap.size w W' [tMk m (gF len n X)] from fun hk0 m W1 hs => by
    have C := hs.points 0 (Nat.zero_lt_succ _) rfl (1099511627776 + 8 * (len * k)) (8 * (len * (n - k))) (by omega) (by omega)
    have P := gF_points (X := X) (i := k) (j := n - k) h1 h2 h3 h4 (by omega) (by omega)
    rw [hea] at P
    rw [Int.natCast_add, eLK, eLNK (by omega), P.1, P.2, eNKE] at C
    exact C.mono fun _ _ ⟨a, _, b⟩ => ⟨a, b⟩)
  have CCl := hide (show k ≠ 0 → ∀ (m : Nat) (W1 : World), Sep w.heap.size w W1 [tMk m (gF len n X)] → Calls Try.prog 14 #[.pointer (some ⟨m, 0, none⟩), .int .u64 (1099511627776 + 8 * LN * (K - 1)), .int .u64 (8 * LN)] W1 fun e W' => e = .returned (.int .i64 0) ∧ Sep w.heap.size w W' [tMk m (clearF (gF len n X) (1099511627776 + 8 * (len * (k - 1))) (8 * len))] from fun hk0 m W1 hs => by
    have C := hs.clear 0 (Nat.zero_lt_succ _) rfl (1099511627776 + 8 * (len * (k - 1))) (8 * len) (by omega) (by omega)
    have P := gF_cleared (X := X) (k := k) h1 h2 h3 h4 (by omega) (by omega)
    rw [Int.natCast_add, eLK1 (by omega), P.1, Int.natCast_mul, hLN] at C
    exact C)
  have CP4 := hide (show k ≠ 0 → ∀ (m : Nat) (W1 : World), Sep w.heap.size w W1 [tMk m (clearF (gF len n X) (1099511627776 + 8 * (len * (k - 1))) (8 * len))] → Calls Try.prog 13 #[.pointer (some ⟨m, 0, none⟩), .int .u64 1099511627776, .int .u64 (8 * LN * N)] W1 fun e W' => e = .returned (.tuple #[.int .u64 ((N - 1) * EA), .int .i64 0]) ∧ Below w.heap.size w W' from fun hk0 m W1 hs => by
    have C := hs.points 0 (Nat.zero_lt_succ _) rfl 1099511627776 (8 * (len * n)) (by decide) (by omega)
    have P := gF_cleared (X := X) (k := k) h1 h2 h3 h4 (by omega) (by omega)
    rw [hea] at P
    rw [eLN, P.2.1, P.2.2, eN1E] at C
    exact C.mono fun _ _ ⟨a, _, b⟩ => ⟨a, b.be⟩)
  have AW := hide (show ∀ W1, Below w.heap.size w W1 → Calls Try.prog 10 #[] W1 fun e W' => e = .returned (.bool true) ∧ R e W' from fun W1 hb => (awake15 W1).mono fun e W' ⟨he, hb2⟩ => ⟨he, by rw [he]; exact DONE.out W' (hb.trans (hb2.mono hb.size))⟩)
  have BE := hide (show ∀ W1 l, Sep w.heap.size w W1 l → Below w.heap.size w W1 from fun W1 l h => h.be)
  have XC := hide (show ∀ W1 i, Below w.heap.size w W1 → i < len → ∃ b0 f0, o = some ⟨b0, f0, none⟩ ∧ W1.cell? ⟨b0, f0 + i, none⟩ = some (.bool (X i)) from fun W1 i hb hi => by
    obtain ⟨b0, f0, e, hb0, hc0⟩ := hX.at hi
    exact ⟨b0, f0, e, (hb.cell (p := ⟨b0, f0 + i, none⟩) hb0).trans (hc0 i hi)⟩)
  have p1 : 0 ≤ 8 * LN * N := by omega
  have p2 : 8 * LN * N < 18446744073709551616 := by omega
  have p3 : 0 ≤ 8 * LN * K := by omega
  have p4 : 8 * LN * K ≤ 549755813888 := by omega
  have p5 : 0 ≤ 8 * LN * (N - K) := by rw [← eLNK (by omega)]; omega
  have p6 : 8 * LN * (N - K) < 18446744073709551616 := by rw [← eLNK (by omega)]; omega
  have p7 : 0 ≤ N * EA := by omega
  have p8 : N * EA < 18446744073709551616 := by omega
  have p9 : 0 ≤ K * EA := by omega
  have pa : K * EA < 18446744073709551616 := by omega
  have pb : 0 ≤ (N - K) * EA := by omega
  have pc : (N - K) * EA < 18446744073709551616 := by omega
  have pd : 0 ≤ (N - 1) * EA := by omega
  have pe : (N - 1) * EA < 18446744073709551616 := by omega
  have pf : k ≠ 0 → 0 ≤ 8 * LN * (K - 1) ∧ 8 * LN * (K - 1) ≤ 549755813888 := fun h => by rw [← eLK1 (by omega)]; omega
  have PF := hide pf
  have n0 : 0 ≤ N := by omega
  have n1 : N ≤ 68719476736 := by omega
  have n2 : 1 ≤ N := by omega
  have k0 : 0 ≤ K := by omega
  have k1 : K ≤ N := by omega
  have u0 : 0 ≤ CU := by omega
  have u1 : CU < 18446744073709551616 := by omega
  have nz : (N = 0) = False := by simp; omega
  have km : CU.tmod N = K := by rw [Int.tmod_eq_emod_of_nonneg u0, ← hCU, ← hN, ← Int.natCast_emod, hkk, hK]
  have km2 : CU % N = K := by rw [← hCU, ← hN, ← Int.natCast_emod, hkk, hK]
  have x1 : LN ≤ 1000 := by omega
  have HL := hide hLN
  have HK := hide hK
  have HEA := hide (And.intro hea hEA)
  rw [hN] at d3 d4
  rw [hN, hCU]
  clear hX hlen w1 w2 b1 b2 hl0 c1 c2 c3 c4 h1 h2 h3 h4 lim hk hkk hea eal cd nk nke hN hCU hK hEA eLN eLK eLNK eLK1 eNE eKE eNKE eN1E z1 z2 z3 z4 y1 y2 y3 y4 pf FF l9
  go_enter Try.func5, Try.ntmps5
  go_wp2_with fail
  refine S0.out.mono ?_
  rintro e W1 ⟨m, rfl, s1⟩
  obtain ⟨g, cap', W2, r2, x2, b2⟩ := CP.out W1 (BE.out _ _ s1)
  have CW2 := hide (CWr.out m W1 W2 g cap' s1 b2 x2)
  have R2 := hide r2
  clear r2 x2 b2 s1 CP CWr S0
  go_wp2_with (first | (at_builtin; refine list_append_run rfl (.tmp 51) (.tmp 52) 32 rfl rfl rfl R2.out ?_))
  refine CW2.out.mono ?_
  rintro e W3 ⟨rfl, s3⟩
  have S3 := hide s3
  clear s3 CW2 R2
  go_wp2_with fail
  go_loopw [9, 10] (fun ve vi wr => ∃ i : Nat, vi = .int .i64 (i : Nat) ∧ ve = .int .u64 (cnt X 0 i : Nat) ∧ i ≤ len ∧ Hid (wr = W3)) (fun _ vi _ => len - (zi vi).toNat)
  case atStart => exact ⟨0, rfl, rfl, Nat.zero_le _, hide (by first | rfl | trivial)⟩
  case round =>
    obtain ⟨i, rfl, rfl, hi, HJ⟩ := hrel
    have hj := HJ.out
    subst hj
    clear HJ
    by_cases c : i < len
    · have d : decide ((i : Int) < LN) = true := decide_eq_true (by have := HL.out; omega)
      have d' : decide ((i : Int) < (len : Int)) = true := decide_eq_true (by omega)
      obtain ⟨b0, f0, rfl, c0⟩ := XC.out wr i (BE.out _ _ S3.out) c
      have cb := CD.out i hi
      have i0 : (0 : Int) ≤ (i : Int) := by omega
      have i1 : (i : Int) < 1000 := by have := HL.out; omega
      obtain ⟨C, hC⟩ : ∃ C : Int, ((cnt X 0 i : Nat) : Int) = C := ⟨_, rfl⟩
      have cc0 : 0 ≤ C := by omega
      have cc1 : C ≤ 1000 := by omega
      have HC := hide hC
      have HX := hide (show cnt X 0 (i + 1) = cnt X 0 i + (X i).toNat by rw [cnt, Nat.zero_add])
      rw [hC]
      clear hC cb
      by_cases x : X i = true
      · rw [x] at c0
        have HX2 := hide (show ((cnt X 0 (i + 1) : Nat) : Int) = C + 1 by rw [HX.out, x, Int.natCast_add, HC.out]; rfl)
        clear x HX
        go_wp2_with fail
        exact ⟨⟨i + 1, by rw [Int.natCast_add]; rfl, by rw [HX2.out], by omega, hide (by first | rfl | trivial)⟩, by simp [zi]; omega⟩
      · have x' : X i = false := by simpa using x
        rw [x'] at c0
        have HX2 := hide (show ((cnt X 0 (i + 1) : Nat) : Int) = C by rw [HX.out, x', Int.natCast_add, HC.out]; simp)
        clear x x' HX
        go_wp2_with fail
        exact ⟨⟨i + 1, by rw [Int.natCast_add]; rfl, by rw [HX2.out], by omega, hide (by first | rfl | trivial)⟩, by simp [zi]; omega⟩
    · obtain rfl : i = len := by omega
      have d : decide (LN < LN) = false := decide_eq_false (by omega)
      have e1 : ((cnt X 0 i : Nat) : Int) = EA := by rw [HEA.out.1, HEA.out.2]
      rw [e1]
      have hl := HL.out
      rw [hl]
      have D1 := hide (CP1.out m wr S3.out)
      clear e1 CP1 S3 c hi XC CD
      go_wp2_with fail
      refine D1.out.mono ?_
      rintro e W4 ⟨rfl, s4⟩
      have S4 := hide s4
      clear s4 D1
      have nn1 : (N * EA != N * EA) = false := by simp
      by_cases ck : k = 0
      · have kz : K = 0 := by have := HK.out; omega
        have dk : (K == 0) = true := by rw [kz]; rfl
        have AA := hide (AW.out W4 (BE.out _ _ S4.out))
        clear S4 ck kz CP2 CP3 CCl CP4 PF
        go_wp2_with fail
        refine AA.out.mono ?_
        rintro e W9 ⟨rfl, r9⟩
        have R9 := hide r9
        clear r9 AA
        go_wp2_with fail
        first | exact R9.out | (go_ret; exact R9.out)
      · have dk : (K == 0) = false := by rw [beq_eq_false_iff_ne]; have := HK.out; omega
        have D2 := hide (CP2.out ck m W4 S4.out)
        have E3 := hide (CP3.out ck m)
        have E4 := hide (CCl.out ck m)
        have E5 := hide (CP4.out ck m)
        obtain ⟨pf1, pf2⟩ := PF.out ck
        have k2 : 1 ≤ K := by have := HK.out; omega
        clear S4 CP2 CP3 CCl CP4 PF ck
        go_wp2_with fail
        refine D2.out.mono ?_
        rintro e W5 ⟨rfl, s5⟩
        have D3 := hide (E3.out W5 s5)
        clear s5 D2 E3
        go_wp2_with fail
        refine D3.out.mono ?_
        rintro e W6 ⟨rfl, s6⟩
        have D4 := hide (E4.out W6 s6)
        clear s6 D3 E4
        have nn2 : (K * EA != K * EA) = false := by simp
        have nn3 : ((N - K) * EA != (N - K) * EA) = false := by simp
        go_wp2_with fail
        refine D4.out.mono ?_
        rintro e W7 ⟨rfl, s7⟩
        have D5 := hide (E5.out W7 s7)
        clear s7 D4 E5
        go_wp2_with fail
        refine D5.out.mono ?_
        rintro e W8 ⟨rfl, b8⟩
        have AA := hide (AW.out W8 b8)
        clear b8 D5
        have nn4 : ((N - 1) * EA == (N - 1) * EA) = true := by simp
        go_wp2_with fail
        refine AA.out.mono ?_
        rintro e W9 ⟨rfl, r9⟩
        have R9 := hide r9
        clear r9 AA
        go_wp2_with fail
        first | exact R9.out | (go_ret; exact R9.out)
end Go.Proofs.Ytnhllnepnpmegaa
