/- ChunkCounts: taking and giving back undo one another; counts go together. -/
import Derived.Test.YtgjgcdbhppaigaaDoorSh
namespace Go.Proofs.YtgjgcdbhppaigaaDoor
open Go.ChangeShapes Go.WideShapes Go.ChangeAt Go.RowKit Go.Proofs.Bt Go.Shelf
set_option linter.unusedVariables false
set_option linter.unusedSimpArgs false

/-- The pages from a on and below b. -/
def sp (a b j : Nat) : Bool := decide (a ≤ j ∧ j < b)
theorem cnt_sp (a b : Nat) (h : a ≤ b) (hb : b ≤ 512) : cnt (sp a b) 0 512 = b - a := by
  have := cnt_span (sp a b) (fun _ => true) a (b - a) (by omega) (fun k hk => by
    unfold sp; rw [Bool.true_and, Bool.eq_iff_iff]; simp only [decide_eq_true_eq]; omega)
  rw [this]
  exact cnt_full.2 (fun _ _ => rfl)
theorem cnt_not (f : Nat → Bool) (i n : Nat) : cnt f i n + cnt (fun k => !f k) i n = n := by
  induction n with
  | zero => rfl
  | succ n ih =>
    rw [cnt_add f i n 1, cnt_add (fun k => !f k) i n 1]
    have : cnt f (i + n) 1 + cnt (fun k => !f k) (i + n) 1 = 1 := by
      simp only [cnt]
      cases f (i + n) <;> simp_all
    omega
theorem cnt_nsp (a b : Nat) (h : a ≤ b) (hb : b ≤ 512) : cnt (fun j => !sp a b j) 0 512 = 512 - (b - a) := by
  have h1 := cnt_not (sp a b) 0 512
  have h2 := cnt_sp a b h hb
  omega
theorem take_ok {u g : Nat → Bool} {i n : Int} (h : RightC i n) (hz : cnt u i.toNat n.toNat = 0) : takeS u g i n = (((cnt g i.toNat n.toNat : Nat) : Int), 0, setF u i.toNat n.toNat, clrF g i.toNat n.toNat) := by
  unfold takeS; rw [if_pos h, if_pos hz]
theorem take_used {u g : Nat → Bool} {i n : Int} (h : RightC i n) (hz : cnt u i.toNat n.toNat ≠ 0) : takeS u g i n = (0, 32, u, g) := by
  unfold takeS; rw [if_pos h, if_neg hz]
theorem give_ok {u g : Nat → Bool} {i n : Int} {x : Bool} (h : RightC i n) (hz : cnt u i.toNat n.toNat = n.toNat) : giveS u g i n x = (0, clrF u i.toNat n.toNat, if x then setF g i.toNat n.toNat else g) := by
  unfold giveS; rw [if_pos h, if_pos hz]
theorem give_free {u g : Nat → Bool} {i n : Int} {x : Bool} (h : RightC i n) (hz : cnt u i.toNat n.toNat ≠ n.toNat) : giveS u g i n x = (31, u, g) := by
  unfold giveS; rw [if_pos h, if_neg hz]
theorem setF_at (f : Nat → Bool) (i n j : Nat) : setF f i n j = (f j || sp i (i + n) j) := rfl
theorem clrF_at (f : Nat → Bool) (i n j : Nat) : clrF f i n j = (f j && !sp i (i + n) j) := rfl
theorem sp_iff (a b j : Nat) : sp a b j = true ↔ a ≤ j ∧ j < b := by unfold sp; simp
theorem all512_at (j : Nat) (h : j < 512) : all512 j = true := by unfold all512 setF nil512; simp; exact h
theorem eqSum0 (w : World) : (Op.equalIn 10000 51 (.agg #[.int .i64 0, .int .i64 0, .int .i64 0]) (.agg #[.int .i64 0, .int .i64 0, .int .i64 0])).run Tryd.prog w = .ok true w := by kernel_rfl
theorem sum_full {u : Nat → Bool} (h : ∀ k, k < 512 → u k = true) : SumP u 0 0 0 where
  s512 := by omega
  e512 := by omega
  sc := fun k hk => by omega
  ss := fun _ => h 0 (by omega)
  ec := fun k hk => by omega
  es := fun _ => h 511 (by omega)
  mx := ⟨0, by omega, fun k hk => by omega⟩
  mn := fun c hc hcl => by
    have := hcl 0 (by omega)
    rw [h _ (by omega)] at this
    cases this
theorem u_take (a n j : Nat) : setF nil512 a n j = sp a (a + n) j := by rw [setF_at]; rfl
theorem g_take (a n j : Nat) (h : j < 512) : clrF all512 a n j = !sp a (a + n) j := by rw [clrF_at, all512_at j h, Bool.true_and]
theorem u_zero (i n k : Int) (h0 : 0 ≤ i) (h1 : 0 ≤ n) (hk : k = 0) (j : Nat) : clrF (sp i.toNat (i.toNat + n.toNat)) (i + k).toNat (n - k).toNat j = nil512 j := by
  rw [clrF_at, Bool.eq_iff_iff]; simp only [nil512, Bool.and_eq_true, Bool.not_eq_true', sp]; simp; omega
theorem g_zero (i n k : Int) (h0 : 0 ≤ i) (h1 : 0 ≤ n) (hk : k = 0) (j : Nat) (hj : j < 512) : (if true = true then setF (fun j => !sp i.toNat (i.toNat + n.toNat) j) (i + k).toNat (n - k).toNat else (fun j => !sp i.toNat (i.toNat + n.toNat) j)) j = !sp i.toNat (i.toNat + k.toNat) j := by
  rw [if_pos rfl, setF_at, Bool.eq_iff_iff]; simp only [Bool.or_eq_true, Bool.not_eq_true', sp]; simp; omega
theorem full_some (i n k : Int) (h0 : 0 ≤ i) (h1 : 0 < k) (hk : k < n) (j : Nat) (hj : j < (n - k).toNat) : clrF (sp i.toNat (i.toNat + n.toNat)) i.toNat k.toNat ((i + k).toNat + j) = true := by
  rw [clrF_at, Bool.and_eq_true]; simp only [Bool.not_eq_true', sp]; simp; omega
theorem u_some (i n k : Int) (h0 : 0 ≤ i) (h1 : 0 < k) (hk : k < n) (j : Nat) : clrF (clrF (sp i.toNat (i.toNat + n.toNat)) i.toNat k.toNat) (i + k).toNat (n - k).toNat j = nil512 j := by
  rw [clrF_at, clrF_at, Bool.eq_iff_iff]; simp only [nil512, Bool.and_eq_true, Bool.not_eq_true', sp]; simp; omega
theorem g_some (i n k : Int) (h0 : 0 ≤ i) (h1 : 0 < k) (hk : k < n) (j : Nat) : (if true = true then setF (if false = true then setF (fun j => !sp i.toNat (i.toNat + n.toNat) j) i.toNat k.toNat else (fun j => !sp i.toNat (i.toNat + n.toNat) j)) (i + k).toNat (n - k).toNat else (if false = true then setF (fun j => !sp i.toNat (i.toNat + n.toNat) j) i.toNat k.toNat else (fun j => !sp i.toNat (i.toNat + n.toNat) j))) j = !sp i.toNat (i.toNat + k.toNat) j := by
  rw [if_pos rfl, if_neg (by decide), setF_at, Bool.eq_iff_iff]; simp only [Bool.or_eq_true, Bool.not_eq_true', sp]; simp; omega
theorem u_full (i n k : Int) (h0 : 0 ≤ i) (h1 : 0 < k) (hk : k = n) (j : Nat) : clrF (sp i.toNat (i.toNat + n.toNat)) i.toNat k.toNat j = nil512 j := by
  rw [clrF_at, Bool.eq_iff_iff]; simp only [nil512, Bool.and_eq_true, Bool.not_eq_true', sp]; simp; omega
theorem g_full (i n k : Int) (h0 : 0 ≤ i) (h1 : 0 < k) (hk : k = n) (j : Nat) : (if false = true then setF (fun j => !sp i.toNat (i.toNat + n.toNat) j) i.toNat k.toNat else (fun j => !sp i.toNat (i.toNat + n.toNat) j)) j = !sp i.toNat (i.toNat + k.toNat) j := by
  rw [if_neg (by decide), show i.toNat + k.toNat = i.toNat + n.toNat by omega]
theorem counts_skip (i n k : Int) (hi : -9223372036854775808 ≤ i) (hi' : i ≤ 9223372036854775807) (w : World) (h : ¬ (0 ≤ i ∧ 1 ≤ n ∧ n ≤ 512 ∧ i ≤ 512 - n ∧ 0 ≤ k ∧ k ≤ n)) :
    Calls Tryd.prog 6 #[.int .i64 i, .int .i64 n, .int .i64 k] w fun e w' => e = .returned (.bool true) ∧ Below w.heap.size w w' := by
  have fin := Below.refl w.heap.size w
  by_cases h0 : i < 0
  · clear h
    go_enter Tryd.func6, Tryd.ntmps6
    go_wp2
    go_ret
    exact ⟨rfl, fin⟩
  have h0' : 0 ≤ i := by omega
  by_cases h1 : n < 1
  · clear h h0
    go_enter Tryd.func6, Tryd.ntmps6
    go_wp2
    go_ret
    exact ⟨rfl, fin⟩
  have h1' : 1 ≤ n := by omega
  by_cases h2 : 512 < n
  · clear h h0 h1
    go_enter Tryd.func6, Tryd.ntmps6
    go_wp2
    go_ret
    exact ⟨rfl, fin⟩
  have h2' : n ≤ 512 := by omega
  by_cases h3 : 512 - n < i
  · clear h h0 h1 h2
    go_enter Tryd.func6, Tryd.ntmps6
    go_wp2
    go_ret
    exact ⟨rfl, fin⟩
  have h3' : i ≤ 512 - n := by omega
  by_cases h4 : k < 0
  · clear h h0 h1 h2 h3
    go_enter Tryd.func6, Tryd.ntmps6
    go_wp2
    go_ret
    exact ⟨rfl, fin⟩
  have h4' : 0 ≤ k := by omega
  have h5 : n < k := by omega
  clear h h0 h1 h2 h3 h4
  go_enter Tryd.func6, Tryd.ntmps6
  go_wp2
  go_ret
  exact ⟨rfl, fin⟩
set_option maxRecDepth 100000 in
set_option maxHeartbeats 4000000 in
theorem counts_zero (i n k : Int) (w : World) (ht : TabW w) (h0 : 0 ≤ i) (h1 : 1 ≤ n) (h2 : n ≤ 512) (h3 : i ≤ 512 - n) (h4 : 0 ≤ k) (h5 : k ≤ n) (h6 : k ≤ 0) (h7 : k < n) :
    Calls Tryd.prog 6 #[.int .i64 i, .int .i64 n, .int .i64 k] w fun e w' => e = .returned (.bool true) ∧ Below w.heap.size w w' := by
  have cN := s1_new w ht
  have HT := hide ht
  obtain ⟨N, hN⟩ : ∃ N, w.heap.size = N := ⟨_, rfl⟩
  rw [hN] at cN
  have HN := hide hN
  clear hN ht
  go_enter Tryd.func6, Tryd.ntmps6
  go_wp2_with fail
  go_at_call 8
  refine cN.mono ?_
  rintro e w1 ⟨rfl, s1⟩
  have H1 := hide s1
  clear s1 cN
  go_wp2_with fail
  go_at_call 13
  refine (s1_take H1.out i n (by omega)).mono ?_
  rw [take_ok (by unfold RightC; omega) (cnt_none fun _ _ => rfl), (cnt_full (f := all512)).2 (fun j hj => all512_at _ (by omega)), show ((n.toNat : Nat) : Int) = n by omega]
  rintro e w2 ⟨rfl, s2⟩
  have H2 := hide (s2.congr (u' := sp i.toNat (i.toNat + n.toNat)) (g' := fun j => !sp i.toNat (i.toNat + n.toNat) j) (fun j hj => u_take _ _ j) (fun j hj => g_take _ _ j hj))
  clear s2
  go_wp2_with fail
  go_at_call 20
  refine (s1_free H2.out).mono ?_
  rw [cnt_sp _ _ (by omega) (by omega), show (512 - ((i.toNat + n.toNat - i.toNat : Nat) : Int)) = 512 - n by omega]
  rintro e w3 ⟨rfl, s3⟩
  have H3 := hide s3
  clear s3
  go_wp2_with fail
  go_at_call 17
  refine (s1_released H3.out).mono ?_
  rw [cnt_nsp _ _ (by omega) (by omega), show ((512 - (i.toNat + n.toNat - i.toNat) : Nat) : Int) = 512 - n by omega]
  rintro e w4 ⟨rfl, s4⟩
  have H4 := hide s4
  clear s4
  go_wp2_with fail
  go_at_call 13
  refine (s1_take H4.out (i + n - 1) 1 (by omega)).mono ?_
  rw [take_used (by unfold RightC; omega) (by
    intro z
    have := cnt_zero.1 z 0 (by simp)
    rw [Nat.add_zero] at this
    have h : sp i.toNat (i.toNat + n.toNat) (i + n - 1).toNat = true := (sp_iff _ _ _).2 (by omega)
    rw [h] at this
    cases this)]
  rintro e w5 ⟨rfl, s5⟩
  have H5 := hide s5
  clear s5
  go_wp2_with fail
  go_at_call 15
  refine (s1_back H5.out (i + k) (n - k) (by omega)).mono ?_
  rw [give_ok (by unfold RightC; omega) (cnt_full.2 (fun j hj => (sp_iff _ _ _).2 (by omega)))]
  rintro e w6 ⟨rfl, s6⟩
  have H6 := hide (s6.congr (u' := nil512) (g' := fun j => !sp i.toNat (i.toNat + k.toNat) j) (fun j hj => u_zero i n k h0 (by omega) (by omega) j) (fun j hj => g_zero i n k h0 (by omega) (by omega) j hj))
  clear s6
  go_wp2_with fail
  go_at_call 20
  refine (s1_free H6.out).mono ?_
  rw [cnt_none (f := nil512) (fun _ _ => rfl)]
  rintro e w7 ⟨rfl, s7⟩
  have H7 := hide s7
  clear s7
  go_wp2_with fail
  go_at_call 17
  refine (s1_released H7.out).mono ?_
  rw [cnt_nsp _ _ (by omega) (by omega), show ((512 - (i.toNat + k.toNat - i.toNat) : Nat) : Int) = 512 - k by omega]
  rintro e w8 ⟨rfl, s8⟩
  have H8 := hide s8
  clear s8
  go_wp2_with fail
  go_at_call 14
  refine (s1_give H8.out i 1 (by omega)).mono ?_
  rw [give_free (by unfold RightC; omega) (by rw [cnt_none (f := nil512) (fun _ _ => rfl)]; simp)]
  rintro e w9 ⟨rfl, s9⟩
  have H9 := hide s9
  clear s9
  go_wp2_with fail
  go_at_call 13
  refine (s1_take H9.out 0 512 (by omega)).mono ?_
  rw [take_ok (by unfold RightC; omega) (cnt_none fun _ _ => rfl), show Int.toNat 0 = 0 from rfl, show Int.toNat 512 = 512 from rfl, cnt_nsp _ _ (by omega) (by omega), show ((512 - (i.toNat + k.toNat - i.toNat) : Nat) : Int) = 512 - k by omega]
  rintro e wa ⟨rfl, sa⟩
  have HA := hide sa
  clear sa
  go_wp2_with fail
  go_at_call 20
  refine (s1_free HA.out).mono ?_
  rw [(cnt_full (f := setF nil512 0 512)).2 (fun j hj => all512_at _ (by omega))]
  rintro e wb ⟨rfl, sb⟩
  have HB := hide sb
  clear sb
  go_wp2_with fail
  go_at_call 22
  refine (s1_sum HB.out).mono ?_
  rintro e wc ⟨s, m, q, rfl, pc, sc⟩
  obtain ⟨rfl, rfl, rfl⟩ := pc.one (sum_full (fun j hj => all512_at j hj))
  have HC := hide sc
  have hq := eqSum0 wc
  unfold sumV
  simp only [Int.natCast_zero]
  clear sc pc
  go_wp2_with (simp only [hq])
  go_at_call 12
  refine (awake_any wc HC.out.tab).mono ?_
  rintro e wd ⟨rfl, kd⟩
  have HD := hide (HC.out.be.trans (kd.mono HC.out.be.size))
  clear kd
  go_wp2_with fail
  go_ret
  exact ⟨rfl, HD.out⟩
set_option maxRecDepth 100000 in
set_option maxHeartbeats 4000000 in
theorem counts_some (i n k : Int) (w : World) (ht : TabW w) (h0 : 0 ≤ i) (h1 : 1 ≤ n) (h2 : n ≤ 512) (h3 : i ≤ 512 - n) (h4 : 0 ≤ k) (h5 : k ≤ n) (h6 : 0 < k) (h7 : k < n) :
    Calls Tryd.prog 6 #[.int .i64 i, .int .i64 n, .int .i64 k] w fun e w' => e = .returned (.bool true) ∧ Below w.heap.size w w' := by
  have cN := s1_new w ht
  have HT := hide ht
  obtain ⟨N, hN⟩ : ∃ N, w.heap.size = N := ⟨_, rfl⟩
  rw [hN] at cN
  have HN := hide hN
  clear hN ht
  go_enter Tryd.func6, Tryd.ntmps6
  go_wp2_with fail
  go_at_call 8
  refine cN.mono ?_
  rintro e w1 ⟨rfl, s1⟩
  have H1 := hide s1
  clear s1 cN
  go_wp2_with fail
  go_at_call 13
  refine (s1_take H1.out i n (by omega)).mono ?_
  rw [take_ok (by unfold RightC; omega) (cnt_none fun _ _ => rfl), (cnt_full (f := all512)).2 (fun j hj => all512_at _ (by omega)), show ((n.toNat : Nat) : Int) = n by omega]
  rintro e w2 ⟨rfl, s2⟩
  have H2 := hide (s2.congr (u' := sp i.toNat (i.toNat + n.toNat)) (g' := fun j => !sp i.toNat (i.toNat + n.toNat) j) (fun j hj => u_take _ _ j) (fun j hj => g_take _ _ j hj))
  clear s2
  go_wp2_with fail
  go_at_call 20
  refine (s1_free H2.out).mono ?_
  rw [cnt_sp _ _ (by omega) (by omega), show (512 - ((i.toNat + n.toNat - i.toNat : Nat) : Int)) = 512 - n by omega]
  rintro e w3 ⟨rfl, s3⟩
  have H3 := hide s3
  clear s3
  go_wp2_with fail
  go_at_call 17
  refine (s1_released H3.out).mono ?_
  rw [cnt_nsp _ _ (by omega) (by omega), show ((512 - (i.toNat + n.toNat - i.toNat) : Nat) : Int) = 512 - n by omega]
  rintro e w4 ⟨rfl, s4⟩
  have H4 := hide s4
  clear s4
  go_wp2_with fail
  go_at_call 13
  refine (s1_take H4.out (i + n - 1) 1 (by omega)).mono ?_
  rw [take_used (by unfold RightC; omega) (by
    intro z
    have := cnt_zero.1 z 0 (by simp)
    rw [Nat.add_zero] at this
    have h : sp i.toNat (i.toNat + n.toNat) (i + n - 1).toNat = true := (sp_iff _ _ _).2 (by omega)
    rw [h] at this
    cases this)]
  rintro e w5 ⟨rfl, s5⟩
  have H5 := hide s5
  clear s5
  go_wp2_with fail
  go_at_call 14
  refine (s1_give H5.out i k (by omega)).mono ?_
  rw [give_ok (by unfold RightC; omega) (cnt_full.2 (fun j hj => (sp_iff _ _ _).2 (by omega)))]
  rintro e w6 ⟨rfl, s6⟩
  have HZ := hide s6
  clear s6
  go_wp2_with fail
  go_at_call 15
  refine (s1_back HZ.out (i + k) (n - k) (by omega)).mono ?_
  rw [give_ok (by unfold RightC; omega) (cnt_full.2 (fun j hj => full_some i n k h0 (by omega) (by omega) j (by omega)))]
  rintro e wz ⟨rfl, sz⟩
  have H6 := hide (sz.congr (u' := nil512) (g' := fun j => !sp i.toNat (i.toNat + k.toNat) j) (fun j hj => u_some i n k h0 (by omega) (by omega) j) (fun j hj => g_some i n k h0 (by omega) (by omega) j))
  clear sz
  go_wp2_with fail
  go_at_call 20
  refine (s1_free H6.out).mono ?_
  rw [cnt_none (f := nil512) (fun _ _ => rfl)]
  rintro e w7 ⟨rfl, s7⟩
  have H7 := hide s7
  clear s7
  go_wp2_with fail
  go_at_call 17
  refine (s1_released H7.out).mono ?_
  rw [cnt_nsp _ _ (by omega) (by omega), show ((512 - (i.toNat + k.toNat - i.toNat) : Nat) : Int) = 512 - k by omega]
  rintro e w8 ⟨rfl, s8⟩
  have H8 := hide s8
  clear s8
  go_wp2_with fail
  go_at_call 14
  refine (s1_give H8.out i 1 (by omega)).mono ?_
  rw [give_free (by unfold RightC; omega) (by rw [cnt_none (f := nil512) (fun _ _ => rfl)]; simp)]
  rintro e w9 ⟨rfl, s9⟩
  have H9 := hide s9
  clear s9
  go_wp2_with fail
  go_at_call 13
  refine (s1_take H9.out 0 512 (by omega)).mono ?_
  rw [take_ok (by unfold RightC; omega) (cnt_none fun _ _ => rfl), show Int.toNat 0 = 0 from rfl, show Int.toNat 512 = 512 from rfl, cnt_nsp _ _ (by omega) (by omega), show ((512 - (i.toNat + k.toNat - i.toNat) : Nat) : Int) = 512 - k by omega]
  rintro e wa ⟨rfl, sa⟩
  have HA := hide sa
  clear sa
  go_wp2_with fail
  go_at_call 20
  refine (s1_free HA.out).mono ?_
  rw [(cnt_full (f := setF nil512 0 512)).2 (fun j hj => all512_at _ (by omega))]
  rintro e wb ⟨rfl, sb⟩
  have HB := hide sb
  clear sb
  go_wp2_with fail
  go_at_call 22
  refine (s1_sum HB.out).mono ?_
  rintro e wc ⟨s, m, q, rfl, pc, sc⟩
  obtain ⟨rfl, rfl, rfl⟩ := pc.one (sum_full (fun j hj => all512_at j hj))
  have HC := hide sc
  have hq := eqSum0 wc
  unfold sumV
  simp only [Int.natCast_zero]
  clear sc pc
  go_wp2_with (simp only [hq])
  go_at_call 12
  refine (awake_any wc HC.out.tab).mono ?_
  rintro e wd ⟨rfl, kd⟩
  have HD := hide (HC.out.be.trans (kd.mono HC.out.be.size))
  clear kd
  go_wp2_with fail
  go_ret
  exact ⟨rfl, HD.out⟩
set_option maxRecDepth 100000 in
set_option maxHeartbeats 4000000 in
theorem counts_full (i n k : Int) (w : World) (ht : TabW w) (h0 : 0 ≤ i) (h1 : 1 ≤ n) (h2 : n ≤ 512) (h3 : i ≤ 512 - n) (h4 : 0 ≤ k) (h5 : k ≤ n) (h6 : 0 < k) (h7 : n ≤ k) :
    Calls Tryd.prog 6 #[.int .i64 i, .int .i64 n, .int .i64 k] w fun e w' => e = .returned (.bool true) ∧ Below w.heap.size w w' := by
  have cN := s1_new w ht
  have HT := hide ht
  obtain ⟨N, hN⟩ : ∃ N, w.heap.size = N := ⟨_, rfl⟩
  rw [hN] at cN
  have HN := hide hN
  clear hN ht
  go_enter Tryd.func6, Tryd.ntmps6
  go_wp2_with fail
  go_at_call 8
  refine cN.mono ?_
  rintro e w1 ⟨rfl, s1⟩
  have H1 := hide s1
  clear s1 cN
  go_wp2_with fail
  go_at_call 13
  refine (s1_take H1.out i n (by omega)).mono ?_
  rw [take_ok (by unfold RightC; omega) (cnt_none fun _ _ => rfl), (cnt_full (f := all512)).2 (fun j hj => all512_at _ (by omega)), show ((n.toNat : Nat) : Int) = n by omega]
  rintro e w2 ⟨rfl, s2⟩
  have H2 := hide (s2.congr (u' := sp i.toNat (i.toNat + n.toNat)) (g' := fun j => !sp i.toNat (i.toNat + n.toNat) j) (fun j hj => u_take _ _ j) (fun j hj => g_take _ _ j hj))
  clear s2
  go_wp2_with fail
  go_at_call 20
  refine (s1_free H2.out).mono ?_
  rw [cnt_sp _ _ (by omega) (by omega), show (512 - ((i.toNat + n.toNat - i.toNat : Nat) : Int)) = 512 - n by omega]
  rintro e w3 ⟨rfl, s3⟩
  have H3 := hide s3
  clear s3
  go_wp2_with fail
  go_at_call 17
  refine (s1_released H3.out).mono ?_
  rw [cnt_nsp _ _ (by omega) (by omega), show ((512 - (i.toNat + n.toNat - i.toNat) : Nat) : Int) = 512 - n by omega]
  rintro e w4 ⟨rfl, s4⟩
  have H4 := hide s4
  clear s4
  go_wp2_with fail
  go_at_call 13
  refine (s1_take H4.out (i + n - 1) 1 (by omega)).mono ?_
  rw [take_used (by unfold RightC; omega) (by
    intro z
    have := cnt_zero.1 z 0 (by simp)
    rw [Nat.add_zero] at this
    have h : sp i.toNat (i.toNat + n.toNat) (i + n - 1).toNat = true := (sp_iff _ _ _).2 (by omega)
    rw [h] at this
    cases this)]
  rintro e w5 ⟨rfl, s5⟩
  have H5 := hide s5
  clear s5
  go_wp2_with fail
  go_at_call 14
  refine (s1_give H5.out i k (by omega)).mono ?_
  rw [give_ok (by unfold RightC; omega) (cnt_full.2 (fun j hj => (sp_iff _ _ _).2 (by omega)))]
  rintro e w6 ⟨rfl, s6⟩
  have H6 := hide (s6.congr (u' := nil512) (g' := fun j => !sp i.toNat (i.toNat + k.toNat) j) (fun j hj => u_full i n k h0 (by omega) (by omega) j) (fun j hj => g_full i n k h0 (by omega) (by omega) j))
  clear s6
  go_wp2_with fail
  go_at_call 20
  refine (s1_free H6.out).mono ?_
  rw [cnt_none (f := nil512) (fun _ _ => rfl)]
  rintro e w7 ⟨rfl, s7⟩
  have H7 := hide s7
  clear s7
  go_wp2_with fail
  go_at_call 17
  refine (s1_released H7.out).mono ?_
  rw [cnt_nsp _ _ (by omega) (by omega), show ((512 - (i.toNat + k.toNat - i.toNat) : Nat) : Int) = 512 - k by omega]
  rintro e w8 ⟨rfl, s8⟩
  have H8 := hide s8
  clear s8
  go_wp2_with fail
  go_at_call 14
  refine (s1_give H8.out i 1 (by omega)).mono ?_
  rw [give_free (by unfold RightC; omega) (by rw [cnt_none (f := nil512) (fun _ _ => rfl)]; simp)]
  rintro e w9 ⟨rfl, s9⟩
  have H9 := hide s9
  clear s9
  go_wp2_with fail
  go_at_call 13
  refine (s1_take H9.out 0 512 (by omega)).mono ?_
  rw [take_ok (by unfold RightC; omega) (cnt_none fun _ _ => rfl), show Int.toNat 0 = 0 from rfl, show Int.toNat 512 = 512 from rfl, cnt_nsp _ _ (by omega) (by omega), show ((512 - (i.toNat + k.toNat - i.toNat) : Nat) : Int) = 512 - k by omega]
  rintro e wa ⟨rfl, sa⟩
  have HA := hide sa
  clear sa
  go_wp2_with fail
  go_at_call 20
  refine (s1_free HA.out).mono ?_
  rw [(cnt_full (f := setF nil512 0 512)).2 (fun j hj => all512_at _ (by omega))]
  rintro e wb ⟨rfl, sb⟩
  have HB := hide sb
  clear sb
  go_wp2_with fail
  go_at_call 22
  refine (s1_sum HB.out).mono ?_
  rintro e wc ⟨s, m, q, rfl, pc, sc⟩
  obtain ⟨rfl, rfl, rfl⟩ := pc.one (sum_full (fun j hj => all512_at j hj))
  have HC := hide sc
  have hq := eqSum0 wc
  unfold sumV
  simp only [Int.natCast_zero]
  clear sc pc
  go_wp2_with (simp only [hq])
  go_at_call 12
  refine (awake_any wc HC.out.tab).mono ?_
  rintro e wd ⟨rfl, kd⟩
  have HD := hide (HC.out.be.trans (kd.mono HC.out.be.size))
  clear kd
  go_wp2_with fail
  go_ret
  exact ⟨rfl, HD.out⟩
theorem counts_any (i n k : Int) (hi : -9223372036854775808 ≤ i) (hi' : i ≤ 9223372036854775807) (w : World) (ht : TabW w) :
    Calls Tryd.prog 6 #[.int .i64 i, .int .i64 n, .int .i64 k] w fun e w' => e = .returned (.bool true) ∧ Below w.heap.size w w' := by
  by_cases h : 0 ≤ i ∧ 1 ≤ n ∧ n ≤ 512 ∧ i ≤ 512 - n ∧ 0 ≤ k ∧ k ≤ n
  · obtain ⟨h0, h1, h2, h3, h4, h5⟩ := h
    by_cases h6 : 0 < k
    · by_cases h7 : k < n
      · exact counts_some i n k w ht h0 h1 h2 h3 h4 h5 h6 h7
      · exact counts_full i n k w ht h0 h1 h2 h3 h4 h5 h6 (by omega)
    · exact counts_zero i n k w ht h0 h1 h2 h3 h4 h5 (by omega) (by omega)
  · exact counts_skip i n k hi hi' w h
end Go.Proofs.YtgjgcdbhppaigaaDoor
