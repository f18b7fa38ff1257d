/- Package fix: powerWithin, NewBump, Take, Blocks of a Bump: contracts. -/
import Derived.Test.YtmpddppjkfflnaaEx
import Derived.Test.YtmpddppjkfflnaaNm
namespace Go.Proofs.Ytmpddppjkfflnaa
open Go.ChangeShapes Go.WideShapes Go.ChangeAt Go.RowKit Go.Shelf Go.Proofs.Rx Go.Maps
set_option linter.unusedVariables false
set_option linter.unusedSimpArgs false

/-- A power of two from lo to hi. -/
def powIn (n lo hi : Int) : Bool := decide (lo ≤ n) && decide (n ≤ hi) && isPow n.toNat
theorem within_any (n lo hi : Int) (hl : 0 ≤ lo) (h1 : n ≤ 9223372036854775807) (w : World) :
    Calls Try.prog 25 #[.int .i64 n, .int .i64 lo, .int .i64 hi] w fun e w' => e = .returned (.bool (powIn n lo hi)) ∧ w' = w := by
  by_cases c1 : lo ≤ n
  · by_cases c2 : n ≤ hi
    · have d1 : decide (lo ≤ n) = true := decide_eq_true c1
      have d2 : decide (n ≤ hi) = true := decide_eq_true c2
      have C := hide (pow_any n.toNat (by omega))
      have eT : ((n.toNat : Nat) : Int) = n := by omega
      have eW : IntKind.u64.wrap n = n := by rw [IntKind.wrap_u64]; omega
      rw [eT] at C
      have eP : powIn n lo hi = isPow n.toNat := by unfold powIn; rw [d1, d2]; rfl
      rw [eP]
      generalize isPow n.toNat = P at *
      clear eT eP
      go_enter Try.func25, Try.ntmps25
      go_wp2_with (go_at_call 30; refine (C.out _).mono ?_; rintro e w' ⟨rfl, rfl⟩)
      go_ret
      exact ⟨rfl, rfl⟩
    · have d1 : decide (lo ≤ n) = true := decide_eq_true c1
      have d2 : decide (n ≤ hi) = false := decide_eq_false c2
      have eP : powIn n lo hi = false := by unfold powIn; rw [d1, d2]; rfl
      rw [eP]
      go_enter Try.func25, Try.ntmps25
      go_wp2_with fail
      go_ret
      exact ⟨rfl, rfl⟩
  · have d1 : decide (lo ≤ n) = false := decide_eq_false c1
    have eP : powIn n lo hi = false := by unfold powIn; rw [d1]; rfl
    rw [eP]
    go_enter Try.func25, Try.ntmps25
    go_wp2_with fail
    go_ret
    exact ⟨rfl, rfl⟩
theorem newBump_no (k : Int) (h : powIn k 64 1048576 = false) (h1 : k ≤ 9223372036854775807) (w : World) :
    Calls Try.prog 9 #[.int .i64 k] w fun e w' => e = .returned (.tuple #[.pointer none, .int .i64 1]) ∧ w' = w := by
  have C := hide (within_any k 64 1048576 (by omega) h1)
  rw [h] at C
  go_enter Try.func9, Try.ntmps9
  go_wp2_with (go_at_call 25; refine (C.out _).mono ?_; rintro e w' ⟨rfl, rfl⟩)
  go_ret2
  exact ⟨rfl, rfl⟩
theorem newBump_ok (k : Int) (h : powIn k 64 1048576 = true) (h1 : k ≤ 9223372036854775807) (w : World) :
    Calls Try.prog 9 #[.int .i64 k] w fun e w' => e = .returned (.tuple #[.pointer (some ⟨w.heap.size, 0, none⟩), .int .i64 0]) ∧ w' = w.alloc (.cells #[.int .i64 k, .int .i64 0, .int .i64 0] 60) := by
  have C := hide (within_any k 64 1048576 (by omega) h1)
  rw [h] at C
  go_enter Try.func9, Try.ntmps9
  go_wp2_with (go_at_call 25; refine (C.out _).mono ?_; rintro e w' ⟨rfl, rfl⟩)
  go_ret2
  exact ⟨rfl, rfl⟩
/-- The least multiple of a that is not below n. -/
def upB (n a : Int) : Int := (n + a - 1) / a * a
theorem upB_eq (n a : Int) (hn : 0 ≤ n) (ha : 1 ≤ a) : upB n a = if n % a = 0 then n else n - n % a + a := by
  unfold upB
  have h1 := Int.mul_ediv_add_emod n a
  have h2 := Int.emod_nonneg n (show a ≠ 0 by omega)
  have h3 := Int.emod_lt_of_pos n (show 0 < a by omega)
  by_cases c : n % a = 0
  · rw [if_pos c]
    have e : n + a - 1 = (a - 1) + n / a * a := by rw [Int.mul_comm (n / a) a]; omega
    rw [e, Int.add_mul_ediv_right _ _ (by omega), Int.ediv_eq_zero_of_lt (by omega) (by omega), Int.zero_add, Int.mul_comm]
    omega
  · rw [if_neg c]
    have e : n + a - 1 = (n % a - 1) + (n / a + 1) * a := by rw [Int.add_mul, Int.mul_comm (n / a) a]; omega
    rw [e, Int.add_mul_ediv_right _ _ (by omega), Int.ediv_eq_zero_of_lt (by omega) (by omega), Int.zero_add, Int.add_mul, Int.mul_comm (n / a) a]
    omega
theorem upB_facts (n a : Int) (hn : 0 ≤ n) (ha : 1 ≤ a) : n ≤ upB n a ∧ upB n a < n + a ∧ upB n a % a = 0 := by
  have h2 := Int.emod_nonneg n (show a ≠ 0 by omega)
  have h3 := Int.emod_lt_of_pos n (show 0 < a by omega)
  refine ⟨?_, ?_, ?_⟩
  · rw [upB_eq n a hn ha]; split <;> omega
  · rw [upB_eq n a hn ha]; split <;> omega
  · unfold upB; exact Int.mul_emod_left _ _
theorem upV_upB (n a : Int) (hn : 0 ≤ n) (hn2 : n ≤ 1048576) (ha : 1 ≤ a) (ha2 : a ≤ 1048576) : upV n a = upB n a := by
  have h2 := Int.emod_nonneg n (show a ≠ 0 by omega)
  have h3 := Int.emod_lt_of_pos n (show 0 < a by omega)
  rw [upB_eq n a hn ha]
  have ok : upOk n a = true := by
    unfold upOk
    rw [decide_eq_true (show a ≠ 0 by omega)]
    by_cases c : n % a = 0
    · rw [decide_eq_true c]; rfl
    · rw [decide_eq_false c, decide_eq_true (show n - n % a + a ≤ 18446744073709551615 by omega)]; rfl
  unfold upV
  rw [ok, if_pos rfl]
def buV (K M E : Int) : Array Value := #[.int .i64 K, .int .i64 M, .int .i64 E]
/-- A store of blocks as it can be. -/
structure BuOk (K M E : Int) : Prop where
  k0 : 64 ≤ K
  k1 : K ≤ 1048576
  m0 : 0 ≤ M
  m1 : M ≤ 1000000
  e0 : 0 ≤ E
  e1 : E ≤ K
  z : M = 0 → E = 0
theorem below_drewN (W : World) (j : Nat) : Below W.heap.size W (W.drewN j) := ⟨rfl, rfl, rfl, Nat.le_refl _, fun _ _ => rfl⟩
/-- How a store of blocks lies. -/
def BuAt (W : World) (bb : Nat) (K M E : Int) : Prop := Bk W bb 60 #[.int .i64 K, .int .i64 M, .int .i64 E]
section
variable {W : World} {bb : Nat} {K M E : Int}
theorem fit_none (h : BuAt W bb K 0 E) (s a : Int) :
    Calls Try.prog 27 #[.pointer (some ⟨bb, 0, none⟩), .int .i64 s, .int .i64 a] W fun e W' => e = .returned (.tuple #[.int .i64 0, .bool false]) ∧ W' = W := by
  have y1 := Bk.cell h 1 _ rfl
  clear h
  go_enter Try.func27, Try.ntmps27
  go_wp2_with fail
  go_ret2
  exact ⟨rfl, rfl⟩
theorem fit_any (h : BuAt W bb K M E) (ok : BuOk K M E) (hM : M ≠ 0) (s a : Int) (ha : 1 ≤ a) (ha2 : a ≤ K) (hs : 1 ≤ s) (hs2 : s ≤ K) :
    Calls Try.prog 27 #[.pointer (some ⟨bb, 0, none⟩), .int .i64 s, .int .i64 a] W fun e W' => e = .returned (.tuple #[.int .i64 (upB E a), .bool (decide (s ≤ K - upB E a))]) ∧ ∃ j, W' = W.drewN j := by
  have y0 := Bk.cell h 0 _ rfl
  have y1 := Bk.cell h 1 _ rfl
  have y2 := Bk.cell h 2 _ rfl
  obtain ⟨k0, k1, m0, m1, e0, e1, -⟩ := ok
  have C := hide (up_any E a (by omega) (by omega) W)
  rw [upV_upB E a e0 (by omega) ha (by omega)] at C
  generalize upOk E a = O at C
  obtain ⟨u1, u2, -⟩ := upB_facts E a e0 ha
  generalize upB E a = U at *
  have z : (M == 0) = false := by simpa using hM
  have w1 : IntKind.u64.wrap E = E := by rw [IntKind.wrap_u64]; omega
  have w2 : IntKind.u64.wrap a = a := by rw [IntKind.wrap_u64]; omega
  have w3 : IntKind.i64.wrap U = U := by rw [IntKind.wrap_i64]; omega
  have w4 : IntKind.i64.wrap (K - U) = K - U := by rw [IntKind.wrap_i64]; omega
  clear h hM
  go_enter Try.func27, Try.ntmps27
  go_wp2_with fail
  refine C.out.mono ?_
  rintro e W1 ⟨rfl, hw⟩
  rw [hw]
  clear hw C
  go_wp2_with fail
  go_quiet (fail)
  go_wp2_with fail
  go_ret2
  exact ⟨rfl, _, rfl⟩
/-- What Take leaves. -/
def BuTo (W W' : World) (bb : Nat) (K M E : Int) : Prop := BuAt W' bb K M E ∧ Kept (fun z => z = bb) W W'
theorem bt_arg (h : BuAt W bb K M E) (s a : Int) (ha : a ≤ 9223372036854775807) (hb : s < 1 ∨ powIn a 1 K = false) :
    Calls Try.prog 11 #[.pointer (some ⟨bb, 0, none⟩), .int .i64 s, .int .i64 a] W fun e W' => e = .returned (.tuple #[.int .i64 0, .int .i64 0, .int .i64 1]) ∧ W' = W := by
  have y0 := Bk.cell h 0 _ rfl
  clear h
  by_cases c : s < 1
  · have d1 : decide (s < 1) = true := decide_eq_true c
    clear hb
    go_enter Try.func11, Try.ntmps11
    go_wp2_with fail
    refine bodyPost_ret (results_tmp3 Try.results11 _ _ _) rfl ?_
    exact ⟨rfl, rfl⟩
  · have d1 : decide (s < 1) = false := decide_eq_false c
    have C := hide (within_any a 1 K (by omega) ha)
    rw [hb.resolve_left c] at C
    clear hb
    go_enter Try.func11, Try.ntmps11
    go_wp2_with (go_at_call 25; refine (C.out _).mono ?_; rintro e w1 ⟨rfl, hw⟩; rw [hw]; clear hw w1)
    refine bodyPost_ret (results_tmp3 Try.results11 _ _ _) rfl ?_
    exact ⟨rfl, rfl⟩
theorem bt_long (h : BuAt W bb K M E) (k0 : 64 ≤ K) (s a : Int) (ha : a ≤ 9223372036854775807) (hb : powIn a 1 K = true) (hs : K < s) :
    Calls Try.prog 11 #[.pointer (some ⟨bb, 0, none⟩), .int .i64 s, .int .i64 a] W fun e W' => e = .returned (.tuple #[.int .i64 0, .int .i64 0, .int .i64 2]) ∧ W' = W := by
  have y0 := Bk.cell h 0 _ rfl
  have d1 : decide (s < 1) = false := decide_eq_false (by omega)
  have d2 : decide (K < s) = true := decide_eq_true hs
  have C := hide (within_any a 1 K (by omega) ha)
  rw [hb] at C
  clear hb h
  go_enter Try.func11, Try.ntmps11
  go_wp2_with (go_at_call 25; refine (C.out _).mono ?_; rintro e w1 ⟨rfl, hw⟩; rw [hw]; clear hw w1)
  refine bodyPost_ret (results_tmp3 Try.results11 _ _ _) rfl ?_
  exact ⟨rfl, rfl⟩
theorem powIn_le {n lo hi : Int} (h : powIn n lo hi = true) : lo ≤ n ∧ n ≤ hi ∧ isPow n.toNat = true := by
  unfold powIn at h
  simp at h
  exact ⟨h.1.1, h.1.2, h.2⟩
/-- A place in the last block. -/
theorem bt_old (h : BuAt W bb K M E) (ok : BuOk K M E) (s a : Int) (hb : powIn a 1 K = true) (hs : 1 ≤ s) (hM : M ≠ 0) (hf : upB E a + s ≤ K) :
    Calls Try.prog 11 #[.pointer (some ⟨bb, 0, none⟩), .int .i64 s, .int .i64 a] W fun e W' => e = .returned (.tuple #[.int .i64 (M - 1), .int .i64 (upB E a), .int .i64 0]) ∧ BuTo W W' bb K M (upB E a + s) := by
  obtain ⟨a1, a2, -⟩ := powIn_le hb
  have u1 := (upB_facts E a ok.e0 a1).1
  have ok1 := ok
  obtain ⟨k0, k1, m0, m1, e0, e1, -⟩ := ok1
  have H := hide h
  have CF := hide (fun j => fit_any (W := W.drewN j) (h.below (below_drewN W j)) ok hM s a a1 a2 hs (by omega))
  rw [decide_eq_true (show s ≤ K - upB E a by omega)] at CF
  have y0 := Bk.cell h 0 _ rfl
  have d1 : decide (s < 1) = false := decide_eq_false (by omega)
  have d2 : decide (K < s) = false := decide_eq_false (by omega)
  have C := hide (within_any a 1 K (by omega) (by omega))
  rw [hb] at C
  generalize upB E a = U at *
  have w1 : IntKind.i64.wrap (U + s) = U + s := by rw [IntKind.wrap_i64]; omega
  have w2 : IntKind.i64.wrap (M - 1) = M - 1 := by rw [IntKind.wrap_i64]; omega
  clear hb h ok
  go_enter Try.func11, Try.ntmps11
  go_wp2_with (go_at_call 25; refine (C.out _).mono ?_; rintro e w1 ⟨rfl, hw⟩; rw [hw]; clear hw w1)
  refine (CF.out 0).mono ?_
  rintro e W1 ⟨rfl, j, hw⟩
  have h1 : BuAt W1 bb K M E := by rw [hw]; exact H.out.below (below_drewN W j)
  have HW := hide hw
  have y2 := Bk.cell h1 2 _ rfl
  have f2 := Bk.fz h1 2
  have H1 := hide h1
  have y1 := Bk.cell (Bk.set h1 2 (.int .i64 (U + s))) 1 _ rfl
  clear hw y0 H CF C h1
  go_wp2_with fail
  refine bodyPost_ret (results_tmp3 Try.results11 _ _ _) rfl ?_
  refine ⟨rfl, Bk.set H1.out 2 _, ?_⟩
  have k1 : Kept (fun z => z = bb) W W1 := by rw [HW.out]; exact Kept.of_below (below_drewN W j)
  exact k1.trans (kept_set (F := fun z => z = bb) W1 bb 2 _ rfl) (fun _ _ f => f)
/-- A new block. -/
theorem bt_new (h : BuAt W bb K M E) (ok : BuOk K M E) (s a : Int) (hb : powIn a 1 K = true) (hs : 1 ≤ s) (hs2 : s ≤ K) (hf : M ≠ 0 → K < upB E a + s) :
    Calls Try.prog 11 #[.pointer (some ⟨bb, 0, none⟩), .int .i64 s, .int .i64 a] W fun e W' => e = .returned (.tuple #[.int .i64 M, .int .i64 0, .int .i64 0]) ∧ BuTo W W' bb K (M + 1) s := by
  obtain ⟨a1, a2, -⟩ := powIn_le hb
  have ok1 := ok
  obtain ⟨k0, k1, m0, m1, e0, e1, -⟩ := ok1
  have H := hide h
  have CF := hide (show Calls Try.prog 27 #[.pointer (some ⟨bb, 0, none⟩), .int .i64 s, .int .i64 a] W fun e W' => (∃ u, e = .returned (.tuple #[.int .i64 u, .bool false])) ∧ ∃ j, W' = W.drewN j from by
    by_cases hM : M = 0
    · rw [hM] at h
      refine (fit_none h s a).mono ?_
      rintro e W' ⟨rfl, rfl⟩
      exact ⟨⟨_, rfl⟩, 0, rfl⟩
    · refine (fit_any h ok hM s a a1 a2 hs hs2).mono ?_
      rintro e W' ⟨rfl, j, rfl⟩
      have := hf hM
      rw [decide_eq_false (show ¬ s ≤ K - upB E a by omega)]
      exact ⟨⟨_, rfl⟩, j, rfl⟩)
  have y0 := Bk.cell h 0 _ rfl
  have d1 : decide (s < 1) = false := decide_eq_false (by omega)
  have d2 : decide (K < s) = false := decide_eq_false (by omega)
  have C := hide (within_any a 1 K (by omega) (by omega))
  rw [hb] at C
  have w1 : IntKind.i64.wrap (0 + s) = s := by rw [IntKind.wrap_i64]; omega
  have w2 : IntKind.i64.wrap (M + 1) = M + 1 := by rw [IntKind.wrap_i64]; omega
  have w3 : IntKind.i64.wrap (M + 1 - 1) = M := by rw [IntKind.wrap_i64]; omega
  clear hb h ok hf
  go_enter Try.func11, Try.ntmps11
  go_wp2_with (go_at_call 25; refine (C.out _).mono ?_; rintro e w1 ⟨rfl, hw⟩; rw [hw]; clear hw w1)
  refine CF.out.mono ?_
  rintro e W1 ⟨⟨U, rfl⟩, j, hw⟩
  have h1 : BuAt W1 bb K M E := by rw [hw]; exact H.out.below (below_drewN W j)
  have HW := hide hw
  have y1 := Bk.cell h1 1 _ rfl
  have f1 := Bk.fz h1 1
  have h2 := Bk.set h1 1 (.int .i64 (M + 1))
  have y2 := Bk.cell h2 2 _ rfl
  have f2 := Bk.fz h2 2
  have h3 := Bk.set h2 2 (.int .i64 s)
  have y3 := Bk.cell h3 1 _ rfl
  have H3 := hide h3
  clear hw y0 H CF C h1 h2 h3
  go_wp2_with fail
  refine bodyPost_ret (results_tmp3 Try.results11 _ _ _) rfl ?_
  refine ⟨rfl, H3.out, ?_⟩
  have k1 : Kept (fun z => z = bb) W W1 := by rw [HW.out]; exact Kept.of_below (below_drewN W j)
  exact (k1.trans (kept_set (F := fun z => z = bb) W1 bb 1 _ rfl) (fun _ _ f => f)).trans (kept_set (F := fun z => z = bb) _ bb 2 _ rfl) (fun _ _ f => f)
theorem blocks_any (h : BuAt W bb K M E) : Calls Try.prog 13 #[.pointer (some ⟨bb, 0, none⟩)] W fun e W' => e = .returned (.int .i64 M) ∧ W' = W := by
  have y1 := Bk.cell h 1 _ rfl
  clear h
  go_enter Try.func13, Try.ntmps13
  go_wp2_with fail
  go_ret
  exact ⟨rfl, rfl⟩
end
end Go.Proofs.Ytmpddppjkfflnaa
