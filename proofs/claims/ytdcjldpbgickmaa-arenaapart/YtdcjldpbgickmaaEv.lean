/- ArenaEverywhere. -/
import Derived.Test.YtdcjldpbgickmaaAm
namespace Go.Proofs.Ytdcjldpbgickmaa
open Go.ChangeShapes Go.WideShapes Go.ChangeAt Go.RowKit Go.Shelf Go.Proofs.Rx Go.Maps
set_option linter.unusedVariables false
set_option linter.unusedSimpArgs false

set_option maxRecDepth 100000 in
set_option maxHeartbeats 4000000 in
theorem every_out (C P M A id : Int) (hM : 0 ≤ M) (W : World) (q : decide (id < 1) = true ∨ decide (id < 1) = false ∧ (decide (M < 1) = true ∨ decide (M < 1) = false ∧ (decide (512 < M) = true ∨ decide (512 < M) = false ∧ (decide (512 - M < P) = true ∨ decide (512 - M < P) = false ∧ decide (67108864 ≤ C) = true)))) :
    Calls Try.prog 5 #[.int .u64 C, .int .u64 P, .int .u64 M, .int .u64 A, .int .i64 id] W fun e W' => e = .returned (.bool true) ∧ Below W.heap.size W W' := by
  rcases q with d | ⟨d, d1 | ⟨d1, d2 | ⟨d2, d3 | ⟨d3, d4⟩⟩⟩⟩
  all_goals
    try have m2 : M ≤ 512 := by have := of_decide_eq_false d2; omega
    go_enter Try.func5, Try.ntmps5
    go_wp2_with fail
    go_ret
    exact ⟨rfl, Below.refl _ _⟩
/-! ### arguments as integers -/
section
variable {N : Nat} {O : Nat → Prop} {w W W' : World} {mb : Nat} {C : Nat → Bool} {V : Nat → Int}
theorem am_addI (h : Am N O w W mb C V) (c : Int) (hc : 0 ≤ c) :
    Calls Try.prog 15 #[.pointer (some ⟨mb, 0, none⟩), .int .u64 c] W fun e W' => e = .returned (.int .i64 (addE C c.toNat)) ∧ Am N O w W' mb (addC C c.toNat) V ∧ LeftA N O W W' := by
  have := am_add h c.toNat
  rw [Int.toNat_of_nonneg hc] at this
  exact this
theorem am_setI (h : Am N O w W mb C V) (p n id : Int) (hp : 0 ≤ p) (hn : 0 ≤ n) :
    Calls Try.prog 14 #[.pointer (some ⟨mb, 0, none⟩), .int .u64 p, .int .u64 n, .int .i64 id] W fun e W' => e = .returned (.int .i64 (setE C p.toNat n.toNat id)) ∧ Am N O w W' mb C (setV C V p.toNat n.toNat id) ∧ LeftA N O W W' := by
  have := am_set h p.toNat n.toNat id
  rw [Int.toNat_of_nonneg hp, Int.toNat_of_nonneg hn] at this
  exact this
theorem am_atI (h : Am N O w W mb C V) (a : Int) (h0 : 0 ≤ a) (h1 : a < 18446744073709551616) :
    Calls Try.prog 11 #[.pointer (some ⟨mb, 0, none⟩), .int .u64 a] W fun e W' => e = .returned (.int .i64 (V (a.toNat / 8192))) ∧ Below W.heap.size W W' := by
  have := am_at h a.toNat (by omega)
  rw [Int.toNat_of_nonneg h0] at this
  exact this
theorem am_hasI (h : Am N O w W mb C V) (a : Int) (h0 : 0 ≤ a) (h1 : a < 18446744073709551616) :
    Calls Try.prog 16 #[.pointer (some ⟨mb, 0, none⟩), .int .u64 a] W fun e W' => e = .returned (.bool (C (a.toNat / 4194304))) ∧ Below W.heap.size W W' := by
  have := am_has h a.toNat (by omega)
  rw [Int.toNat_of_nonneg h0] at this
  exact this
end
/-- What the calls of the law answer. -/
structure EvC (W : World) (R : Ending → World → Prop) (C1 : Nat → Bool) (V1 V2 : Nat → Int) (CI PI NI AI id want : Int) : Prop where
  HR : R = fun e W' => e = .returned (.bool true) ∧ Below W.heap.size W W'
  SS0 : ∀ (X : World) (mb : Nat), Am W.heap.size (fun _ => False) W X mb (fun _ => false) (fun _ => 0) → Hid (Calls Try.prog 14 #[.pointer (some ⟨mb, 0, none⟩), .int .u64 (512 * CI), .int .u64 1, .int .i64 id] X fun e W' => e = .returned (.int .i64 10) ∧ Am W.heap.size (fun _ => False) W W' mb (fun _ => false) (fun _ => 0) ∧ LeftA W.heap.size (fun _ => False) X W')
  SS1 : ∀ (X : World) (mb : Nat), Am W.heap.size (fun _ => False) W X mb (fun _ => false) (fun _ => 0) → Hid (Calls Try.prog 15 #[.pointer (some ⟨mb, 0, none⟩), .int .u64 CI] X fun e W' => e = .returned (.int .i64 0) ∧ Am W.heap.size (fun _ => False) W W' mb C1 (fun _ => 0) ∧ LeftA W.heap.size (fun _ => False) X W')
  SS2 : ∀ (X : World) (mb : Nat), Am W.heap.size (fun _ => False) W X mb C1 (fun _ => 0) → Hid (Calls Try.prog 14 #[.pointer (some ⟨mb, 0, none⟩), .int .u64 (512 * CI + PI), .int .u64 NI, .int .i64 id] X fun e W' => e = .returned (.int .i64 0) ∧ Am W.heap.size (fun _ => False) W W' mb C1 V1 ∧ LeftA W.heap.size (fun _ => False) X W')
  SS3 : ∀ (X : World) (mb : Nat), Am W.heap.size (fun _ => False) W X mb C1 V1 → Hid (Calls Try.prog 14 #[.pointer (some ⟨mb, 0, none⟩), .int .u64 (512 * CI + PI), .int .u64 NI, .int .i64 0] X fun e W' => e = .returned (.int .i64 0) ∧ Am W.heap.size (fun _ => False) W W' mb C1 V2 ∧ LeftA W.heap.size (fun _ => False) X W')
  AA0 : ∀ (X : World) (mb : Nat), Am W.heap.size (fun _ => False) W X mb C1 V1 → Hid (Calls Try.prog 11 #[.pointer (some ⟨mb, 0, none⟩), .int .u64 AI] X fun e W' => e = .returned (.int .i64 want) ∧ Below X.heap.size X W')
  AA1 : ∀ (X : World) (mb : Nat), Am W.heap.size (fun _ => False) W X mb C1 V1 → Hid (Calls Try.prog 11 #[.pointer (some ⟨mb, 0, none⟩), .int .u64 ((512 * CI + PI) * 8192)] X fun e W' => e = .returned (.int .i64 id) ∧ Below X.heap.size X W')
  AA2 : ∀ (X : World) (mb : Nat), Am W.heap.size (fun _ => False) W X mb C1 V1 → Hid (Calls Try.prog 11 #[.pointer (some ⟨mb, 0, none⟩), .int .u64 ((512 * CI + PI) * 8192 + NI * 8192 - 1)] X fun e W' => e = .returned (.int .i64 id) ∧ Below X.heap.size X W')
  AA3 : decide (0 < PI) = true → ∀ (X : World) (mb : Nat), Am W.heap.size (fun _ => False) W X mb C1 V1 → Hid (Calls Try.prog 11 #[.pointer (some ⟨mb, 0, none⟩), .int .u64 ((512 * CI + PI) * 8192 - 1)] X fun e W' => e = .returned (.int .i64 0) ∧ Below X.heap.size X W')
  AA4 : ∀ (X : World) (mb : Nat), Am W.heap.size (fun _ => False) W X mb C1 V1 → Hid (Calls Try.prog 11 #[.pointer (some ⟨mb, 0, none⟩), .int .u64 281474976710656] X fun e W' => e = .returned (.int .i64 0) ∧ Below X.heap.size X W')
  AA5 : ∀ (X : World) (mb : Nat), Am W.heap.size (fun _ => False) W X mb C1 V1 → Hid (Calls Try.prog 11 #[.pointer (some ⟨mb, 0, none⟩), .int .u64 18446744073709551615] X fun e W' => e = .returned (.int .i64 0) ∧ Below X.heap.size X W')
  AA6 : ∀ (X : World) (mb : Nat), Am W.heap.size (fun _ => False) W X mb C1 V2 → Hid (Calls Try.prog 11 #[.pointer (some ⟨mb, 0, none⟩), .int .u64 ((512 * CI + PI) * 8192)] X fun e W' => e = .returned (.int .i64 0) ∧ Below X.heap.size X W')
  BB0 : ∀ (X : World) (mb : Nat), Am W.heap.size (fun _ => False) W X mb C1 V1 → Hid (Calls Try.prog 16 #[.pointer (some ⟨mb, 0, none⟩), .int .u64 AI] X fun e W' => e = .returned (.bool (AI / 4194304 == CI)) ∧ Below X.heap.size X W')
  d0 : decide (id < 1) = false
  d1 : decide (NI < 1) = false
  d2 : decide (512 < NI) = false
  d3 : decide (512 - NI < PI) = false
  d4 : decide (67108864 ≤ CI) = false
  u1 : 0 ≤ CI
  u2 : CI < 67108864
  u3 : 0 ≤ PI
  u4 : PI + NI ≤ 512
  u5 : 1 ≤ NI
  u6 : 0 ≤ AI
  u7 : AI < 18446744073709551616
end Go.Proofs.Ytdcjldpbgickmaa
