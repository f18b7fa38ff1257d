/- ClassOf, walked. -/
import Derived.Test.YtamkjodfjdhhmaaRo
namespace Go.Proofs.Ytamkjodfjdhhmaa
open Go.ChangeShapes Go.WideShapes Go.ChangeAt Go.RowKit Go.Proofs.Cl Go.Shelf
set_option linter.unusedVariables false
set_option linter.unusedSimpArgs false

set_option maxRecDepth 100000 in
theorem of_mid (n b r k : Int) (e f : Int) (w : World)
    (c1 : ∀ w, Calls Try.prog 14 #[.int .i64 n] w fun o w' => o = .returned (.tuple #[.int .i64 k, .int .i64 e]) ∧ Below w.heap.size w w')
    (c2 : ∀ w, Calls Try.prog 15 #[.int .i64 n] w fun o w' => o = .returned (.tuple #[.int .i64 k, .int .i64 e]) ∧ Below w.heap.size w w')
    (c3 : ∀ w, Calls Try.prog 16 #[.int .u64 b] w fun o w' => o = .returned (.tuple #[.int .u64 r, .int .i64 f]) ∧ Below w.heap.size w w')
    (c4 : ∀ w, Calls Try.prog 17 #[.int .u64 b] w fun o w' => o = .returned (.tuple #[.int .u64 r, .int .i64 f]) ∧ Below w.heap.size w w') :
    Calls Try.prog 4 #[.int .i64 n, .int .u64 b] w fun e w' => e = .returned (.bool true) ∧ Below w.heap.size w w' := by
  have C1 := hide c1
  have C2 := hide c2
  have C3 := hide c3
  have C4 := hide c4
  clear c1 c2 c3 c4
  go_enter Try.func4, Try.ntmps4
  go_wp2_with fail
  refine (C1.out _).mono ?_
  rintro o w1 ⟨rfl, b1⟩
  have B1 := hide b1
  clear b1 C1
  go_wp2_with fail
  refine (C2.out _).mono ?_
  rintro o w2 ⟨rfl, b2⟩
  have B2 := hide (B1.out.trans (b2.mono B1.out.size))
  clear b2 C2 B1
  go_wp2_with fail
  refine (C3.out _).mono ?_
  rintro o w3 ⟨rfl, b3⟩
  have B3 := hide (B2.out.trans (b3.mono B2.out.size))
  clear b3 C3 B2
  go_wp2_with fail
  refine (C4.out _).mono ?_
  rintro o w4 ⟨rfl, b4⟩
  have B4 := hide (B3.out.trans (b4.mono B3.out.size))
  clear b4 C4 B3
  go_wp2_with fail
  refine (awake_core _).mono ?_
  rintro o w5 ⟨rfl, b5⟩
  have B5 := hide (B4.out.trans (b5.mono B4.out.size))
  clear b5 B4
  go_wp2_with fail
  go_ret
  exact ⟨rfl, B5.out⟩
theorem same_below {P : Program} {f : FuncId} {args : Array Value} {w : World} {v : Value} (h : Calls P f args w fun e w' => e = .returned v ∧ w' = w) : Calls P f args w fun e w' => e = .returned v ∧ Below w.heap.size w w' :=
  h.mono (by rintro e w' ⟨h1, rfl⟩; exact ⟨h1, Below.refl _ _⟩)
theorem of_core (n b : Int) (hb0 : 0 ≤ b) (hb1 : b ≤ 18446744073709551615) (w : World) :
    Calls Try.prog 4 #[.int .i64 n, .int .u64 b] w fun e w' => e = .returned (.bool true) ∧ Below w.heap.size w w' := by
  have o : ∃ k e : Int, (∀ w, Calls Try.prog 14 #[.int .i64 n] w fun o w' => o = .returned (.tuple #[.int .i64 k, .int .i64 e]) ∧ Below w.heap.size w w') ∧ (∀ w, Calls Try.prog 15 #[.int .i64 n] w fun o w' => o = .returned (.tuple #[.int .i64 k, .int .i64 e]) ∧ Below w.heap.size w w') := by
    by_cases h : n < 0 ∨ 32768 < n
    · exact ⟨0, 1, fun w => same_below (of_err n h w), fun w => same_below (refOf_err n h w)⟩
    · obtain ⟨sz, rfl⟩ : ∃ k : Nat, n = (k : Int) := ⟨n.toNat, by omega⟩
      exact ⟨_, 0, fun w => of_ok sz (by omega) w, fun w => refOf_ok sz (by omega) w⟩
  have r : ∃ k e : Int, (∀ w, Calls Try.prog 16 #[.int .u64 b] w fun o w' => o = .returned (.tuple #[.int .u64 k, .int .i64 e]) ∧ Below w.heap.size w w') ∧ (∀ w, Calls Try.prog 17 #[.int .u64 b] w fun o w' => o = .returned (.tuple #[.int .u64 k, .int .i64 e]) ∧ Below w.heap.size w w') := by
    by_cases h : 1099511627776 < b
    · exact ⟨0, 2, fun w => same_below (round_long b h w), fun w => same_below (refRound_long b h w)⟩
    · obtain ⟨m, rfl⟩ : ∃ k : Nat, b = (k : Int) := ⟨b.toNat, by omega⟩
      exact ⟨_, 0, fun w => round_ok m (by omega) w, fun w => refRound_ok m (by omega) w⟩
  obtain ⟨k, e, o1, o2⟩ := o
  obtain ⟨q, f, r1, r2⟩ := r
  exact of_mid n b q k e f w o1 o2 r1 r2
end Go.Proofs.Ytamkjodfjdhhmaa
