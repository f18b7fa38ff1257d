/- A span in memory: Info, Slot, Index: contracts. -/
import Derived.Test.YtblfefibgoiaaaaDoorGd
namespace Go.Proofs.YtblfefibgoiaaaaDoor
open Go.ChangeShapes Go.WideShapes Go.ChangeAt Go.RowKit Go.Proofs.Sn Go.Shelf
set_option linter.unusedVariables false
set_option linter.unusedSimpArgs false

attribute [local go_sem] Oper.semAt_some

def infoV (G : Geo) (st c : Nat) : Value := .agg #[.int .u64 (G.base : Nat), .int .i64 (G.pages : Nat), .int .i64 (st : Nat), .int .i64 (G.cls : Nat), .bool G.noptr, .int .i64 (G.elem : Nat), .int .i64 (G.slots : Nat), .int .i64 (c : Nat), .bool false, .bool false]
/-- The slot that an address lies in. -/
def idxV (G : Geo) (a : Nat) : Option Nat := if G.base ≤ a ∧ (a - G.base) / G.elem < G.slots then some ((a - G.base) / G.elem) else none
section
variable {N : Nat} {W W' : World} {sb : Nat} {v1 v2 : Value} {G : Geo} {st c look : Nat} {ws ms : List Nat}
theorem info_any (h : SpAt N W sb v1 v2 G st c ws ms look) : Calls Tryd.prog 20 #[.pointer (some ⟨sb, 0, none⟩)] W fun e W' => e = .returned (infoV G st c) ∧ Below W.heap.size W W' := by
  have b := below_alloc W (.cells #[.int .u64 0, .int .i64 0, .int .i64 0, .int .i64 0, .bool false, .int .i64 0, .int .i64 0, .int .i64 0, .bool false, .bool false] 47)
  have hb := h.below b
  have y0 := hb.c0
  have y1 := hb.c1
  have y2 := hb.c2
  have y3 := hb.c3
  have y4 := hb.c4
  have y5 := hb.c5
  have y6 := hb.c6
  have y7 := hb.c7
  have y8 := hb.c8
  have y9 := hb.c9
  unfold infoV
  have sl := h.bk.lt
  have ne : sb ≠ W.heap.size := by omega
  clear h b hb sl
  go_enter Tryd.func20, Tryd.ntmps20
  go_wp2_with fail
  refine bodyPost_ret (v := .agg #[.int .u64 (G.base : Nat), .int .i64 (G.pages : Nat), .int .i64 (st : Nat), .int .i64 (G.cls : Nat), .bool G.noptr, .int .i64 (G.elem : Nat), .int .i64 (G.slots : Nat), .int .i64 (c : Nat), .bool false, .bool false]) (by simp [results, Tryd.results20, go_sem]) rfl ⟨rfl, ?_⟩
  first | exact below_alloc _ _ | (repeat (refine Below.setCell ?_ (Nat.le_refl _) _); exact below_alloc _ _)
theorem slot_no (h : SpAt N W sb v1 v2 G st c ws ms look) (i : Int) (hi : inB G.slots i = false) : Calls Tryd.prog 23 #[.pointer (some ⟨sb, 0, none⟩), .int .i64 i] W fun e W' => e = .returned (.tuple #[.int .u64 0, .int .i64 1]) ∧ W' = W := by
  have C := hide (hs_any h i)
  rw [hi] at C
  clear h
  go_enter Tryd.func23, Tryd.ntmps23
  go_wp2_with fail
  refine C.out.mono ?_
  rintro e W1 ⟨rfl, hw⟩
  rw [hw]
  clear hw C W1
  go_wp2_with fail
  go_ret2
  exact ⟨rfl, rfl⟩
theorem slot_ok (h : SpAt N W sb v1 v2 G st c ws ms look) (g : GOk G) (k : Nat) (hi : k < G.slots) : Calls Tryd.prog 23 #[.pointer (some ⟨sb, 0, none⟩), .int .i64 (k : Nat)] W fun e W' => e = .returned (.tuple #[.int .u64 ((G.base + k * G.elem : Nat) : Int), .int .i64 0]) ∧ ∃ j, W' = W.drewN j := by
  have C := hide (hs_any h (k : Int))
  rw [inB_true.2 ⟨by omega, by omega⟩] at C
  have y0 := h.c0
  have y5 := h.c5
  have m1 : k * G.elem ≤ G.slots * G.elem := Nat.mul_le_mul_right _ (by omega)
  have b1 := g.b1
  have e1 := g.e1
  have s1 := g.s1
  have bb : 0 ≤ (k : Int) * (G.elem : Int) := Int.mul_nonneg (by omega) (by omega)
  have eq : ((k * G.elem : Nat) : Int) = (k : Int) * (G.elem : Int) := by push_cast; rfl
  rw [show ((G.base + k * G.elem : Nat) : Int) = (G.base : Int) + (k : Int) * (G.elem : Int) by push_cast; rfl]
  have w1 : IntKind.u64.wrap (k : Int) = (k : Int) := by rw [IntKind.wrap_u64]; omega
  have w2 : IntKind.u64.wrap (G.elem : Int) = (G.elem : Int) := by rw [IntKind.wrap_u64]; omega
  have w3 : IntKind.u64.wrap ((k : Int) * (G.elem : Int)) = (k : Int) * (G.elem : Int) := by rw [IntKind.wrap_u64]; omega
  have w4 : IntKind.u64.wrap ((G.base : Int) + (k : Int) * (G.elem : Int)) = (G.base : Int) + (k : Int) * (G.elem : Int) := by rw [IntKind.wrap_u64]; omega
  clear h m1 b1 e1 s1 bb eq g hi
  go_enter Tryd.func23, Tryd.ntmps23
  go_wp2_with fail
  refine C.out.mono ?_
  rintro e W1 ⟨rfl, hw⟩
  rw [hw]
  clear hw C W1
  go_wp2_with fail
  go_quiet (fail)
  go_wp2_with fail
  go_ret2
  exact ⟨rfl, _, rfl⟩
/-! ### Index -/
theorem slotAt_any (h : SpAt N W sb v1 v2 G st c ws ms look) (g : GOk G) (a : Nat) (ha : a < G.slots * G.elem) : Calls Tryd.prog 51 #[.pointer (some ⟨sb, 0, none⟩), .int .u64 (a : Nat)] W fun e W' => e = .returned (.int .i64 ((a / G.elem : Nat) : Int)) ∧ W' = W := by
  have y5 := h.c5
  have y10 := h.c10
  have e0 := g.e0
  have e1 := g.e1
  have b1 := g.b1
  have w2 : IntKind.u64.wrap (G.elem : Int) = (G.elem : Int) := by rw [IntKind.wrap_u64]; omega
  have dl := Nat.div_le_self a G.elem
  rw [show ((a / G.elem : Nat) : Int) = (a : Int) / (G.elem : Int) from Int.natCast_ediv _ _]
  have q0 : 0 ≤ (a : Int) / (G.elem : Int) := Int.ediv_nonneg (by omega) (by omega)
  have q1 : (a : Int) / (G.elem : Int) ≤ (a : Int) := Int.ediv_le_self _ (by omega)
  rcases g.mg with m | ⟨m, m1, m2⟩
  · rw [m] at y10
    have y10' : W.cell? ⟨sb, 10, none⟩ = some (.int .u32 0) := y10
    have z : ((G.elem : Int) == 0) = false := by simp; omega
    have t1 : (a : Int).tdiv (G.elem : Int) = (a : Int) / (G.elem : Int) := Int.tdiv_eq_ediv_of_nonneg (by omega)
    have w3 : IntKind.u64.wrap ((a : Int) / (G.elem : Int)) = (a : Int) / (G.elem : Int) := by rw [IntKind.wrap_u64]; omega
    have w4 : IntKind.i64.wrap ((a : Int) / (G.elem : Int)) = (a : Int) / (G.elem : Int) := by rw [IntKind.wrap_i64]; omega
    clear h y10 b1 ha g dl m
    generalize G.elem = el at *
    go_enter Tryd.func51, Tryd.ntmps51
    go_wp2_with fail
    go_ret
    exact ⟨rfl, rfl⟩
  · have mm : 1 ≤ G.magic ∧ G.magic ≤ 2147483648 := by
      rw [m]
      unfold Cl.magicN
      rw [if_neg (by omega)]
      have := Nat.div_le_div_left (a := 4294967295) e0 (by omega)
      generalize 4294967295 / G.elem = q9 at *
      clear w2 q0 q1
      omega
    have C := hide (fun w => quot_any (a : Int) (G.magic : Int) (by omega) (by omega) w)
    rw [m, ← magicV_nat, exact_arith (G.elem : Int) (a : Int) (by omega) (by omega) (by omega) (by omega), magicV_nat, ← m] at C
    have zz : ((G.magic : Int) == 0) = false := by simp; omega
    have w3 : IntKind.u32.wrap (a : Int) = (a : Int) := by rw [IntKind.wrap_u32]; omega
    have w4 : IntKind.i64.wrap ((a : Int) / (G.elem : Int)) = (a : Int) / (G.elem : Int) := by rw [IntKind.wrap_i64]; omega
    clear h b1 ha g dl m m1 m2 mm y5
    generalize G.magic = mg at *
    generalize (a : Int) / (G.elem : Int) = Q at *
    go_enter Tryd.func51, Tryd.ntmps51
    go_wp2_with fail
    refine (C.out _).mono ?_
    rintro e W1 ⟨rfl, hw⟩
    rw [hw]
    clear hw C W1
    go_wp2_with fail
    go_ret
    exact ⟨rfl, rfl⟩
theorem idx_some {a k : Nat} (h : idxV G a = some k) : G.base ≤ a ∧ (a - G.base) / G.elem < G.slots ∧ k = (a - G.base) / G.elem := by
  unfold idxV at h
  split at h
  · rename_i z; exact ⟨z.1, z.2, by simpa using h.symm⟩
  · cases h
theorem idx_none {a : Nat} (h : idxV G a = none) : a < G.base ∨ (G.base ≤ a ∧ G.slots ≤ (a - G.base) / G.elem) := by
  unfold idxV at h
  split at h
  · cases h
  · rename_i z; omega
theorem index_no (h : SpAt N W sb v1 v2 G st c ws ms look) (g : GOk G) (a : Nat) (ha : a < 18446744073709551616) (hi : idxV G a = none) : Calls Tryd.prog 22 #[.pointer (some ⟨sb, 0, none⟩), .int .u64 (a : Nat)] W fun e W' => e = .returned (.tuple #[.int .i64 0, .int .i64 10]) ∧ ∃ j, W' = W.drewN j := by
  have y0 := h.c0
  have y5 := h.c5
  have y6 := h.c6
  have e0 := g.e0
  have e1 := g.e1
  have s1 := g.s1
  have b1 := g.b1
  rcases idx_none hi with c1 | ⟨c1, c2⟩
  · have d1 : decide (a < G.base) = true := decide_eq_true c1
    clear h e0 e1 s1 b1 g hi
    generalize G.base = bs at *
    go_enter Tryd.func22, Tryd.ntmps22
    go_wp2_with fail
    go_quiet (fail)
    go_wp2_with fail
    go_ret2
    exact ⟨rfl, _, rfl⟩
  · have d1 : decide (a < G.base) = false := decide_eq_false (by omega)
    have c3 := (Nat.le_div_iff_mul_le (by omega)).1 c2
    obtain ⟨A, hA⟩ : ∃ A : Int, (a : Int) - (G.base : Int) = A := ⟨_, rfl⟩
    have w0 : IntKind.u64.wrap ((a : Int) - (G.base : Int)) = A := by rw [IntKind.wrap_u64]; omega
    have w1 : IntKind.u64.wrap (G.slots : Int) = (G.slots : Int) := by rw [IntKind.wrap_u64]; omega
    have w2 : IntKind.u64.wrap (G.elem : Int) = (G.elem : Int) := by rw [IntKind.wrap_u64]; omega
    have eq : ((G.slots * G.elem : Nat) : Int) = (G.slots : Int) * (G.elem : Int) := by push_cast; rfl
    obtain ⟨P, hP⟩ : ∃ P : Int, (G.slots : Int) * (G.elem : Int) = P := ⟨_, rfl⟩
    have w3 : IntKind.u64.wrap ((G.slots : Int) * (G.elem : Int)) = P := by rw [IntKind.wrap_u64]; omega
    have d2 : decide (P ≤ A) = true := decide_eq_true (by omega)
    clear h e0 e1 s1 b1 g hi c2 c3 hA eq hP
    generalize G.base = bs at *
    go_enter Tryd.func22, Tryd.ntmps22
    go_wp2_with fail
    go_quiet (fail)
    go_wp2_with fail
    go_ret2
    exact ⟨rfl, _, rfl⟩
theorem index_ok (h : SpAt N W sb v1 v2 G st c ws ms look) (g : GOk G) (a k : Nat) (ha : a < 18446744073709551616) (hi : idxV G a = some k) : Calls Tryd.prog 22 #[.pointer (some ⟨sb, 0, none⟩), .int .u64 (a : Nat)] W fun e W' => e = .returned (.tuple #[.int .i64 (k : Nat), .int .i64 0]) ∧ ∃ j, W' = W.drewN j := by
  have y0 := h.c0
  have y5 := h.c5
  have y6 := h.c6
  have e0 := g.e0
  have e1 := g.e1
  have s1 := g.s1
  have b1 := g.b1
  obtain ⟨c1, c2, c4⟩ := idx_some hi
  have d1 : decide (a < G.base) = false := decide_eq_false (by omega)
  have c3 := (Nat.div_lt_iff_lt_mul (show 0 < G.elem by omega)).1 c2
  have CS := hide (fun j => slotAt_any (h.below (below_dN W j)) g (a - G.base) c3)
  rw [← c4] at CS
  obtain ⟨A, hA⟩ : ∃ A : Int, (a : Int) - (G.base : Int) = A := ⟨_, rfl⟩
  rw [show ((a - G.base : Nat) : Int) = A by omega] at CS
  have w0 : IntKind.u64.wrap ((a : Int) - (G.base : Int)) = A := by rw [IntKind.wrap_u64]; omega
  have w1 : IntKind.u64.wrap (G.slots : Int) = (G.slots : Int) := by rw [IntKind.wrap_u64]; omega
  have w2 : IntKind.u64.wrap (G.elem : Int) = (G.elem : Int) := by rw [IntKind.wrap_u64]; omega
  have eq : ((G.slots * G.elem : Nat) : Int) = (G.slots : Int) * (G.elem : Int) := by push_cast; rfl
  obtain ⟨P, hP⟩ : ∃ P : Int, (G.slots : Int) * (G.elem : Int) = P := ⟨_, rfl⟩
  have w3 : IntKind.u64.wrap ((G.slots : Int) * (G.elem : Int)) = P := by rw [IntKind.wrap_u64]; omega
  have d2 : decide (P ≤ A) = false := decide_eq_false (by omega)
  clear h e0 e1 s1 b1 g hi c2 c3 hA eq c4 hP
  generalize G.base = bs at *
  go_enter Tryd.func22, Tryd.ntmps22
  go_wp2_with fail
  go_quiet (fail)
  go_wp2_with fail
  refine (CS.out _).mono ?_
  rintro e W1 ⟨rfl, hw⟩
  rw [hw]
  clear hw CS W1
  go_wp2_with fail
  go_ret2
  exact ⟨rfl, _, rfl⟩
end
end Go.Proofs.YtblfefibgoiaaaaDoor
