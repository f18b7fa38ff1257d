/- Rows of bits that may lie anywhere in a block: Get, Sum: contracts. -/
import Derived.Test.YtdkdckgheibjfaaDoorBu
import Derived.Test.YtdkdckgheibjfaaDoorRows
import Derived.WalkKit
import Derived.ProofKit
import Derived.OpenShut
import Derived.Carry
import Derived.ChangeSlices
import Derived.Lib.BitFns
import Derived.Laws.Bits64b
import Derived.Laws.BitsAllLaws
import Derived.WalkLawsBesides
import Derived.Shelf.Abstract
import Derived.Deep.QuietTactic
import Derived.BigQuiet
import Derived.Outline
import Derived.Laws.Bits128
import Derived.Deep.RegionHeld3
import Derived.StillTailTactics
import Derived.Maps.AppendAt
import Derived.RangeFuncNested
import Derived.RangeFuncBound
import Derived.RangeFuncCalls
import Derived.RangeFuncLeaves
import Derived.Shelf.RegionOpen
import Derived.OwnWalkIn
import Derived.TacticsInMore
import Derived.LoopNIn
import Derived.LoopIn
import Derived.WalkMore
import Derived.Scope
namespace Go.Proofs.YtdkdckgheibjfaaDoor.Bb
open Go.ChangeShapes Go.WideShapes Go.ChangeAt Go.RowKit Go.Proofs.Bt Go.Shelf
set_option linter.unusedVariables false
set_option linter.unusedSimpArgs false

attribute [local go_sem] Oper.semAt_some
theorem hide {p : Prop} (h : p) : Hid p := h
/-! ### The words' operations -/
theorem andn_inv (a b : Nat) (ha : a < 18446744073709551616) (hb : b < 18446744073709551616) : a &&& (18446744073709551615 - b) = andn a b := by
  refine eq_of_bits (and_lt _ ha) (andn_lt _ ha) fun k hk => ?_
  have := inv_bit hb hk
  unfold inv at this
  rw [Nat.testBit_and, andn_bit, this]
theorem w_andNot (a b : Nat) (ha : a < 18446744073709551616) (hb : b < 18446744073709551616) : bits .andNot .u64 (a : Int) (b : Int) = ((andn a b : Nat) : Int) := by
  rw [u64_andNot_nat a b ha hb, andn_inv a b ha hb]
theorem w_or (a b : Nat) (ha : a < 18446744073709551616) (hb : b < 18446744073709551616) : bits .or .u64 (a : Int) (b : Int) = ((a ||| b : Nat) : Int) := bits_or_u64_nat a b ha hb
theorem w_and (a b : Nat) (ha : a < 18446744073709551616) (hb : b < 18446744073709551616) : bits .and .u64 (a : Int) (b : Int) = ((a &&& b : Nat) : Int) := bits_and_u64_nat a b ha hb

/-! ### lowest, part, right -/
theorem lowest_neg (n : Int) (h : n < 0) (w : World) : Calls Tryd.prog 15 #[.int .i64 n] w fun e w' => e = .returned (.int .u64 0) ∧ w' = w := by
  go_enter Tryd.func15, Tryd.ntmps15
  go_wp2
  go_ret
  exact ⟨rfl, rfl⟩
theorem low_wrap (m : Nat) (hm : m ≤ 64) : IntKind.u64.wrap (IntKind.u64.wrap (2 ^ m) - 1) = ((2 ^ m - 1 : Nat) : Int) := by
  rw [IntKind.wrap_u64, IntKind.wrap_u64]
  have e : ((2 : Int) ^ m) = ((2 ^ m : Nat) : Int) := by simp
  have h1 : 2 ^ m ≤ 2 ^ 64 := Nat.pow_le_pow_right (by decide) hm
  have h2 : 0 < 2 ^ m := Nat.two_pow_pos _
  have e2 : (2 : Nat) ^ 64 = 18446744073709551616 := by decide
  rw [e]
  generalize 2 ^ m = x at *
  omega
theorem lowest_nat (n : Int) (h : 0 ≤ n) (h' : n ≤ 9223372036854775807) (w : World) : Calls Tryd.prog 15 #[.int .i64 n] w fun e w' => e = .returned (.int .u64 (low n.toNat : Nat)) ∧ w' = w := by
  have h2 : ¬ n < 0 := by omega
  go_enter Tryd.func15, Tryd.ntmps15
  go_wp2
  go_ret
  exact ⟨by rw [low_wrap _ (Nat.min_le_right _ _)]; rfl, rfl⟩
theorem lowest_any (n : Int) (h' : n ≤ 9223372036854775807) (w : World) : Calls Tryd.prog 15 #[.int .i64 n] w fun e w' => e = .returned (.int .u64 (low n.toNat : Nat)) ∧ w' = w := by
  by_cases h : n < 0
  · have := lowest_neg n h w
    rw [show n.toNat = 0 by omega]
    exact this
  · exact lowest_nat n (by omega) h' w
theorem part_core (k : Nat) (a b : Int) (hk : k < 8) (ha : 0 ≤ a) (hb : 0 ≤ b) (ha' : a ≤ 9223372036854775807) (hb' : b ≤ 9223372036854775807) (x y : Nat) (hx : x < 18446744073709551616) (hy : y < 18446744073709551616) (w : World)
    (cx : Calls Tryd.prog 15 #[.int .i64 (b - 64 * k)] w fun e w' => e = .returned (.int .u64 (x : Nat)) ∧ w' = w)
    (cy : Calls Tryd.prog 15 #[.int .i64 (a - 64 * k)] w fun e w' => e = .returned (.int .u64 (y : Nat)) ∧ w' = w) :
    Calls Tryd.prog 14 #[.int .i64 (k : Nat), .int .i64 a, .int .i64 b] w fun e w' => e = .returned (.int .u64 (andn x y : Nat)) ∧ w' = w := by
  obtain ⟨K, hK⟩ : ∃ K : Int, (k : Int) = K := ⟨_, rfl⟩
  have k0 : 0 ≤ K := by omega
  have k8 : K < 8 := by omega
  rw [hK] at cx cy ⊢
  clear hK
  have e1 : K * 64 = 64 * K := by omega
  have l1 : -9223372036854775808 ≤ b - 64 * K := by omega
  have l2 : b - 64 * K ≤ 9223372036854775807 := by omega
  have l3 : -9223372036854775808 ≤ a - 64 * K := by omega
  have l4 : a - 64 * K ≤ 9223372036854775807 := by omega
  rw [← w_andNot x y hx hy]
  have HX := hide hx
  have HY := hide hy
  clear hx hy
  rw [← e1] at cx cy l1 l2 l3 l4
  clear e1
  go_enter Tryd.func14, Tryd.ntmps14
  go_wp2_with fail
  go_at_call 15
  refine cx.mono ?_
  rintro e w' ⟨rfl, hw'⟩; rw [hw']; clear hw' w'
  go_wp2_with fail
  go_at_call 15
  refine cy.mono ?_
  rintro e w' ⟨rfl, hw'⟩; rw [hw']; clear hw' w'
  go_wp2
  go_ret
  exact ⟨rfl, rfl⟩
theorem part_any (k a b : Nat) (hk : k < 8) (ha : a ≤ 9223372036854775807) (hb : b ≤ 9223372036854775807) (w : World) :
    Calls Tryd.prog 14 #[.int .i64 (k : Nat), .int .i64 (a : Nat), .int .i64 (b : Nat)] w fun e w' => e = .returned (.int .u64 (prt k a b : Nat)) ∧ w' = w := by
  have h1 := lowest_any ((b : Int) - 64 * k) (by omega) w
  have h2 := lowest_any ((a : Int) - 64 * k) (by omega) w
  rw [show ((b : Int) - 64 * k).toNat = b - 64 * k by omega] at h1
  rw [show ((a : Int) - 64 * k).toNat = a - 64 * k by omega] at h2
  exact part_core k a b hk (by omega) (by omega) (by omega) (by omega) _ _ (low_lt _) (low_lt _) w h1 h2

/-! ### TrailingZeros64 -/
/-- The table lies where the program has it. -/
def TabW (w : World) : Prop := ∀ j, j < 64 → w.cell? ⟨0, j, none⟩ = some (.int .u8 (Lib.deBruijn64tab.getD j 0))
theorem tz_core (x k idx : Nat) (w : World) (hx0 : ((x : Int) == 0) = false)
    (key : IntKind.u64.wrap (bits BinOp.and IntKind.u64 (x : Int) (IntKind.u64.wrap (-(x : Int))) * 285870213051353865) / 288230376151711744 = (idx : Int))
    (hi : idx < 64) (hk : k < 64) (hcell : w.cell? ⟨0, idx, none⟩ = some (.int .u8 k)) :
    Calls Tryd.prog 16 #[.int .u64 x] w fun e w' => e = .returned (.int .i64 k) ∧ w' = w := by
  go_enter Tryd.func16, Tryd.ntmps16
  go_wp2_with (simp only [key])
  go_ret
  exact ⟨rfl, rfl⟩
theorem tz_key (x a : Nat) (hx : x < 18446744073709551616) (hx0 : x ≠ 0) (hlow : x &&& (18446744073709551616 - x) = a) :
    IntKind.u64.wrap (bits BinOp.and IntKind.u64 (x : Int) (IntKind.u64.wrap (-(x : Int))) * 285870213051353865) / 288230376151711744 = ((a * 285870213051353865 % 18446744073709551616 / 288230376151711744 : Nat) : Int) := by
  have e1 : IntKind.u64.wrap (-(x : Int)) = ((18446744073709551616 - x : Nat) : Int) := by rw [IntKind.wrap_u64]; omega
  rw [e1, bits_and_u64_nat x _ hx (by omega), hlow, IntKind.wrap_u64]
  omega
theorem tz_any (x : Nat) (hx0 : x ≠ 0) (hx : x < 18446744073709551616) (w : World) (hT : TabW w) :
    Calls Tryd.prog 16 #[.int .u64 x] w fun e w' => e = .returned (.int .i64 (Lib.ctz 64 x : Nat)) ∧ w' = w := by
  obtain ⟨hlow, hk⟩ := Lib.lowest_bit 64 x hx0 hx
  obtain ⟨hi, htab⟩ := Lib.deBruijn64_at _ hk
  have hcell := hT _ hi
  rw [htab] at hcell
  exact tz_core x _ _ w (by simp; omega) (tz_key x _ hx hx0 hlow) hi hk hcell
/-- Nothing old has turned but blocks of F. -/
structure Kept (F : Nat → Prop) (w w' : World) : Prop where
  os : w'.os = w.os
  tape : w'.tape = w.tape
  output : w'.output = w.output
  size : w.heap.size ≤ w'.heap.size
  block : ∀ b, b < w.heap.size → ¬ F b → w'.heap[b]? = w.heap[b]?
theorem Kept.refl (F : Nat → Prop) (w : World) : Kept F w w := ⟨rfl, rfl, rfl, Nat.le_refl _, fun _ _ _ => rfl⟩
theorem Kept.of_below {F : Nat → Prop} {w w' : World} (h : Below w.heap.size w w') : Kept F w w' := ⟨h.os, h.tape, h.output, h.size, fun b hb _ => h.block b hb⟩
theorem Kept.of_grown {F : Nat → Prop} {w w' : World} {row : Option Nat} (h : w.grownBy w' row) (hr : ∀ k, row = some k → F k) : Kept F w w' :=
  ⟨h.os, h.tape, h.output, h.size, fun b hb hf => h.block b hb (fun e => hf (hr b e.symm))⟩
theorem Kept.below {F : Nat → Prop} {w w' : World} (h : Kept F w w') {B : Nat} (hB : B ≤ w.heap.size) (hF : ∀ b, F b → B ≤ b) : Below B w w' :=
  ⟨h.os, h.tape, h.output, h.size, fun k hk => h.block k (by omega) fun hf => by have := hF k hf; omega⟩
theorem Kept.trans {F G : Nat → Prop} {a b c : World} (h : Kept F a b) (k : Kept G b c) (hg : ∀ x, x < a.heap.size → G x → F x) : Kept F a c :=
  ⟨k.os.trans h.os, k.tape.trans h.tape, k.output.trans h.output, Nat.le_trans h.size k.size, fun x hx hn => by
    rw [k.block x (Nat.lt_of_lt_of_le hx h.size) (fun z => hn (hg x hx z))]
    exact h.block x hx hn⟩
theorem Kept.mono {F G : Nat → Prop} {a b : World} (h : Kept F a b) (hg : ∀ x, F x → G x) : Kept G a b := ⟨h.os, h.tape, h.output, h.size, fun x hx hf => h.block x hx fun hh => hf (hg x hh)⟩
theorem Kept.put {F : Nat → Prop} (w : World) (l : Nat) (o : Obj) (h : F l) : Kept F w (w.putObj l o) := Kept.of_grown (grownBy_putObj' w l o) (fun k e => by cases e; exact h)
theorem kept_set {F : Nat → Prop} (w : World) (b k : Nat) (v : Value) (h : F b) : Kept F w (w.setCell ⟨b, k, none⟩ v) :=
  ⟨rfl, rfl, rfl, by simp, fun x _ hn => Below.heap_setCell _ _ _ _ (fun e => hn (by simp at e; exact e ▸ h))⟩
theorem kept_at {F : Nat → Prop} {A A' : World} (h : Kept F A A') {k : Nat} {o : Obj} (hk : A.heap[k]? = some o) (hF : ¬ F k) : A'.heap[k]? = some o := (h.block k (Array.getElem?_eq_some_iff.1 hk).1 hF).trans hk
theorem cell_block {w w' : World} {b : Nat} (h : w'.heap[b]? = w.heap[b]?) (k : Nat) : w'.cell? ⟨b, k, none⟩ = w.cell? ⟨b, k, none⟩ := by simp [World.cell?, h]
theorem TabW.lt {w : World} (h : TabW w) : 0 < w.heap.size := by
  have := h 0 (by omega)
  cases hs : w.heap[0]? with
  | none => simp [World.cell?, hs] at this
  | some o => exact (Array.getElem?_eq_some_iff.1 hs).1
theorem TabW.kept {F : Nat → Prop} {w w' : World} (h : TabW w) (k : Kept F w w') (hF : ¬ F 0) : TabW w' := fun j hj => (cell_block (k.block 0 h.lt hF) j).trans (h j hj)
theorem TabW.below {w w' : World} (h : TabW w) (k : Below w.heap.size w w') : TabW w' := h.kept (F := fun _ => False) (Kept.of_below k) (fun f => f)

theorem still_tail {P : Program} {id : Nat} {Q : Exit → Act → World → Prop} {a : Act} {w : World} {l : List Oper} (n : Nat) (hm : P.follows .mixedOrders = true) (hB : Region.lexTailB .any l.toArray n = true)
    (h : wpStill P l.toArray w.drew (fun a' => wpList P l.toArray Q (l.drop n) a' w.drew) (l.take n) a) : (Code.region id l.toArray true).wp P Q a w := wp_region_still_tail n hm hB h
theorem still_all {P : Program} {id : Nat} {Q : Exit → Act → World → Prop} {a : Act} {w : World} {l : List Oper} (hm : P.follows .mixedOrders = true) (hB : Region.lexB .any l.toArray = true)
    (h : wpStill P l.toArray w.drew (fun a' => Q .normal a' w.drew) l a) : (Code.region id l.toArray true).wp P Q a w := wp_region_still_lit hm hB h
theorem drew_below (w : World) : Below w.heap.size w w.drew := (Below.refl _ _).drew

/-- Eight words that lie from cell ro of a block on. -/
structure RowAt (w : World) (b ro : Nat) (g : Nat → Nat) : Prop where
  lt : b < w.heap.size
  cell : ∀ k, k < 8 → w.cell? ⟨b, ro + k, none⟩ = some (.int .u64 ((g k : Nat) : Int))
  fit : ∀ k, g k < 18446744073709551616
theorem RowAt.kept {F : Nat → Prop} {w w' : World} {b ro : Nat} {g : Nat → Nat} (h : RowAt w b ro g) (k : Kept F w w') (hF : ¬ F b) : RowAt w' b ro g :=
  ⟨Nat.lt_of_lt_of_le h.lt k.size, fun j hj => (cell_block (k.block b h.lt hF) _).trans (h.cell j hj), h.fit⟩
theorem RowAt.below {w w' : World} {b ro : Nat} {g : Nat → Nat} (h : RowAt w b ro g) (k : Below w.heap.size w w') : RowAt w' b ro g :=
  ⟨Nat.lt_of_lt_of_le h.lt k.size, fun j hj => (cell_block (k.block b h.lt) _).trans (h.cell j hj), h.fit⟩
theorem wrap_in (x : Int) (h1 : -9223372036854775808 ≤ x) (h2 : x ≤ 9223372036854775807) : IntKind.i64.wrap x = x := by
  simp [IntKind.wrap, IntKind.bits, IntKind.signed]; omega
theorem get_bit (x r : Nat) (hx : x < 18446744073709551616) : (bits BinOp.and IntKind.u64 ((x : Int) / 2 ^ r) 1 == 1) = x.testBit r := by
  have e : ((x : Int) / 2 ^ r) = ((x / 2 ^ r : Nat) : Int) := by rw [Int.natCast_ediv]; simp
  have hl : x / 2 ^ r ≤ x := Nat.div_le_self _ _
  rw [e, show (1 : Int) = ((1 : Nat) : Int) from rfl, w_and _ _ (by omega) (by omega), Nat.testBit_eq_decide_div_mod_eq, Nat.and_one_is_mod]
  rw [Bool.eq_iff_iff]
  simp only [beq_iff_eq, decide_eq_true_eq]
  omega
theorem get_in (b ro : Nat) (g : Nat → Nat) (w : World) (h : RowAt w b ro g) (i : Int) (h0 : 0 ≤ i) (h1 : i < 512) :
    Calls Tryd.prog 6 #[.pointer (some ⟨b, ro, none⟩), .int .i64 i] w fun e w' => e = .returned (.bool (bitW g i.toNat)) ∧ w' = w := by
  have q0 : 0 ≤ i / 64 := by omega
  have q1 : i / 64 < 8 := by omega
  have r0 : 0 ≤ i % 64 := by omega
  have r1 : i % 64 < 64 := by omega
  have c1 := h.cell (i / 64).toNat (by omega)
  go_enter Tryd.func6, Tryd.ntmps6
  go_wp2
  go_ret
  refine ⟨?_, rfl⟩
  show Ending.returned (Value.bool _) = _
  rw [get_bit _ _ (h.fit _)]
  unfold bitW
  rw [show (i / 64).toNat = i.toNat / 64 by omega, show (i % 64).toNat = i.toNat % 64 by omega]
/-- A row whose bits are f's. -/
def RowF (w : World) (b ro : Nat) (f : Nat → Bool) : Prop := ∃ g, RowAt w b ro g ∧ ∀ i, i < 512 → bitW g i = f i
theorem RowF.lt {w : World} {b ro : Nat} {f : Nat → Bool} (h : RowF w b ro f) : b < w.heap.size := by obtain ⟨g, h, _⟩ := h; exact h.lt
theorem RowF.kept {F : Nat → Prop} {w w' : World} {b ro : Nat} {f : Nat → Bool} (h : RowF w b ro f) (k : Kept F w w') (hF : ¬ F b) : RowF w' b ro f := by obtain ⟨g, h1, h2⟩ := h; exact ⟨g, h1.kept k hF, h2⟩
theorem RowF.below {w w' : World} {b ro : Nat} {f : Nat → Bool} (h : RowF w b ro f) (k : Below w.heap.size w w') : RowF w' b ro f := by obtain ⟨g, h1, h2⟩ := h; exact ⟨g, h1.below k, h2⟩
theorem get_any (b ro : Nat) (f : Nat → Bool) (w : World) (h : RowF w b ro f) (i : Nat) (hi : i < 512) :
    Calls Tryd.prog 6 #[.pointer (some ⟨b, ro, none⟩), .int .i64 (i : Nat)] w fun e w' => e = .returned (.bool (f i)) ∧ w' = w := by
  obtain ⟨g, h1, h2⟩ := h
  have := get_in b ro g w h1 (i : Int) (by omega) (by omega)
  rw [Int.toNat_natCast, h2 i hi] at this
  exact this

/-! ### A range over an iterator -/
theorem boxed_block {W W' : World} {B : Nat} {t : TypeId} {v : Value} (h : Boxed W B t v) (hb : W'.heap[B]? = W.heap[B]?) : Boxed W' B t v := hb.trans h
theorem box_lt {w : World} {b : Nat} {t : TypeId} {v : Value} (h : Boxed w b t v) : b < w.heap.size := (Array.getElem?_eq_some_iff.1 h).1
theorem boxed_kept {F : Nat → Prop} {W W' : World} {b : Nat} {t : TypeId} {v : Value} (h : Boxed W b t v) (k : Kept F W W') (hb : ¬ F b) : Boxed W' b t v := boxed_block h (k.block _ (box_lt h) hb)
theorem below_kept {F : Nat → Prop} {N : Nat} {w W W' : World} (h : Below N w W) (k : Kept F W W') (hF : ∀ b, F b → N ≤ b) (hN : N ≤ W.heap.size) : Below N w W' := h.trans (k.below hN hF)
theorem keepsFrom_of {F : Nat → Prop} {B : Nat} {W W' : World} (h : Kept F W W') (hb : ∀ b, B ≤ b → ¬ F b) : KeepsFrom B W W' := ⟨h.size, fun k o hk ho _ => kept_at h ho (hb k hk)⟩
theorem wcall {n m : Nat} {P : Program} {f : FuncId} {args : Array Value} {w : World} {R R' : Ending → World → Prop} (h : Calls P f args w R) (hr : ∀ e w', R e w' → R' e w') :
    Fence.wide.fn f ∧ (Fence.wide.depth.isSome = true → 1 ≤ n) ∧ CallsIn Fence.wide m P f args w R' := ⟨trivial, (fun h => by cases h), (callsIn_wide.2 h).mono hr⟩
theorem wcall2 {m : Nat} {P : Program} {f : FuncId} {args : Array Value} {w : World} {R R' : Ending → World → Prop} (h : Calls P f args w R) (hr : ∀ e w', R e w' → R' e w') :
    Fence.wide.fn f ∧ CallsIn Fence.wide m P f args w R' := ⟨trivial, (callsIn_wide.2 h).mono hr⟩
/-- How an iterator goes that writes nothing: it yields a list's values one by one, as long as it is told to, and as long as what it reads is there. -/
def SeqB {α : Type} (n : Nat) (P : Program) (gf : Nat) (lb : Array Value) (encs : α → Array Value) (Rd : World → Prop) (L : List α) : Prop :=
  ∀ (l : Nat) (J Jx : List α → World → Prop) (W : World), (∀ s A, J s A → Rd A) → (∀ s A A', J s A → Below A.heap.size A A' → J s A') →
    (∀ pre x W1, pre ++ [x] <+: L → J pre W1 → YieldAt Fence.wide (n - 1) P l (encs x) W1 fun e W' =>
      (e = .returned (.bool true) ∧ J (pre ++ [x]) W') ∨ (e = .returned (.bool false) ∧ Jx (pre ++ [x]) W')) →
    J [] W →
    CallsIn Fence.wide n P gf (#[.func (.yield l) #[] #[]] ++ lb) W fun e W' => (∃ v, e = .returned v) ∧ (J L W' ∨ (∃ pre x, pre ++ [x] <+: L ∧ Jx (pre ++ [x]) W'))
/-- How the body of a round may be left. -/
def bodyEnd {α : Type} (B : Nat) (I : List α → World → Prop) (Ix : Code → List α → World → Prop) (xs : List α) (W₁ : World) : Exit → Act → World → Prop
  | .normal, _, W' => KeepsFrom B W₁ W' ∧ I xs W'
  | .exit id, _, W' => KeepsFrom B W₁ W' ∧ Ix (.exit id) xs W'
  | .ret, _, W' => KeepsFrom B W₁ W' ∧ Ix .ret xs W'
  | _, _, _ => False
/-- A range over such an iterator: I holds between two rounds, Ix where a round has left the loop. -/
theorem range_law {α : Type} {P : Program} {g : Operand} {ps : Array Tmp} {assign body : Code} {Q : Exit → Act → World → Prop} {a : Act} {w : World} {n : Nat}
    {gf : Nat} {lb : Array Value} (hg : a.eval g = .func (.func gf) #[] lb) (eg : ∀ args w, (callFunc gf args).run P w = .ok (.enter gf args) w)
    {encs : α → Array Value} {Rd : World → Prop} {L : List α} (hseq : SeqB (n - 1) P gf lb encs Rd L) (hps : ∀ x, (encs x).size = ps.size)
    (I : List α → World → Prop) (Ix : Code → List α → World → Prop)
    (hR : ∀ s A, I s A → Rd A)
    (hI : ∀ s A A', I s A → Kept (fun b => b = w.heap.size ∨ b = w.heap.size + 1) A A' → I s A')
    (hIx : ∀ c s A o', Ix c s A → w.heap.size + 1 < A.heap.size → Ix c s (A.putObj (w.heap.size + 1) o')) (h0 : I [] w)
    (hround : ∀ (pre : List α) (x : α) (W : World), (∃ r, W.heap[w.heap.size + 1]? = some (.loop r)) → W.heap[w.heap.size]? = some (.deferred (some [])) → I pre W → pre ++ [x] <+: L →
      assign.wpIn (Fence.wide.inRound (w.heap.size + 1)) (n - 1 - 1) P (Exit.then (fun a₁ W₁ => KeepsFrom w.heap.size W W₁ ∧
        ∀ r, body.wpIn (Fence.wide.inRound (w.heap.size + 1)) (n - 1 - 1) P (bodyEnd w.heap.size I Ix (pre ++ [x]) (W₁.putObj (w.heap.size + 1) (.loop r))) a₁ (W₁.putObj (w.heap.size + 1) (.loop r))) (fun _ _ _ => False))
        { tmps := (ps.zip (encs x)).foldl (fun t (p, v) => t.setIfInBounds p v) a.tmps, defers := [] } W)
    (hdone : ∀ (W : World), I L W → W.heap[w.heap.size]? = some (.deferred (some [])) → Q .normal { a with defers := { target := .collected w.heap.size, args := #[] } :: a.defers } W)
    (hstop : ∀ (c : Code) (pre : List α) (x : α) (W : World), pre ++ [x] <+: L → Ix c (pre ++ [x]) W → W.heap[w.heap.size]? = some (.deferred (some [])) → c.wpIn Fence.wide n P Q { a with defers := { target := .collected w.heap.size, args := #[] } :: a.defers } W) :
    (Code.rangeFunc g ps assign body).wpIn Fence.wide n P Q a w := by
  refine wpIn_rangeFunc fun fn hfn => ?_
  generalize hrec : (fun st pe => ({ state := st, pending := pe, fn, tmps := a.tmps, params := ps, assign, body, defers := w.heap.size } : Loop)) = rec
  obtain ⟨W1, hW1⟩ : ∃ W1, (w.alloc (.deferred (some []))).alloc (.loop (rec .ready none)) = W1 := ⟨_, rfl⟩
  have s1 : W1.heap.size = w.heap.size + 2 := by rw [← hW1]; simp
  have hb1 : Below w.heap.size w W1 := by rw [← hW1]; exact ((Below.refl _ w).alloc (Nat.le_refl _) _).alloc (by simp) _
  have hl1 : W1.heap[w.heap.size + 1]? = some (.loop (rec .ready none)) := by
    have := World.alloc_heap_new (w.alloc (.deferred (some []))) (.loop (rec .ready none))
    rw [World.size_alloc, hW1] at this; exact this
  have hd1 : W1.heap[w.heap.size]? = some (.deferred (some [])) := by
    rw [← hW1]; exact (Below.heap_alloc _ _ _ (by simp)).trans (World.alloc_heap_new w _)
  refine ⟨w.heap.size + 1, [{ target := .collected w.heap.size, args := #[] }], W1, { target := .fn (.func gf) lb, args := #[.func (.yield (w.heap.size + 1)) #[] #[]] }, W1, gf, #[.func (.yield (w.heap.size + 1)) #[] #[]] ++ lb, W1, ?_, ?_, fun _ _ => trivial, ?_, (fun h => by cases h), ?_⟩
  · rw [← hW1, ← hrec]; exact run_enterLoop_outer _ _ _ _ _
  · simp only [resolve, hg]; simp [go_sem]
  · simp [invoke, go_sem, eg]
  refine (hseq (w.heap.size + 1)
    (fun pre W => I pre W ∧ W.heap[w.heap.size + 1]? = some (.loop (rec .ready none)) ∧ W.heap[w.heap.size]? = some (.deferred (some [])))
    (fun pre W => ∃ c, Ix c pre W ∧ W.heap[w.heap.size + 1]? = some (.loop (rec .done (some c))) ∧ W.heap[w.heap.size]? = some (.deferred (some [])))
    W1 (fun s A h => hR s A h.1) ?_ ?_ ⟨hI _ _ _ h0 (Kept.of_below hb1), hl1, hd1⟩).mono ?_
  · -- the iterator's own steps
    rintro s A A' ⟨hi, hl, hd⟩ hk
    exact ⟨hI _ _ _ hi (Kept.of_below hk), (hk.block _ (Array.getElem?_eq_some_iff.1 hl).1).trans hl, (hk.block _ (Array.getElem?_eq_some_iff.1 hd).1).trans hd⟩
  · -- a round
    rintro pre x W hlen ⟨hi, hl, hd⟩
    have hlt : w.heap.size + 1 < W.heap.size := (Array.getElem?_eq_some_iff.1 hl).1
    have hy := run_yield (P := P) (args := encs x) hl (by rw [← hrec]; exact hps x)
    rw [← hrec] at hy
    refine ⟨fn, _, assign, body, hy, roundIn_of_wpIn hfn (wpIn_mono (hround pre x W ⟨_, hl⟩ hd hi hlen) ?_)⟩
    rintro e a₁ W₁ hp
    cases e with
    | normal =>
      obtain ⟨hk, hb⟩ := hp
      have hl' := hk.same _ _ (by omega) hl rfl
      have hd' := hk.same _ _ (by omega) hd rfl
      refine ⟨_, run_beginRound hl' (by rw [← hrec]), wpIn_mono (hb _) ?_⟩
      rintro e a₂ W₂ hq
      cases e with
      | normal =>
        obtain ⟨q1, q3⟩ := hq
        have hl2 := q1.same _ _ (by omega) (World.putObj_heap_same (Array.getElem?_eq_some_iff.1 hl').1) rfl
        have hlt2 := (Array.getElem?_eq_some_iff.1 hl2).1
        have hd2 := q1.same _ _ (by omega) ((World.putObj_heap_other (by omega)).trans hd') rfl
        refine ⟨_, _, run_endRound none hl2, .inl ⟨rfl, ⟨hI _ _ _ q3 (Kept.put _ _ _ (.inr rfl)), ?_, ?_⟩⟩⟩
        · rw [World.putObj_heap_same hlt2, ← hrec]; rfl
        · exact (World.putObj_heap_other (by omega)).trans hd2
      | exit id =>
        obtain ⟨q1, q3⟩ := hq
        have hl2 := q1.same _ _ (by omega) (World.putObj_heap_same (Array.getElem?_eq_some_iff.1 hl').1) rfl
        have hlt2 := (Array.getElem?_eq_some_iff.1 hl2).1
        have hd2 := q1.same _ _ (by omega) ((World.putObj_heap_other (by omega)).trans hd') rfl
        refine ⟨_, _, run_endRound (some (.exit id)) hl2, .inr ⟨rfl, .exit id, hIx _ _ _ _ q3 hlt2, ?_, ?_⟩⟩
        · rw [World.putObj_heap_same hlt2, ← hrec]; rfl
        · exact (World.putObj_heap_other (by omega)).trans hd2
      | ret =>
        obtain ⟨q1, q3⟩ := hq
        have hl2 := q1.same _ _ (by omega) (World.putObj_heap_same (Array.getElem?_eq_some_iff.1 hl').1) rfl
        have hlt2 := (Array.getElem?_eq_some_iff.1 hl2).1
        have hd2 := q1.same _ _ (by omega) ((World.putObj_heap_other (by omega)).trans hd') rfl
        refine ⟨_, _, run_endRound (some .ret) hl2, .inr ⟨rfl, .ret, hIx _ _ _ _ q3 hlt2, ?_, ?_⟩⟩
        · rw [World.putObj_heap_same hlt2, ← hrec]; rfl
        · exact (World.putObj_heap_other (by omega)).trans hd2
      | goto t => exact hq.elim
      | panic ch => exact hq.elim
      | outgrown => exact hq.elim
    | ret => exact hp.elim
    | exit id => exact hp.elim
    | goto t => exact hp.elim
    | panic ch => exact hp.elim
    | outgrown => exact hp.elim
  · -- behind the loop
    rintro e W2 ⟨⟨v, rfl⟩, (⟨hi, hl, hd⟩ | ⟨pre, x, hSp, c, hi, hl, hd⟩)⟩
    · have he := run_endLoop (P := P) hl (by rw [← hrec]; simp)
      refine ⟨none, _, by rw [← hrec] at he; exact he, hdone _ (hI _ _ _ hi (Kept.put _ _ _ (.inr rfl))) ((World.putObj_heap_other (by omega)).trans hd)⟩
    · have he := run_endLoop (P := P) hl (by rw [← hrec]; simp)
      refine ⟨some c, _, by rw [← hrec] at he; exact he, hstop c pre x _ hSp (hIx _ _ _ _ hi (Array.getElem?_eq_some_iff.1 hl).1) ((World.putObj_heap_other (by omega)).trans hd)⟩

theorem clears_any (b ro : Nat) (a e : Int) (w : World) : Calls Tryd.prog 9 #[.pointer (some ⟨b, ro, none⟩), .int .i64 a, .int .i64 e] w fun r w' =>
    r = .returned (.func (.func 13) #[] #[.pointer (some ⟨w.heap.size, 0, none⟩), .pointer (some ⟨w.heap.size + 1, 0, none⟩), .pointer (some ⟨w.heap.size + 2, 0, none⟩)]) ∧
    w' = ((w.alloc (.cells #[.pointer (some ⟨b, ro, none⟩)] 38)).alloc (.cells #[.int .i64 a] 3)).alloc (.cells #[.int .i64 e] 3) := by
  go_enter Tryd.func9, Tryd.ntmps9
  go_wp2
  go_ret
  exact ⟨rfl, rfl⟩
theorem wide_scope {n : Nat} {P : Program} {c : Code} {Q : Exit → Act → World → Prop} {a : Act} {w : World} (h : c.wpIn Fence.wide n P (Exit.noGoto Q) a w) : (Code.scope c).wpIn Fence.wide n P Q a w := wpIn_wide.2 (wp_scope_straight (wpIn_wide.1 h))
/-- What the iterator reads. -/
structure Rd (b ro B0 B1 B2 : Nat) (f : Nat → Bool) (a e : Nat) (w : World) : Prop where
  p : Boxed w B0 38 (.pointer (some ⟨b, ro, none⟩))
  a : Boxed w B1 3 (.int .i64 (a : Nat))
  e : Boxed w B2 3 (.int .i64 (e : Nat))
  r : RowF w b ro f
  t : TabW w
theorem Rd.below {b ro B0 B1 B2 : Nat} {f : Nat → Bool} {a e : Nat} {w w' : World} (h : Rd b ro B0 B1 B2 f a e w) (k : Below w.heap.size w w') : Rd b ro B0 B1 B2 f a e w' :=
  ⟨boxed_block h.p (k.block _ (box_lt h.p)), boxed_block h.a (k.block _ (box_lt h.a)), boxed_block h.e (k.block _ (box_lt h.e)), h.r.below k, h.t.below k⟩
theorem Rd.kept {F : Nat → Prop} {b ro B0 B1 B2 : Nat} {f : Nat → Bool} {a e : Nat} {w w' : World} (h : Rd b ro B0 B1 B2 f a e w) (k : Kept F w w') (h0 : ¬ F 0) (hb : ¬ F b) (h1 : ¬ F B0) (h2 : ¬ F B1) (h3 : ¬ F B2) : Rd b ro B0 B1 B2 f a e w' :=
  ⟨boxed_kept h.p k h1, boxed_kept h.a k h2, boxed_kept h.e k h3, h.r.kept k hb, h.t.kept k h0⟩
/-- A word of the row, with all bits outside set. -/
theorem word_bits {g : Nat → Nat} {f : Nat → Bool} (hg : ∀ k, g k < 18446744073709551616) (hf : ∀ i, i < 512 → bitW g i = f i) (k a e : Nat) (hk : k < 8) :
    (g k ||| inv (prt k a e)) < 18446744073709551616 ∧ ∀ q, q < 64 → (g k ||| inv (prt k a e)).testBit q = blk f a e (64 * k + q) := by
  refine ⟨or_lt (hg k) (inv_lt _), fun q hq => ?_⟩
  rw [Nat.testBit_or, inv_bit (prt_lt _ _ _) hq, prt_bit _ _ _ _ hq, ← bitW_at g k q hq, hf _ (by omega)]
  unfold blk
  rw [Bool.or_assoc]
  congr 1
  rw [Bool.eq_iff_iff]
  simp only [Bool.not_eq_true', decide_eq_false_iff_not, Bool.or_eq_true, decide_eq_true_eq]
  omega
/-- The bits of a word that turn the state, from t on. -/
def turnsOf (o : Bool) (wd t : Nat) : Nat := andn (if o then wd else inv wd) (low t)
theorem turns_lt {wd : Nat} (h : wd < 18446744073709551616) (o : Bool) (t : Nat) : turnsOf o wd t < 18446744073709551616 := by
  unfold turnsOf
  cases o
  · exact andn_lt _ (inv_lt _)
  · exact andn_lt _ h
theorem turns_bit {wd : Nat} (h : wd < 18446744073709551616) (o : Bool) (t q : Nat) (hq : q < 64) : (turnsOf o wd t).testBit q = ((wd.testBit q == o) && decide (t ≤ q)) := by
  unfold turnsOf
  rw [andn_bit, low_bit]
  have e1 : (!decide (q < t ∧ q < 64)) = decide (t ≤ q) := by
    rw [Bool.eq_iff_iff]; simp only [Bool.not_eq_true', decide_eq_false_iff_not, decide_eq_true_eq]; omega
  rw [e1]
  congr 1
  cases o
  · simp only [Bool.false_eq_true, if_false]; rw [inv_bit h hq]; cases wd.testBit q <;> rfl
  · simp only [if_true]; cases wd.testBit q <;> rfl
/-- No bit turns the state. -/
theorem turns_none {wd : Nat} (h : wd < 18446744073709551616) {o : Bool} {t : Nat} (h0 : turnsOf o wd t = 0) : ∀ q, t ≤ q → q < 64 → wd.testBit q = !o := by
  intro q h1 h2
  have := turns_bit h o t q h2
  rw [h0, Nat.zero_testBit, decide_eq_true h1, Bool.and_true] at this
  cases hw : wd.testBit q <;> cases o <;> rw [hw] at this <;> first | rfl | cases this
/-- The first one that does. -/
theorem turns_first {wd : Nat} (h : wd < 18446744073709551616) {o : Bool} {t : Nat} (h0 : turnsOf o wd t ≠ 0) :
    Lib.ctz 64 (turnsOf o wd t) < 64 ∧ t ≤ Lib.ctz 64 (turnsOf o wd t) ∧ wd.testBit (Lib.ctz 64 (turnsOf o wd t)) = o ∧ ∀ q, t ≤ q → q < Lib.ctz 64 (turnsOf o wd t) → wd.testBit q = !o := by
  obtain ⟨h1, h2, h3⟩ := ctz_bit h0 (turns_lt h o t)
  generalize Lib.ctz 64 (turnsOf o wd t) = c at *
  rw [turns_bit h o t c h1, Bool.and_eq_true, beq_iff_eq, decide_eq_true_eq] at h2
  refine ⟨h1, h2.2, h2.1, fun q q1 q2 => ?_⟩
  have := h3 q q2
  rw [turns_bit h o t q (by omega), decide_eq_true q1, Bool.and_true] at this
  cases hw : wd.testBit q <;> cases o <;> rw [hw] at this <;> first | rfl | cases this
theorem w_inv (x : Nat) (hx : x < 18446744073709551616) : bits BinOp.xor IntKind.u64 IntKind.u64.max (x : Int) = ((inv x : Nat) : Int) := by
  have e : IntKind.u64.max = ((18446744073709551615 : Nat) : Int) := by simp [IntKind.max, IntKind.signed, IntKind.bits]
  rw [e, bits_xor_u64_nat _ _ (by omega) hx]
  congr 1
  refine eq_of_bits ?_ (inv_lt x) fun k hk => ?_
  · exact lt_of_bits fun k hk => by rw [Nat.testBit_xor, bit_high (by omega) hk, bit_high hx hk]; rfl
  · rw [Nat.testBit_xor, inv_bit hx hk, show (18446744073709551615 : Nat) = 2 ^ 64 - 1 by decide, Nat.testBit_two_pow_sub_one, decide_eq_true hk]
    cases x.testBit k <;> rfl
/-- The state as the plain function has it. -/
def stO (o : Bool) (z : Nat) : Option Nat := if o then some z else none
def encs2 (x : Nat × Nat) : Array Value := #[.int .i64 (x.1 : Nat), .int .i64 (x.2 : Nat)]
def boolOf : Value → Bool
  | .bool b => b
  | _ => false

set_option maxRecDepth 100000 in
set_option maxHeartbeats 1000000 in
theorem iter_seq (b ro B0 B1 B2 : Nat) (f : Nat → Bool) (a e : Nat) (ha : a ≤ 9223372036854775807) (he : e ≤ 512) (n : Nat) :
    SeqB n Tryd.prog 13 #[.pointer (some ⟨B0, 0, none⟩), .pointer (some ⟨B1, 0, none⟩), .pointer (some ⟨B2, 0, none⟩)] encs2 (Rd b ro B0 B1 B2 f a e) (runs (blk f a e)) := by
  intro l J Jx W hR hJ hY h0
  obtain ⟨F, hF⟩ : ∃ F, F = blk f a e := ⟨_, rfl⟩
  obtain ⟨L, hL⟩ : ∃ L, L = runs (blk f a e) := ⟨_, rfl⟩
  rw [← hL] at hY ⊢
  have HR := hide hR
  have HJ := hide hJ
  have HY := hide hY
  have H0 := hide h0
  have HF := hide hF
  have hLF : L = rest F 0 none := by rw [hL, hF]; rfl
  have HL := hide hLF
  clear hR hJ hY h0 hF hL hLF
  refine callsIn_of_wp Tryd.func13 rfl trivial ?_ rfl
  simp only [Tryd.ntmps13, List.size_toArray, List.length_cons, List.length_nil, Nat.reduceAdd, Nat.reduceSub, Array.replicate_succ, Array.replicate_zero, List.push_toArray, List.append_toArray, List.nil_append, List.cons_append]
  have cp := (HR.out _ _ H0.out).p.cell
  apply wide_scope
  gi_wp2_with fail
  apply wpIn_label
  gi_wp2_with fail
  gi_loopw [5, 6, 12] (fun zv ov kv wr => ∃ (z : Nat) (o : Bool) (k : Nat) (pre : List (Nat × Nat)), zv = .int .i64 (z : Int) ∧ ov = .bool o ∧ kv = .int .i64 (k : Int) ∧ k ≤ 8 ∧ Hid (pre ++ rest F (64 * k) (stO o z) = L) ∧ Hid (J pre wr))
    (fun _ _ kv _ => 8 - (intOf kv).toNat)
  case atStart => exact ⟨0, false, 0, [], rfl, rfl, rfl, by omega, hide HL.out.symm, H0⟩
  case round =>
    obtain ⟨z, o, k, pre, rfl, rfl, rfl, hk, HP, HI⟩ := hrel
    have hrd := HR.out _ _ HI.out
    by_cases hlt : k < 8
    · have hlt' : (k : Int) < 8 := by omega
      obtain ⟨g, hg, hgf⟩ := hrd.r
      have c1 := hg.cell k hlt
      have ca := hrd.a.cell
      have ce := hrd.e.cell
      have cP := hide (part_any k a e hlt ha (by omega) wr.drew)
      obtain ⟨w1, w2⟩ := word_bits hg.fit hgf k a e hlt
      have ho : bits BinOp.or IntKind.u64 ((g k : Nat) : Int) (bits BinOp.xor IntKind.u64 IntKind.u64.max ((prt k a e : Nat) : Int)) = ((g k ||| inv (prt k a e) : Nat) : Int) := by
        rw [w_inv _ (prt_lt _ _ _), w_or _ _ (hg.fit k) (inv_lt _)]
      obtain ⟨wd, hwd⟩ : ∃ wd, wd = g k ||| inv (prt k a e) := ⟨_, rfl⟩
      rw [← hwd] at ho w1 w2
      rw [← HF.out] at w2
      have hv := w_inv wd w1
      have HW1 := hide w1
      have HW2 := hide w2
      have HI2 := hide (HJ.out _ _ _ HI.out (drew_below wr))
      clear hrd hg hgf w2 w1 hwd HI
      gi_wp2_with fail
      refine wpIn_wide.2 (still_all (by kernel_rfl) (by kernel_rfl) ?_)
      repeat still_step
      refine wpStill_nil ?_
      gi_wp2_with fail
      refine wcall cP.out ?_
      rintro e' w' ⟨rfl, hw'⟩; rw [hw']; clear hw' w' cP
      gi_wp2_with fail
      clear c1 ca ce ho
      gi_loopw [5, 6, 9] (fun zv ov tv wr => ∃ (z : Nat) (o : Bool) (t : Nat) (pre : List (Nat × Nat)), zv = .int .i64 (z : Int) ∧ ov = .bool o ∧ tv = .int .i64 (t : Int) ∧ t ≤ 63 ∧ Hid (pre ++ rest F (64 * k + t) (stO o z) = L) ∧ Hid (J pre wr))
        (fun _ ov tv _ => 2 * (64 - (intOf tv).toNat) + (if F (64 * k + (intOf tv).toNat) = boolOf ov then 1 else 0))
      case atStart => exact ⟨z, o, 0, pre, rfl, rfl, rfl, by omega, HP, HI2⟩
      case round =>
        obtain ⟨z, o, t, pre, rfl, rfl, rfl, ht, HP, HI⟩ := hrel
        have hrd := HR.out _ _ HI.out
        have CL := hide (lowest_any (t : Int) (by omega) wr)
        cases o with
        | false =>
          have hn' : bits BinOp.andNot IntKind.u64 ((inv wd : Nat) : Int) ((low t : Nat) : Int) = ((turnsOf false wd t : Nat) : Int) := w_andNot _ _ (inv_lt wd) (low_lt t)
          obtain ⟨T, hT⟩ : ∃ T, T = turnsOf false wd t := ⟨_, rfl⟩
          have hT1 : T < 18446744073709551616 := by rw [hT]; exact turns_lt HW1.out false t
          rw [← hT] at hn'
          by_cases h0 : T = 0
          · have hn := turns_none HW1.out (o := false) (t := t) (by rw [← hT]; exact h0)
            have hz : ((T : Int) == 0) = true := by rw [h0]; rfl
            have HN := hide hn
            clear hn hT hT1 h0
            gi_wp2_with fail
            refine wcall CL.out ?_
            rintro e' w' ⟨rfl, hw'⟩; rw [hw']; clear hw' w' CL
            rw [Int.toNat_natCast]
            gi_wp2_with fail
            refine ⟨⟨z, false, k + 1, pre, rfl, rfl, by rw [Int.natCast_add]; rfl, by omega, hide ?_, HI⟩, ?_⟩
            · rw [show 64 * (k + 1) = 64 * k + t + (64 - t) by omega, ← rest_skip (64 * k + t) (64 - t) (by omega) (fun q q1 q2 => ?_)]
              · exact HP.out
              · have := HN.out (q - 64 * k) (by omega) (by omega)
                rw [HW2.out _ (by omega), show 64 * k + (q - 64 * k) = q by omega] at this
                rw [this]; rfl
            · simp [intOf]; omega
          · have hf := turns_first HW1.out (o := false) (t := t) (by rw [← hT]; exact h0)
            have hz : ((T : Int) == 0) = false := by simp; omega
            rw [← hT] at hf
            have cT := tz_any T h0 hT1 wr hrd.t
            obtain ⟨c, hc⟩ : ∃ c, c = Lib.ctz 64 T := ⟨_, rfl⟩
            rw [← hc] at hf cT
            obtain ⟨f1, f2, f3, f4⟩ := hf
            rw [HW2.out c f1] at f3
            have F3 := hide f3
            have F4 := hide f4
            have CT := hide cT
            have f1' : (c : Int) < 64 := by omega
            clear hT hT1 h0 hc cT f3 f4
            gi_wp2_with fail
            refine wcall CL.out ?_
            rintro e' w' ⟨rfl, hw'⟩; rw [hw']; clear hw' w' CL
            rw [Int.toNat_natCast]
            gi_wp2_with fail
            refine wcall CT.out ?_
            rintro e' w' ⟨rfl, hw'⟩; rw [hw']; clear hw' w' CT
            gi_wp2_with fail
            refine ⟨fun _ h => (by cases h), ?_⟩
            gi_wp2_with fail
            refine ⟨⟨64 * k + c, true, c, pre, by rw [Int.natCast_add, Int.natCast_mul, Int.mul_comm]; rfl, rfl, rfl, by omega, hide ?_, HI⟩, ?_⟩
            · have hs := rest_skip (F := F) (s := none) (64 * k + t) (c - t) (by omega) (fun q q1 q2 => by
                have := F4.out (q - 64 * k) (by omega) (by omega)
                rw [HW2.out _ (by omega), show 64 * k + (q - 64 * k) = q by omega] at this
                rw [this]; rfl)
              have hp := HP.out
              rw [show stO false z = none from rfl, hs, show 64 * k + t + (c - t) = 64 * k + c by omega, rest_open (by omega) F3.out] at hp
              exact hp
            · have hm := F3.out
              simp [intOf, boolOf, hm]
              by_cases e : c = t
              · subst e; simp [hm]
              · first | omega | (split <;> omega)
        | true =>
          have hn' : bits BinOp.andNot IntKind.u64 (wd : Int) ((low t : Nat) : Int) = ((turnsOf true wd t : Nat) : Int) := w_andNot _ _ HW1.out (low_lt t)
          obtain ⟨T, hT⟩ : ∃ T, T = turnsOf true wd t := ⟨_, rfl⟩
          have hT1 : T < 18446744073709551616 := by rw [hT]; exact turns_lt HW1.out true t
          rw [← hT] at hn'
          by_cases h0 : T = 0
          · have hn := turns_none HW1.out (o := true) (t := t) (by rw [← hT]; exact h0)
            have hz : ((T : Int) == 0) = true := by rw [h0]; rfl
            have HN := hide hn
            clear hn hT hT1 h0
            gi_wp2_with fail
            refine wcall CL.out ?_
            rintro e' w' ⟨rfl, hw'⟩; rw [hw']; clear hw' w' CL
            rw [Int.toNat_natCast]
            gi_wp2_with fail
            refine ⟨⟨z, true, k + 1, pre, rfl, rfl, by rw [Int.natCast_add]; rfl, by omega, hide ?_, HI⟩, ?_⟩
            · rw [show 64 * (k + 1) = 64 * k + t + (64 - t) by omega, ← rest_skip (64 * k + t) (64 - t) (by omega) (fun q q1 q2 => ?_)]
              · exact HP.out
              · have := HN.out (q - 64 * k) (by omega) (by omega)
                rw [HW2.out _ (by omega), show 64 * k + (q - 64 * k) = q by omega] at this
                rw [this]; rfl
            · simp [intOf]; omega
          · have hf := turns_first HW1.out (o := true) (t := t) (by rw [← hT]; exact h0)
            have hz : ((T : Int) == 0) = false := by simp; omega
            rw [← hT] at hf
            have cT := tz_any T h0 hT1 wr hrd.t
            obtain ⟨c, hc⟩ : ∃ c, c = Lib.ctz 64 T := ⟨_, rfl⟩
            rw [← hc] at hf cT
            obtain ⟨f1, f2, f3, f4⟩ := hf
            rw [HW2.out c f1] at f3
            have F3 := hide f3
            have F4 := hide f4
            have CT := hide cT
            have f1' : (c : Int) < 64 := by omega
            clear hT hT1 h0 hc cT f3 f4
            have hs := rest_skip (F := F) (s := some z) (64 * k + t) (c - t) (by omega) (fun q q1 q2 => by
                have := F4.out (q - 64 * k) (by omega) (by omega)
                rw [HW2.out _ (by omega), show 64 * k + (q - 64 * k) = q by omega] at this
                rw [this]; rfl)
            have hp := HP.out
            rw [show stO true z = some z from rfl, hs, show 64 * k + t + (c - t) = 64 * k + c by omega, rest_shut (by omega) F3.out] at hp
            have hpre : pre ++ [(z, 64 * k + c)] <+: L := ⟨rest F (64 * k + c) none, by rw [List.append_assoc]; exact hp⟩
            obtain ⟨fn, tmps, assign, body, hy, hRr⟩ := HY.out pre (z, 64 * k + c) wr hpre HI.out
            have ee : ((64 * k + c : Nat) : Int) = (k : Int) * 64 + (c : Int) := by rw [Int.natCast_add, Int.natCast_mul, Int.mul_comm]; rfl
            simp only [encs2] at hy
            rw [ee] at hy
            have HRR := hide hRr
            have HPP := hide hp
            have EE := hide ee
            have HPRE := hide hpre
            clear hs hp hRr ee hpre
            gi_wp2_with fail
            refine wcall CL.out ?_
            rintro e' w' ⟨rfl, hw'⟩; rw [hw']; clear hw' w' CL
            rw [Int.toNat_natCast]
            gi_wp2_with fail
            refine wcall CT.out ?_
            rintro e' w' ⟨rfl, hw'⟩; rw [hw']; clear hw' w' CT
            gi_wp2_with fail
            refine ⟨(fun h => by cases h), HRR.out.mono ?_⟩
            clear HRR hy
            rintro e' w4 (⟨rfl, j4⟩ | ⟨rfl, jx4⟩)
            · gi_wp2_with fail
              refine ⟨⟨64 * k + c, false, c, pre ++ [(z, 64 * k + c)], by rw [EE.out], rfl, rfl, by omega, hide ?_, hide j4⟩, ?_⟩
              · have := HPP.out
                rw [show stO false (64 * k + c) = none from rfl, List.append_assoc]
                exact this
              · have hm := F3.out
                simp [intOf, boolOf, hm]
                by_cases e : c = t
                · subst e; simp [hm]
                · first | omega | (split <;> omega)
            · have X := hide jx4
              clear jx4
              gi_wp2_with fail
              try rw [Exit.noGoto_ret]
              refine bodyPost_ret (results_none rfl _ _ _) rfl ?_
              exact ⟨⟨_, rfl⟩, .inr ⟨_, _, HPRE.out, X.out⟩⟩
    · have hk8 : k = 8 := by omega
      subst hk8
      have hp := HP.out
      cases o with
      | false =>
        rw [show stO false z = none from rfl, rest_end_none, List.append_nil] at hp
        have HPP := hide hp
        clear hp
        gi_wp2_with fail
        rw [Exit.noGoto_normal]
        go_end0
        refine ⟨⟨_, rfl⟩, .inl ?_⟩
        rw [← HPP.out]
        exact HI.out
      | true =>
        rw [show stO true z = some z from rfl, rest_end_some] at hp
        obtain ⟨fn, tmps, assign, body, hy, hRr⟩ := HY.out pre (z, 512) wr ⟨[], by rw [List.append_nil]; exact hp⟩ HI.out
        simp only [encs2] at hy
        rw [show ((512 : Nat) : Int) = (512 : Int) from rfl] at hy
        have HRR := hide hRr
        have HPP := hide hp
        clear hRr hp
        gi_wp2_with fail
        refine ⟨(fun h => by cases h), HRR.out.mono ?_⟩
        clear HRR hy
        rintro e' w4 (⟨rfl, j4⟩ | ⟨rfl, jx4⟩)
        · have X := hide j4
          clear j4
          gi_wp2_with fail
          rw [Exit.noGoto_normal]
          go_end0
          refine ⟨⟨_, rfl⟩, .inl ?_⟩
          rw [← HPP.out]
          exact X.out
        · have X := hide jx4
          clear jx4
          gi_wp2_with fail
          rw [Exit.noGoto_normal]
          go_end0
          exact ⟨⟨_, rfl⟩, .inr ⟨_, _, ⟨[], by rw [List.append_nil]; exact HPP.out⟩, X.out⟩⟩
theorem alloc_at (w : World) (o : Obj) (k : Nat) : (w.alloc o).heap[k]? = if k = w.heap.size then some o else w.heap[k]? := by
  by_cases h : k = w.heap.size
  · subst h; rw [if_pos rfl]; exact World.alloc_heap_new w o
  · rw [if_neg h]
    by_cases hk : k < w.heap.size
    · exact Below.heap_alloc _ _ _ hk
    · have h1 : (w.alloc o).heap.size ≤ k := by rw [World.size_alloc]; omega
      have h2 : w.heap.size ≤ k := by omega
      rw [Array.getElem?_eq_none h1, Array.getElem?_eq_none h2]
/-- A summary in a block of its own. -/
def SumAt (w : World) (b : Nat) (s m e : Int) : Prop := w.heap[b]? = some (.cells #[.int .i64 s, .int .i64 m, .int .i64 e] 28 (0, 0))
theorem SumAt.lt {w : World} {b : Nat} {s m e : Int} (h : SumAt w b s m e) : b < w.heap.size := (Array.getElem?_eq_some_iff.1 h).1
theorem SumAt.c0 {w : World} {b : Nat} {s m e : Int} (h : SumAt w b s m e) : w.cell? ⟨b, 0, none⟩ = some (.int .i64 s) := by unfold SumAt at h; simp [World.cell?, h]
theorem SumAt.c1 {w : World} {b : Nat} {s m e : Int} (h : SumAt w b s m e) : w.cell? ⟨b, 1, none⟩ = some (.int .i64 m) := by unfold SumAt at h; simp [World.cell?, h]
theorem SumAt.c2 {w : World} {b : Nat} {s m e : Int} (h : SumAt w b s m e) : w.cell? ⟨b, 2, none⟩ = some (.int .i64 e) := by unfold SumAt at h; simp [World.cell?, h]
theorem SumAt.fz {w : World} {b : Nat} {s m e : Int} (h : SumAt w b s m e) (k : Nat) : w.frozen? ⟨b, k, none⟩ = false := by unfold SumAt at h; simp [World.frozen?, h]
theorem SumAt.kept {F : Nat → Prop} {w w' : World} {b : Nat} {s m e : Int} (h : SumAt w b s m e) (k : Kept F w w') (hF : ¬ F b) : SumAt w' b s m e := kept_at k h hF
theorem SumAt.below {w w' : World} {b : Nat} {s m e : Int} (h : SumAt w b s m e) (k : Below w.heap.size w w') : SumAt w' b s m e := (k.block b h.lt).trans h
theorem SumAt.set0 {w : World} {b : Nat} {s m e : Int} (h : SumAt w b s m e) (v : Int) : SumAt (w.setCell ⟨b, 0, none⟩ (.int .i64 v)) b v m e := by
  obtain ⟨hlt, hk⟩ := Array.getElem?_eq_some_iff.1 h
  show (w.heap.modify b _)[b]? = _
  rw [Array.getElem?_eq_getElem (by rw [Array.size_modify]; exact hlt), Array.getElem_modify_self, hk]; rfl
theorem SumAt.set1 {w : World} {b : Nat} {s m e : Int} (h : SumAt w b s m e) (v : Int) : SumAt (w.setCell ⟨b, 1, none⟩ (.int .i64 v)) b s v e := by
  obtain ⟨hlt, hk⟩ := Array.getElem?_eq_some_iff.1 h
  show (w.heap.modify b _)[b]? = _
  rw [Array.getElem?_eq_getElem (by rw [Array.size_modify]; exact hlt), Array.getElem_modify_self, hk]; rfl
theorem SumAt.set2 {w : World} {b : Nat} {s m e : Int} (h : SumAt w b s m e) (v : Int) : SumAt (w.setCell ⟨b, 2, none⟩ (.int .i64 v)) b s m v := by
  obtain ⟨hlt, hk⟩ := Array.getElem?_eq_some_iff.1 h
  show (w.heap.modify b _)[b]? = _
  rw [Array.getElem?_eq_getElem (by rw [Array.size_modify]; exact hlt), Array.getElem_modify_self, hk]; rfl
theorem allocs5 (w : World) (o0 o1 o2 o3 o4 : Obj) (w6 : World) (h : w6 = ((((w.alloc o0).alloc o1).alloc o2).alloc o3).alloc o4) (N : Nat) (hN : w.heap.size = N) :
    w6.heap.size = N + 5 ∧ Below N w w6 ∧ w6.heap[N]? = some o0 ∧ w6.heap[N + 1]? = some o1 ∧ w6.heap[N + 2]? = some o2 ∧ w6.heap[N + 3]? = some o3 ∧ w6.heap[N + 4]? = some o4 := by
  subst h hN
  refine ⟨by simp, ?_, ?_, ?_, ?_, ?_, ?_⟩
  · exact (((((Below.refl _ w).alloc (Nat.le_refl _) _).alloc (by simp) _).alloc (by simp; omega) _).alloc (by simp; omega) _).alloc (by simp; omega) _
  all_goals
    simp only [alloc_at, World.size_alloc]
    (repeat' split) <;> first | rfl | omega | simp_all
/-- Between two rounds of Sum. -/
structure UI (N : Nat) (w : World) (b ro : Nat) (f : Nat → Bool) (pre : List (Nat × Nat)) (W : World) : Prop where
  b0 : SumAt W N 0 0 0
  b1 : ∃ s m e : Nat, SumAt W (N + 1) (s : Nat) (m : Nat) (e : Nat) ∧ SI pre s m e
  rd : Rd b ro (N + 2) (N + 3) (N + 4) f 0 512 W
  be : Below N w W
theorem UI.kept {F : Nat → Prop} {N : Nat} {w : World} {b ro : Nat} {f : Nat → Bool} {pre : List (Nat × Nat)} {W W' : World} (h : UI N w b ro f pre W) (k : Kept F W W') (hN : 0 < N) (hb : b < N) (hF : ∀ x, F x → N + 5 ≤ x) : UI N w b ro f pre W' := by
  obtain ⟨s, m, e, h1, h2⟩ := h.b1
  exact ⟨h.b0.kept k (fun x => by have := hF _ x; omega), ⟨s, m, e, h1.kept k (fun x => by have := hF _ x; omega), h2⟩,
    h.rd.kept k (fun x => by have := hF _ x; omega) (fun x => by have := hF _ x; omega) (fun x => by have := hF _ x; omega) (fun x => by have := hF _ x; omega) (fun x => by have := hF _ x; omega),
    below_kept h.be k (fun x f => by have := hF _ f; omega) (by have := h.b0.lt; omega)⟩
def sumV (s m e : Int) : Value := .agg #[.int .i64 s, .int .i64 m, .int .i64 e]
def SumR (w : World) (f : Nat → Bool) (r : Ending) (w' : World) : Prop := ∃ s m e : Nat, r = .returned (sumV (s : Nat) (m : Nat) (e : Nat)) ∧ SumP f s m e ∧ Below w.heap.size w w'

set_option maxRecDepth 100000 in
set_option maxHeartbeats 2000000 in
theorem sum_any (b ro : Nat) (f : Nat → Bool) (w : World) (h : RowF w b ro f) (ht : TabW w) :
    Calls Tryd.prog 4 #[.pointer (some ⟨b, ro, none⟩)] w (SumR w f) := by
  obtain ⟨N, hN⟩ : ∃ N, w.heap.size = N := ⟨_, rfl⟩
  have hb := h.lt
  have h0 := ht.lt
  obtain ⟨R, hR⟩ : ∃ R, R = SumR w f := ⟨_, rfl⟩
  rw [← hR]
  have HR := hide hR
  have H := hide h
  have HT := hide ht
  clear hR h ht
  refine (callsIn_wide (n := 3)).1 ?_
  refine callsIn_of_wp_marks Tryd.func4 rfl trivial ?_ rfl
  simp only [Tryd.ntmps4, List.size_toArray, List.length_cons, List.length_nil, Nat.reduceAdd, Nat.reduceSub, Array.replicate_succ, Array.replicate_zero, List.push_toArray, List.append_toArray, List.nil_append, List.cons_append]
  gi_wp2_with fail
  refine wcall2 (clears_any _ _ _ _ _) ?_
  rintro e' w6 ⟨rfl, h6⟩
  obtain ⟨s6, b6, q0, q1, q2, q3, q4⟩ := allocs5 w _ _ _ _ _ w6 h6 N hN
  have f0 : UI N w b ro f [] w6 := ⟨q0, ⟨0, 0, 0, q1, SI.zero⟩, ⟨q2, q3, q4, H.out.below (by rw [hN]; exact b6), HT.out.below (by rw [hN]; exact b6)⟩, b6⟩
  have F0 := hide f0
  clear f0 q0 q1 q2 q3 q4 b6 h6
  gi_wp2_with fail
  simp only [Nat.add_assoc, Nat.reduceAdd]
  have seq := iter_seq b ro (N + 2) (N + 3) (N + 4) f 0 512 (by omega) (by omega) (3 - 1)
  refine range_law (w := w6) rfl (enters_of Tryd.func13 (by kernel_rfl) rfl) seq (fun _ => rfl) (UI N w b ro f) (fun c pre W => False) (fun s A h => h.rd) ?hI ?hIx F0.out ?round ?done ?stop
  case hI =>
    intro s A A' h k
    rw [s6] at k
    exact h.kept k (by omega) (by omega) (fun x hx => by omega)
  case hIx =>
    rintro c s A o' h hl
    exact h
  case round =>
    rintro pre x W ⟨r0, hr0⟩ _ h hp
    rw [s6] at hr0 ⊢
    have hx := (runs_facts (blk f 0 512)).1 x (hp.subset (by simp))
    have x1 := hx.lt
    have x2 := hx.le
    have H := hide h
    have HR0 := hide hr0
    clear h hr0 seq hx hp
    simp only [encs2]
    gi_wp2_with fail
    refine ⟨keepsFrom_of (Kept.refl (fun _ => False) W) (fun b hb e => e), fun r => ?_⟩
    have k2 := Kept.put (F := fun b => b = N + 6) W (N + 5 + 1) (.loop r) rfl
    obtain ⟨W2, hW2⟩ : ∃ W2, W.putObj (N + 5 + 1) (.loop r) = W2 := ⟨_, rfl⟩
    rw [hW2] at k2 ⊢
    have H2 := hide (H.out.kept k2 (by omega) (by omega) (fun b hb => by omega))
    clear k2 hW2
    obtain ⟨s, m, e, B1, hSI⟩ := H2.out.b1
    have hst := hSI.step x
    have c0 := B1.c0
    have c1 := B1.c1
    have c2 := B1.c2
    have g0 := B1.fz 0
    have g1 := B1.fz 1
    have g2 := B1.fz 2
    have HB1 := hide B1
    have HST := hide hst
    clear B1 hSI hst
    have ex : ((x.2 - x.1 : Nat) : Int) = (x.2 : Int) - (x.1 : Int) := by omega
    obtain ⟨X1, hX1⟩ : ∃ X1 : Int, (x.1 : Int) = X1 := ⟨_, rfl⟩
    obtain ⟨X2, hX2⟩ : ∃ X2 : Int, (x.2 : Int) = X2 := ⟨_, rfl⟩
    obtain ⟨M, hM⟩ : ∃ M : Int, (m : Int) = M := ⟨_, rfl⟩
    rw [hX1, hX2] at ex ⊢
    rw [hM] at c1
    have y0 : 0 ≤ X1 := by omega
    have y1 : X1 < X2 := by omega
    have y2 : X2 ≤ 512 := by omega
    have HX1 := hide hX1
    have HX2 := hide hX2
    have EX := hide ex
    have HM := hide hM
    clear hX1 hX2 x1 x2 ex hM
    have fin : ∀ (Wf : World) (s' m' e' : Int), Kept (fun b => b = N + 1) W2 Wf → SumAt Wf (N + 1) s' m' e' → s' = (if X1 = 0 then X2 - X1 else (s : Int)) → m' = max M (X2 - X1) → e' = (if X2 = 512 then X2 - X1 else (e : Int)) →
        KeepsFrom (N + 5) W2 Wf ∧ UI N w b ro f (pre ++ [x]) Wf := by
      intro Wf s' m' e' k hs e1 e2 e3
      have q1 : s' = ((if x.1 = 0 then x.2 - x.1 else s : Nat) : Int) := by
        rw [e1]; have := HX1.out; by_cases h : x.1 = 0
        · rw [if_pos h, if_pos (by omega), EX.out]
        · rw [if_neg h, if_neg (by omega)]
      have q2 : m' = ((max m (x.2 - x.1) : Nat) : Int) := by rw [e2, ← HM.out, ← EX.out]; omega
      have q3 : e' = ((if x.2 = 512 then x.2 - x.1 else e : Nat) : Int) := by
        rw [e3]; have := HX2.out; by_cases h : x.2 = 512
        · rw [if_pos h, if_pos (by omega), EX.out]
        · rw [if_neg h, if_neg (by omega)]
      subst q1 q2 q3
      exact ⟨keepsFrom_of k (fun b hb e => by omega), H2.out.b0.kept k (by omega), ⟨_, _, _, hs, HST.out⟩, H2.out.rd.kept k (by omega) (by omega) (by omega) (by omega) (by omega), below_kept H2.out.be k (fun b hb => by omega) (by have := H2.out.b0.lt; omega)⟩
    have FIN := hide fin
    clear fin
    have ks := fun (w : World) (k : Nat) (v : Value) => kept_set (F := fun b => b = N + 1) w (N + 1) k v rfl
    have KS := hide ks
    clear ks
    have hc1 : (X1 == 0) = true ∨ (X1 == 0) = false := by cases (X1 == 0) <;> simp
    have hc2 : (X2 == 512) = true ∨ (X2 == 512) = false := by cases (X2 == 512) <;> simp
    rcases hc1 with l1 | l1
    · rcases hc2 with l2 | l2
      · by_cases l3 : M < X2 - X1
        · skip
          gi_wp2_with fail
          refine FIN.out _ _ _ _ (((KS.out _ _ _).trans (KS.out _ _ _) (fun _ _ h => h)).trans (KS.out _ _ _) (fun _ _ h => h)) (((HB1.out.set0 (X2 - X1)).set2 (X2 - X1)).set1 (X2 - X1)) ?_ ?_ ?_
          · rw [if_pos (by simpa using l1)]
          · omega
          · rw [if_pos (by simpa using l2)]
        · have l4 : X2 - X1 ≤ M := by omega
          clear l3
          gi_wp2_with fail
          refine FIN.out _ _ _ _ (((KS.out _ _ _).trans (KS.out _ _ _) (fun _ _ h => h)).trans (KS.out _ _ _) (fun _ _ h => h)) (((HB1.out.set0 (X2 - X1)).set2 (X2 - X1)).set1 (M)) ?_ ?_ ?_
          · rw [if_pos (by simpa using l1)]
          · omega
          · rw [if_pos (by simpa using l2)]
      · by_cases l3 : M < X2 - X1
        · skip
          gi_wp2_with fail
          refine FIN.out _ _ _ _ ((KS.out _ _ _).trans (KS.out _ _ _) (fun _ _ h => h)) ((HB1.out.set0 (X2 - X1)).set1 (X2 - X1)) ?_ ?_ ?_
          · rw [if_pos (by simpa using l1)]
          · omega
          · rw [if_neg (by simpa using l2)]
        · have l4 : X2 - X1 ≤ M := by omega
          clear l3
          gi_wp2_with fail
          refine FIN.out _ _ _ _ ((KS.out _ _ _).trans (KS.out _ _ _) (fun _ _ h => h)) ((HB1.out.set0 (X2 - X1)).set1 (M)) ?_ ?_ ?_
          · rw [if_pos (by simpa using l1)]
          · omega
          · rw [if_neg (by simpa using l2)]
    · rcases hc2 with l2 | l2
      · by_cases l3 : M < X2 - X1
        · skip
          gi_wp2_with fail
          refine FIN.out _ _ _ _ ((KS.out _ _ _).trans (KS.out _ _ _) (fun _ _ h => h)) ((HB1.out.set2 (X2 - X1)).set1 (X2 - X1)) ?_ ?_ ?_
          · rw [if_neg (by simpa using l1)]
          · omega
          · rw [if_pos (by simpa using l2)]
        · have l4 : X2 - X1 ≤ M := by omega
          clear l3
          gi_wp2_with fail
          refine FIN.out _ _ _ _ ((KS.out _ _ _).trans (KS.out _ _ _) (fun _ _ h => h)) ((HB1.out.set2 (X2 - X1)).set1 (M)) ?_ ?_ ?_
          · rw [if_neg (by simpa using l1)]
          · omega
          · rw [if_pos (by simpa using l2)]
      · by_cases l3 : M < X2 - X1
        · skip
          gi_wp2_with fail
          refine FIN.out _ _ _ _ (KS.out _ _ _) (HB1.out.set1 (X2 - X1)) ?_ ?_ ?_
          · rw [if_neg (by simpa using l1)]
          · omega
          · rw [if_neg (by simpa using l2)]
        · have l4 : X2 - X1 ≤ M := by omega
          clear l3
          gi_wp2_with fail
          refine FIN.out _ _ _ _ (KS.out _ _ _) (HB1.out.set1 (M)) ?_ ?_ ?_
          · rw [if_neg (by simpa using l1)]
          · omega
          · rw [if_neg (by simpa using l2)]
  case done =>
    rintro W h hd
    rw [s6] at hd ⊢
    obtain ⟨s, m, e, B1, hSI⟩ := h.b1
    have c0 := B1.c0
    have c1 := B1.c1
    have c2 := B1.c2
    have d0 := h.b0.c0
    have d1 := h.b0.c1
    have d2 := h.b0.c2
    have g0 := h.b0.fz 0
    have g1 := h.b0.fz 1
    have g2 := h.b0.fz 2
    have HH := hide h
    have HD := hide hd
    have HS := hide hSI
    have HB := hide B1
    clear h hd seq B1 hSI
    gi_wp2_with fail
    have ks := fun (w : World) (k : Nat) (v : Value) => kept_set (F := fun b => b = N) w N k v rfl
    have k5 := ((ks W 0 (.int .i64 (s : Nat))).trans (ks _ 1 (.int .i64 (m : Nat))) (fun _ _ h => h)).trans (ks _ 2 (.int .i64 (e : Nat))) (fun _ _ h => h)
    have o4 := ((HH.out.b0.set0 (s : Nat)).set1 (m : Nat)).set2 (e : Nat)
    have d4 := kept_at k5 HD.out (by omega)
    have hlt := HH.out.b0.lt
    have be := below_kept HH.out.be k5 (fun b hb => by omega) (by omega)
    obtain ⟨Wf, hWf⟩ : ∃ Wf, ((W.setCell ⟨N, 0, none⟩ (.int .i64 (s : Nat))).setCell ⟨N, 1, none⟩ (.int .i64 (m : Nat))).setCell ⟨N, 2, none⟩ (.int .i64 (e : Nat)) = Wf := ⟨_, rfl⟩
    rw [hWf] at o4 d4 be ⊢
    have k6 := Kept.put (F := fun b => b = N + 5) Wf (N + 5) (.deferred none) rfl
    have o6 := o4.kept k6 (by omega)
    have r0 := o6.c0
    have r1 := o6.c1
    have r2 := o6.c2
    have B6 := below_kept be k6 (fun b hb => by omega) (by have := o4.lt; omega)
    refine ⟨by simp, .inl ⟨_, _, rfl, run_takeDeferred d4, ?_⟩⟩
    refine ⟨sumV (s : Nat) (m : Nat) (e : Nat), ?_, ?_⟩
    · try simp at r0 r1 r2
      simp [results, Tryd.results4, go_sem, sumV, Nat.add_assoc, r0, r1, r2, Result.andThen]
    · rw [HR.out]
      exact ⟨s, m, e, rfl, HS.out.sum, by rw [hN]; exact B6⟩
  case stop =>
    rintro c pre x W hpre h hd
    exact h.elim
end Go.Proofs.YtdkdckgheibjfaaDoor.Bb
