/- The ground of stage 13's texts: blocks and rows of our own, the table of math/bits; num.Quot. -/
import Derived.Test.YtblfefibgoiaaaaDoorAw
import Derived.Test.YtblfefibgoiaaaaDoorSn
import Derived.Deep.AppendLies
import Derived.Laws.OwnMore
import Derived.Lib.SmallJoins
import Derived.Deep.RegionHeld3
import Derived.StillTailTactics
import Derived.Lib.BitFns
import Derived.Laws.Bits64b
import Derived.Laws.BitsAllLaws
import Derived.Laws.Bits128
import Derived.WalkLawsBesides
import Derived.Deep.QuietTactic
import Derived.BigQuiet
import Derived.Outline
import Derived.Carry
import Derived.ChangeSlices
namespace Go.Proofs.YtblfefibgoiaaaaDoor
open Go.ChangeShapes Go.WideShapes Go.ChangeAt Go.RowKit Go.Proofs.Sn Go.Shelf
set_option linter.unusedVariables false
set_option linter.unusedSimpArgs false

attribute [local go_sem] Oper.semAt_some

theorem drew_below (w : World) : Below w.heap.size w w.drew := (Below.refl _ _).drew
/-- A block of cells of our own. -/
def Bk (W : World) (b : Nat) (t : TypeId) (vs : Array Value) : Prop := W.heap[b]? = some (.cells vs t (0, 0))
theorem Bk.lt {W : World} {b : Nat} {t : TypeId} {vs : Array Value} (h : Bk W b t vs) : b < W.heap.size := (Array.getElem?_eq_some_iff.1 h).1
theorem Bk.cell {W : World} {b : Nat} {t : TypeId} {vs : Array Value} (h : Bk W b t vs) (k : Nat) (v : Value) (hv : vs[k]? = some v) : W.cell? ⟨b, k, none⟩ = some v := by
  simp [World.cell?, show W.heap[b]? = _ from h, hv]
theorem Bk.fz {W : World} {b : Nat} {t : TypeId} {vs : Array Value} (h : Bk W b t vs) (k : Nat) : W.frozen? ⟨b, k, none⟩ = false := by
  simp [World.frozen?, show W.heap[b]? = _ from h]
theorem Bk.kept {F : Nat → Prop} {W W' : World} {b : Nat} {t : TypeId} {vs : Array Value} (h : Bk W b t vs) (k : Kept F W W') (hF : ¬ F b) : Bk W' b t vs := kept_at k h hF
theorem Bk.below {W W' : World} {b : Nat} {t : TypeId} {vs : Array Value} (h : Bk W b t vs) (k : Below W.heap.size W W') : Bk W' b t vs := (k.block b h.lt).trans h
theorem Bk.set {W : World} {b : Nat} {t : TypeId} {vs : Array Value} (h : Bk W b t vs) (k : Nat) (v : Value) : Bk (W.setCell ⟨b, k, none⟩ v) b t (vs.setIfInBounds k v) := by
  obtain ⟨hlt, hk⟩ := Array.getElem?_eq_some_iff.1 h
  show (W.heap.modify b _)[b]? = _
  rw [Array.getElem?_eq_getElem (by rw [Array.size_modify]; exact hlt), Array.getElem_modify_self, hk]
  rfl
theorem Bk.other {W : World} {b b' : Nat} {t : TypeId} {vs : Array Value} (h : Bk W b t vs) (hne : b ≠ b') (k : Nat) (v : Value) : Bk (W.setCell ⟨b', k, none⟩ v) b t vs := (Below.heap_setCell _ _ _ _ hne).trans h
theorem still_tail {P : Program} {id : Nat} {Q : Exit → Act → World → Prop} {a : Act} {w : World} {l : List Oper} (n : Nat) (hm : P.follows .mixedOrders = true) (hB : Region.lexTailB .any l.toArray n = true)
    (h : wpStill P l.toArray w.drew (fun a' => wpList P l.toArray Q (l.drop n) a' w.drew) (l.take n) a) : (Code.region id l.toArray true).wp P Q a w := wp_region_still_tail n hm hB h
theorem still_all {P : Program} {id : Nat} {Q : Exit → Act → World → Prop} {a : Act} {w : World} {l : List Oper} (hm : P.follows .mixedOrders = true) (hB : Region.lexB .any l.toArray = true)
    (h : wpStill P l.toArray w.drew (fun a' => Q .normal a' w.drew) l a) : (Code.region id l.toArray true).wp P Q a w := wp_region_still_lit hm hB h
/-- What a call leaves: nothing old has turned but F; what is its own now was, or is new. -/
def To (W W' : World) (F F' : Nat → Prop) : Prop := Kept F W W' ∧ ∀ z, F' z → F z ∨ W.heap.size ≤ z
theorem To.refl (W : World) (F : Nat → Prop) : To W W F F := ⟨Kept.refl _ _, fun _ h => .inl h⟩
theorem To.of_below {W W' : World} (h : Below W.heap.size W W') (F : Nat → Prop) : To W W' F F := ⟨Kept.of_below h, fun _ h => .inl h⟩
theorem To.trans {A B C : World} {F G H : Nat → Prop} (h : To A B F G) (k : To B C G H) : To A C F H :=
  ⟨h.1.trans k.1 (fun x hx g => (h.2 x g).resolve_right (by omega)), fun z hz => by
    rcases k.2 z hz with u | u
    · exact h.2 z u
    · exact .inr (Nat.le_trans h.1.size u)⟩
/-! ### Rows of words, of numbers, of truths -/
def encW (x : Nat) : Value := .int .u64 (x : Nat)
def encI (x : Nat) : Value := .int .i64 (x : Nat)
def encB (x : Bool) : Value := .bool x
theorem infoW : (Tryd.prog.info? 22).map (fun i => (i.zero, i.size, i.bytes)) = some (some (.int .u64 0), 1, 8) := by kernel_rfl
theorem infoI : (Tryd.prog.info? 3).map (fun i => (i.zero, i.size, i.bytes)) = some (some (.int .i64 0), 1, 8) := by kernel_rfl
theorem infoB : (Tryd.prog.info? 4).map (fun i => (i.zero, i.size, i.bytes)) = some (some (.bool false), 1, 1) := by kernel_rfl
theorem own_ge {W : World} {M e n z : Nat} {v : Value} {xs : List Value} (h : W.ownsRow M e 1 v n xs) (hz : v.ownBlock = some z) : M ≤ z ∧ z < W.heap.size := h.lt z hz
theorem row_form {W : World} {M e n : Nat} {v : Value} {xs : List Value} (h : W.ownsRow M e 1 v n xs) : ∃ o cap, v = .slice o n cap := by
  rcases h.2 with ⟨a, b⟩ | ⟨g, cap, cur, a, _⟩
  · exact ⟨none, 0, by rw [a, b]⟩
  · exact ⟨_, cap, a⟩
theorem ownsRow_le {W : World} {M M' e n : Nat} {v : Value} {xs : List Value} (h : W.ownsRow M e 1 v n xs) (hM : M' ≤ M) : W.ownsRow M' e 1 v n xs := by
  refine ⟨h.1, ?_⟩
  rcases h.2 with ⟨a, b⟩ | ⟨g, cap, cur, a, b, c⟩
  · exact .inl ⟨a, b⟩
  · exact .inr ⟨g, cap, cur, a, Nat.le_trans hM b, c⟩
theorem words_more {X2 : World} {base : Nat} {v : Value} {k : Nat} {t : List Nat} (h : X2.ownsRow base 22 1 v k (t.map encW)) (hk : k < 100000) (blk : Nat) (q : Nat) (n2 : X2.heap[blk]? = some (.cells #[.int .u64 (q : Nat)] 22 (0, 0))) (hb : base ≤ X2.heap.size) (ty : TypeId) :
    ∃ g cap Y, (Builtin.append_ #[76, 76] ty #[v, .slice (some ⟨blk, 0, none⟩) 1 1]).run Tryd.prog X2 = .ok (.slice (some ⟨g, 0, none⟩) (k + 1) cap) Y ∧ Y.ownsRow base 22 1 (.slice (some ⟨g, 0, none⟩) (k + 1) cap) (k + 1) ((t ++ [q]).map encW) ∧ Kept (fun x => v.ownBlock = some x) X2 Y ∧ (v.ownBlock = some g ∨ X2.heap.size ≤ g) ∧ g < Y.heap.size := by
  obtain ⟨i0, hi0, hz0, hz1, hz2⟩ := info_parts infoW
  obtain ⟨g, cap, Y, r1, o1, g1, hat, hlt⟩ := run_append_lies (P := Tryd.prog) X2 76 ty base 22 i0 _ 1 8 Tryd.underlying76 hi0 hz0 hz1 hz2 rfl (by decide) v k (t.map encW) h ⟨blk, 0, none⟩ 1 1 [.int .u64 (q : Nat)] rfl (World.news_of_block n2) (by intro u hu; simp at hu; rw [hu]; rfl) (by decide) (by unfold maxLen; omega) (by omega) hb _ rfl
  refine ⟨g, cap, Y, r1, ?_, Kept.of_grown g1 (fun j e => e), ?_, hlt⟩
  · rw [List.map_append]; exact o1
  · rcases hat with e | e
    · exact .inl e
    · exact .inr (by omega)
theorem ints_more {X2 : World} {base : Nat} {v : Value} {k : Nat} {t : List Nat} (h : X2.ownsRow base 3 1 v k (t.map encI)) (hk : k < 100000) (blk : Nat) (q : Nat) (n2 : X2.heap[blk]? = some (.cells #[.int .i64 (q : Nat)] 3 (0, 0))) (hb : base ≤ X2.heap.size) (ty : TypeId) :
    ∃ g cap Y, (Builtin.append_ #[39, 39] ty #[v, .slice (some ⟨blk, 0, none⟩) 1 1]).run Tryd.prog X2 = .ok (.slice (some ⟨g, 0, none⟩) (k + 1) cap) Y ∧ Y.ownsRow base 3 1 (.slice (some ⟨g, 0, none⟩) (k + 1) cap) (k + 1) ((t ++ [q]).map encI) ∧ Kept (fun x => v.ownBlock = some x) X2 Y ∧ (v.ownBlock = some g ∨ X2.heap.size ≤ g) ∧ g < Y.heap.size := by
  obtain ⟨i0, hi0, hz0, hz1, hz2⟩ := info_parts infoI
  obtain ⟨g, cap, Y, r1, o1, g1, hat, hlt⟩ := run_append_lies (P := Tryd.prog) X2 39 ty base 3 i0 _ 1 8 Tryd.underlying39 hi0 hz0 hz1 hz2 rfl (by decide) v k (t.map encI) h ⟨blk, 0, none⟩ 1 1 [.int .i64 (q : Nat)] rfl (World.news_of_block n2) (by intro u hu; simp at hu; rw [hu]; rfl) (by decide) (by unfold maxLen; omega) (by omega) hb _ rfl
  refine ⟨g, cap, Y, r1, ?_, Kept.of_grown g1 (fun j e => e), ?_, hlt⟩
  · rw [List.map_append]; exact o1
  · rcases hat with e | e
    · exact .inl e
    · exact .inr (by omega)
theorem bools_more {X2 : World} {base : Nat} {v : Value} {k : Nat} {t : List Bool} (h : X2.ownsRow base 4 1 v k (t.map encB)) (hk : k < 100000) (blk : Nat) (q : Bool) (n2 : X2.heap[blk]? = some (.cells #[.bool q] 4 (0, 0))) (hb : base ≤ X2.heap.size) (ty : TypeId) :
    ∃ g cap Y, (Builtin.append_ #[40, 40] ty #[v, .slice (some ⟨blk, 0, none⟩) 1 1]).run Tryd.prog X2 = .ok (.slice (some ⟨g, 0, none⟩) (k + 1) cap) Y ∧ Y.ownsRow base 4 1 (.slice (some ⟨g, 0, none⟩) (k + 1) cap) (k + 1) ((t ++ [q]).map encB) ∧ Kept (fun x => v.ownBlock = some x) X2 Y ∧ (v.ownBlock = some g ∨ X2.heap.size ≤ g) ∧ g < Y.heap.size := by
  obtain ⟨i0, hi0, hz0, hz1, hz2⟩ := info_parts infoB
  obtain ⟨g, cap, Y, r1, o1, g1, hat, hlt⟩ := run_append_lies (P := Tryd.prog) X2 40 ty base 4 i0 _ 1 1 Tryd.underlying40 hi0 hz0 hz1 hz2 rfl (by decide) v k (t.map encB) h ⟨blk, 0, none⟩ 1 1 [.bool q] rfl (World.news_of_block n2) (by intro u hu; simp at hu; rw [hu]; rfl) (by decide) (by unfold maxLen; omega) (by omega) hb _ rfl
  refine ⟨g, cap, Y, r1, ?_, Kept.of_grown g1 (fun j e => e), ?_, hlt⟩
  · rw [List.map_append]; exact o1
  · rcases hat with e | e
    · exact .inl e
    · exact .inr (by omega)
/-- An append whose run is known. -/
theorem wp_app {P : Program} {w w' : World} {o : Oper} {a : Act} {K : Act → World → Prop} {Q : Exit → Act → World → Prop} (s x : Operand) (t : TypeId)
    (ho : o.op = .call { callee := .builtin .append, args := #[s, x], argTypes := #[t, t] }) {v u v' : Value} (hs : a.eval s = v) (hx : a.eval x = u) (hr : (Builtin.append_ #[t, t] o.type #[v, u]).run P w = .ok v' w') (h : K (a.put o.dst v') w') : o.wp P a w K Q := by
  unfold Oper.wp execOp
  simp only [ho, resolve, invoke, builtin, Sem.run_bind, Sem.run_pure, Result.andThen_ok, List.map_toArray, List.map_cons, List.map_nil, hs, hx, hr]
  exact h
theorem list_app {P : Program} {w w' : World} {ops : Array Oper} {rest : List Oper} {o : Oper} {a : Act} {Q : Exit → Act → World → Prop} (hgd : o.guard = none) (s x : Operand) (t : TypeId)
    (ho : o.op = .call { callee := .builtin .append, args := #[s, x], argTypes := #[t, t] }) {v u v' : Value} (hs : a.eval s = v) (hx : a.eval x = u) (hr : (Builtin.append_ #[t, t] o.type #[v, u]).run P w = .ok v' w') (h : wpList P ops Q rest (a.put o.dst v') w') : wpList P ops Q (o :: rest) a w :=
  wpList_plain hgd fun _ hK => wp_app s x t ho hs hx hr (hK _ _ h)
/-! ### TrailingZeros64 -/
/-- The table lies where the program has it. -/
def TabW (w : World) : Prop := ∀ j, j < 64 → w.cell? ⟨0, j, none⟩ = some (.int .u8 (Lib.deBruijn64tab.getD j 0))
theorem TabW.lt {w : World} (h : TabW w) : 0 < w.heap.size := World.block_lt_of_cell? w ⟨0, 0, none⟩ (h 0 (by omega))
theorem TabW.block {w w' : World} (h : TabW w) (k : w'.heap[0]? = w.heap[0]?) : TabW w' := fun j hj => (World.cell?_of_block k).trans (h j hj)
theorem TabW.below {w w' : World} {N : Nat} (h : TabW w) (hN : 0 < N) (k : Below N w w') : TabW w' := h.block (k.block 0 hN)
theorem tz_core (x k idx : Nat) (w : World) (hx0 : ((x : Int) == 0) = false)
    (key : IntKind.u64.wrap (bits BinOp.and IntKind.u64 (x : Int) (IntKind.u64.wrap (-(x : Int))) * 285870213051353865) / 288230376151711744 = (idx : Int))
    (hi : idx < 64) (hk : k < 64) (hcell : w.cell? ⟨0, idx, none⟩ = some (.int .u8 k)) :
    Calls Tryd.prog 58 #[.int .u64 x] w fun e w' => e = .returned (.int .i64 k) ∧ w' = w := by
  go_enter Tryd.func58, Tryd.ntmps58
  go_wp2_with (simp only [key])
  go_ret
  exact ⟨rfl, rfl⟩
theorem tz_key (x a : Nat) (hx : x < 18446744073709551616) (hx0 : x ≠ 0) (hlow : x &&& (18446744073709551616 - x) = a) :
    IntKind.u64.wrap (bits BinOp.and IntKind.u64 (x : Int) (IntKind.u64.wrap (-(x : Int))) * 285870213051353865) / 288230376151711744 = ((a * 285870213051353865 % 18446744073709551616 / 288230376151711744 : Nat) : Int) := by
  have e1 : IntKind.u64.wrap (-(x : Int)) = ((18446744073709551616 - x : Nat) : Int) := by rw [IntKind.wrap_u64]; omega
  rw [e1, bits_and_u64_nat x _ hx (by omega), hlow, IntKind.wrap_u64]
  omega
theorem tz_any (x : Nat) (hx0 : x ≠ 0) (hx : x < 18446744073709551616) (w : World) (hT : TabW w) :
    Calls Tryd.prog 58 #[.int .u64 x] w fun e w' => e = .returned (.int .i64 (Lib.ctz 64 x : Nat)) ∧ w' = w := by
  obtain ⟨hlow, hk⟩ := Lib.lowest_bit 64 x hx0 hx
  obtain ⟨hi, htab⟩ := Lib.deBruijn64_at _ hk
  have hcell := hT _ hi
  rw [htab] at hcell
  exact tz_core x _ _ w (by simp; omega) (tz_key x _ hx hx0 hlow) hi hk hcell
/-! ### The words' operations -/
theorem andn_inv (a b : Nat) (ha : a < 18446744073709551616) (hb : b < 18446744073709551616) : a &&& (18446744073709551615 - b) = Bt.andn a b := by
  refine Bt.eq_of_bits (Bt.and_lt _ ha) (Bt.andn_lt _ ha) fun k hk => ?_
  have := Bt.inv_bit hb hk
  unfold Bt.inv at this
  rw [Nat.testBit_and, Bt.andn_bit, this]
theorem w_andNot (a b : Nat) (ha : a < 18446744073709551616) (hb : b < 18446744073709551616) : bits .andNot .u64 (a : Int) (b : Int) = ((Bt.andn a b : Nat) : Int) := by
  rw [u64_andNot_nat a b ha hb, andn_inv a b ha hb]
theorem w_or (a b : Nat) (ha : a < 18446744073709551616) (hb : b < 18446744073709551616) : bits .or .u64 (a : Int) (b : Int) = ((a ||| b : Nat) : Int) := bits_or_u64_nat a b ha hb
theorem w_and (a b : Nat) (ha : a < 18446744073709551616) (hb : b < 18446744073709551616) : bits .and .u64 (a : Int) (b : Int) = ((a &&& b : Nat) : Int) := bits_and_u64_nat a b ha hb
/-! ### Quot -/
def quotV (x m : Int) : Int := x * m / 4294967296
theorem prod_bound (x m : Int) (hx : 0 ≤ x) (hx' : x ≤ 4294967295) (hm : 0 ≤ m) (hm' : m ≤ 4294967295) : 0 ≤ x * m ∧ x * m ≤ 18446744065119617025 := by
  refine ⟨Int.mul_nonneg hx hm, ?_⟩
  have := Int.mul_le_mul hx' hm' hm (by decide)
  omega
theorem quot_any (x m : Int) (hx : 0 ≤ x ∧ x ≤ 4294967295) (hm : 0 ≤ m ∧ m ≤ 4294967295) (w : World) :
    Calls Tryd.prog 62 #[.int .u32 x, .int .u32 m] w fun e w' => e = .returned (.int .u32 (quotV x m)) ∧ w' = w := by
  have hp := prod_bound x m hx.1 hx.2 hm.1 hm.2
  unfold quotV
  go_enter Tryd.func62, Tryd.ntmps62
  go_wp2
  go_ret
  exact ⟨rfl, rfl⟩
theorem exact_arith (d x : Int) (h2 : 2 ≤ d) (hd : d ≤ 32768) (hx : 0 ≤ x) (h : x < 131072) : quotV x (magicV d) = x / d := by
  have xd : x * d ≤ 4294967296 := by
    have := Int.mul_le_mul (show x ≤ 131071 by omega) hd (by omega) (by decide)
    omega
  have em := Int.mul_ediv_add_emod 4294967295 d
  have e0 := Int.emod_nonneg 4294967295 (show d ≠ 0 by omega)
  have e1 := Int.emod_lt_of_pos 4294967295 (show 0 < d by omega)
  have xm := Int.mul_ediv_add_emod x d
  have x0 := Int.emod_nonneg x (show d ≠ 0 by omega)
  have x1 := Int.emod_lt_of_pos x (show 0 < d by omega)
  unfold quotV magicV
  rw [if_neg (by omega)]
  generalize 4294967295 / d = k at *
  generalize 4294967295 % d = r at *
  generalize x / d = q at *
  generalize x % d = s at *
  have hm : d * (k + 1) = 4294967296 + (d - 1 - r) := by rw [Int.mul_add]; omega
  have ht : d * (x * (k + 1)) = x * 4294967296 + x * (d - 1 - r) := by rw [Int.mul_left_comm, hm, Int.mul_add]
  have he0 : 0 ≤ x * (d - 1 - r) := Int.mul_nonneg hx (by omega)
  have he1 : x * (d - 1 - r) ≤ x * (d - 1) := Int.mul_le_mul_of_nonneg_left (by omega) hx
  have he2 : x * (d - 1) = x * d - x := by rw [Int.mul_sub]; omega
  have he3 : x * (d - 1 - r) < 4294967296 := by
    by_cases hz : x = 0
    · subst hz; omega
    · omega
  have lo : q * 4294967296 ≤ x * (k + 1) := by
    apply Int.le_of_mul_le_mul_left _ (show 0 < d by omega)
    rw [ht, ← Int.mul_assoc]
    omega
  have hi : x * (k + 1) < (q + 1) * 4294967296 := by
    apply Int.lt_of_mul_lt_mul_left _ (show 0 ≤ d by omega)
    rw [ht, ← Int.mul_assoc, Int.mul_add d q 1]
    omega
  omega
end Go.Proofs.YtblfefibgoiaaaaDoor
