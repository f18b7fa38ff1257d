/- Words of slots: has, set, unset, clearFrom: contracts. -/
import Derived.Test.YtblfefibgoiaaaaDoorGa
namespace Go.Proofs.YtblfefibgoiaaaaDoor
open Go.ChangeShapes Go.WideShapes Go.ChangeAt Go.RowKit Go.Proofs.Sn Go.Shelf
set_option linter.unusedVariables false
set_option linter.unusedSimpArgs false

attribute [local go_sem] Oper.semAt_some

/-- A row of words of our own. -/
structure Wr (N : Nat) (W : World) (v : Value) (ws : List Nat) : Prop where
  row : W.ownsRow N 22 1 v ws.length (ws.map encW)
  sm : Small ws
/-- What a number that comes in says. -/
def uat (u : Nat → Bool) (i : Int) : Bool := decide (0 ≤ i) && u i.toNat
theorem uat_neg (u : Nat → Bool) {i : Int} (h : i < 0) : uat u i = false := by unfold uat; rw [decide_eq_false (by omega)]; rfl
theorem uat_nat (u : Nat → Bool) (k : Nat) : uat u (k : Int) = u k := by unfold uat; rw [decide_eq_true (by omega)]; simp
section
variable {N : Nat} {W W' : World} {v : Value} {ws : List Nat}
theorem Wr.kept {F : Nat → Prop} (h : Wr N W v ws) (k : Kept F W W') (hF : ∀ g, v.ownBlock = some g → ¬ F g) : Wr N W' v ws := ⟨owns_kept h.row k hF, h.sm⟩
theorem Wr.below (h : Wr N W v ws) (k : Below W.heap.size W W') : Wr N W' v ws := h.kept (Kept.of_below (F := fun _ => False) k) (fun _ _ f => f)
theorem Wr.cellAt (h : Wr N W v ws) {j x : Nat} (hx : ws[j]? = some x) : ∃ g cap, v = .slice (some ⟨g, 0, none⟩) ws.length cap ∧ W.cell? ⟨g, j, none⟩ = some (.int .u64 (x : Nat)) ∧ W.frozen? ⟨g, j, none⟩ = false := by
  have hj := (List.getElem?_eq_some_iff.1 hx).1
  obtain ⟨g, cap, e, _, _⟩ := h.row.form (by omega)
  have r := h.row
  rw [e] at r
  refine ⟨g, cap, e, ?_, r.frozenAt j⟩
  rw [r.cellAt j (by omega), List.getElem?_map, hx]
  rfl
theorem bit1 (x r : Nat) (hx : x < 18446744073709551616) : (bits BinOp.and IntKind.u64 ((x : Int) / 2 ^ r) 1 == 1) = x.testBit r := by
  have e1 : (x : Int) / 2 ^ r = ((x / 2 ^ r : Nat) : Int) := by simp
  have hl : x / 2 ^ r < 18446744073709551616 := Nat.lt_of_le_of_lt (Nat.div_le_self _ _) hx
  rw [e1, show (1 : Int) = ((1 : Nat) : Int) from rfl, bits_and_u64_nat _ _ hl (by decide), Nat.testBit_eq_decide_div_mod_eq, Nat.and_one_is_mod]
  rw [Bool.eq_iff_iff]
  simp
  omega
theorem has_any (h : Wr N W v ws) (hL : ws.length ≤ 100000) (i : Int) (h0 : -9223372036854775808 ≤ i) (h1 : i ≤ 9223372036854775807) :
    Calls Tryd.prog 45 #[v, .int .i64 i] W fun e W' => e = .returned (.bool (uat (wb ws) i)) ∧ W' = W := by
  by_cases c1 : 0 ≤ i
  · have d1 : decide (0 ≤ i) = true := decide_eq_true c1
    obtain ⟨k, rfl⟩ : ∃ k : Nat, i = k := ⟨i.toNat, by omega⟩
    rw [uat_nat]
    obtain ⟨q, hq⟩ : ∃ q : Nat, k / 64 = q := ⟨_, rfl⟩
    obtain ⟨r, hr⟩ : ∃ r : Nat, k % 64 = r := ⟨_, rfl⟩
    have t1 : (k : Int).tdiv 64 = (q : Int) := by rw [Int.tdiv_eq_ediv_of_nonneg (by omega)]; omega
    have t2 : (k : Int).tmod 64 = (r : Int) := by rw [Int.tmod_eq_emod_of_nonneg (by omega)]; omega
    have t3 : (k : Int) / 64 = (q : Int) := by omega
    have t4 : (k : Int) % 64 = (r : Int) := by omega
    have t5 : IntKind.i64.wrap (q : Int) = (q : Int) := by rw [IntKind.wrap_i64]; omega
    have t6 : IntKind.i64.wrap (r : Int) = (r : Int) := by rw [IntKind.wrap_i64]; omega
    obtain ⟨m, hm⟩ : ∃ m : Nat, ws.length = m := ⟨_, rfl⟩
    by_cases c2 : q < ws.length
    · have hx : ws[k / 64]? = some ws[q] := by rw [hq]; exact List.getElem?_eq_getElem c2
      rw [wb_in hx, hr]
      have sx := h.sm.at hx
      rw [hq] at hx
      obtain ⟨g, cap, rfl, x1, -⟩ := h.cellAt hx
      generalize ws[q] = x at *
      rw [← bit1 x r sx]
      rw [hm] at c2 hL
      rw [hm]
      have d2 : decide ((q : Int) < (m : Int)) = true := decide_eq_true (by omega)
      have r64 : r < 64 := by omega
      clear h hm hx sx hq hr
      go_enter Tryd.func45, Tryd.ntmps45
      go_wp2_with fail
      go_ret
      exact ⟨rfl, rfl⟩
    · rw [wb_out (by omega)]
      obtain ⟨o, cap, rfl⟩ := row_form h.row
      rw [hm] at c2 hL
      rw [hm]
      have d2 : decide ((q : Int) < (m : Int)) = false := decide_eq_false (by omega)
      clear h hm hq hr
      go_enter Tryd.func45, Tryd.ntmps45
      go_wp2_with fail
      go_ret
      exact ⟨rfl, rfl⟩
  · have d1 : decide (0 ≤ i) = false := decide_eq_false c1
    rw [uat_neg _ (by omega)]
    obtain ⟨o, cap, rfl⟩ := row_form h.row
    clear h
    go_enter Tryd.func45, Tryd.ntmps45
    go_wp2_with fail
    go_ret
    exact ⟨rfl, rfl⟩
/-! ### unset -/
theorem Wr.put {g cap : Nat} (h : Wr N W (.slice (some ⟨g, 0, none⟩) ws.length cap) ws) (j : Nat) {x : Nat} (hx : x < 18446744073709551616) : Wr N (W.setCell ⟨g, j, none⟩ (.int .u64 (x : Nat))) (.slice (some ⟨g, 0, none⟩) ws.length cap) (ws.set j x) := by
  refine ⟨?_, h.sm.set hx j⟩
  have := (h.row.stored j (.int .u64 (x : Nat))).1
  rw [List.length_set, List.map_set]
  exact this
theorem shl1 (r : Nat) (h : 2 ^ r < 18446744073709551616) : IntKind.u64.wrap ((2 : Int) ^ r) = (2 : Int) ^ r := by
  have e : ((2 : Int) ^ r) = ((2 ^ r : Nat) : Int) := by simp
  rw [IntKind.wrap_u64, e]
  generalize 2 ^ r = x at *
  omega
theorem unset_any {g cap : Nat} (h : Wr N W (.slice (some ⟨g, 0, none⟩) ws.length cap) ws) (hL : ws.length ≤ 100000) (k : Nat) (hk : k / 64 < ws.length) :
    Calls Tryd.prog 46 #[.slice (some ⟨g, 0, none⟩) ws.length cap, .int .i64 (k : Nat)] W fun e W' => e = .returned (.tuple #[]) ∧ (∃ ws', ws'.length = ws.length ∧ Wr N W' (.slice (some ⟨g, 0, none⟩) ws.length cap) ws' ∧ wb ws' = upd (wb ws) k false) ∧ Kept (fun z => z = g) W W' := by
  obtain ⟨R, hR⟩ : ∃ R : Ending → World → Prop, R = fun e W' => e = .returned (.tuple #[]) ∧ (∃ ws', ws'.length = ws.length ∧ Wr N W' (.slice (some ⟨g, 0, none⟩) ws.length cap) ws' ∧ wb ws' = upd (wb ws) k false) ∧ Kept (fun z => z = g) W W' := ⟨_, rfl⟩
  rw [← hR]
  have HR := hide hR
  clear hR
  obtain ⟨q, hq⟩ : ∃ q : Nat, k / 64 = q := ⟨_, rfl⟩
  obtain ⟨r, hr⟩ : ∃ r : Nat, k % 64 = r := ⟨_, rfl⟩
  have t1 : (k : Int).tdiv 64 = (q : Int) := by rw [Int.tdiv_eq_ediv_of_nonneg (by omega)]; omega
  have t2 : (k : Int).tmod 64 = (r : Int) := by rw [Int.tmod_eq_emod_of_nonneg (by omega)]; omega
  have t3 : (k : Int) / 64 = (q : Int) := by omega
  have t4 : (k : Int) % 64 = (r : Int) := by omega
  have t5 : IntKind.i64.wrap (q : Int) = (q : Int) := by rw [IntKind.wrap_i64]; omega
  have t6 : IntKind.i64.wrap (r : Int) = (r : Int) := by rw [IntKind.wrap_i64]; omega
  obtain ⟨m, hm⟩ : ∃ m : Nat, ws.length = m := ⟨_, rfl⟩
  have hx : ws[k / 64]? = some (ws[k / 64]'hk) := List.getElem?_eq_getElem hk
  generalize ws[k / 64]'hk = x at hx
  have sx := h.sm.at hx
  have pl := pow_lt k
  obtain ⟨g', cap', e', x1, x2⟩ := (h.below (drew_below W)).cellAt hx
  obtain ⟨rfl, rfl⟩ : g = g' ∧ cap = cap' := by simp at e'; exact e'
  have H := hide h
  have HX := hide hx
  have SL := hide (Bt.andn_lt (2 ^ (k % 64)) sx)
  rw [hr] at SL pl
  have wa : bits .andNot .u64 (x : Int) ((2 : Int) ^ r) = ((Bt.andn x (2 ^ r) : Nat) : Int) := by rw [show ((2 : Int) ^ r) = ((2 ^ r : Nat) : Int) by simp]; exact w_andNot x (2 ^ r) sx pl
  have ws1 := shl1 r pl
  have FIN := hide (show ∃ ws', ws'.length = ws.length ∧ Wr N (W.drew.setCell ⟨g, q, none⟩ (.int .u64 (Bt.andn x (2 ^ r) : Nat))) (.slice (some ⟨g, 0, none⟩) ws.length cap) ws' ∧ wb ws' = upd (wb ws) k false from
    ⟨ws.set q (Bt.andn x (2 ^ r)), by simp, (h.below (drew_below W)).put q SL.out, by rw [← wb_off hx, hq, hr]⟩)
  have KK := hide (show Kept (fun z => z = g) W (W.drew.setCell ⟨g, q, none⟩ (.int .u64 (Bt.andn x (2 ^ r) : Nat))) from (Kept.of_below (drew_below W)).trans (kept_set (F := fun z => z = g) W.drew g q _ rfl) (fun _ _ f => f))
  have RR := hide (show R (.returned (.tuple #[])) (W.drew.setCell ⟨g, q, none⟩ (.int .u64 (Bt.andn x (2 ^ r) : Nat))) from by rw [HR.out]; exact ⟨rfl, FIN.out, KK.out⟩)
  clear FIN KK HR
  rw [hq] at x1 x2 hk
  have r64 : r < 64 := by omega
  have q0 : (0 : Int) ≤ (q : Int) := by omega
  rw [hm] at hL ⊢
  have q1 : (q : Int) < (m : Int) := by omega
  have q2 : q < m := by omega
  clear h hx sx e' hm hq hr
  go_enter Tryd.func46, Tryd.ntmps46
  go_wp2_with fail
  refine still_tail 10 (by kernel_rfl) (by kernel_rfl) ?_
  simp only [List.take_succ_cons, List.take_zero, List.drop_succ_cons, List.drop_zero]
  repeat still_step
  refine wpStill_nil ?_
  go_wp2_with fail
  exact bodyPost_ret (results_none rfl _ _ _) rfl RR.out
/-! ### set -/
def lenC : Option Value → Nat
  | some (.slice _ n _) => n
  | _ => 0
/-- A row of words in a span's block, while it grows. -/
structure SetI (N : Nat) (W0 W : World) (sb off : Nat) (vs : Array Value) (v0 : Value) (ws0 : List Nat) (q : Nat) (v : Value) (ws : List Nat) : Prop where
  bk : Bk W sb 78 (vs.setIfInBounds off v)
  wr : Wr N W v ws
  eq : wb ws = wb ws0
  le : ws.length ≤ max ws0.length (q + 1)
  n0 : v.ownBlock ≠ some sb
  ke : Kept (fun z => z = sb ∨ v0.ownBlock = some z) W0 W
  nw : ∀ z, v.ownBlock = some z → v0.ownBlock = some z ∨ W0.heap.size ≤ z
  hN : N ≤ W.heap.size
  lt : sb < W0.heap.size
theorem at_set {vs : Array Value} {off : Nat} (h : off < vs.size) (x : Value) : (vs.setIfInBounds off x)[off]? = some x := by
  rw [Array.getElem?_setIfInBounds]
  simp [h]
theorem set_same {vs : Array Value} {off : Nat} {v : Value} (ho : vs[off]? = some v) : vs.setIfInBounds off v = vs := by
  apply Array.ext_getElem?
  intro i
  by_cases e : off = i
  · subst e
    rw [at_set (Array.getElem?_eq_some_iff.1 ho).1, ho]
  · rw [Array.getElem?_setIfInBounds, if_neg e]
theorem set_set_at (vs : Array Value) (off : Nat) (a b : Value) : (vs.setIfInBounds off a).setIfInBounds off b = vs.setIfInBounds off b := by
  apply Array.ext_getElem?
  intro i
  simp only [Array.getElem?_setIfInBounds, Array.size_setIfInBounds]
  split <;> rfl
theorem SetI.more {W0 : World} {sb off : Nat} {vs : Array Value} {v0 : Value} {ws0 : List Nat} {q : Nat} (h : SetI N W0 W sb off vs v0 ws0 q v ws) (hq : ws.length ≤ q) (hk : q < 100000) (ty : TypeId) :
    ∃ g cap Y, (Builtin.append_ #[76, 76] ty #[v, .slice (some ⟨W.heap.size, 0, none⟩) 1 1]).run Tryd.prog (W.alloc (.cells #[.int .u64 0] 22)) = .ok (.slice (some ⟨g, 0, none⟩) (ws.length + 1) cap) Y ∧ Bk Y sb 78 (vs.setIfInBounds off v) ∧
      SetI N W0 (Y.setCell ⟨sb, off, none⟩ (.slice (some ⟨g, 0, none⟩) (ws.length + 1) cap)) sb off vs v0 ws0 q (.slice (some ⟨g, 0, none⟩) (ws.length + 1) cap) (ws ++ [0]) := by
  have b2 := below_alloc W (.cells #[.int .u64 0] 22)
  have n2 := World.alloc_heap_new W (.cells #[.int .u64 0] 22)
  have w2 := h.wr.below b2
  have sl := h.bk.lt
  obtain ⟨g, cap, Y, r1, r2, r3, r4, r5⟩ := words_more w2.row (by omega) W.heap.size 0 n2 (by rw [World.size_alloc]; have := h.hN; omega) ty
  rw [World.size_alloc] at r4
  have gx : g ≠ sb := by
    rcases r4 with z | z
    · exact fun e => h.n0 (e ▸ z)
    · omega
  have kz := kept_set (F := fun z => z = sb) Y sb off (.slice (some ⟨g, 0, none⟩) (ws.length + 1) cap) rfl
  have bkY := (h.bk.below b2).kept r3 h.n0
  have kk : Kept (fun z => z = sb ∨ v.ownBlock = some z) W (Y.setCell ⟨sb, off, none⟩ (.slice (some ⟨g, 0, none⟩) (ws.length + 1) cap)) :=
    ((Kept.of_below b2).trans (r3.mono (G := fun z => z = sb ∨ v.ownBlock = some z) fun z hz => .inr hz) (fun _ _ f => f)).trans (kz.mono (G := fun z => z = sb ∨ v.ownBlock = some z) fun z hz => .inl hz) (fun _ _ f => f)
  refine ⟨g, cap, Y, r1, bkY, ⟨?_, ⟨?_, h.wr.sm.zero⟩, ?_, ?_, fun z => gx (own_eq z), ?_, ?_, Nat.le_trans h.hN kk.size, h.lt⟩⟩
  · have := bkY.set off (.slice (some ⟨g, 0, none⟩) (ws.length + 1) cap)
    rwa [set_set_at] at this
  · rw [List.length_append, List.length_singleton]
    exact owns_kept r2 kz (fun z hz => by rw [← own_eq hz]; exact gx)
  · funext i; rw [wb_zero, h.eq]
  · rw [List.length_append, List.length_singleton]; omega
  · refine h.ke.trans kk (fun x hx u => ?_)
    rcases u with u | u
    · exact .inl u
    · rcases h.nw x u with y | y
      · exact .inr y
      · omega
  · intro z hz
    rcases r4 with r | r
    · rw [← own_eq hz]; exact h.nw g r
    · exact .inr (by rw [← own_eq hz]; have := h.ke.size; omega)
set_option maxRecDepth 100000 in
theorem set_any {sb off : Nat} {vs : Array Value} (hb : Bk W sb 78 vs) (ho : vs[off]? = some v) (h : Wr N W v ws) (hn : v.ownBlock ≠ some sb) (hN : N ≤ W.heap.size) (hL : ws.length ≤ 100000) (k : Nat) (hk : k < 6400000) :
    Calls Tryd.prog 48 #[.pointer (some ⟨sb, off, none⟩), .int .i64 (k : Nat)] W fun e W' => e = .returned (.tuple #[]) ∧ ∃ v' ws', ws'.length ≤ max ws.length (k / 64 + 1) ∧ wb ws' = upd (wb ws) k true ∧ Wr N W' v' ws' ∧ v'.ownBlock ≠ some sb ∧ Bk W' sb 78 (vs.setIfInBounds off v') ∧ Kept (fun z => z = sb ∨ v.ownBlock = some z) W W' ∧ ∀ z, v'.ownBlock = some z → v.ownBlock = some z ∨ W.heap.size ≤ z := by
  obtain ⟨R, hR⟩ : ∃ R : Ending → World → Prop, R = fun e W' => e = .returned (.tuple #[]) ∧ ∃ v' ws', ws'.length ≤ max ws.length (k / 64 + 1) ∧ wb ws' = upd (wb ws) k true ∧ Wr N W' v' ws' ∧ v'.ownBlock ≠ some sb ∧ Bk W' sb 78 (vs.setIfInBounds off v') ∧ Kept (fun z => z = sb ∨ v.ownBlock = some z) W W' ∧ ∀ z, v'.ownBlock = some z → v.ownBlock = some z ∨ W.heap.size ≤ z := ⟨_, rfl⟩
  rw [← hR]
  have HR := hide hR
  clear hR
  obtain ⟨q, hq⟩ : ∃ q : Nat, k / 64 = q := ⟨_, rfl⟩
  obtain ⟨r, hr⟩ : ∃ r : Nat, k % 64 = r := ⟨_, rfl⟩
  have t1 : (k : Int).tdiv 64 = (q : Int) := by rw [Int.tdiv_eq_ediv_of_nonneg (by omega)]; omega
  have t2 : (k : Int).tmod 64 = (r : Int) := by rw [Int.tmod_eq_emod_of_nonneg (by omega)]; omega
  have t3 : (k : Int) / 64 = (q : Int) := by omega
  have t4 : (k : Int) % 64 = (r : Int) := by omega
  have t5 : IntKind.i64.wrap (q : Int) = (q : Int) := by rw [IntKind.wrap_i64]; omega
  have t6 : IntKind.i64.wrap (r : Int) = (r : Int) := by rw [IntKind.wrap_i64]; omega
  have pl := pow_lt k
  rw [hr] at pl
  have ws1 := shl1 r pl
  have PL := hide pl
  have r64 : r < 64 := by omega
  have q0 : (0 : Int) ≤ (q : Int) := by omega
  have q9 : q < 100000 := by omega
  have hof : off < vs.size := (Array.getElem?_eq_some_iff.1 ho).1
  have S0 := hide (show SetI N W W sb off vs v ws q v ws from ⟨by
    have := set_same ho
    rw [this]; exact hb, h, rfl, by omega, hn, Kept.refl _ _, fun z hz => .inl hz, hN, hb.lt⟩)
  have HQ := hide (And.intro hq hr)
  clear hq hr h hb ho hn hN hk pl
  go_enter Tryd.func48, Tryd.ntmps48
  go_wp2_with fail
  go_loopw [10] (fun _ wr => ∃ v' ws', Hid (SetI N W wr sb off vs v ws q v' ws')) (fun _ wr => q + 1 - lenC (wr.cell? ⟨sb, off, none⟩))
  case atStart => exact ⟨_, _, S0⟩
  case round =>
    clear S0
    obtain ⟨v', ws', HS⟩ := hrel
    have y0 := HS.out.bk.cell off v' (at_set hof _)
    have f0 := HS.out.bk.fz off
    obtain ⟨o, cap0, e0⟩ := row_form HS.out.wr.row
    obtain ⟨m, hm⟩ : ∃ m : Nat, ws'.length = m := ⟨_, rfl⟩
    subst e0
    by_cases c : ws'.length ≤ q
    · have d : decide ((m : Int) ≤ (q : Int)) = true := decide_eq_true (by omega)
      obtain ⟨g, cap, Y, r1, r2, r3⟩ := HS.out.more c q9 76
      have z0 := r2.cell off _ (at_set hof _)
      have z1 := r2.fz off
      rw [hm] at y0 r1 r3 z0 c
      have RUN := hide r1
      have R3 := hide r3
      have z2 := r3.bk.cell off (.slice (some ⟨g, 0, none⟩) (m + 1) cap) (at_set hof _)
      clear r1 r2 r3 HS hm
      go_wp2_with (at_builtin; refine list_app (by rfl) (.tmp 14) (.tmp 15) 76 (by rfl) (by rfl) (by rfl) RUN.out ?_)
      refine ⟨⟨_, _, R3⟩, ?_⟩
      rw [z2, y0]
      simp only [lenC]
      omega
    · have d : decide ((m : Int) ≤ (q : Int)) = false := decide_eq_false (by omega)
      have hx : ws'[k / 64]? = some (ws'[k / 64]'(by rw [HQ.out.1]; omega)) := List.getElem?_eq_getElem _
      generalize ws'[k / 64]'(by rw [HQ.out.1]; omega) = x at hx
      have sx := HS.out.wr.sm.at hx
      have bd := drew_below wr
      have w1 := HS.out.wr.below bd
      obtain ⟨g, cap', e', x1, x2⟩ := w1.cellAt hx
      obtain ⟨rfl, rfl⟩ : o = some ⟨g, 0, none⟩ ∧ cap0 = cap' := by simp at e'; exact e'
      have wa : bits .or .u64 (x : Int) ((2 : Int) ^ r) = ((x ||| 2 ^ r : Nat) : Int) := by rw [show ((2 : Int) ^ r) = ((2 ^ r : Nat) : Int) by simp]; exact w_or x (2 ^ r) sx PL.out
      have sl := Bt.or_lt sx PL.out
      have kz := kept_set (F := fun z => z = g) wr.drew g q (.int .u64 ((x ||| 2 ^ r : Nat) : Int)) rfl
      have gx : g ≠ sb := fun e => HS.out.n0 (by rw [e]; rfl)
      have FIN := hide (show R (.returned (.tuple #[])) (wr.drew.setCell ⟨g, q, none⟩ (.int .u64 ((x ||| 2 ^ r : Nat) : Int))) from by
        rw [HR.out]
        refine ⟨rfl, _, ws'.set q (x ||| 2 ^ r), ?_, ?_, w1.put q sl, HS.out.n0, (HS.out.bk.below bd).kept kz (fun e => gx e.symm), (HS.out.ke.trans (Kept.of_below bd) (fun _ _ f => f)).trans kz (fun z hz e => ?_), HS.out.nw⟩
        · rw [List.length_set, HQ.out.1]; exact HS.out.le
        · rw [← HS.out.eq, ← wb_on hx, HQ.out.1, HQ.out.2]
        · rcases HS.out.nw g rfl with y | y
          · exact .inr (e ▸ y)
          · omega)
      have y1 := (HS.out.bk.below bd).cell off _ (at_set hof _)
      rw [HQ.out.1] at x1 x2
      rw [hm] at y0 y1 c
      have q1 : (q : Int) < (m : Int) := by omega
      have q2 : q < m := by omega
      clear hx sx e' hm HS w1 bd kz
      go_wp2_with fail
      refine still_tail 12 (by kernel_rfl) (by kernel_rfl) ?_
      simp only [List.take_succ_cons, List.take_zero, List.drop_succ_cons, List.drop_zero]
      repeat still_step
      refine wpStill_nil ?_
      go_wp2_with fail
      exact bodyPost_ret (results_none rfl _ _ _) rfl FIN.out
end
end Go.Proofs.YtblfefibgoiaaaaDoor
