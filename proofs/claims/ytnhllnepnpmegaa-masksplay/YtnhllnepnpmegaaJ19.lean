/- J19 of the proof of both laws: texts Ma, Ru, Sz, one behind the other. -/
import Derived.Test.YtnhllnepnpmegaaJ18
import Derived.Laws.AppendOwnNone
import Derived.Deep.RegionLaw
import Derived.SizedLaws
/- The law's own mask: rows of truths in making, as things. -/
namespace Go.Proofs.Ytnhllnepnpmegaa
open Go.ChangeShapes Go.WideShapes Go.ChangeAt Go.RowKit Go.Shelf Go.Proofs.Rx Go.Maps Go.Proofs.Bt
set_option linter.unusedVariables false
set_option linter.unusedSimpArgs false

/-- A row of truths in making. -/
def tRw (v : Value) (k : Nat) (t : List Bool) : Thing := ⟨fun W F => W.ownsRow 0 4 1 v k (t.map encB) ∧ ∀ z, F z ↔ v.ownBlock = some z,
  fun ⟨h, hF⟩ k n => ⟨owns_kept h k (fun g hg => n g ((hF g).2 hg)), hF⟩, fun ⟨h, hF⟩ z hz => own_lt h ((hF z).1 hz)⟩
/-- A block whose first cells are truths, whatever they are. -/
def tAn (U L : Nat) : Thing := ⟨fun W F => (∃ xs, Bk W U 4 xs ∧ ∀ k, k < L → ∃ y, xs[k]? = some (.bool y)) ∧ ∀ z, F z ↔ z = U,
  fun ⟨⟨xs, h, e⟩, hF⟩ k n => ⟨⟨xs, h.kept k (n U ((hF U).2 rfl)), e⟩, hF⟩, fun ⟨⟨xs, h, e⟩, hF⟩ z hz => by rw [(hF z).1 hz]; exact h.lt⟩
section
variable {N : Nat} {w W W' : World} {l : List Thing}
theorem Sep.fill (h : Sep N w W l) (i : Nat) (hi : i < l.length) (e : l[i] = Thing.none) (o : Obj) (t : Thing) (ht : t.P (W.alloc o) (fun z => z = W.heap.size)) : Sep N w (W.alloc o) (l.set i t) :=
  h.turn i hi t fun F hF => by
    rw [e] at hF
    exact ⟨_, ht, Kept.of_below (below_alloc W o), fun z hz => .inr (by rw [hz]; exact Nat.le_refl _)⟩
theorem Sep.row0 (h : Sep N w W l) (i : Nat) (hi : i < l.length) (e : l[i] = Thing.none) : Sep N w (W.alloc (.cells #[] 4)) (l.set i (tRw (.slice (some ⟨W.heap.size, 0, none⟩) 0 0) 0 [])) := by
  refine h.fill i hi e _ _ ⟨?_, fun z => ⟨fun u => by rw [u]; rfl, fun u => by injection u with u; exact u.symm⟩⟩
  have o := own_empty W 4 1
  refine ⟨rfl, .inr ?_⟩
  rcases o.2 with ⟨a, b⟩ | ⟨g, cap, cur, a, b, c⟩
  · cases a
  · exact ⟨g, cap, cur, a, Nat.zero_le _, c⟩
theorem Sep.blk (h : Sep N w W l) (i : Nat) (hi : i < l.length) (e : l[i] = Thing.none) (t : TypeId) (vs : Array Value) : Sep N w (W.alloc (.cells vs t)) (l.set i (tBk W.heap.size t vs)) :=
  h.fill i hi e _ _ ⟨World.alloc_heap_new W _, fun z => Iff.rfl⟩
theorem Sep.bk (h : Sep N w W l) (i : Nat) (hi : i < l.length) {b : Nat} {t : TypeId} {vs : Array Value} (e : l[i] = tBk b t vs) : Bk W b t vs := by
  obtain ⟨F, hF⟩ := h.have i hi
  rw [e] at hF
  exact hF.1
theorem Sep.rw (h : Sep N w W l) (i : Nat) (hi : i < l.length) {v : Value} {k : Nat} {t : List Bool} (e : l[i] = tRw v k t) : W.ownsRow 0 4 1 v k (t.map encB) := by
  obtain ⟨F, hF⟩ := h.have i hi
  rw [e] at hF
  exact hF.1
theorem Sep.app (h : Sep N w W l) (i : Nat) (hi : i < l.length) {v : Value} (e : l[i] = tRw v 0 []) {o : Option Addr} {len cap : Nat} {X : Nat → Bool} (hX : BoolsAt W o len cap X) (hl : len ≤ 100000) (ty : TypeId) :
    ∃ v' W', (Builtin.append_ #[32, 32] ty #[v, .slice o len cap]).run Try.prog W = .ok v' W' ∧ Sep N w W' (l.set i (tRw v' len ((List.range len).map X))) := by
  obtain ⟨i0, hi0, hz0, hz1, hz2⟩ := info_parts infoB
  have own := h.rw i hi e
  cases o with
  | none =>
    obtain ⟨rfl, rfl⟩ := hX.nil rfl
    exact ⟨v, W, run_append_owned_none (P := Try.prog) (w := W) 0 32 ty 4 i0 1 Try.underlying32 hi0 v 0 _ own, h.as i hi _ (fun F hF => by rw [e] at hF; exact hF)⟩
  | some ad =>
    obtain ⟨v', W', r1, o1, g1, -, h5⟩ := run_append_own_at (P := Try.prog) (w := W) 0 32 ty 4 i0 _ 1 1 Try.underlying32 hi0 hz0 hz1 hz2 rfl (by decide) v 0 _ own ad len cap ((List.range len).map fun k => .bool (X k)) (by simp) (fun j u hu => by
      rw [List.getElem?_map] at hu
      have hj : j < len := by
        rcases Nat.lt_or_ge j len with c | c
        · exact c
        · rw [List.getElem?_eq_none (by simpa using c)] at hu; cases hu
      rw [List.getElem?_range hj] at hu
      have hu : Value.bool (X j) = u := by simpa using hu
      rw [← hu]
      exact hX.cells ad rfl j hj) (fun u hu => by
      obtain ⟨k, _, rfl⟩ := List.mem_map.1 hu; rfl) (by unfold maxLen; omega) (by omega) (Nat.zero_le _)
    refine ⟨v', W', r1, h.turn i hi _ fun F hF => ?_⟩
    rw [e] at hF
    refine ⟨fun z => v'.ownBlock = some z, ⟨?_, fun z => Iff.rfl⟩, ?_, fun z hz => ?_⟩
    · rw [Nat.zero_add] at o1
      rw [List.map_map]
      exact o1
    · exact Kept.of_grown g1 (fun z u => (hF.2 z).2 u)
    · rcases h5 with u | u
      · exact .inl ((hF.2 z).2 (u ▸ hz))
      · rw [hz] at u; injection u with u; exact .inr (by omega)
theorem Sep.app1 (h : Sep N w W l) (i j : Nat) (hi : i < l.length) (hj : j < l.length) {v : Value} {k b : Nat} {t : List Bool} {q : Bool} (e : l[i] = tRw v k t) (ej : l[j] = tBk b 4 #[.bool q]) (hk : k < 200000) (ty : TypeId) :
    ∃ g cap W', (Builtin.append_ #[32, 32] ty #[v, .slice (some ⟨b, 0, none⟩) 1 1]).run Try.prog W = .ok (.slice (some ⟨g, 0, none⟩) (k + 1) cap) W' ∧ Sep N w W' (l.set i (tRw (.slice (some ⟨g, 0, none⟩) (k + 1) cap) (k + 1) (t ++ [q]))) := by
  obtain ⟨g, cap, Y, r1, o1, kp, hat, hlt⟩ := bools_more (h.rw i hi e) hk b q (h.bk j hj ej) (Nat.zero_le _) ty
  refine ⟨g, cap, Y, r1, h.turn i hi _ fun F hF => ?_⟩
  rw [e] at hF
  refine ⟨fun z => z = g, ⟨o1, fun z => ⟨fun u => by rw [u]; rfl, fun u => by injection u with u; exact u.symm⟩⟩, ?_, fun z hz => ?_⟩
  · exact ⟨kp.os, kp.tape, kp.output, kp.size, fun b hb nb => kp.block b hb (fun u => nb ((hF.2 b).2 u))⟩
  · rcases hat with u | u
    · exact .inl ((hF.2 z).2 (by rw [u, hz]))
    · exact .inr (by rw [hz]; exact u)
/-- A cell of a block is turned. -/
theorem Sep.put (h : Sep N w W l) (i : Nat) (hi : i < l.length) {b : Nat} {t : TypeId} {vs : Array Value} (e : l[i] = tBk b t vs) (k : Nat) (v : Value) : Sep N w (W.setCell ⟨b, k, none⟩ v) (l.set i (tBk b t (vs.setIfInBounds k v))) :=
  h.turn i hi _ fun F hF => by
    rw [e] at hF
    exact ⟨F, ⟨hF.1.set k v, hF.2⟩, kept_set W b k v ((hF.2 b).2 rfl), fun _ u => .inl u⟩
theorem Sep.anyRow (h : Sep N w W l) (i : Nat) (hi : i < l.length) {g k cap : Nat} {t : List Bool} (e : l[i] = tRw (.slice (some ⟨g, 0, none⟩) k cap) k t) (L : Nat) (hL : L ≤ k) : Sep N w W (l.set i (tAn g L)) :=
  h.as i hi _ fun F hF => by
    rw [e] at hF
    obtain ⟨ho, hF⟩ := hF
    refine ⟨?_, fun z => (hF z).trans ⟨fun u => by injection u with u; exact u.symm, fun u => by rw [u]; rfl⟩⟩
    rcases ho.2 with ⟨a, b⟩ | ⟨g', cap', cur, a, _, c, d1, d2, d3, d4⟩
    · cases a
    · obtain rfl : g = g' := by injection a with a; injection a with a; injection a
      refine ⟨cur, c, fun j hj => ?_⟩
      have lt : t.length = k := by have := ho.1; simpa using this
      refine ⟨t[j]'(by omega), ?_⟩
      have e1 : (cur.toList.take (k * 1))[j]? = (t.map encB)[j]? := by rw [d4]
      rw [List.getElem?_take, if_pos (by omega), Array.getElem?_toList, List.getElem?_map, List.getElem?_eq_getElem (by omega)] at e1
      exact e1
theorem Sep.anyVec (h : Sep N w W l) (i : Nat) (hi : i < l.length) {U L : Nat} {f : Nat → Bool} (e : l[i] = tVb U L f) : Sep N w W (l.set i (tAn U L)) :=
  h.as i hi _ fun F hF => by
    rw [e] at hF
    obtain ⟨⟨vs, bk, s, c⟩, hF⟩ := hF
    exact ⟨⟨vs, bk, fun k hk => ⟨f k, c k hk⟩⟩, hF⟩
theorem Sep.flip (h : Sep N w W l) (i : Nat) (hi : i < l.length) {U L : Nat} (e : l[i] = tAn U L) (k : Nat) (hk : k < L) :
    ∃ y, W.cell? ⟨U, k, none⟩ = some (.bool y) ∧ W.frozen? ⟨U, k, none⟩ = false ∧ ∀ y', Sep N w (W.setCell ⟨U, k, none⟩ (.bool y')) l := by
  obtain ⟨F, hF⟩ := h.have i hi
  rw [e] at hF
  obtain ⟨⟨xs, bk, c⟩, hF⟩ := hF
  obtain ⟨y, hy⟩ := c k hk
  refine ⟨y, bk.cell k _ hy, bk.fz k, fun y' => ?_⟩
  have T := h.turn i hi (tAn U L) (W' := W.setCell ⟨U, k, none⟩ (.bool y')) fun F hF => by
    rw [e] at hF
    obtain ⟨⟨xs, bk, c⟩, hF⟩ := hF
    refine ⟨F, ⟨⟨_, bk.set k (.bool y'), fun j hj => ?_⟩, hF⟩, kept_set W U k _ ((hF U).2 rfl), fun _ u => .inl u⟩
    obtain ⟨z, hz⟩ := c j hj
    by_cases ee : j = k
    · subst ee
      have hs : j < xs.size := (Array.getElem?_eq_some_iff.1 hz).1
      exact ⟨y', by rw [Array.getElem?_setIfInBounds_self_of_lt hs]⟩
    · exact ⟨z, by rw [Array.getElem?_setIfInBounds_ne (fun u => ee u.symm)]; exact hz⟩
  rw [← e, List.set_getElem_self] at T
  exact T
theorem Sep.nones (h : Sep N w W l) (n : Nat) : Sep N w W (l ++ List.replicate n Thing.none) := by
  induction n with
  | zero => simpa using h
  | succ n ih =>
    rw [List.replicate_succ', ← List.append_assoc]
    exact ih.more (Below.refl _ _) Thing.none (F' := fun _ => False) (fun _ u => u) (fun _ u => u.elim)
end
/-- What the row says at the end. -/
def endX (len : Nat) (X : Nat → Bool) (k : Nat) : Bool := if k < len then X k else true
theorem row_end {W : World} {g len cap : Nat} {X : Nat → Bool} (h : W.ownsRow 0 4 1 (.slice (some ⟨g, 0, none⟩) (len + 1) cap) (len + 1) (((List.range len).map X ++ [true]).map encB)) : BoolsAt W (some ⟨g, 0, none⟩) len cap X ∧ W.cell? ⟨g, len, none⟩ = some (.bool true) ∧ len < cap := by
  have b := row_bl (f := endX len X) h (by
    rw [List.range_succ, List.map_append]
    congr 1
    · refine List.map_congr_left fun k hk => ?_
      unfold endX; rw [if_pos (List.mem_range.1 hk)]
    · simp [endX])
  have cl : ∀ i, i < len + 1 → W.cell? ⟨g, i, none⟩ = some (.bool (endX len X i)) := fun i hi => by
    have := b.cells _ rfl i hi
    rw [addr_add0, Nat.zero_add] at this
    exact this
  refine ⟨⟨fun z => (by cases z), fun ad e i hi => ?_⟩, ?_, ?_⟩
  · obtain rfl : (⟨g, 0, none⟩ : Addr) = ad := by injection e
    rw [addr_add0, Nat.zero_add, cl i (by omega)]
    unfold endX; rw [if_pos hi]
  · rw [cl len (by omega)]; unfold endX; rw [if_neg (by omega)]
  · rcases h.2 with ⟨a, _⟩ | ⟨g', cap', cur, a, _, c, d1, _⟩
    · cases a
    · obtain rfl : cap = cap' := by injection a
      exact d1
end Go.Proofs.Ytnhllnepnpmegaa

/- The reference's Write: contract. -/
namespace Go.Proofs.Ytnhllnepnpmegaa
open Go.ChangeShapes Go.WideShapes Go.ChangeAt Go.RowKit Go.Shelf Go.Proofs.Rx Go.Maps Go.Proofs.Bt
set_option linter.unusedVariables false
set_option linter.unusedSimpArgs false

attribute [local go_sem] Oper.semAt_some

theorem set_far {w : World} {b k x : Nat} {u : Value} (h : x ≠ b) : (w.setCell ⟨b, k, none⟩ u).heap[x]? = w.heap[x]? := Below.heap_setCell _ _ _ _ h
theorem wg_write {a b n len g cap : Nat} {wd : Int} {X : Nat → Bool} {f : Nat → Bool} (e : writeE a b wd len n = 0) : (⟨a, b, len, n, X, g, cap⟩ : Wg).f f = writeF f a b wd len n X := by
  unfold Wg.f writeF
  rw [if_pos e]
set_option maxRecDepth 100000 in
set_option maxHeartbeats 2000000 in
theorem rwrite_any {W : World} {r k : Nat} {f : Nat → Bool} {F : Nat → Prop} (h : (tRg r f k).P W F) (hk : k < 1000000) (a b n : Nat) (ha : a < 18446744073709551616) (hb : b < 18446744073709551616) (hn : n < 18446744073709551616) (wd : Int) (h0 : -9223372036854775808 ≤ wd) (h9 : wd ≤ 9223372036854775807) {o : Option Addr} {len cap : Nat} {X : Nat → Bool} (hl : len ≤ 9223372036854775807) (hX : BoolsAt W o len cap X) :
    Calls Try.prog 16 #[.pointer (some ⟨r, 0, none⟩), .int .u64 (a : Nat), .int .u64 (b : Nat), .agg #[.int .i64 wd, .slice o len cap], .int .u64 (n : Nat)] W fun e W' => e = .returned (.int .i64 (writeE a b wd len n)) ∧ ∃ k', k' ≤ k + 1 ∧ RTurn r (writeF f a b wd len n X) k' W W' F := by
  obtain ⟨R, hR⟩ : ∃ R : Ending → World → Prop, R = fun e W' => e = .returned (.int .i64 (writeE a b wd len n)) ∧ ∃ k', k' ≤ k + 1 ∧ RTurn r (writeF f a b wd len n X) k' W W' F := ⟨_, rfl⟩
  rw [← hR]
  obtain ⟨WA, hWA⟩ : ∃ WA, W.alloc (.cells #[.int .i64 wd, .slice o len cap] 34) = WA := ⟨_, rfl⟩
  have kb : Bk WA W.heap.size 34 #[.int .i64 wd, .slice o len cap] := by rw [← hWA]; exact World.alloc_heap_new W _
  have bA : Below W.heap.size W WA := by rw [← hWA]; exact below_alloc W _
  have BAD := hide (show writeE a b wd len n ≠ 0 → R (.returned (.int .i64 (writeE a b wd len n))) WA from fun hne => by rw [hR]; unfold writeF; rw [if_neg hne]; exact ⟨rfl, k, by omega, RTurn.same h bA⟩)
  have CR := hide (refRight_any a b ha hb WA)
  have HWA := hide hWA
  have a0 := kb.cell 0 _ rfl
  have a1 := kb.cell 1 _ rfl
  obtain ⟨N, hN⟩ : ∃ N : Int, (n : Int) = N := ⟨_, rfl⟩
  have n0 : 0 ≤ N := by omega
  have n1 : N < 18446744073709551616 := by omega
  obtain ⟨A, hA⟩ : ∃ X : Int, (a : Int) = X := ⟨_, rfl⟩
  obtain ⟨B, hB⟩ : ∃ X : Int, (b : Int) = X := ⟨_, rfl⟩
  obtain ⟨LN, hLN⟩ : ∃ L : Int, (len : Int) = L := ⟨_, rfl⟩
  have a2 : 0 ≤ A := by omega
  have a3 : A < 18446744073709551616 := by omega
  have b2 : 0 ≤ B := by omega
  have b3 : B < 18446744073709551616 := by omega
  have l0 : 0 ≤ LN := by omega
  have l9 : LN ≤ 9223372036854775807 := by omega
  rw [hA, hB] at CR
  rw [hA, hB, hN]
  by_cases cr : Right a b
  · rw [decide_eq_true cr] at CR
    by_cases c1 : wd < 1
    · have d1 : decide (wd < 1) = true := decide_eq_true c1
      have ew : writeE a b wd len n = 1 := by unfold writeE; rw [if_neg (fun h => by have := h.2.1; omega)]
      have FF := hide (BAD.out (by rw [ew]; decide))
      rw [ew] at FF
      clear hN hR h hX BAD ew hWA kb bA cr ha hb hn hA hB c1
      go_enter Try.func16, Try.ntmps16
      go_upto_region 1 with fail
      rw [HWA.out]
      go_wp2_with fail
      refine CR.out.mono ?_
      rintro e w' ⟨rfl, hw'⟩; rw [hw']; clear hw' w' CR
      go_wp2_with fail
      first | exact FF.out | (go_ret; exact FF.out)
    have d1 : decide (wd < 1) = false := decide_eq_false c1
    by_cases c2 : 65536 < wd
    · have d2 : decide (65536 < wd) = true := decide_eq_true c2
      have ew : writeE a b wd len n = 1 := by unfold writeE; rw [if_neg (fun h => by have := h.2.2.1; omega)]
      have FF := hide (BAD.out (by rw [ew]; decide))
      rw [ew] at FF
      clear hN hR h hX BAD ew hWA kb bA cr ha hb hn hA hB c1 c2
      go_enter Try.func16, Try.ntmps16
      go_upto_region 1 with fail
      rw [HWA.out]
      go_wp2_with fail
      refine CR.out.mono ?_
      rintro e w' ⟨rfl, hw'⟩; rw [hw']; clear hw' w' CR
      go_wp2_with fail
      first | exact FF.out | (go_ret; exact FF.out)
    have d2 : decide (65536 < wd) = false := decide_eq_false c2
    by_cases c3 : LN ≠ wd
    · have d3 : (LN != wd) = true := by simpa using c3
      have ew : writeE a b wd len n = 1 := by unfold writeE; rw [if_neg (fun h => by have := h.2.2.2; omega)]
      have FF := hide (BAD.out (by rw [ew]; decide))
      rw [ew] at FF
      clear hN hR h hX BAD ew hWA kb bA cr ha hb hn hA hB c1 c2 c3
      go_enter Try.func16, Try.ntmps16
      go_upto_region 1 with fail
      rw [HWA.out]
      go_wp2_with fail
      refine CR.out.mono ?_
      rintro e w' ⟨rfl, hw'⟩; rw [hw']; clear hw' w' CR
      go_wp2_with fail
      first | exact FF.out | (go_ret; exact FF.out)
    have c3' : LN = wd := by omega
    clear c3
    subst c3'
    have d3 : (LN != LN) = false := by simp
    have t3 : (len : Int) = LN := hLN
    have ct : RightT LN len := ⟨by omega, by omega, t3⟩
    obtain ⟨r1, r2, r3, r4, r5⟩ := id cr
    have ew : writeE a b LN len n = if b / 8 / len < n then 2 else 0 := by unfold writeE; rw [if_pos ⟨cr, ct⟩]
    have dq : B / 8 / LN = ((b / 8 / len : Nat) : Int) := by
      rw [← t3, ← hB, Int.natCast_ediv, Int.natCast_ediv]; rfl
    have b4 : B ≤ 1099511627776 := by omega
    have tb : B.tdiv 8 = B / 8 := Int.tdiv_eq_ediv_of_nonneg b2
    have wb : IntKind.u64.wrap (B / 8) = B / 8 := by rw [IntKind.wrap_u64]; omega
    have d0 : (LN == 0) = false := by rw [beq_eq_false_iff_ne]; omega
    have dz : (LN = 0) = False := by simp; omega
    have q0 : 0 ≤ B / 8 / LN := by rw [dq]; exact Int.natCast_nonneg _
    have q1 : B / 8 / LN ≤ 1099511627776 := by
      have := Int.ediv_le_self (a := B / 8) LN (by omega)
      omega
    have td : (B / 8).tdiv LN = B / 8 / LN := Int.tdiv_eq_ediv_of_nonneg (by omega)
    have wq : IntKind.u64.wrap (B / 8 / LN) = B / 8 / LN := by rw [IntKind.wrap_u64]; omega
    have ww : IntKind.u64.wrap LN = LN := by rw [IntKind.wrap_u64]; omega
    by_cases cn : b / 8 / len < n
    · have d4 : decide (B / 8 / LN < N) = true := by rw [decide_eq_true_iff, dq]; omega
      rw [if_pos cn] at ew
      have FF := hide (BAD.out (by rw [ew]; decide))
      rw [ew] at FF
      clear hN hR h hX BAD dq cn ew hWA kb bA r1 r2 r3 r4 r5 cr ct t3 ha hb hn hA hB c1 c2
      go_enter Try.func16, Try.ntmps16
      go_upto_region 1 with fail
      rw [HWA.out]
      go_wp2_with fail
      refine CR.out.mono ?_
      rintro e w' ⟨rfl, hw'⟩; rw [hw']; clear hw' w' CR
      go_wp2_with fail
      first | exact FF.out | (go_ret; exact FF.out)
    have d4 : decide (B / 8 / LN < N) = false := by rw [decide_eq_false_iff_not, dq]; omega
    rw [if_neg cn] at ew
    have hln : 1 ≤ len ∧ len ≤ 65536 := by omega
    obtain ⟨v, L, hr, hf, hk2, hF⟩ := h
    have bD : Below W.heap.size W WA.drew := bA.trans ((drew_below WA).mono bA.size)
    obtain ⟨g3, cap3, W3, r3', ow3, bl3, hg3, hg3'⟩ := copy_bools (hX.below bD) hln.1 (by omega)
    obtain ⟨x, hx⟩ : ∃ x : Wg, x = ⟨a, b, len, n, X, g3, cap3⟩ := ⟨_, rfl⟩
    obtain ⟨W4, hW4⟩ : ∃ W4, W4 = W3.alloc (.cells x.arr 67) := ⟨_, rfl⟩
    have bb3 : Below W.heap.size W W3 := bD.trans (bl3.mono bD.size)
    have bb4' : Below W3.heap.size W3 W4 := by rw [hW4]; exact below_alloc _ _
    have bb : Below W.heap.size W W4 := bb3.trans (bb4'.mono bb3.size)
    have ox : x.Ok := by rw [hx]; exact ⟨cr, hln.1, hln.2, Nat.le_of_not_lt cn⟩
    have hX4 : BoolsAt W4 (some ⟨x.g, 0, none⟩) x.wd x.cap x.X := by
      rw [hx]
      exact (row_bools ow3).below bb4'
    have rw4 : W4.ownsRow 0 67 5 v L.length (flatW L) := owns_kept hr.row (Kept.of_below (F := fun _ => False) bb) (fun _ _ q => q)
    obtain ⟨g, cap', Y, r6, o6, kp, hat, hlt⟩ := writings_more rw4 (by omega) x W3.heap.size (by rw [hW4]; exact World.alloc_heap_new _ _) 27
    obtain ⟨s1, s2⟩ := hr.sep
    have rl := hr.bk.lt
    have FF := hide (show R (.returned (.int .i64 0)) (Y.setCell ⟨r, 0, none⟩ (.slice (some ⟨g, 0, none⟩) (L.length + 1) cap')) from by
      rw [hR, ew]
      refine ⟨rfl, k + 1, Nat.le_refl _, ?_⟩
      have T := hr.more (x := x) (F := F) hf hk2 hF bb hX4 ox (by rw [hx]; exact Nat.le_trans bD.size hg3) o6 kp hat s1 (by
        rcases hat with e | e
        · intro z; rw [z] at e; exact s1 e
        · have := bb.size; omega) s2 (fun z hz => (hr.row.lt z hz).2)
      rw [hx, wg_write ew] at T
      exact T)
    have y1 : Y.cell? ⟨r, 0, none⟩ = some v := ((hr.bk.below bb).kept kp s1).cell 0 _ rfl
    have y2 := ((hr.bk.below bb).kept kp s1).fz 0
    have x0 : WA.cell? ⟨r, 0, none⟩ = some v := (hr.bk.below bA).cell 0 _ rfl
    have abn : v.ownBlock ≠ some W.heap.size := fun e => by have := (hr.row.lt _ e).2; omega
    have rab : W.heap.size ≠ r := by omega
    have kb3 : Bk W3 W.heap.size 34 #[.int .i64 LN, .slice o len cap] := by
      have hs : W.heap.size < WA.heap.size := kb.lt
      exact (kb.below (drew_below WA)).below bl3
    have kb4 := kb3.below bb4'
    have kbY := kb4.kept kp abn
    have t0 := kb3.cell 0 _ rfl
    have t1 := kb3.cell 1 _ rfl
    have u0 := kbY.cell 0 _ rfl
    have u1 := kbY.cell 1 _ rfl
    have x3 : W3.cell? ⟨r, 0, none⟩ = some v := (hr.bk.below bb3).cell 0 _ rfl
    have xB : ((WA.alloc (.cells #[] 4)).drew).cell? ⟨r, 0, none⟩ = some v := (hr.bk.below (bA.trans ((below_alloc WA (.cells #[] 4)).mono bA.size))).cell 0 _ rfl
    have tB0 : ((WA.alloc (.cells #[] 4)).drew).cell? ⟨W.heap.size, 0, none⟩ = some (.int .i64 LN) := (kb.below (below_alloc WA (.cells #[] 4))).cell 0 _ rfl
    have tB1 : ((WA.alloc (.cells #[] 4)).drew).cell? ⟨W.heap.size, 1, none⟩ = some (.slice o len cap) := (kb.below (below_alloc WA (.cells #[] 4))).cell 1 _ rfl
    have x4 : (W3.alloc (.cells #[.int .u64 A, .int .u64 B, .int .i64 LN, .slice (some ⟨g3, 0, none⟩) len cap3, .int .u64 N] 67)).cell? ⟨r, 0, none⟩ = some v := by
      have e : W4.cell? ⟨r, 0, none⟩ = some v := (hr.bk.below bb).cell 0 _ rfl
      rw [hW4, hx] at e
      unfold Wg.arr at e
      dsimp only at e
      rw [hA, hB, t3, hN] at e
      exact e
    have t40 := kb4.cell 0 _ rfl
    have t41 := kb4.cell 1 _ rfl
    have R3 := hide (show (Builtin.append_ #[32, 32] 32 #[.slice (some ⟨WA.heap.size, 0, none⟩) 0 0, .slice o len cap]).run Try.prog (WA.alloc (.cells #[] 4)).drew = .ok (.slice (some ⟨g3, 0, none⟩) len cap3) W3 from r3')
    have R6 := hide r6
    rw [hW4, hx] at R6 t40 t41
    unfold Wg.arr at R6 t40 t41
    dsimp only at R6 t40 t41
    rw [hA, hB, t3, hN] at R6 t40 t41
    obtain ⟨ab, hab⟩ : ∃ ab, W.heap.size = ab := ⟨_, rfl⟩
    have HAB := hide hab
    rw [hab] at a0 a1 t0 t1 u0 u1 rab tB0 tB1 t40 t41
    clear hN hR hX BAD dq cn ew hWA kb bA r1 r2 r3 r4 r5 cr ct t3 ha hb hn hA hB c1 c2 hr hf hk2 hF bD r3' ow3 bl3 hg3 hg3' hx hW4 bb3 bb4' bb ox hX4 rw4 r6 o6 kp hat hlt s1 s2 rl abn kb3 kb4 kbY hab hln
    go_enter Try.func16, Try.ntmps16
    go_upto_region 1 with fail
    rw [HWA.out, HAB.out]
    go_wp2_with fail
    refine CR.out.mono ?_
    rintro e w' ⟨rfl, hw'⟩; rw [hw']; clear hw' w' CR
    go_wp2_with fail
    refine wp_region_held_drew (S := fun w' => w'.cell? ⟨ab, 0, none⟩ = some (.int .i64 LN) ∧ w'.cell? ⟨ab, 1, none⟩ = some (.slice o len cap)) (by kernel_rfl) ⟨a0, a1⟩ (fun hHeld => ?_)
    refine wpAnyH_take (i := 0) (oi := _) (v := ?_) rfl (by kernel_rfl) (by kernel_rfl) (by kernel_rfl) (fun _ _ _ h => h) (Or.inl ⟨by rfl, ?_⟩) (by assumption) ?_
    rotate_left
    · (intro w hSw; (try dsimp only at hSw); go_simp; try with_reducible rfl)
    try simp only [Act.put, List.setIfInBounds_toArray, List.set_cons_zero, List.set_cons_succ]
    refine wpAnyH_take (i := 1) (oi := _) (v := ?_) rfl (by kernel_rfl) (by kernel_rfl) (by kernel_rfl) (fun _ _ _ h => h) (Or.inl ⟨by rfl, ?_⟩) (by assumption) ?_
    rotate_left
    · (intro w hSw; (try dsimp only at hSw); go_simp; try with_reducible rfl)
    try simp only [Act.put, List.setIfInBounds_toArray, List.set_cons_zero, List.set_cons_succ]
    refine wpAnyH_take (i := 2) (oi := _) (v := ?_) rfl (by kernel_rfl) (by kernel_rfl) (by kernel_rfl) (fun _ _ _ h => h) (Or.inl ⟨by rfl, ?_⟩) (by assumption) ?_
    rotate_left
    · (intro w hSw; (try dsimp only at hSw); go_simp; try with_reducible rfl)
    try simp only [Act.put, List.setIfInBounds_toArray, List.set_cons_zero, List.set_cons_succ]
    refine wpAnyH_take (i := 3) (oi := _) (v := ?_) rfl (by kernel_rfl) (by kernel_rfl) (by kernel_rfl) (fun _ _ _ h => h) (Or.inl ⟨by rfl, ?_⟩) (by assumption) ?_
    rotate_left
    · (intro w hSw; (try dsimp only at hSw); go_simp; try with_reducible rfl)
    try simp only [Act.put, List.setIfInBounds_toArray, List.set_cons_zero, List.set_cons_succ]
    refine wpAnyH_take (i := 5) (oi := _) (v := ?_) rfl (by kernel_rfl) (by kernel_rfl) (by kernel_rfl) (fun _ _ _ h => h) (Or.inl ⟨by rfl, ?_⟩) (by assumption) ?_
    rotate_left
    · (intro w hSw; (try dsimp only at hSw); go_simp; try with_reducible rfl)
    try simp only [Act.put, List.setIfInBounds_toArray, List.set_cons_zero, List.set_cons_succ]
    refine wpAnyH_take (i := 6) (oi := _) (v := ?_) rfl (by kernel_rfl) (by kernel_rfl) (by kernel_rfl) (fun _ _ _ h => h) (Or.inl ⟨by rfl, ?_⟩) (by assumption) ?_
    rotate_left
    · (intro w hSw; (try dsimp only at hSw); go_simp; try with_reducible rfl)
    try simp only [Act.put, List.setIfInBounds_toArray, List.set_cons_zero, List.set_cons_succ]
    refine wpAnyH_take (i := 7) (oi := _) (v := ?_) rfl (by kernel_rfl) (by kernel_rfl) (by kernel_rfl) (fun _ _ _ h => h) (Or.inl ⟨by rfl, ?_⟩) (by assumption) ?_
    rotate_left
    · (intro w hSw; (try dsimp only at hSw); go_simp; try with_reducible rfl)
    try simp only [Act.put, List.setIfInBounds_toArray, List.set_cons_zero, List.set_cons_succ]
    refine wpAnyH_take (i := 8) (oi := _) (v := ?_) rfl (by kernel_rfl) (by kernel_rfl) (by kernel_rfl) (fun _ _ _ h => h) (Or.inl ⟨by rfl, ?_⟩) (by assumption) ?_
    rotate_left
    · (intro w hSw; (try dsimp only at hSw); go_simp; try with_reducible rfl)
    try simp only [Act.put, List.setIfInBounds_toArray, List.set_cons_zero, List.set_cons_succ]
    refine wpAnyH_take (i := 10) (oi := _) (v := ?_) rfl (by kernel_rfl) (by kernel_rfl) (by kernel_rfl) (fun _ _ _ h => h) (Or.inl ⟨by rfl, ?_⟩) (by assumption) ?_
    rotate_left
    · (intro w hSw; (try dsimp only at hSw); go_simp; try with_reducible rfl)
    try simp only [Act.put, List.setIfInBounds_toArray, List.set_cons_zero, List.set_cons_succ]
    refine wpAnyH_take (i := 11) (oi := _) (v := ?_) rfl (by kernel_rfl) (by kernel_rfl) (by kernel_rfl) (fun _ _ _ h => h) (Or.inl ⟨by rfl, ?_⟩) (by assumption) ?_
    rotate_left
    · (intro w hSw; (try dsimp only at hSw); go_simp; try with_reducible rfl)
    try simp only [Act.put, List.setIfInBounds_toArray, List.set_cons_zero, List.set_cons_succ]
    refine wpAnyH_take (i := 14) (oi := _) (v := ?_) rfl (by kernel_rfl) (by kernel_rfl) (by kernel_rfl) (fun _ _ _ h => h) (Or.inl ⟨by rfl, ?_⟩) (by assumption) ?_
    rotate_left
    · (intro w hSw; (try dsimp only at hSw); go_simp; try with_reducible rfl)
    try simp only [Act.put, List.setIfInBounds_toArray, List.set_cons_zero, List.set_cons_succ]
    refine wpAnyH_ready (rs := [4, 9]) (by kernel_rfl) (by simp) ?_
    refine AllReadyH.cons (o := _) rfl (fun K hK => ?_) (AllReadyH.cons (o := _) rfl (fun K hK => ?_) AllReadyH.nil)
    ·
      go_simp
      refine hK.out _ _ ⟨a0, a1⟩ (fun hHeld => ?_)
      clear hK K
      try simp only [Act.put, List.setIfInBounds_toArray, List.set_cons_zero, List.set_cons_succ]
      refine wpAnyH_ready (rs := [9]) (by kernel_rfl) (by simp) ?_
      refine AllReadyH.cons (o := _) rfl (fun K hK => ?_) AllReadyH.nil
      go_simp
      refine hK.out _ _ ⟨tB0, tB1⟩ (fun hHeld => ?_)
      clear hK K
      try simp only [Act.put, List.setIfInBounds_toArray, List.set_cons_zero, List.set_cons_succ]
      refine wpAnyH_ready (rs := [12]) (by kernel_rfl) (by simp) ?_
      refine AllReadyH.cons (o := _) rfl (fun K hK => ?_) AllReadyH.nil
      refine step_append_run (by rfl) (.tmp 50) (.tmp 52) 32 (by rfl) (by rfl) (by rfl) R3.out ?_
      refine hK.out _ _ ⟨t0, t1⟩ (fun hHeld => ?_)
      clear hK K
      try simp only [Act.put, List.setIfInBounds_toArray, List.set_cons_zero, List.set_cons_succ]
      refine wpAnyH_take (i := 13) (oi := _) (v := ?_) rfl (by kernel_rfl) (by kernel_rfl) (by kernel_rfl) (fun _ _ _ h => h) (Or.inl ⟨by rfl, ?_⟩) (by assumption) ?_
      rotate_left
      · (intro w hSw; (try dsimp only at hSw); go_simp; try with_reducible rfl)
      try simp only [Act.put, List.setIfInBounds_toArray, List.set_cons_zero, List.set_cons_succ]
      refine wpAnyH_take (i := 15) (oi := _) (v := ?_) rfl (by kernel_rfl) (by kernel_rfl) (by kernel_rfl) (fun _ _ _ h => h) (Or.inl ⟨by rfl, ?_⟩) (by assumption) ?_
      rotate_left
      · (intro w hSw; (try dsimp only at hSw); go_simp; try with_reducible rfl)
      try simp only [Act.put, List.setIfInBounds_toArray, List.set_cons_zero, List.set_cons_succ]
      refine wpAnyH_ready (rs := [16]) (by kernel_rfl) (by simp) ?_
      refine AllReadyH.cons (o := _) rfl (fun K hK => ?_) AllReadyH.nil
      go_simp
      refine hK.out _ _ ⟨t40, t41⟩ (fun hHeld => ?_)
      clear hK K
      try simp only [Act.put, List.setIfInBounds_toArray, List.set_cons_zero, List.set_cons_succ]
      refine wpAnyH_ready (rs := [17]) (by kernel_rfl) (by simp) ?_
      refine AllReadyH.cons (o := _) rfl (fun K hK => ?_) AllReadyH.nil
      refine step_append_run (by rfl) (.tmp 45) (.tmp 57) 27 (by rfl) (by rfl) (by rfl) R6.out ?_
      refine hK.out _ _ ⟨u0, u1⟩ (fun hHeld => ?_)
      clear hK K
      try simp only [Act.put, List.setIfInBounds_toArray, List.set_cons_zero, List.set_cons_succ]
      refine wpAnyH_take (i := 18) (oi := _) (v := ?_) rfl (by kernel_rfl) (by kernel_rfl) (by kernel_rfl) (fun _ _ _ h => h) (Or.inl ⟨by rfl, ?_⟩) (by assumption) ?_
      rotate_left
      · (intro w hSw; (try dsimp only at hSw); go_simp; try with_reducible rfl)
      try simp only [Act.put, List.setIfInBounds_toArray, List.set_cons_zero, List.set_cons_succ]
      refine wpAnyH_take (i := 19) (oi := _) (v := ?_) rfl (by kernel_rfl) (by kernel_rfl) (by kernel_rfl) (fun _ _ _ h => h) (Or.inl ⟨by rfl, ?_⟩) (by assumption) ?_
      rotate_left
      · (intro w hSw; (try dsimp only at hSw); go_simp; try with_reducible rfl)
      try simp only [Act.put, List.setIfInBounds_toArray, List.set_cons_zero, List.set_cons_succ]
      refine wpAnyH_ready (rs := [20]) (by kernel_rfl) (by simp) ?_
      refine AllReadyH.cons (o := _) rfl (fun K hK => ?_) AllReadyH.nil
      go_simp
      refine hK.out _ _ ⟨(World.cell?_of_block (set_far rab)).trans u0, (World.cell?_of_block (set_far rab)).trans u1⟩ (fun hHeld => ?_)
      clear hK K
      try simp only [Act.put, List.setIfInBounds_toArray, List.set_cons_zero, List.set_cons_succ]
      refine wpAnyH_done (by kernel_rfl) ?_ _
      all_goals go_wp2_with fail
      all_goals first | exact FF.out | (go_ret; exact FF.out)
    ·
      go_simp
      refine hK.out _ _ ⟨tB0, tB1⟩ (fun hHeld => ?_)
      clear hK K
      try simp only [Act.put, List.setIfInBounds_toArray, List.set_cons_zero, List.set_cons_succ]
      refine wpAnyH_ready (rs := [4, 12]) (by kernel_rfl) (by simp) ?_
      refine AllReadyH.cons (o := _) rfl (fun K hK => ?_) (AllReadyH.cons (o := _) rfl (fun K hK => ?_) AllReadyH.nil)
      ·
        go_simp
        refine hK.out _ _ ⟨tB0, tB1⟩ (fun hHeld => ?_)
        clear hK K
        try simp only [Act.put, List.setIfInBounds_toArray, List.set_cons_zero, List.set_cons_succ]
        refine wpAnyH_ready (rs := [12]) (by kernel_rfl) (by simp) ?_
        refine AllReadyH.cons (o := _) rfl (fun K hK => ?_) AllReadyH.nil
        refine step_append_run (by rfl) (.tmp 50) (.tmp 52) 32 (by rfl) (by rfl) (by rfl) R3.out ?_
        refine hK.out _ _ ⟨t0, t1⟩ (fun hHeld => ?_)
        clear hK K
        try simp only [Act.put, List.setIfInBounds_toArray, List.set_cons_zero, List.set_cons_succ]
        refine wpAnyH_take (i := 13) (oi := _) (v := ?_) rfl (by kernel_rfl) (by kernel_rfl) (by kernel_rfl) (fun _ _ _ h => h) (Or.inl ⟨by rfl, ?_⟩) (by assumption) ?_
        rotate_left
        · (intro w hSw; (try dsimp only at hSw); go_simp; try with_reducible rfl)
        try simp only [Act.put, List.setIfInBounds_toArray, List.set_cons_zero, List.set_cons_succ]
        refine wpAnyH_take (i := 15) (oi := _) (v := ?_) rfl (by kernel_rfl) (by kernel_rfl) (by kernel_rfl) (fun _ _ _ h => h) (Or.inl ⟨by rfl, ?_⟩) (by assumption) ?_
        rotate_left
        · (intro w hSw; (try dsimp only at hSw); go_simp; try with_reducible rfl)
        try simp only [Act.put, List.setIfInBounds_toArray, List.set_cons_zero, List.set_cons_succ]
        refine wpAnyH_ready (rs := [16]) (by kernel_rfl) (by simp) ?_
        refine AllReadyH.cons (o := _) rfl (fun K hK => ?_) AllReadyH.nil
        go_simp
        refine hK.out _ _ ⟨t40, t41⟩ (fun hHeld => ?_)
        clear hK K
        try simp only [Act.put, List.setIfInBounds_toArray, List.set_cons_zero, List.set_cons_succ]
        refine wpAnyH_ready (rs := [17]) (by kernel_rfl) (by simp) ?_
        refine AllReadyH.cons (o := _) rfl (fun K hK => ?_) AllReadyH.nil
        refine step_append_run (by rfl) (.tmp 45) (.tmp 57) 27 (by rfl) (by rfl) (by rfl) R6.out ?_
        refine hK.out _ _ ⟨u0, u1⟩ (fun hHeld => ?_)
        clear hK K
        try simp only [Act.put, List.setIfInBounds_toArray, List.set_cons_zero, List.set_cons_succ]
        refine wpAnyH_take (i := 18) (oi := _) (v := ?_) rfl (by kernel_rfl) (by kernel_rfl) (by kernel_rfl) (fun _ _ _ h => h) (Or.inl ⟨by rfl, ?_⟩) (by assumption) ?_
        rotate_left
        · (intro w hSw; (try dsimp only at hSw); go_simp; try with_reducible rfl)
        try simp only [Act.put, List.setIfInBounds_toArray, List.set_cons_zero, List.set_cons_succ]
        refine wpAnyH_take (i := 19) (oi := _) (v := ?_) rfl (by kernel_rfl) (by kernel_rfl) (by kernel_rfl) (fun _ _ _ h => h) (Or.inl ⟨by rfl, ?_⟩) (by assumption) ?_
        rotate_left
        · (intro w hSw; (try dsimp only at hSw); go_simp; try with_reducible rfl)
        try simp only [Act.put, List.setIfInBounds_toArray, List.set_cons_zero, List.set_cons_succ]
        refine wpAnyH_ready (rs := [20]) (by kernel_rfl) (by simp) ?_
        refine AllReadyH.cons (o := _) rfl (fun K hK => ?_) AllReadyH.nil
        go_simp
        refine hK.out _ _ ⟨(World.cell?_of_block (set_far rab)).trans u0, (World.cell?_of_block (set_far rab)).trans u1⟩ (fun hHeld => ?_)
        clear hK K
        try simp only [Act.put, List.setIfInBounds_toArray, List.set_cons_zero, List.set_cons_succ]
        refine wpAnyH_done (by kernel_rfl) ?_ _
        all_goals go_wp2_with fail
        all_goals first | exact FF.out | (go_ret; exact FF.out)
      ·
        refine step_append_run (by rfl) (.tmp 50) (.tmp 52) 32 (by rfl) (by rfl) (by rfl) R3.out ?_
        refine hK.out _ _ ⟨t0, t1⟩ (fun hHeld => ?_)
        clear hK K
        try simp only [Act.put, List.setIfInBounds_toArray, List.set_cons_zero, List.set_cons_succ]
        refine wpAnyH_take (i := 13) (oi := _) (v := ?_) rfl (by kernel_rfl) (by kernel_rfl) (by kernel_rfl) (fun _ _ _ h => h) (Or.inl ⟨by rfl, ?_⟩) (by assumption) ?_
        rotate_left
        · (intro w hSw; (try dsimp only at hSw); go_simp; try with_reducible rfl)
        try simp only [Act.put, List.setIfInBounds_toArray, List.set_cons_zero, List.set_cons_succ]
        refine wpAnyH_take (i := 15) (oi := _) (v := ?_) rfl (by kernel_rfl) (by kernel_rfl) (by kernel_rfl) (fun _ _ _ h => h) (Or.inl ⟨by rfl, ?_⟩) (by assumption) ?_
        rotate_left
        · (intro w hSw; (try dsimp only at hSw); go_simp; try with_reducible rfl)
        try simp only [Act.put, List.setIfInBounds_toArray, List.set_cons_zero, List.set_cons_succ]
        refine wpAnyH_ready (rs := [4, 16]) (by kernel_rfl) (by simp) ?_
        refine AllReadyH.cons (o := _) rfl (fun K hK => ?_) (AllReadyH.cons (o := _) rfl (fun K hK => ?_) AllReadyH.nil)
        ·
          go_simp
          refine hK.out _ _ ⟨t0, t1⟩ (fun hHeld => ?_)
          clear hK K
          try simp only [Act.put, List.setIfInBounds_toArray, List.set_cons_zero, List.set_cons_succ]
          refine wpAnyH_ready (rs := [16]) (by kernel_rfl) (by simp) ?_
          refine AllReadyH.cons (o := _) rfl (fun K hK => ?_) AllReadyH.nil
          go_simp
          refine hK.out _ _ ⟨t40, t41⟩ (fun hHeld => ?_)
          clear hK K
          try simp only [Act.put, List.setIfInBounds_toArray, List.set_cons_zero, List.set_cons_succ]
          refine wpAnyH_ready (rs := [17]) (by kernel_rfl) (by simp) ?_
          refine AllReadyH.cons (o := _) rfl (fun K hK => ?_) AllReadyH.nil
          refine step_append_run (by rfl) (.tmp 45) (.tmp 57) 27 (by rfl) (by rfl) (by rfl) R6.out ?_
          refine hK.out _ _ ⟨u0, u1⟩ (fun hHeld => ?_)
          clear hK K
          try simp only [Act.put, List.setIfInBounds_toArray, List.set_cons_zero, List.set_cons_succ]
          refine wpAnyH_take (i := 18) (oi := _) (v := ?_) rfl (by kernel_rfl) (by kernel_rfl) (by kernel_rfl) (fun _ _ _ h => h) (Or.inl ⟨by rfl, ?_⟩) (by assumption) ?_
          rotate_left
          · (intro w hSw; (try dsimp only at hSw); go_simp; try with_reducible rfl)
          try simp only [Act.put, List.setIfInBounds_toArray, List.set_cons_zero, List.set_cons_succ]
          refine wpAnyH_take (i := 19) (oi := _) (v := ?_) rfl (by kernel_rfl) (by kernel_rfl) (by kernel_rfl) (fun _ _ _ h => h) (Or.inl ⟨by rfl, ?_⟩) (by assumption) ?_
          rotate_left
          · (intro w hSw; (try dsimp only at hSw); go_simp; try with_reducible rfl)
          try simp only [Act.put, List.setIfInBounds_toArray, List.set_cons_zero, List.set_cons_succ]
          refine wpAnyH_ready (rs := [20]) (by kernel_rfl) (by simp) ?_
          refine AllReadyH.cons (o := _) rfl (fun K hK => ?_) AllReadyH.nil
          go_simp
          refine hK.out _ _ ⟨(World.cell?_of_block (set_far rab)).trans u0, (World.cell?_of_block (set_far rab)).trans u1⟩ (fun hHeld => ?_)
          clear hK K
          try simp only [Act.put, List.setIfInBounds_toArray, List.set_cons_zero, List.set_cons_succ]
          refine wpAnyH_done (by kernel_rfl) ?_ _
          all_goals go_wp2_with fail
          all_goals first | exact FF.out | (go_ret; exact FF.out)
        ·
          go_simp
          refine hK.out _ _ ⟨t40, t41⟩ (fun hHeld => ?_)
          clear hK K
          try simp only [Act.put, List.setIfInBounds_toArray, List.set_cons_zero, List.set_cons_succ]
          refine wpAnyH_ready (rs := [4]) (by kernel_rfl) (by simp) ?_
          refine AllReadyH.cons (o := _) rfl (fun K hK => ?_) AllReadyH.nil
          go_simp
          refine hK.out _ _ ⟨t40, t41⟩ (fun hHeld => ?_)
          clear hK K
          try simp only [Act.put, List.setIfInBounds_toArray, List.set_cons_zero, List.set_cons_succ]
          refine wpAnyH_ready (rs := [17]) (by kernel_rfl) (by simp) ?_
          refine AllReadyH.cons (o := _) rfl (fun K hK => ?_) AllReadyH.nil
          refine step_append_run (by rfl) (.tmp 45) (.tmp 57) 27 (by rfl) (by rfl) (by rfl) R6.out ?_
          refine hK.out _ _ ⟨u0, u1⟩ (fun hHeld => ?_)
          clear hK K
          try simp only [Act.put, List.setIfInBounds_toArray, List.set_cons_zero, List.set_cons_succ]
          refine wpAnyH_take (i := 18) (oi := _) (v := ?_) rfl (by kernel_rfl) (by kernel_rfl) (by kernel_rfl) (fun _ _ _ h => h) (Or.inl ⟨by rfl, ?_⟩) (by assumption) ?_
          rotate_left
          · (intro w hSw; (try dsimp only at hSw); go_simp; try with_reducible rfl)
          try simp only [Act.put, List.setIfInBounds_toArray, List.set_cons_zero, List.set_cons_succ]
          refine wpAnyH_take (i := 19) (oi := _) (v := ?_) rfl (by kernel_rfl) (by kernel_rfl) (by kernel_rfl) (fun _ _ _ h => h) (Or.inl ⟨by rfl, ?_⟩) (by assumption) ?_
          rotate_left
          · (intro w hSw; (try dsimp only at hSw); go_simp; try with_reducible rfl)
          try simp only [Act.put, List.setIfInBounds_toArray, List.set_cons_zero, List.set_cons_succ]
          refine wpAnyH_ready (rs := [20]) (by kernel_rfl) (by simp) ?_
          refine AllReadyH.cons (o := _) rfl (fun K hK => ?_) AllReadyH.nil
          go_simp
          refine hK.out _ _ ⟨(World.cell?_of_block (set_far rab)).trans u0, (World.cell?_of_block (set_far rab)).trans u1⟩ (fun hHeld => ?_)
          clear hK K
          try simp only [Act.put, List.setIfInBounds_toArray, List.set_cons_zero, List.set_cons_succ]
          refine wpAnyH_done (by kernel_rfl) ?_ _
          all_goals go_wp2_with fail
          all_goals first | exact FF.out | (go_ret; exact FF.out)
        all_goals go_wp2_with fail
        all_goals first | exact FF.out | (go_ret; exact FF.out)
      all_goals go_wp2_with fail
      all_goals first | exact FF.out | (go_ret; exact FF.out)
  · rw [decide_eq_false cr] at CR
    have ew : writeE a b wd len n = 1 := by unfold writeE; rw [if_neg (fun h => cr h.1)]
    have FF := hide (BAD.out (by rw [ew]; decide))
    rw [ew] at FF
    clear hN hR h hX BAD ew hWA kb bA cr ha hb hn hA hB hLN
    go_enter Try.func16, Try.ntmps16
    go_upto_region 1 with fail
    rw [HWA.out]
    go_wp2_with fail
    refine CR.out.mono ?_
    rintro e w' ⟨rfl, hw'⟩; rw [hw']; clear hw' w' CR
    go_wp2_with fail
    first | exact FF.out | (go_ret; exact FF.out)
end Go.Proofs.Ytnhllnepnpmegaa

/- What comes in: acts, and how long their masks may be. -/
namespace Go.Proofs.Ytnhllnepnpmegaa
open Go.ChangeShapes Go.WideShapes Go.ChangeAt Go.RowKit Go.Shelf Go.WideMaps
set_option linter.unusedVariables false
set_option linter.unusedSimpArgs false

theorem bytesB : Try.prog.bytesOf 4 = 1 := by kernel_rfl
theorem bools_weight {H : Type} {enc : TypeId × Value → H} {W : World} {n l c : Nat} {o : Option Addr} {x : DataW H × List MemPlace} (h : DataW.trod enc Try.prog W 0 (fun _ => true) true n 32 [.slice o l c] = some x) : l = 0 ∨ ∃ m, m ∈ DataW.weights Try.prog 32 x.1 ∧ l ≤ m := by
  rcases Go.Deep.open_slice Try.underlying32 h with ⟨hcs, hx⟩ | ⟨a, len', cap', m, n, D, Pl, hcs, _, hl, hm, hme, hx, hc⟩
  · left
    have := (List.cons.inj hcs).1
    injection this
  · right
    have e := (List.cons.inj hcs).1
    injection e with e1 e2 e3
    subst e2
    refine ⟨(((List.range l).map D).length + ((List.range (m - l)).map fun j => D (l + j)).length) * Try.prog.bytesOf 4, ?_, ?_⟩
    · rw [hx]
      unfold DataW.weights
      rw [Try.underlying32]
      exact List.mem_cons_self
    · rw [bytesB, Nat.mul_one]
      simp
theorem struct5_third {H : Type} {enc : TypeId × Value → H} {P : Program} {w : World} {base : Nat} {spare : Nat → Bool} {held : Bool} {t : TypeId} {f0 f1 f2 f3 f4 : Field} {fuel : Nat} {cs : List Value} {x : DataW H × List MemPlace} (ht : P.underlying t = some (.struct #[f0, f1, f2, f3, f4])) (h : DataW.trod enc P w base spare held fuel t cs = some x) :
    ∃ y3 n, DataW.trod enc P w base spare held n f3.type ((cs.drop f3.offset).take (P.cellsOf f3.type)) = some y3 ∧ ∀ k, k ∈ DataW.weights P f3.type y3.1 → k ∈ DataW.weights P t x.1 := by
  obtain ⟨xs, n, _, rfl, hl, hlen, hf⟩ := DataW.trod_struct ht h
  match xs, hlen with
  | [y0, y1, y2, y3, y4], _ =>
    refine ⟨y3, n, by simpa using hf 3 f3 rfl, fun k hk => ?_⟩
    unfold DataW.weights
    rw [ht]
    exact DataW.weights_mem_each (j := 3) rfl rfl _ hk
theorem struct2_second {H : Type} {enc : TypeId × Value → H} {P : Program} {w : World} {base : Nat} {spare : Nat → Bool} {held : Bool} {t : TypeId} {f0 f1 : Field} {fuel : Nat} {cs : List Value} {x : DataW H × List MemPlace} (ht : P.underlying t = some (.struct #[f0, f1])) (h : DataW.trod enc P w base spare held fuel t cs = some x) :
    ∃ y1 n, DataW.trod enc P w base spare held n f1.type ((cs.drop f1.offset).take (P.cellsOf f1.type)) = some y1 ∧ ∀ k, k ∈ DataW.weights P f1.type y1.1 → k ∈ DataW.weights P t x.1 := by
  obtain ⟨xs, n, _, rfl, hl, hlen, hf⟩ := DataW.trod_struct ht h
  match xs, hlen with
  | [y0, y1], _ =>
    refine ⟨y1, n, by simpa using hf 1 f1 rfl, fun k hk => ?_⟩
    unfold DataW.weights
    rw [ht]
    exact DataW.weights_mem_each (j := 1) rfl rfl _ hk
theorem act_weight {H : Type} {enc : TypeId × Value → H} {W : World} {n l c : Nat} {o : Option Addr} {c0 c1 c2 c3 c5 : Value} {x : DataW H × List MemPlace} (h : DataW.trod enc Try.prog W 0 (fun _ => true) true n 36 [c0, c1, c2, c3, .slice o l c, c5] = some x) : l = 0 ∨ ∃ m, m ∈ DataW.weights Try.prog 36 x.1 ∧ l ≤ m := by
  obtain ⟨y3, m, h3, k3⟩ := struct5_third Try.underlying36 h
  simp only [aI, cellsU, cellsTy, List.drop_zero, List.drop_succ_cons, List.take_succ_cons, List.take_zero] at h3
  obtain ⟨z1, m2, g1, k1⟩ := struct2_second Try.underlying34 h3
  simp only [cellsLB2, List.drop_zero, List.drop_succ_cons, List.take_succ_cons, List.take_zero] at g1
  rcases bools_weight g1 with e | ⟨k, hk, e⟩
  · exact .inl e
  · exact .inr ⟨k, k3 k (k1 k hk), e⟩
theorem mem_weightsAll {H : Type} {P : Program} {e : TypeId} {d : DataW H} {n : Nat} (hn : n ∈ d.weights P e) : ∀ {l : List (DataW H)}, d ∈ l → n ∈ DataW.weightsAll P e l
  | x :: r, h => by
    unfold DataW.weightsAll
    rcases List.mem_cons.1 h with rfl | h
    · exact List.mem_append_left _ hn
    · exact List.mem_append_right _ (mem_weightsAll hn h)
theorem acts_reach {H : Type} {enc : TypeId × Value → H} {W : World} {o : Option Addr} {len cap : Nat} {d : DataW H} {p : List MemPlace} (h : DataW.Trod enc Try.prog W 0 (fun _ => true) true 22 (.slice o len cap) d p) (hz : (DataW.weights Try.prog 22 d).all (· ≤ reachBytes) = true) : len ≤ maxLen ∧ len ≤ cap ∧ ∃ X, ActsAt W o len cap X ∧ ∀ i, (X i).l ≤ reachBytes := by
  obtain ⟨fuel, hf⟩ := h
  have ok0 : act0.Ok := ⟨by decide, by decide, by decide, by decide, by decide, by decide, by decide, by decide⟩
  rcases Go.Deep.open_slice Try.underlying22 hf with ⟨hcs, hx⟩ | ⟨a, len', cap', m, n, D, Pl, hcs, _, hl, hm, hme, hx, hc⟩
  · simp [Value.cells] at hcs
    obtain ⟨rfl, rfl, rfl⟩ := hcs
    exact ⟨by decide, Nat.le_refl _, fun _ => act0, ⟨fun _ => ⟨rfl, rfl⟩, fun _ z => by (cases z), fun _ => bools_none W, fun _ => ok0⟩, fun _ => Nat.zero_le _⟩
  · simp [Value.cells] at hcs
    obtain ⟨rfl, rfl, rfl⟩ := hcs
    have hmc : m = cap := by simpa using hme
    rw [cellsAct] at hc
    have hd : d = .slice ((List.range len).map D) ((List.range (m - len)).map fun j => D (len + j)) := congrArg Prod.fst hx
    have ex : ∀ i, ∃ X : ActV, ((X.Ok ∧ BoolsAt W X.o X.l X.c X.X) ∧ X.l ≤ reachBytes) ∧ (i < len → W.cell? (a.add (i * 6)) = some (.int .i64 X.what) ∧ W.cell? ((a.add (i * 6)).add 1) = some (.int .u64 (X.a : Nat)) ∧ W.cell? ((a.add (i * 6)).add 2) = some (.int .u64 (X.b : Nat)) ∧ W.cell? ((a.add (i * 6)).add 3) = some (.int .i64 X.wd) ∧ W.cell? ((a.add (i * 6)).add 4) = some (.slice X.o X.l X.c) ∧ W.cell? ((a.add (i * 6)).add 5) = some (.int .u64 (X.n : Nat))) := fun i => by
      by_cases z : i < len
      · obtain ⟨cs', k1, k2⟩ := hc i (by omega)
        obtain ⟨c0, c1, c2, c3, c4, c5, rfl, e0, e1, e2, e3, e4, e5⟩ := cells6 k1
        obtain ⟨X, ok, rfl, rfl, rfl, rfl, rfl, rfl⟩ := act_of k2
        refine ⟨X, ⟨ok, ?_⟩, fun _ => ⟨e0, e1, e2, e3, e4, e5⟩⟩
        rcases act_weight k2 with e | ⟨k, hk, e⟩
        · omega
        · have : k ∈ DataW.weights Try.prog 22 d := by
            rw [hd]
            unfold DataW.weights
            rw [Try.underlying22]
            exact List.mem_cons_of_mem _ (List.mem_append_left _ (mem_weightsAll hk (List.mem_map.2 ⟨i, List.mem_range.2 z, rfl⟩)))
          have := List.all_eq_true.1 hz _ this
          have := of_decide_eq_true this
          omega
      · exact ⟨act0, ⟨⟨ok0, bools_none W⟩, Nat.zero_le _⟩, fun y => absurd y z⟩
    refine ⟨by omega, by omega, fun i => Classical.choose (ex i), ⟨fun z => by (cases z), fun ad e i hi => ?_, fun i => (Classical.choose_spec (ex i)).1.1.2, fun i => (Classical.choose_spec (ex i)).1.1.1⟩, fun i => (Classical.choose_spec (ex i)).1.2⟩
    obtain rfl : a = ad := by injection e
    exact (Classical.choose_spec (ex i)).2 hi
end Go.Proofs.Ytnhllnepnpmegaa
