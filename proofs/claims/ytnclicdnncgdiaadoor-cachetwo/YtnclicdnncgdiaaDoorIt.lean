/- The iterator of package bits: its contract. -/
import Derived.Test.YtnclicdnncgdiaaDoorRg
import Derived.WalkMore
import Derived.Scope
namespace Go.Proofs.YtnclicdnncgdiaaDoor
open Go.ChangeShapes Go.WideShapes Go.ChangeAt Go.RowKit Go.Proofs.Bt Go.Shelf
set_option linter.unusedVariables false
set_option linter.unusedSimpArgs false

attribute [local go_sem] Oper.semAt_some

theorem wide_scope {n : Nat} {P : Program} {c : Code} {Q : Exit → Act → World → Prop} {a : Act} {w : World} (h : c.wpIn Fence.wide n P (Exit.noGoto Q) a w) : (Code.scope c).wpIn Fence.wide n P Q a w := wpIn_wide.2 (wp_scope_straight (wpIn_wide.1 h))
/-- What the iterator reads. -/
structure Rd (b ro B0 B1 B2 : Nat) (f : Nat → Bool) (a e : Nat) (w : World) : Prop where
  p : Boxed w B0 125 (.pointer (some ⟨b, ro, none⟩))
  a : Boxed w B1 3 (.int .i64 (a : Nat))
  e : Boxed w B2 3 (.int .i64 (e : Nat))
  r : RowF w b ro f
  t : TabW w
theorem Rd.below {b ro B0 B1 B2 : Nat} {f : Nat → Bool} {a e : Nat} {w w' : World} (h : Rd b ro B0 B1 B2 f a e w) (k : Below w.heap.size w w') : Rd b ro B0 B1 B2 f a e w' :=
  ⟨boxed_block h.p (k.block _ (box_lt h.p)), boxed_block h.a (k.block _ (box_lt h.a)), boxed_block h.e (k.block _ (box_lt h.e)), h.r.below k, h.t.below k⟩
theorem Rd.kept {F : Nat → Prop} {b ro B0 B1 B2 : Nat} {f : Nat → Bool} {a e : Nat} {w w' : World} (h : Rd b ro B0 B1 B2 f a e w) (k : Kept F w w') (h0 : ¬ F 0 ∧ ¬ F 1) (hb : ¬ F b) (h1 : ¬ F B0) (h2 : ¬ F B1) (h3 : ¬ F B2) : Rd b ro B0 B1 B2 f a e w' :=
  ⟨boxed_kept h.p k h1, boxed_kept h.a k h2, boxed_kept h.e k h3, h.r.kept k hb, h.t.kept k h0⟩
/-- A word of the row, with all bits outside set. -/
theorem word_bits {g : Nat → Nat} {f : Nat → Bool} (hg : ∀ k, g k < 18446744073709551616) (hf : ∀ i, i < 512 → bitW g i = f i) (k a e : Nat) (hk : k < 8) :
    (g k ||| inv (prt k a e)) < 18446744073709551616 ∧ ∀ q, q < 64 → (g k ||| inv (prt k a e)).testBit q = blk f a e (64 * k + q) := by
  refine ⟨or_lt (hg k) (inv_lt _), fun q hq => ?_⟩
  rw [Nat.testBit_or, inv_bit (prt_lt _ _ _) hq, prt_bit _ _ _ _ hq, ← bitW_at g k q hq, hf _ (by omega)]
  unfold blk
  rw [Bool.or_assoc]
  congr 1
  rw [Bool.eq_iff_iff]
  simp only [Bool.not_eq_true', decide_eq_false_iff_not, Bool.or_eq_true, decide_eq_true_eq]
  omega
/-- The bits of a word that turn the state, from t on. -/
def turnsOf (o : Bool) (wd t : Nat) : Nat := andn (if o then wd else inv wd) (low t)
theorem turns_lt {wd : Nat} (h : wd < 18446744073709551616) (o : Bool) (t : Nat) : turnsOf o wd t < 18446744073709551616 := by
  unfold turnsOf
  cases o
  · exact andn_lt _ (inv_lt _)
  · exact andn_lt _ h
theorem turns_bit {wd : Nat} (h : wd < 18446744073709551616) (o : Bool) (t q : Nat) (hq : q < 64) : (turnsOf o wd t).testBit q = ((wd.testBit q == o) && decide (t ≤ q)) := by
  unfold turnsOf
  rw [andn_bit, low_bit]
  have e1 : (!decide (q < t ∧ q < 64)) = decide (t ≤ q) := by
    rw [Bool.eq_iff_iff]; simp only [Bool.not_eq_true', decide_eq_false_iff_not, decide_eq_true_eq]; omega
  rw [e1]
  congr 1
  cases o
  · simp only [Bool.false_eq_true, if_false]; rw [inv_bit h hq]; cases wd.testBit q <;> rfl
  · simp only [if_true]; cases wd.testBit q <;> rfl
/-- No bit turns the state. -/
theorem turns_none {wd : Nat} (h : wd < 18446744073709551616) {o : Bool} {t : Nat} (h0 : turnsOf o wd t = 0) : ∀ q, t ≤ q → q < 64 → wd.testBit q = !o := by
  intro q h1 h2
  have := turns_bit h o t q h2
  rw [h0, Nat.zero_testBit, decide_eq_true h1, Bool.and_true] at this
  cases hw : wd.testBit q <;> cases o <;> rw [hw] at this <;> first | rfl | cases this
/-- The first one that does. -/
theorem turns_first {wd : Nat} (h : wd < 18446744073709551616) {o : Bool} {t : Nat} (h0 : turnsOf o wd t ≠ 0) :
    Lib.ctz 64 (turnsOf o wd t) < 64 ∧ t ≤ Lib.ctz 64 (turnsOf o wd t) ∧ wd.testBit (Lib.ctz 64 (turnsOf o wd t)) = o ∧ ∀ q, t ≤ q → q < Lib.ctz 64 (turnsOf o wd t) → wd.testBit q = !o := by
  obtain ⟨h1, h2, h3⟩ := ctz_bit h0 (turns_lt h o t)
  generalize Lib.ctz 64 (turnsOf o wd t) = c at *
  rw [turns_bit h o t c h1, Bool.and_eq_true, beq_iff_eq, decide_eq_true_eq] at h2
  refine ⟨h1, h2.2, h2.1, fun q q1 q2 => ?_⟩
  have := h3 q q2
  rw [turns_bit h o t q (by omega), decide_eq_true q1, Bool.and_true] at this
  cases hw : wd.testBit q <;> cases o <;> rw [hw] at this <;> first | rfl | cases this
theorem w_inv (x : Nat) (hx : x < 18446744073709551616) : bits BinOp.xor IntKind.u64 IntKind.u64.max (x : Int) = ((inv x : Nat) : Int) := by
  have e : IntKind.u64.max = ((18446744073709551615 : Nat) : Int) := by simp [IntKind.max, IntKind.signed, IntKind.bits]
  rw [e, bits_xor_u64_nat _ _ (by omega) hx]
  congr 1
  refine eq_of_bits ?_ (inv_lt x) fun k hk => ?_
  · exact lt_of_bits fun k hk => by rw [Nat.testBit_xor, bit_high (by omega) hk, bit_high hx hk]; rfl
  · rw [Nat.testBit_xor, inv_bit hx hk, show (18446744073709551615 : Nat) = 2 ^ 64 - 1 by decide, Nat.testBit_two_pow_sub_one, decide_eq_true hk]
    cases x.testBit k <;> rfl
/-- The state as the plain function has it. -/
def stO (o : Bool) (z : Nat) : Option Nat := if o then some z else none
def encs2 (x : Nat × Nat) : Array Value := #[.int .i64 (x.1 : Nat), .int .i64 (x.2 : Nat)]
def boolOf : Value → Bool
  | .bool b => b
  | _ => false

set_option maxRecDepth 100000 in
set_option maxHeartbeats 1000000 in
theorem iter_seq (b ro B0 B1 B2 : Nat) (f : Nat → Bool) (a e : Nat) (ha : a ≤ 9223372036854775807) (he : e ≤ 512) (n : Nat) :
    SeqB n Tryd.prog 77 #[.pointer (some ⟨B0, 0, none⟩), .pointer (some ⟨B1, 0, none⟩), .pointer (some ⟨B2, 0, none⟩)] encs2 (Rd b ro B0 B1 B2 f a e) (runs (blk f a e)) := by
  intro l J Jx W hR hJ hY h0
  obtain ⟨F, hF⟩ : ∃ F, F = blk f a e := ⟨_, rfl⟩
  obtain ⟨L, hL⟩ : ∃ L, L = runs (blk f a e) := ⟨_, rfl⟩
  rw [← hL] at hY ⊢
  have HR := hide hR
  have HJ := hide hJ
  have HY := hide hY
  have H0 := hide h0
  have HF := hide hF
  have hLF : L = rest F 0 none := by rw [hL, hF]; rfl
  have HL := hide hLF
  clear hR hJ hY h0 hF hL hLF
  refine callsIn_of_wp Tryd.func77 rfl trivial ?_ rfl
  simp only [Tryd.ntmps77, List.size_toArray, List.length_cons, List.length_nil, Nat.reduceAdd, Nat.reduceSub, Array.replicate_succ, Array.replicate_zero, List.push_toArray, List.append_toArray, List.nil_append, List.cons_append]
  have cp := (HR.out _ _ H0.out).p.cell
  apply wide_scope
  gi_wp2_with fail
  apply wpIn_label
  gi_wp2_with fail
  gi_loopw [5, 6, 12] (fun zv ov kv wr => ∃ (z : Nat) (o : Bool) (k : Nat) (pre : List (Nat × Nat)), zv = .int .i64 (z : Int) ∧ ov = .bool o ∧ kv = .int .i64 (k : Int) ∧ k ≤ 8 ∧ Hid (pre ++ rest F (64 * k) (stO o z) = L) ∧ Hid (J pre wr))
    (fun _ _ kv _ => 8 - (intOf kv).toNat)
  case atStart => exact ⟨0, false, 0, [], rfl, rfl, rfl, by omega, hide HL.out.symm, H0⟩
  case round =>
    obtain ⟨z, o, k, pre, rfl, rfl, rfl, hk, HP, HI⟩ := hrel
    have hrd := HR.out _ _ HI.out
    by_cases hlt : k < 8
    · have hlt' : (k : Int) < 8 := by omega
      obtain ⟨g, hg, hgf⟩ := hrd.r
      have c1 := hg.cell k hlt
      have ca := hrd.a.cell
      have ce := hrd.e.cell
      have cP := hide (part_any k a e hlt ha (by omega) wr.drew)
      obtain ⟨w1, w2⟩ := word_bits hg.fit hgf k a e hlt
      have ho : bits BinOp.or IntKind.u64 ((g k : Nat) : Int) (bits BinOp.xor IntKind.u64 IntKind.u64.max ((prt k a e : Nat) : Int)) = ((g k ||| inv (prt k a e) : Nat) : Int) := by
        rw [w_inv _ (prt_lt _ _ _), w_or _ _ (hg.fit k) (inv_lt _)]
      obtain ⟨wd, hwd⟩ : ∃ wd, wd = g k ||| inv (prt k a e) := ⟨_, rfl⟩
      rw [← hwd] at ho w1 w2
      rw [← HF.out] at w2
      have hv := w_inv wd w1
      have HW1 := hide w1
      have HW2 := hide w2
      have HI2 := hide (HJ.out _ _ _ HI.out (drew_below wr))
      clear hrd hg hgf w2 w1 hwd HI
      gi_wp2_with fail
      refine wpIn_wide.2 (still_all (by kernel_rfl) (by kernel_rfl) ?_)
      repeat still_step
      refine wpStill_nil ?_
      gi_wp2_with fail
      refine wcall cP.out ?_
      rintro e' w' ⟨rfl, hw'⟩; rw [hw']; clear hw' w' cP
      gi_wp2_with fail
      clear c1 ca ce ho
      gi_loopw [5, 6, 9] (fun zv ov tv wr => ∃ (z : Nat) (o : Bool) (t : Nat) (pre : List (Nat × Nat)), zv = .int .i64 (z : Int) ∧ ov = .bool o ∧ tv = .int .i64 (t : Int) ∧ t ≤ 63 ∧ Hid (pre ++ rest F (64 * k + t) (stO o z) = L) ∧ Hid (J pre wr))
        (fun _ ov tv _ => 2 * (64 - (intOf tv).toNat) + (if F (64 * k + (intOf tv).toNat) = boolOf ov then 1 else 0))
      case atStart => exact ⟨z, o, 0, pre, rfl, rfl, rfl, by omega, HP, HI2⟩
      case round =>
        obtain ⟨z, o, t, pre, rfl, rfl, rfl, ht, HP, HI⟩ := hrel
        have hrd := HR.out _ _ HI.out
        have CL := hide (lowest_any (t : Int) (by omega) wr)
        cases o with
        | false =>
          have hn' : bits BinOp.andNot IntKind.u64 ((inv wd : Nat) : Int) ((low t : Nat) : Int) = ((turnsOf false wd t : Nat) : Int) := w_andNot _ _ (inv_lt wd) (low_lt t)
          obtain ⟨T, hT⟩ : ∃ T, T = turnsOf false wd t := ⟨_, rfl⟩
          have hT1 : T < 18446744073709551616 := by rw [hT]; exact turns_lt HW1.out false t
          rw [← hT] at hn'
          by_cases h0 : T = 0
          · have hn := turns_none HW1.out (o := false) (t := t) (by rw [← hT]; exact h0)
            have hz : ((T : Int) == 0) = true := by rw [h0]; rfl
            have HN := hide hn
            clear hn hT hT1 h0
            gi_wp2_with fail
            refine wcall CL.out ?_
            rintro e' w' ⟨rfl, hw'⟩; rw [hw']; clear hw' w' CL
            rw [Int.toNat_natCast]
            gi_wp2_with fail
            refine ⟨⟨z, false, k + 1, pre, rfl, rfl, by rw [Int.natCast_add]; rfl, by omega, hide ?_, HI⟩, ?_⟩
            · rw [show 64 * (k + 1) = 64 * k + t + (64 - t) by omega, ← rest_skip (64 * k + t) (64 - t) (by omega) (fun q q1 q2 => ?_)]
              · exact HP.out
              · have := HN.out (q - 64 * k) (by omega) (by omega)
                rw [HW2.out _ (by omega), show 64 * k + (q - 64 * k) = q by omega] at this
                rw [this]; rfl
            · simp [intOf]; omega
          · have hf := turns_first HW1.out (o := false) (t := t) (by rw [← hT]; exact h0)
            have hz : ((T : Int) == 0) = false := by simp; omega
            rw [← hT] at hf
            have cT := tz_any T h0 hT1 wr hrd.t
            obtain ⟨c, hc⟩ : ∃ c, c = Lib.ctz 64 T := ⟨_, rfl⟩
            rw [← hc] at hf cT
            obtain ⟨f1, f2, f3, f4⟩ := hf
            rw [HW2.out c f1] at f3
            have F3 := hide f3
            have F4 := hide f4
            have CT := hide cT
            have f1' : (c : Int) < 64 := by omega
            clear hT hT1 h0 hc cT f3 f4
            gi_wp2_with fail
            refine wcall CL.out ?_
            rintro e' w' ⟨rfl, hw'⟩; rw [hw']; clear hw' w' CL
            rw [Int.toNat_natCast]
            gi_wp2_with fail
            refine wcall CT.out ?_
            rintro e' w' ⟨rfl, hw'⟩; rw [hw']; clear hw' w' CT
            gi_wp2_with fail
            refine ⟨fun _ h => (by cases h), ?_⟩
            gi_wp2_with fail
            refine ⟨⟨64 * k + c, true, c, pre, by rw [Int.natCast_add, Int.natCast_mul, Int.mul_comm]; rfl, rfl, rfl, by omega, hide ?_, HI⟩, ?_⟩
            · have hs := rest_skip (F := F) (s := none) (64 * k + t) (c - t) (by omega) (fun q q1 q2 => by
                have := F4.out (q - 64 * k) (by omega) (by omega)
                rw [HW2.out _ (by omega), show 64 * k + (q - 64 * k) = q by omega] at this
                rw [this]; rfl)
              have hp := HP.out
              rw [show stO false z = none from rfl, hs, show 64 * k + t + (c - t) = 64 * k + c by omega, rest_open (by omega) F3.out] at hp
              exact hp
            · have hm := F3.out
              simp [intOf, boolOf, hm]
              by_cases e : c = t
              · subst e; simp [hm]
              · first | omega | (split <;> omega)
        | true =>
          have hn' : bits BinOp.andNot IntKind.u64 (wd : Int) ((low t : Nat) : Int) = ((turnsOf true wd t : Nat) : Int) := w_andNot _ _ HW1.out (low_lt t)
          obtain ⟨T, hT⟩ : ∃ T, T = turnsOf true wd t := ⟨_, rfl⟩
          have hT1 : T < 18446744073709551616 := by rw [hT]; exact turns_lt HW1.out true t
          rw [← hT] at hn'
          by_cases h0 : T = 0
          · have hn := turns_none HW1.out (o := true) (t := t) (by rw [← hT]; exact h0)
            have hz : ((T : Int) == 0) = true := by rw [h0]; rfl
            have HN := hide hn
            clear hn hT hT1 h0
            gi_wp2_with fail
            refine wcall CL.out ?_
            rintro e' w' ⟨rfl, hw'⟩; rw [hw']; clear hw' w' CL
            rw [Int.toNat_natCast]
            gi_wp2_with fail
            refine ⟨⟨z, true, k + 1, pre, rfl, rfl, by rw [Int.natCast_add]; rfl, by omega, hide ?_, HI⟩, ?_⟩
            · rw [show 64 * (k + 1) = 64 * k + t + (64 - t) by omega, ← rest_skip (64 * k + t) (64 - t) (by omega) (fun q q1 q2 => ?_)]
              · exact HP.out
              · have := HN.out (q - 64 * k) (by omega) (by omega)
                rw [HW2.out _ (by omega), show 64 * k + (q - 64 * k) = q by omega] at this
                rw [this]; rfl
            · simp [intOf]; omega
          · have hf := turns_first HW1.out (o := true) (t := t) (by rw [← hT]; exact h0)
            have hz : ((T : Int) == 0) = false := by simp; omega
            rw [← hT] at hf
            have cT := tz_any T h0 hT1 wr hrd.t
            obtain ⟨c, hc⟩ : ∃ c, c = Lib.ctz 64 T := ⟨_, rfl⟩
            rw [← hc] at hf cT
            obtain ⟨f1, f2, f3, f4⟩ := hf
            rw [HW2.out c f1] at f3
            have F3 := hide f3
            have F4 := hide f4
            have CT := hide cT
            have f1' : (c : Int) < 64 := by omega
            clear hT hT1 h0 hc cT f3 f4
            have hs := rest_skip (F := F) (s := some z) (64 * k + t) (c - t) (by omega) (fun q q1 q2 => by
                have := F4.out (q - 64 * k) (by omega) (by omega)
                rw [HW2.out _ (by omega), show 64 * k + (q - 64 * k) = q by omega] at this
                rw [this]; rfl)
            have hp := HP.out
            rw [show stO true z = some z from rfl, hs, show 64 * k + t + (c - t) = 64 * k + c by omega, rest_shut (by omega) F3.out] at hp
            have hpre : pre ++ [(z, 64 * k + c)] <+: L := ⟨rest F (64 * k + c) none, by rw [List.append_assoc]; exact hp⟩
            obtain ⟨fn, tmps, assign, body, hy, hRr⟩ := HY.out pre (z, 64 * k + c) wr hpre HI.out
            have ee : ((64 * k + c : Nat) : Int) = (k : Int) * 64 + (c : Int) := by rw [Int.natCast_add, Int.natCast_mul, Int.mul_comm]; rfl
            simp only [encs2] at hy
            rw [ee] at hy
            have HRR := hide hRr
            have HPP := hide hp
            have EE := hide ee
            have HPRE := hide hpre
            clear hs hp hRr ee hpre
            gi_wp2_with fail
            refine wcall CL.out ?_
            rintro e' w' ⟨rfl, hw'⟩; rw [hw']; clear hw' w' CL
            rw [Int.toNat_natCast]
            gi_wp2_with fail
            refine wcall CT.out ?_
            rintro e' w' ⟨rfl, hw'⟩; rw [hw']; clear hw' w' CT
            gi_wp2_with fail
            refine ⟨(fun h => by cases h), HRR.out.mono ?_⟩
            clear HRR hy
            rintro e' w4 (⟨rfl, j4⟩ | ⟨rfl, jx4⟩)
            · gi_wp2_with fail
              refine ⟨⟨64 * k + c, false, c, pre ++ [(z, 64 * k + c)], by rw [EE.out], rfl, rfl, by omega, hide ?_, hide j4⟩, ?_⟩
              · have := HPP.out
                rw [show stO false (64 * k + c) = none from rfl, List.append_assoc]
                exact this
              · have hm := F3.out
                simp [intOf, boolOf, hm]
                by_cases e : c = t
                · subst e; simp [hm]
                · first | omega | (split <;> omega)
            · have X := hide jx4
              clear jx4
              gi_wp2_with fail
              try rw [Exit.noGoto_ret]
              refine bodyPost_ret (results_none rfl _ _ _) rfl ?_
              exact ⟨⟨_, rfl⟩, .inr ⟨_, _, HPRE.out, X.out⟩⟩
    · have hk8 : k = 8 := by omega
      subst hk8
      have hp := HP.out
      cases o with
      | false =>
        rw [show stO false z = none from rfl, rest_end_none, List.append_nil] at hp
        have HPP := hide hp
        clear hp
        gi_wp2_with fail
        rw [Exit.noGoto_normal]
        go_end0
        refine ⟨⟨_, rfl⟩, .inl ?_⟩
        rw [← HPP.out]
        exact HI.out
      | true =>
        rw [show stO true z = some z from rfl, rest_end_some] at hp
        obtain ⟨fn, tmps, assign, body, hy, hRr⟩ := HY.out pre (z, 512) wr ⟨[], by rw [List.append_nil]; exact hp⟩ HI.out
        simp only [encs2] at hy
        rw [show ((512 : Nat) : Int) = (512 : Int) from rfl] at hy
        have HRR := hide hRr
        have HPP := hide hp
        clear hRr hp
        gi_wp2_with fail
        refine ⟨(fun h => by cases h), HRR.out.mono ?_⟩
        clear HRR hy
        rintro e' w4 (⟨rfl, j4⟩ | ⟨rfl, jx4⟩)
        · have X := hide j4
          clear j4
          gi_wp2_with fail
          rw [Exit.noGoto_normal]
          go_end0
          refine ⟨⟨_, rfl⟩, .inl ?_⟩
          rw [← HPP.out]
          exact X.out
        · have X := hide jx4
          clear jx4
          gi_wp2_with fail
          rw [Exit.noGoto_normal]
          go_end0
          exact ⟨⟨_, rfl⟩, .inr ⟨_, _, ⟨[], by rw [List.append_nil]; exact HPP.out⟩, X.out⟩⟩
end Go.Proofs.YtnclicdnncgdiaaDoor
