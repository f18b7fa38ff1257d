/- J12 of the proof of both laws: texts Mk, Ml, Mr, one behind the other. -/
import Derived.Test.YtnhllnepnpmegaaJ11
/- Package masks: small calls, and masks as things: New: contracts. -/
namespace Go.Proofs.Ytnhllnepnpmegaa
open Go.ChangeShapes Go.WideShapes Go.ChangeAt Go.RowKit Go.Shelf Go.Proofs.Rx Go.Maps Go.Proofs.Bt
set_option linter.unusedVariables false
set_option linter.unusedSimpArgs false

attribute [local go_sem] Oper.semAt_some

/-- A block that is right. -/
abbrev Right (a b : Nat) : Prop := a % 8 = 0 ∧ b % 8 = 0 ∧ 0 < b ∧ b ≤ 1099511627776 ∧ a + b ≤ 281474976710656
theorem rightBlock_any (a b : Nat) (ha : a < 18446744073709551616) (hb : b < 18446744073709551616) (W : World) :
    Calls Try.prog 20 #[.int .u64 (a : Nat), .int .u64 (b : Nat)] W fun e W' => e = .returned (.bool (decide (Right a b))) ∧ W' = W := by
  obtain ⟨A, hA⟩ : ∃ X : Int, (a : Int) = X := ⟨_, rfl⟩
  obtain ⟨B, hB⟩ : ∃ X : Int, (b : Int) = X := ⟨_, rfl⟩
  obtain ⟨D, hD⟩ : ∃ D, decide (Right a b) = D := ⟨_, rfl⟩
  rw [hA, hB, hD]
  have a0 : 0 ≤ A := by omega
  have a1 : A < 18446744073709551616 := by omega
  have b0 : 0 ≤ B := by omega
  have b1 : B < 18446744073709551616 := by omega
  by_cases c1 : a % 8 = 0
  · have e1 : (A % 8 == 0) = true := by rw [beq_iff_eq]; omega
    by_cases c2 : b % 8 = 0
    · have e2 : (B % 8 == 0) = true := by rw [beq_iff_eq]; omega
      by_cases c3 : 0 < b
      · have e3 : decide (0 < B) = true := decide_eq_true (by omega)
        by_cases c4 : b ≤ 1099511627776
        · have e4 : decide (B ≤ 1099511627776) = true := decide_eq_true (by omega)
          have b2 : B ≤ 1099511627776 := by omega
          have e5 : decide (A ≤ 281474976710656 - B) = D := by
            rw [← hD, decide_eq_decide]
            unfold Right
            omega
          clear hA hB hD c1 c2 c3 c4
          go_enter Try.func20, Try.ntmps20
          go_wp2_with fail
          go_ret
          exact ⟨rfl, rfl⟩
        · have e4 : decide (B ≤ 1099511627776) = false := decide_eq_false (by omega)
          obtain rfl : D = false := by rw [← hD]; exact decide_eq_false (fun h => c4 h.2.2.2.1)
          clear hA hB hD c1 c2 c3 c4
          go_enter Try.func20, Try.ntmps20
          go_wp2_with fail
          go_ret
          exact ⟨rfl, rfl⟩
      · have e3 : decide (0 < B) = false := decide_eq_false (by omega)
        obtain rfl : D = false := by rw [← hD]; exact decide_eq_false (fun h => c3 h.2.2.1)
        clear hA hB hD c1 c2 c3
        go_enter Try.func20, Try.ntmps20
        go_wp2_with fail
        go_ret
        exact ⟨rfl, rfl⟩
    · have e2 : (B % 8 == 0) = false := by rw [beq_eq_false_iff_ne]; omega
      obtain rfl : D = false := by rw [← hD]; exact decide_eq_false (fun h => c2 h.2.1)
      clear hA hB hD c1 c2
      go_enter Try.func20, Try.ntmps20
      go_wp2_with fail
      go_ret
      exact ⟨rfl, rfl⟩
  · have e1 : (A % 8 == 0) = false := by rw [beq_eq_false_iff_ne]; omega
    obtain rfl : D = false := by rw [← hD]; exact decide_eq_false (fun h => c1 h.1)
    clear hA hB hD c1
    go_enter Try.func20, Try.ntmps20
    go_wp2_with fail
    go_ret
    exact ⟨rfl, rfl⟩
/-- A type that is right. -/
abbrev RightT (wd : Int) (len : Nat) : Prop := 1 ≤ wd ∧ wd ≤ 65536 ∧ (len : Int) = wd
theorem rightType_any (wd : Int) (o : Option Addr) (len cap : Nat) (hl : len ≤ 9223372036854775807) (W : World) :
    Calls Try.prog 21 #[.agg #[.int .i64 wd, .slice o len cap]] W fun e W' => e = .returned (.bool (decide (RightT wd len))) ∧ Below W.heap.size W W' := by
  obtain ⟨WA, hWA⟩ : ∃ WA, W.alloc (.cells #[.int .i64 wd, .slice o len cap] 34) = WA := ⟨_, rfl⟩
  have kb : Bk WA W.heap.size 34 #[.int .i64 wd, .slice o len cap] := by rw [← hWA]; exact World.alloc_heap_new W _
  have bA : Below W.heap.size W WA := by rw [← hWA]; exact below_alloc W _
  have a0 := kb.cell 0 _ rfl
  have a1 := kb.cell 1 _ rfl
  have HWA := hide hWA
  have HB := hide bA
  obtain ⟨ab, hab⟩ : ∃ ab, W.heap.size = ab := ⟨_, rfl⟩
  have HAB := hide hab
  rw [hab] at a0 a1 HB ⊢
  obtain ⟨D, hD⟩ : ∃ D, decide (RightT wd len) = D := ⟨_, rfl⟩
  rw [hD]
  clear hWA kb bA hab
  by_cases c1 : 1 ≤ wd
  · have e1 : decide (1 ≤ wd) = true := decide_eq_true c1
    by_cases c2 : wd ≤ 65536
    · have e2 : decide (wd ≤ 65536) = true := decide_eq_true c2
      have e3 : (((len : Nat) : Int) == wd) = D := by
        rw [← hD, Bool.eq_iff_iff, beq_iff_eq, decide_eq_true_eq]
        exact ⟨fun h => ⟨c1, c2, h⟩, fun h => h.2.2⟩
      clear hD c1 c2
      go_enter Try.func21, Try.ntmps21
      go_upto_region 1 with fail
      rw [HWA.out, HAB.out]
      go_wp2_with fail
      go_ret
      exact ⟨rfl, HB.out⟩
    · have e2 : decide (wd ≤ 65536) = false := decide_eq_false c2
      obtain rfl : D = false := by rw [← hD]; exact decide_eq_false (fun h => c2 h.2.1)
      clear hD c1 c2
      go_enter Try.func21, Try.ntmps21
      go_upto_region 1 with fail
      rw [HWA.out, HAB.out]
      go_wp2_with fail
      go_ret
      exact ⟨rfl, HB.out⟩
  · have e1 : decide (1 ≤ wd) = false := decide_eq_false c1
    obtain rfl : D = false := by rw [← hD]; exact decide_eq_false (fun h => c1 h.1)
    clear hD c1
    go_enter Try.func21, Try.ntmps21
    go_upto_region 1 with fail
    rw [HWA.out, HAB.out]
    go_wp2_with fail
    go_ret
    exact ⟨rfl, HB.out⟩
theorem wordsOf_any (a b : Nat) (h : Right a b) (W : World) :
    Calls Try.prog 22 #[.int .u64 (a : Nat), .int .u64 (b : Nat)] W fun e W' => e = .returned (.tuple #[.int .u64 ((a / 8 : Nat) : Int), .int .u64 (((a + b) / 8 : Nat) : Int)]) ∧ W' = W := by
  obtain ⟨_, _, h3, h4, h5⟩ := h
  obtain ⟨P, hP⟩ : ∃ X : Int, ((a / 8 : Nat) : Int) = X := ⟨_, rfl⟩
  obtain ⟨Q, hQ⟩ : ∃ X : Int, (((a + b) / 8 : Nat) : Int) = X := ⟨_, rfl⟩
  rw [hP, hQ]
  obtain ⟨A, hA⟩ : ∃ X : Int, (a : Int) = X := ⟨_, rfl⟩
  obtain ⟨B, hB⟩ : ∃ X : Int, (b : Int) = X := ⟨_, rfl⟩
  rw [hA, hB]
  have t1 : A / 8 = P := by omega
  have t2 : (A + B) / 8 = Q := by omega
  have a0 : 0 ≤ A := by omega
  have a1 : A ≤ 281474976710656 := by omega
  have b0 : 0 ≤ B := by omega
  have b1 : A + B ≤ 281474976710656 := by omega
  have q0 : 0 ≤ P := by omega
  have q1 : P ≤ 281474976710656 := by omega
  have q2 : 0 ≤ Q := by omega
  have q3 : Q ≤ 281474976710656 := by omega
  have HP := hide t1
  have HQ := hide t2
  clear hA hB h3 h4 h5 hP hQ t1 t2
  go_enter Try.func22, Try.ntmps22
  go_wp2_with fail
  go_ret2
  exact ⟨by rw [← HP.out, ← HQ.out]; rfl, rfl⟩
/-! ### Masks as things -/
def mFoot (m : Nat) (t : Tr) (z : Nat) : Prop := z = m ∨ inB t.list z ∨ ∃ x ∈ t.list, z ∈ x.fb
def tMk (m : Nat) (f : Nat → Bool) : Thing := ⟨fun W F => ∃ t, MkAt W m t ∧ (∀ w, fnOf t.list w = f w) ∧ ∀ z, F z ↔ mFoot m t z,
  fun ⟨t, h, hf, hF⟩ k n => ⟨t, ⟨h.bk.kept k (n m ((hF m).2 (.inl rfl))), h.ok.kept k (fun x hx => n _ ((hF _).2 (.inr (.inl ⟨x, hx, rfl⟩)))) (fun x hx z hz => n z ((hF z).2 (.inr (.inr ⟨x, hx, hz⟩))))⟩, hf, hF⟩,
  fun ⟨t, h, hf, hF⟩ z hz => by
    rcases (hF z).1 hz with u | ⟨x, hx, e⟩ | ⟨x, hx, hz⟩
    · rw [u]; exact h.bk.lt
    · rw [← e]; exact h.ok.at_.lt x hx
    · exact FormAt.lt (h.ok.fm x hx) z hz⟩
/-- What a call leaves. -/
def Turn (m : Nat) (f : Nat → Bool) (W W' : World) (F : Nat → Prop) : Prop := ∃ F', (tMk m f).P W' F' ∧ To W W' F F'
theorem Turn.same {m : Nat} {f : Nat → Bool} {W W' : World} {F : Nat → Prop} (h : (tMk m f).P W F) (b : Below W.heap.size W W') : Turn m f W W' F :=
  ⟨F, (tMk m f).kept h (Kept.of_below (F := fun _ => False) b) (fun _ _ f => f), To.of_below b F⟩
/-- Laid, behind steps that turned nothing old. -/
theorem LayS.turn {m : Nat} {t : Tr} {first en : Nat} {g f : Nat → Bool} {fb : List Nat} {W0 W W' : World} {F : Nat → Prop} (h : MkAt W0 m t) (hf : ∀ w, fnOf t.list w = f w) (hF : ∀ z, F z ↔ mFoot m t z) (b : Below W0.heap.size W0 W) (hb : ∀ z ∈ fb, W0.heap.size ≤ z) (s : LayS m t first en g fb W W') :
    Turn m (fun w => if first ≤ w ∧ w < en then g w else f w) W0 W' F := by
  obtain ⟨t', h', f', r, k⟩ := s
  have sz := b.size
  refine ⟨mFoot m t', ⟨t', h', fun w => by rw [f' w, hf w], fun z => Iff.rfl⟩, (Kept.of_below b).trans (k.mono fun z hz => ?_) (fun _ _ h => h), fun z hz => ?_⟩
  · rcases hz with u | u
    · exact (hF z).2 (.inl u)
    · exact (hF z).2 (.inr (.inl u))
  · rcases hz with u | ⟨x, hx, e⟩ | ⟨x, hx, hz⟩
    · exact .inl ((hF z).2 (.inl u))
    · rcases (r x hx).1 with v | v
      · left; rw [← e]; exact (hF _).2 (.inr (.inl v))
      · right; rw [← e]; omega
    · rcases (r x hx).2 with ⟨y, hy, e⟩ | e | e
      · exact .inl ((hF z).2 (.inr (.inr ⟨y, hy, by rw [e]; exact hz⟩)))
      · right; exact hb z (by rw [← e]; exact hz)
      · right; have := e z hz; omega
theorem new_any (W : World) : Calls Try.prog 8 #[] W fun e W' => e = .returned (.pointer (some ⟨W.heap.size, 0, none⟩)) ∧ (tMk W.heap.size (fun _ => false)).P W' (fun z => z = W.heap.size) ∧ Below W.heap.size W W' := by
  have FIN := hide (show (tMk W.heap.size (fun _ => false)).P (W.alloc (.cells #[.pointer none] 53)) (fun z => z = W.heap.size) from ⟨.nil, ⟨World.alloc_heap_new W _, trivial, (fun x hx => by cases hx), Un.nil, Nat.zero_le _⟩, fun _ => rfl, fun z => ⟨fun h => .inl h, fun h => by
    rcases h with u | ⟨x, hx, _⟩ | ⟨x, hx, _⟩
    · exact u
    · cases hx
    · cases hx⟩⟩)
  have BB := hide (below_alloc W (.cells #[.pointer none] 53))
  go_enter Try.func8, Try.ntmps8
  go_wp2_with fail
  go_ret
  exact ⟨rfl, FIN.out, BB.out⟩
end Go.Proofs.Ytnhllnepnpmegaa

/- Package masks: Write, Clear, Pointers: contracts. -/
namespace Go.Proofs.Ytnhllnepnpmegaa
open Go.ChangeShapes Go.WideShapes Go.ChangeAt Go.RowKit Go.Shelf Go.Proofs.Rx Go.Maps Go.Proofs.Bt
set_option linter.unusedVariables false
set_option linter.unusedSimpArgs false

attribute [local go_sem] Oper.semAt_some

def writeE (a b : Nat) (wd : Int) (len n : Nat) : Int := if Right a b ∧ RightT wd len then (if b / 8 / len < n then 2 else 0) else 1
def layF (a b : Nat) (g f : Nat → Bool) (w : Nat) : Bool := if a / 8 ≤ w ∧ w < (a + b) / 8 then g w else f w
def writeF (f : Nat → Bool) (a b : Nat) (wd : Int) (len n : Nat) (X : Nat → Bool) : Nat → Bool := if writeE a b wd len n = 0 then layF a b (thF (a / 8) len n (cutF X len)) f else f
section
variable {W : World} {m : Nat} {f : Nat → Bool} {F : Nat → Prop}
theorem load_type {W : World} {b : Nat} {x y : Value} (h : Bk W b 34 #[x, y]) : (loadVar 34 ⟨b, 0, none⟩).run Try.prog W = .ok (.agg #[x, y]) W := by
  have e0 := h.cell 0 _ rfl
  have e1 := h.cell 1 _ rfl
  simp [go_sem, Nat.add_assoc, e0, e1, Result.andThen]
set_option maxRecDepth 100000 in
set_option maxHeartbeats 1000000 in
theorem write_any (h : (tMk m f).P W F) (a b n : Nat) (ha : a < 18446744073709551616) (hb : b < 18446744073709551616) (hn : n < 18446744073709551616) (wd : Int) (h0 : -9223372036854775808 ≤ wd) (h9 : wd ≤ 9223372036854775807) {o : Option Addr} {len cap : Nat} {X : Nat → Bool} (hl : len ≤ 9223372036854775807) (hX : BoolsAt W o len cap X) :
    Calls Try.prog 11 #[.pointer (some ⟨m, 0, none⟩), .int .u64 (a : Nat), .int .u64 (b : Nat), .agg #[.int .i64 wd, .slice o len cap], .int .u64 (n : Nat)] W fun e W' => e = .returned (.int .i64 (writeE a b wd len n)) ∧ Turn m (writeF f a b wd len n X) W W' F := by
  obtain ⟨R, hR⟩ : ∃ R : Ending → World → Prop, R = fun e W' => e = .returned (.int .i64 (writeE a b wd len n)) ∧ Turn m (writeF f a b wd len n X) W W' F := ⟨_, rfl⟩
  rw [← hR]
  obtain ⟨WA, hWA⟩ : ∃ WA, W.alloc (.cells #[.int .i64 wd, .slice o len cap] 34) = WA := ⟨_, rfl⟩
  have kb : Bk WA W.heap.size 34 #[.int .i64 wd, .slice o len cap] := by rw [← hWA]; exact World.alloc_heap_new W _
  have bA : Below W.heap.size W WA := by rw [← hWA]; exact below_alloc W _
  have BAD := hide (show ∀ W', Below W.heap.size W W' → writeE a b wd len n ≠ 0 → R (.returned (.int .i64 (writeE a b wd len n))) W' from fun W' hW' hne => by rw [hR]; unfold writeF; rw [if_neg hne]; exact ⟨rfl, Turn.same h hW'⟩)
  have CB := hide (rightBlock_any a b ha hb WA)
  have CT := hide (rightType_any wd o len cap hl WA)
  have HWA := hide hWA
  have HB := hide bA
  have KB := hide (show ∀ W', Below WA.heap.size WA W' → Bk W' W.heap.size 34 #[.int .i64 wd, .slice o len cap] from fun W' hb => kb.below hb)
  have a0 := kb.cell 0 _ rfl
  have a1 := kb.cell 1 _ rfl
  obtain ⟨N, hN⟩ : ∃ N : Int, (n : Int) = N := ⟨_, rfl⟩
  have n0 : 0 ≤ N := by omega
  have n1 : N < 18446744073709551616 := by omega
  by_cases cr : Right a b
  · rw [decide_eq_true cr] at CB
    by_cases ct : RightT wd len
    · rw [decide_eq_true ct] at CT
      obtain ⟨t1, t2, t3⟩ := id ct
      obtain ⟨r1, r2, r3, r4, r5⟩ := id cr
      have CO := hide (wordsOf_any a b cr)
      have ew : writeE a b wd len n = if b / 8 / len < n then 2 else 0 := by unfold writeE; rw [if_pos ⟨cr, ct⟩]
      obtain ⟨P, hP⟩ : ∃ X : Int, ((a / 8 : Nat) : Int) = X := ⟨_, rfl⟩
      obtain ⟨Q, hQ⟩ : ∃ X : Int, (((a + b) / 8 : Nat) : Int) = X := ⟨_, rfl⟩
      rw [hP, hQ] at CO
      have p0 : 0 ≤ P := by omega
      have p1 : P ≤ Q := by omega
      have p2 : Q ≤ 35184372088832 := by omega
      have dq : (Q - P) / wd = ((b / 8 / len : Nat) : Int) := by
        rw [← t3, Int.natCast_ediv]; congr 1; omega
      have d0 : (wd == 0) = false := by rw [beq_eq_false_iff_ne]; omega
      have dz : (wd = 0) = False := by simp; omega
      have q0 : 0 ≤ (Q - P) / wd := by rw [dq]; exact Int.natCast_nonneg _
      have q1 : (Q - P) / wd ≤ 35184372088832 := by
        have := Int.ediv_le_self (a := Q - P) wd (by omega)
        omega
      have td : (Q - P).tdiv wd = (Q - P) / wd := Int.tdiv_eq_ediv_of_nonneg (by omega)
      have wq : IntKind.u64.wrap ((Q - P) / wd) = (Q - P) / wd := by rw [IntKind.wrap_u64]; omega
      have ww : IntKind.u64.wrap wd = wd := by rw [IntKind.wrap_u64]; omega
      by_cases cn : b / 8 / len < n
      · have d2 : decide ((Q - P) / wd < N) = true := by rw [decide_eq_true_iff, dq]; omega
        rw [if_pos cn] at ew
        have FF := hide (fun W' hb => BAD.out W' hb (by rw [ew]; decide))
        rw [ew] at FF
        rw [hN]
        clear hN hP hQ hR h hX BAD dq cn ew hWA kb bA r1 r2 r3 r4 r5 cr ct t3 ha hb hn
        go_enter Try.func11, Try.ntmps11
        go_upto_region 1 with fail
        rw [HWA.out]
        go_wp2_with fail
        refine CB.out.mono ?_
        rintro e w' ⟨rfl, hw'⟩; rw [hw']; clear hw' w' CB
        go_wp2_with fail
        refine CT.out.mono ?_
        rintro e W1 ⟨rfl, hb1⟩
        have F1 := hide (FF.out W1 (HB.out.trans (hb1.mono HB.out.size)))
        have kb1 := KB.out W1 hb1
        have a0' := kb1.cell 0 _ rfl
        have a1' := kb1.cell 1 _ rfl
        clear a0 a1 kb1 hb1 CT FF KB
        go_wp2_with fail
        refine (CO.out _).mono ?_
        rintro e w' ⟨rfl, hw'⟩; rw [hw']; clear hw' w' CO
        go_wp2_with fail
        first | exact F1.out | (go_ret; exact F1.out)
      · have d2 : decide ((Q - P) / wd < N) = false := by rw [decide_eq_false_iff_not, dq]; omega
        rw [if_neg cn] at ew
        have hln : 1 ≤ len ∧ len ≤ 65536 := by omega
        have hlim : a / 8 + n * len ≤ (a + b) / 8 := by
          have : n * len ≤ b / 8 := by
            have := (Nat.le_div_iff_mul_le (show 0 < len by omega)).1 (Nat.le_of_not_lt cn)
            exact this
          omega
        have CFo := hide (show ∀ W1, Below W.heap.size W W1 → Calls Try.prog 24 #[.int .u64 ((a / 8 : Nat) : Int), .agg #[.int .i64 wd, .slice o len cap], .int .u64 (n : Nat)] W1 fun e W2 => ∃ T u, e = .returned (.iface T u) ∧ Calls Try.prog 23 #[.pointer (some ⟨m, 0, none⟩), .int .u64 ((a / 8 : Nat) : Int), .int .u64 (((a + b) / 8 : Nat) : Int), .iface T u] W2 fun e W3 => e = .returned (.tuple #[]) ∧ R (.returned (.int .i64 0)) W3 from fun W1 hb1 => by
          refine (formOf_any (hX.below hb1) hln.1 hln.2 (a / 8) n (by omega) wd).mono ?_
          rintro e W2 ⟨T, u, g, fb, rfl, hf, hg, hfb, hb2⟩
          refine ⟨T, u, rfl, ?_⟩
          obtain ⟨t, hm, hft, hF⟩ := h
          have hb02 : Below W.heap.size W W2 := hb1.trans (hb2.mono hb1.size)
          refine (lay_any (hm.below hb02) hf (a / 8) ((a + b) / 8) (by omega) (by omega)).mono ?_
          rintro e W3 ⟨rfl, ls⟩
          refine ⟨rfl, ?_⟩
          rw [hR]
          refine ⟨by rw [ew], ?_⟩
          have := LayS.turn hm hft hF hb02 (fun z hz => Nat.le_trans hb1.size (hfb z hz)) ls
          unfold writeF
          rw [if_pos ew]
          have eg : g = thF (a / 8) len n (cutF X len) := funext hg
          rw [eg] at this
          exact this)
        simp only [hP, hQ, hN] at CFo
        rw [hN]
        clear hN hP hQ hR h hX BAD dq cn ew hWA kb bA r1 r2 r3 r4 r5 cr ct t3 ha hb hn hlim hln
        go_enter Try.func11, Try.ntmps11
        go_upto_region 1 with fail
        rw [HWA.out]
        go_wp2_with fail
        refine CB.out.mono ?_
        rintro e w' ⟨rfl, hw'⟩; rw [hw']; clear hw' w' CB
        go_wp2_with fail
        refine CT.out.mono ?_
        rintro e W1 ⟨rfl, hb1⟩
        have CF1 := hide (CFo.out W1 (HB.out.trans (hb1.mono HB.out.size)))
        have kb1 := KB.out W1 hb1
        have a0' := kb1.cell 0 _ rfl
        have a1' := kb1.cell 1 _ rfl
        clear a0 a1 kb1 hb1 CT CFo KB
        go_wp2_with fail
        refine (CO.out _).mono ?_
        rintro e w' ⟨rfl, hw'⟩; rw [hw']; clear hw' w' CO
        go_wp2_with fail
        refine CF1.out.mono ?_
        rintro e W2 ⟨T, u, rfl, CL⟩
        have HCL := hide CL
        clear CL CF1 a0' a1'
        go_wp2_with fail
        refine HCL.out.mono ?_
        rintro e W3 ⟨rfl, r3⟩
        have HR := hide r3
        clear r3 HCL
        go_wp2_with fail
        first | exact HR.out | (go_ret; exact HR.out)
    · rw [decide_eq_false ct] at CT
      have ew : writeE a b wd len n = 1 := by unfold writeE; rw [if_neg (fun h => ct h.2)]
      have FF := hide (fun W' hb => BAD.out W' hb (by rw [ew]; decide))
      rw [ew] at FF
      rw [hN]
      clear hN hR h hX BAD ew hWA kb bA cr ct ha hb hn
      go_enter Try.func11, Try.ntmps11
      go_upto_region 1 with fail
      rw [HWA.out]
      go_wp2_with fail
      refine CB.out.mono ?_
      rintro e w' ⟨rfl, hw'⟩; rw [hw']; clear hw' w' CB
      go_wp2_with fail
      refine CT.out.mono ?_
      rintro e W1 ⟨rfl, hb1⟩
      have F1 := hide (FF.out W1 (HB.out.trans (hb1.mono HB.out.size)))
      clear hb1 CT FF
      go_wp2_with fail
      first | exact F1.out | (go_ret; exact F1.out)
  · rw [decide_eq_false cr] at CB
    have ew : writeE a b wd len n = 1 := by unfold writeE; rw [if_neg (fun h => cr h.1)]
    have FF := hide (fun W' hb => BAD.out W' hb (by rw [ew]; decide))
    rw [ew] at FF
    rw [hN]
    clear hN hR h hX BAD ew hWA kb bA cr ha hb hn
    go_enter Try.func11, Try.ntmps11
    go_upto_region 1 with fail
    rw [HWA.out]
    go_wp2_with fail
    refine CB.out.mono ?_
    rintro e w' ⟨rfl, hw'⟩; rw [hw']; clear hw' w' CB
    have F1 := hide (FF.out WA HB.out)
    clear FF
    go_wp2_with fail
    first | exact F1.out | (go_ret; exact F1.out)
def clearE (a b : Nat) : Int := if Right a b then 0 else 1
def clearF (f : Nat → Bool) (a b : Nat) : Nat → Bool := if Right a b then layF a b (fun _ => false) f else f
set_option maxRecDepth 100000 in
theorem clear_any (h : (tMk m f).P W F) (a b : Nat) (ha : a < 18446744073709551616) (hb : b < 18446744073709551616) :
    Calls Try.prog 14 #[.pointer (some ⟨m, 0, none⟩), .int .u64 (a : Nat), .int .u64 (b : Nat)] W fun e W' => e = .returned (.int .i64 (clearE a b)) ∧ Turn m (clearF f a b) W W' F := by
  obtain ⟨R, hR⟩ : ∃ R : Ending → World → Prop, R = fun e W' => e = .returned (.int .i64 (clearE a b)) ∧ Turn m (clearF f a b) W W' F := ⟨_, rfl⟩
  rw [← hR]
  have CB := hide (rightBlock_any a b ha hb W)
  by_cases cr : Right a b
  · rw [decide_eq_true cr] at CB
    have CO := hide (wordsOf_any a b cr W)
    have CL := hide (show Calls Try.prog 23 #[.pointer (some ⟨m, 0, none⟩), .int .u64 ((a / 8 : Nat) : Int), .int .u64 (((a + b) / 8 : Nat) : Int), .iface 65 (.agg #[])] W fun e W3 => e = .returned (.tuple #[]) ∧ R (.returned (.int .i64 0)) W3 from by
      obtain ⟨t, hm, hft, hF⟩ := h
      obtain ⟨r1, r2, r3, r4, r5⟩ := id cr
      refine (lay_any hm .none (a / 8) ((a + b) / 8) (by omega) (by omega)).mono ?_
      rintro e W3 ⟨rfl, ls⟩
      refine ⟨rfl, ?_⟩
      rw [hR]
      unfold clearE clearF
      rw [if_pos cr, if_pos cr]
      exact ⟨rfl, LayS.turn hm hft hF (Below.refl _ _) (fun z hz => by cases hz) ls⟩)
    obtain ⟨P, hP⟩ : ∃ X : Int, ((a / 8 : Nat) : Int) = X := ⟨_, rfl⟩
    obtain ⟨Q, hQ⟩ : ∃ X : Int, (((a + b) / 8 : Nat) : Int) = X := ⟨_, rfl⟩
    rw [hP, hQ] at CO CL
    clear hP hQ hR h cr ha hb
    go_enter Try.func14, Try.ntmps14
    go_wp2_with fail
    refine CB.out.mono ?_
    rintro e w' ⟨rfl, hw'⟩; rw [hw']; clear hw' w' CB
    go_wp2_with fail
    refine CO.out.mono ?_
    rintro e w' ⟨rfl, hw'⟩; rw [hw']; clear hw' w' CO
    go_wp2_with fail
    refine CL.out.mono ?_
    rintro e W3 ⟨rfl, r3⟩
    have HR := hide r3
    clear r3 CL
    go_wp2_with fail
    first | exact HR.out | (go_ret; exact HR.out)
  · rw [decide_eq_false cr] at CB
    have FF := hide (show R (.returned (.int .i64 1)) W from by rw [hR]; unfold clearE clearF; rw [if_neg cr, if_neg cr]; exact ⟨rfl, Turn.same h (Below.refl _ _)⟩)
    clear hR h cr ha hb
    go_enter Try.func14, Try.ntmps14
    go_wp2_with fail
    refine CB.out.mono ?_
    rintro e w' ⟨rfl, hw'⟩; rw [hw']; clear hw' w' CB
    go_wp2_with fail
    first | exact FF.out | (go_ret; exact FF.out)
def pointsV (f : Nat → Bool) (a b : Nat) : Nat := if Right a b then cnt f (a / 8) (b / 8) else 0
set_option maxRecDepth 100000 in
theorem pointers_all (h : (tMk m f).P W F) (a b : Nat) (ha : a < 18446744073709551616) (hb : b < 18446744073709551616) :
    Calls Try.prog 13 #[.pointer (some ⟨m, 0, none⟩), .int .u64 (a : Nat), .int .u64 (b : Nat)] W fun e W' => e = .returned (.tuple #[.int .u64 (pointsV f a b : Nat), .int .i64 (clearE a b)]) ∧ Below W.heap.size W W' := by
  obtain ⟨R, hR⟩ : ∃ R : Ending → World → Prop, R = fun e W' => e = .returned (.tuple #[.int .u64 (pointsV f a b : Nat), .int .i64 (clearE a b)]) ∧ Below W.heap.size W W' := ⟨_, rfl⟩
  rw [← hR]
  have CB := hide (rightBlock_any a b ha hb W)
  by_cases cr : Right a b
  · rw [decide_eq_true cr] at CB
    have CO := hide (wordsOf_any a b cr W)
    obtain ⟨t, hm, hft, hF⟩ := h
    obtain ⟨r1, r2, r3, r4, r5⟩ := id cr
    have ef : fnOf t.list = f := funext hft
    have q1 : (a + b) / 8 ≤ 35184372088832 := by omega
    have q2 : a / 8 ≤ 35184372088832 := by omega
    obtain ⟨qt, hqt⟩ := t.ptr_form
    have c0 : W.cell? ⟨m, 0, none⟩ = some t.ptr := hm.bk.cell 0 _ rfl
    have CA := hide (show ∀ W1 x, Below W.heap.size W W1 → x ≤ 35184372088832 → Calls Try.prog 27 #[t.ptr, .int .u64 (x : Nat)] W1 fun e W' => e = .returned (.int .u64 (cto f x : Nat)) ∧ Below W1.heap.size W1 W' from fun W1 x hb hx => by
      have := pahead_any (hm.below hb).ok x hx
      rw [ef] at this
      exact this)
    have CC := hide (show ∀ W1, Below W.heap.size W W1 → W1.cell? ⟨m, 0, none⟩ = some t.ptr from fun W1 hb => (hm.below hb).bk.cell 0 _ rfl)
    rw [hqt] at c0
    simp only [hqt] at CA CC
    have hm1 := cto_mono f (show a / 8 ≤ (a + b) / 8 by omega)
    have hl1 := cto_le f ((a + b) / 8)
    have hv : pointsV f a b = cto f ((a + b) / 8) - cto f (a / 8) := by
      unfold pointsV
      rw [if_pos cr, ← cnt_cto f (show a / 8 ≤ (a + b) / 8 by omega)]
      congr 1; omega
    have C1 := hide (CA.out W.drew _ (drew_below W) q1)
    have C2 := hide (fun W1 hb => CA.out W1 _ hb q2)
    obtain ⟨P, hP⟩ : ∃ X : Int, ((a / 8 : Nat) : Int) = X := ⟨_, rfl⟩
    obtain ⟨Q, hQ⟩ : ∃ X : Int, (((a + b) / 8 : Nat) : Int) = X := ⟨_, rfl⟩
    obtain ⟨V1, hV1⟩ : ∃ X : Int, ((cto f (a / 8) : Nat) : Int) = X := ⟨_, rfl⟩
    obtain ⟨V2, hV2⟩ : ∃ X : Int, ((cto f ((a + b) / 8) : Nat) : Int) = X := ⟨_, rfl⟩
    have FF := hide (show ∀ W', Below W.heap.size W W' → R (.returned (.tuple #[.int .u64 (V2 - V1), .int .i64 0])) W' from fun W' hb => by
      rw [hR]
      refine ⟨?_, hb⟩
      rw [hv, Int.natCast_sub hm1, hV1, hV2]
      unfold clearE
      rw [if_pos cr])
    have v0 : 0 ≤ V1 := by omega
    have v1 : V1 ≤ V2 := by omega
    have v2 : V2 ≤ 35184372088832 := by omega
    have sw : IntKind.u64.wrap (V2 - V1) = V2 - V1 := by rw [IntKind.wrap_u64]; omega
    have HD := hide (drew_below W)
    rw [hP, hQ] at CO
    rw [hQ, hV2] at C1
    simp only [hP, hV1] at C2
    clear hP hQ hR hV1 hV2 hm hft hF r1 r2 r3 r4 r5 cr ha hb hqt q1 q2 hm1 hl1 hv ef CA
    go_enter Try.func13, Try.ntmps13
    go_wp2_with fail
    refine CB.out.mono ?_
    rintro e w' ⟨rfl, hw'⟩; rw [hw']; clear hw' w' CB
    go_wp2_with fail
    refine CO.out.mono ?_
    rintro e w' ⟨rfl, hw'⟩; rw [hw']; clear hw' w' CO
    go_wp2_with fail
    go_region_held3 (fun w' => w'.cell? ⟨m, 0, none⟩ = some (.pointer qt)) (first | (go_keep; done)) (first
      | (go_at_call 27; refine C1.out.mono ?_; rintro e W1 ⟨rfl, k1⟩; have K1 := hide (HD.out.trans (k1.mono HD.out.size)); have c1 := CC.out W1 K1.out; have C3 := hide (C2.out W1 K1.out); clear k1 C1 C2 c0)
      | (go_at_call 27; refine C3.out.mono ?_; rintro e W2 ⟨rfl, k2⟩; have K2 := hide (K1.out.trans (k2.mono K1.out.size)); have c2 := CC.out W2 K2.out; clear k2 C3 c1))
    have F2 := hide (FF.out _ K2.out)
    clear FF
    go_wp2_with fail
    first | exact F2.out | (go_ret2; exact F2.out)
  · rw [decide_eq_false cr] at CB
    have FF := hide (show R (.returned (.tuple #[.int .u64 0, .int .i64 1])) W from by rw [hR]; unfold clearE pointsV; rw [if_neg cr, if_neg cr]; exact ⟨rfl, Below.refl _ _⟩)
    clear hR h cr ha hb
    go_enter Try.func13, Try.ntmps13
    go_wp2_with fail
    refine CB.out.mono ?_
    rintro e w' ⟨rfl, hw'⟩; rw [hw']; clear hw' w' CB
    go_wp2_with fail
    first | exact FF.out | (go_ret2; exact FF.out)
end
end Go.Proofs.Ytnhllnepnpmegaa

/- Package masks: Read: contract. -/
namespace Go.Proofs.Ytnhllnepnpmegaa
open Go.ChangeShapes Go.WideShapes Go.ChangeAt Go.RowKit Go.Shelf Go.Proofs.Rx Go.Maps Go.Proofs.Bt
set_option linter.unusedVariables false
set_option linter.unusedSimpArgs false

attribute [local go_sem] Oper.semAt_some

/-- A row is made, its length a uint64. -/
theorem make_boolsU (W : World) (L : Nat) (hL : L ≤ 1000000) : ∃ W', (Instr.makeSlice 32 (.int .u64 (L : Nat)) (.int .u64 (L : Nat))).run Try.prog W = .ok (.slice (some ⟨W.heap.size, 0, none⟩) L L) W' ∧ Vec W' W.heap.size L 4 (fun _ => .bool false) ∧ Below W.heap.size W W' ∧ W'.heap.size = W.heap.size + 1 := by
  obtain ⟨i0, hi0, hz0, hz1, hz2⟩ := info_parts infoB
  have hr := run_make (P := Try.prog) W 32 4 i0 _ Try.underlying32 hi0 hz0 .u64 .u64 (L : Nat) (L : Nat) (by omega) (by omega) (by rw [hz2]; omega) (by omega)
  rw [Int.toNat_natCast, hz1, Nat.mul_one] at hr
  refine ⟨_, hr, ⟨_, World.alloc_heap_new W _, ?_, fun k hk => ?_⟩, below_alloc W _, by simp⟩
  · simp [madeCells, Value.cells]
  · simp [madeCells, Value.cells, hk, Nat.mod_one]
def readE (a b : Nat) : Int := if Right a b then (if 1048576 < b then 2 else 0) else 1
/-- The list that Read answers. -/
def ReadV (f : Nat → Bool) (a b : Nat) (W W' : World) (v : Value) : Prop := if readE a b = 0 then ∃ U, v = .slice (some ⟨U, 0, none⟩) (b / 8) (b / 8) ∧ W.heap.size ≤ U ∧ Vec W' U (b / 8) 4 (fun k => .bool (f (a / 8 + k))) else v = .slice none 0 0
/-- The list so far. -/
structure RdS (W wr : World) (U p L : Nat) (f : Nat → Bool) (y : Nat) : Prop where
  row : Vec wr U L 4 (fun k => .bool (decide (p + k < y) && f (p + k)))
  be : Below W.heap.size W wr
theorem RdS.same {W wr : World} {U p L : Nat} {f : Nat → Bool} {y z : Nat} (h : RdS W wr U p L f y) (e : ∀ k, k < L → (p + k < y ↔ p + k < z)) : RdS W wr U p L f z := ⟨h.row.congr fun k hk => by rw [show decide (p + k < y) = decide (p + k < z) from by rw [decide_eq_decide]; exact e k hk], h.be⟩
theorem RdS.below {W wr w1 : World} {U p L : Nat} {f : Nat → Bool} {y : Nat} (h : RdS W wr U p L f y) (k : Below wr.heap.size wr w1) : RdS W w1 U p L f y := ⟨h.row.below k, h.be.trans (k.mono h.be.size)⟩
theorem RdS.next {W wr : World} {U p L : Nat} {f : Nat → Bool} {y : Nat} (h : RdS W wr U p L f y) (hp : p ≤ y) (hy : y < p + L) (hU : W.heap.size ≤ U) : RdS W (wr.setCell ⟨U, y - p, none⟩ (.bool (f y))) U p L f (y + 1) := by
  refine ⟨(h.row.set (y - p) (by omega) _).congr fun k hk => ?_, h.be.trans ((kept_set (F := fun z => z = U) wr U _ _ rfl).below h.be.size (fun z hz => by rw [hz]; exact hU))⟩
  by_cases e : k = y - p
  · rw [if_pos e, show p + k = y by omega, decide_eq_true (by omega)]; rfl
  · rw [if_neg e, show decide (p + k < y) = decide (p + k < y + 1) from by rw [decide_eq_decide]; omega]
set_option maxRecDepth 100000 in
set_option maxHeartbeats 2000000 in
theorem read_any {W : World} {m : Nat} {f : Nat → Bool} {F : Nat → Prop} (h : (tMk m f).P W F) (a b : Nat) (ha : a < 18446744073709551616) (hb : b < 18446744073709551616) :
    Calls Try.prog 12 #[.pointer (some ⟨m, 0, none⟩), .int .u64 (a : Nat), .int .u64 (b : Nat)] W fun e W' => (∃ v, e = .returned (.tuple #[v, .int .i64 (readE a b)]) ∧ ReadV f a b W W' v) ∧ Below W.heap.size W W' := by
  obtain ⟨R, hR⟩ : ∃ R : Ending → World → Prop, R = fun e W' => (∃ v, e = .returned (.tuple #[v, .int .i64 (readE a b)]) ∧ ReadV f a b W W' v) ∧ Below W.heap.size W W' := ⟨_, rfl⟩
  rw [← hR]
  have CB := hide (rightBlock_any a b ha hb W)
  by_cases cr : Right a b
  · rw [decide_eq_true cr] at CB
    by_cases cl : 1048576 < b
    · have FF := hide (show R (.returned (.tuple #[.slice none 0 0, .int .i64 2])) W from by
        rw [hR]
        have e : readE a b = 2 := by unfold readE; rw [if_pos cr, if_pos cl]
        refine ⟨⟨_, by rw [e], ?_⟩, Below.refl _ _⟩
        unfold ReadV
        rw [if_neg (by rw [e]; decide)])
      obtain ⟨B, hB⟩ : ∃ X : Int, (b : Int) = X := ⟨_, rfl⟩
      have d : decide (1048576 < B) = true := decide_eq_true (by omega)
      rw [hB] at CB ⊢
      clear hR h cr ha hb hB cl
      go_enter Try.func12, Try.ntmps12
      go_wp2_with fail
      refine CB.out.mono ?_
      rintro e w' ⟨rfl, hw'⟩; rw [hw']; clear hw' w' CB
      go_wp2_with fail
      first | exact FF.out | (go_ret2; exact FF.out)
    · have CO := hide (wordsOf_any a b cr W)
      obtain ⟨t, hm, hft, hF⟩ := h
      obtain ⟨r1, r2, r3, r4, r5⟩ := id cr
      have ef : fnOf t.list = f := funext hft
      obtain ⟨p, hp⟩ : ∃ p, a / 8 = p := ⟨_, rfl⟩
      obtain ⟨en, hen⟩ : ∃ p, (a + b) / 8 = p := ⟨_, rfl⟩
      obtain ⟨L, hL⟩ : ∃ p, b / 8 = p := ⟨_, rfl⟩
      rw [hp, hen] at CO
      have g0 : en = p + L := by omega
      have g1 : en ≤ 35184372088832 := by omega
      have g2 : L ≤ 131072 := by omega
      have g3 : 1 ≤ L := by omega
      have FF := hide (show ∀ U W', W.heap.size ≤ U → RdS W W' U p L f en → R (.returned (.tuple #[.slice (some ⟨U, 0, none⟩) L L, .int .i64 0])) W' from fun U W' hU hs => by
        rw [hR]
        have e : readE a b = 0 := by unfold readE; rw [if_pos cr, if_neg cl]
        refine ⟨⟨_, by rw [e], ?_⟩, hs.be⟩
        unfold ReadV
        rw [if_pos e, hL, hp]
        exact ⟨U, rfl, hU, hs.row.congr fun k hk => by rw [decide_eq_true (by omega), Bool.true_and]⟩)
      obtain ⟨WL, rl, vl, bl, sl⟩ := make_boolsU W L (by omega)
      have RL := hide rl
      have S0 := hide (show ∀ y, y ≤ p → RdS W WL W.heap.size p L f y from fun y hy => ⟨vl.congr fun k hk => by rw [decide_eq_false (by omega)]; rfl, bl⟩)
      obtain ⟨qt, hqt⟩ := t.ptr_form
      have CF := hide (show ∀ (k : Nat) (W1 : World), Below W.heap.size W W1 → 64 * k < en → ∀ AT : Int, ((64 * k : Nat) : Int) = AT → Calls Try.prog 26 #[.pointer qt, .int .u64 AT] W1 fun e W2 => ∃ T u, e = .returned (.iface T u) ∧ W2 = W1 ∧ (∀ w, (method 212 T u "mallow/masks.strip").run Try.prog w = .ok (ks T, u) w) ∧ (∀ args w, (callFunc (ks T) args).run Try.prog w = .ok (.enter (ks T) args) w) ∧
          Calls Try.prog (ks T) #[u, .int .u64 AT] W1 fun e W2 => e = .returned (.int .u64 (wd (fun j => f (64 * k + j)) 64 : Nat)) ∧ Below W1.heap.size W1 W2 from fun k W1 hb hk AT hAT => by
        have := formAt_any (hm.below hb).ok (64 * k) (by omega)
        rw [hqt, hAT] at this
        refine this.mono ?_
        rintro e W2 ⟨⟨T, u, g, fb, rfl, hf, hs, -⟩, rfl⟩
        obtain ⟨-, hm1, he1⟩ := form_meth hf
        refine ⟨T, u, rfl, rfl, hm1, he1, ?_⟩
        have C := form_strip hf k (by omega)
        have e : wd (fun j => g (64 * k + j)) 64 = wd (fun j => f (64 * k + j)) 64 := wd_congr fun j hj => by rw [hs _ (by omega), ef]
        rw [e, hAT] at C
        exact C)
      have CM := hide (show ∀ W1, Below W.heap.size W W1 → W1.cell? ⟨m, 0, none⟩ = some (.pointer qt) from fun W1 hb => by rw [← hqt]; exact (hm.below hb).bk.cell 0 _ rfl)
      have CS := hide (fun w => stripOf_any p (by omega) w)
      obtain ⟨B, hB⟩ : ∃ X : Int, (b : Int) = X := ⟨_, rfl⟩
      have d : decide (1048576 < B) = false := decide_eq_false (by omega)
      rw [hB] at CB CO ⊢
      obtain ⟨P, hP⟩ : ∃ X : Int, (p : Int) = X := ⟨_, rfl⟩
      obtain ⟨EN, hEN⟩ : ∃ X : Int, (en : Int) = X := ⟨_, rfl⟩
      rw [hP, hEN] at CO
      simp only [hP] at CS
      have e1 : EN - P = (L : Int) := by omega
      have p0 : 0 ≤ P := by omega
      have p1 : P ≤ EN := by omega
      have p2 : EN ≤ 35184372088832 := by omega
      have HI := hide (And.intro hP (And.intro hEN (And.intro g0 (And.intro g2 g3))))
      have l0 : (0 : Int) ≤ (L : Int) := by omega
      have l1 : (L : Int) ≤ 131072 := by omega
      clear hR cr ha hb hB cl hm hft hF r1 r2 r3 r4 r5 ef hp hen hL hqt vl bl sl g0 g1 g2 g3 hP hEN
      go_enter Try.func12, Try.ntmps12
      go_wp2_with fail
      refine CB.out.mono ?_
      rintro e w' ⟨rfl, hw'⟩; rw [hw']; clear hw' w' CB
      go_wp2_with fail
      refine CO.out.mono ?_
      rintro e w' ⟨rfl, hw'⟩; rw [hw']; clear hw' w' CO
      go_wp2_with fail
      refine (CS.out _).mono ?_
      rintro e w' ⟨rfl, hw'⟩; rw [hw']; clear hw' w' CS
      obtain ⟨U, hU⟩ : ∃ U, W.heap.size = U := ⟨_, rfl⟩
      have HU := hide (show W.heap.size ≤ U by omega)
      rw [hU] at S0 ⊢
      clear rl RL hU
      go_wp2_with fail
      go_loopw [11, 12, 13] (fun va vs vw wr => ∃ k : Nat, va = .int .u64 ((64 * k : Nat) : Int) ∧ 64 * k < en + 64 ∧ p / 64 ≤ k ∧ Hid (RdS W wr U p L f (64 * k))) (fun va _ _ _ => en + 64 - (zi va).toNat)
      case atStart => exact ⟨p / 64, rfl, by have := HI.out; omega, Nat.le_refl _, hide (S0.out _ (by omega))⟩
      case round =>
        clear S0
        obtain ⟨k, rfl, hk, hk2, HS⟩ := hrel
        by_cases c : 64 * k < en
        · obtain ⟨AT, hA⟩ : ∃ C : Int, ((64 * k : Nat) : Int) = C := ⟨_, rfl⟩
          have d1 : decide (AT < EN) = true := decide_eq_true (by have := HI.out; omega)
          have c0 := CM.out wr HS.out.be
          have CF1 := hide (CF.out k wr HS.out.be c AT hA)
          have a0 : 0 ≤ AT := by omega
          have a1 : AT < 35184372088832 := by have := HI.out; omega
          have HA := hide hA
          have HK := hide (And.intro hk2 c)
          rw [hA]
          clear hA hk hk2 c
          go_wp2_with fail
          refine CF1.out.mono ?_
          rintro e w' ⟨T, u, rfl, hw', hm1, he1, CK⟩; rw [hw']; clear hw' w' CF1
          have HCK := hide CK
          obtain ⟨K, hK⟩ : ∃ K, ks T = K := ⟨_, rfl⟩
          rw [hK] at HCK hm1 he1
          clear CK hK
          go_wp2_with fail
          refine HCK.out.mono ?_
          rintro e w2 ⟨rfl, k2⟩
          have HS2 := hide (HS.out.below k2)
          have lt := wd_lt (fun j => f (64 * k + j)) (Nat.le_refl 64)
          have BV := hide (show ∀ r, r < 64 → (bits .and .u64 ((wd (fun j => f (64 * k + j)) 64 : Nat) / 2 ^ r : Int) 1 == 1) = f (64 * k + r) from fun r hr => by
            rw [bit_val _ _ lt, wd_bit, decide_eq_true hr]; rfl)
          generalize wd (fun j => f (64 * k + j)) 64 = N at *
          obtain ⟨NV, hNV⟩ : ∃ C : Int, (N : Int) = C := ⟨_, rfl⟩
          rw [hNV] at BV ⊢
          have n0 : 0 ≤ NV := by omega
          have n1 : NV < 18446744073709551616 := by omega
          clear hNV
          clear k2 HCK HS c0 lt hm1 he1
          by_cases c64 : 64 * k + 64 ≤ en
          · have u0 : AT + 64 ≤ EN := by have := HI.out; have := HA.out; omega
            by_cases cm : 64 * k < p
            · have u1 : AT < P := by have := HI.out; have := HA.out; omega
              have HC64 := hide c64
              have HCM := hide cm
              clear c64 cm
              go_wp2_with fail
              clear u1
              go_loopw [13] (fun vy wr => ∃ y : Nat, vy = .int .u64 (y : Nat) ∧ p ≤ y ∧ 64 * k ≤ y ∧ y ≤ 64 * k + 64 ∧ Hid (RdS W wr U p L f y)) (fun vy _ => 64 * k + 64 - (zi vy).toNat)
              case atStart => exact ⟨p, by rw [HI.out.1], by have := HCM.out; omega, by have := HCM.out; omega, by have := HI.out; have := HK.out; have := HC64.out; have := HCM.out; omega, hide (HS2.out.same fun j hj => by have := HCM.out; omega)⟩
              case round =>
                obtain ⟨y, rfl, y1, y2, y3, HQ⟩ := hrel
                obtain ⟨Y, hY⟩ : ∃ Y : Int, (y : Int) = Y := ⟨_, rfl⟩
                rw [hY]
                by_cases cy : y < 64 * k + 64
                · have dy : decide (Y < AT + 64) = true := decide_eq_true (by have := HI.out; have := HA.out; omega)
                  obtain ⟨r, hr⟩ : ∃ r, y - 64 * k = r := ⟨_, rfl⟩
                  obtain ⟨q, hq⟩ : ∃ r, y - p = r := ⟨_, rfl⟩
                  have r64 : r < 64 := by have := HK.out; have := HC64.out; omega
                  have tn : (Y - AT).toNat = r := by have := HA.out; omega
                  have tq : Y - P = (q : Int) := by have := HI.out; omega
                  have q0 : (0 : Int) ≤ (q : Int) := by omega
                  have q1 : (q : Int) < (L : Int) := by have := HI.out; omega
                  have q2 : q < L := by omega
                  have y4 : AT ≤ Y := by have := HA.out; omega
                  have y5 : P ≤ Y := by have := HI.out; omega
                  have y6 : Y < 35184372088832 := by have := HI.out; omega
                  have bv := BV.out r r64
                  rw [show 64 * k + r = y by omega] at bv
                  have z1 := HQ.out.row.cell q q2
                  have z2 := HQ.out.row.fz q
                  have NX := hide (HQ.out.next y1 (by have := HI.out; omega) HU.out)
                  rw [hq] at NX
                  have HY := hide hY
                  have yb := y3
                  have HYB := hide (And.intro y1 (And.intro y2 cy))
                  clear hY hr hq y1 y2 y3 cy HQ yb
                  generalize f y = fy at *
                  go_wp2_with fail
                  exact ⟨⟨y + 1, by rw [Int.natCast_add, HY.out]; rfl, by have := HYB.out; omega, by have := HYB.out; omega, by have := HYB.out; omega, NX⟩, by have := HY.out; have := HYB.out; simp [zi]; omega⟩
                · have dy : decide (Y < AT + 64) = false := decide_eq_false (by have := HI.out; have := HA.out; omega)
                  have NX := hide (show RdS W wr U p L f (64 * (k + 1)) from HQ.out.same fun j hj => by have := HI.out; have := HC64.out; omega)
                  have yl : Y ≤ 35184372088896 := by have := HI.out; have := HA.out; omega
                  clear hY y1 y2 y3 cy HQ
                  go_wp2_with fail
                  exact ⟨⟨k + 1, by rw [show 64 * (k + 1) = 64 * k + 64 by omega, Int.natCast_add, HA.out]; rfl, by have := HK.out; omega, by have := HK.out; omega, NX⟩, by have := HA.out; have := HK.out; simp [zi]; omega⟩
            · have u1 : P ≤ AT := by have := HI.out; have := HA.out; omega
              have HC64 := hide c64
              have HCM := hide cm
              clear c64 cm
              go_wp2_with fail
              clear u1
              go_loopw [13] (fun vy wr => ∃ y : Nat, vy = .int .u64 (y : Nat) ∧ p ≤ y ∧ 64 * k ≤ y ∧ y ≤ 64 * k + 64 ∧ Hid (RdS W wr U p L f y)) (fun vy _ => 64 * k + 64 - (zi vy).toNat)
              case atStart => exact ⟨64 * k, by rw [HA.out], by have := HCM.out; omega, by have := HCM.out; omega, by have := HI.out; have := HK.out; have := HC64.out; have := HCM.out; omega, hide (HS2.out.same fun j hj => by have := HCM.out; omega)⟩
              case round =>
                obtain ⟨y, rfl, y1, y2, y3, HQ⟩ := hrel
                obtain ⟨Y, hY⟩ : ∃ Y : Int, (y : Int) = Y := ⟨_, rfl⟩
                rw [hY]
                by_cases cy : y < 64 * k + 64
                · have dy : decide (Y < AT + 64) = true := decide_eq_true (by have := HI.out; have := HA.out; omega)
                  obtain ⟨r, hr⟩ : ∃ r, y - 64 * k = r := ⟨_, rfl⟩
                  obtain ⟨q, hq⟩ : ∃ r, y - p = r := ⟨_, rfl⟩
                  have r64 : r < 64 := by have := HK.out; have := HC64.out; omega
                  have tn : (Y - AT).toNat = r := by have := HA.out; omega
                  have tq : Y - P = (q : Int) := by have := HI.out; omega
                  have q0 : (0 : Int) ≤ (q : Int) := by omega
                  have q1 : (q : Int) < (L : Int) := by have := HI.out; omega
                  have q2 : q < L := by omega
                  have y4 : AT ≤ Y := by have := HA.out; omega
                  have y5 : P ≤ Y := by have := HI.out; omega
                  have y6 : Y < 35184372088832 := by have := HI.out; omega
                  have bv := BV.out r r64
                  rw [show 64 * k + r = y by omega] at bv
                  have z1 := HQ.out.row.cell q q2
                  have z2 := HQ.out.row.fz q
                  have NX := hide (HQ.out.next y1 (by have := HI.out; omega) HU.out)
                  rw [hq] at NX
                  have HY := hide hY
                  have yb := y3
                  have HYB := hide (And.intro y1 (And.intro y2 cy))
                  clear hY hr hq y1 y2 y3 cy HQ yb
                  generalize f y = fy at *
                  go_wp2_with fail
                  exact ⟨⟨y + 1, by rw [Int.natCast_add, HY.out]; rfl, by have := HYB.out; omega, by have := HYB.out; omega, by have := HYB.out; omega, NX⟩, by have := HY.out; have := HYB.out; simp [zi]; omega⟩
                · have dy : decide (Y < AT + 64) = false := decide_eq_false (by have := HI.out; have := HA.out; omega)
                  have NX := hide (show RdS W wr U p L f (64 * (k + 1)) from HQ.out.same fun j hj => by have := HI.out; have := HC64.out; omega)
                  have yl : Y ≤ 35184372088896 := by have := HI.out; have := HA.out; omega
                  clear hY y1 y2 y3 cy HQ
                  go_wp2_with fail
                  exact ⟨⟨k + 1, by rw [show 64 * (k + 1) = 64 * k + 64 by omega, Int.natCast_add, HA.out]; rfl, by have := HK.out; omega, by have := HK.out; omega, NX⟩, by have := HA.out; have := HK.out; simp [zi]; omega⟩
          · have u0 : EN < AT + 64 := by have := HI.out; have := HA.out; omega
            by_cases cm : 64 * k < p
            · have u1 : AT < P := by have := HI.out; have := HA.out; omega
              have HC64 := hide c64
              have HCM := hide cm
              clear c64 cm
              go_wp2_with fail
              clear u1
              go_loopw [13] (fun vy wr => ∃ y : Nat, vy = .int .u64 (y : Nat) ∧ p ≤ y ∧ 64 * k ≤ y ∧ y ≤ en ∧ Hid (RdS W wr U p L f y)) (fun vy _ => en - (zi vy).toNat)
              case atStart => exact ⟨p, by rw [HI.out.1], by have := HCM.out; omega, by have := HCM.out; omega, by have := HI.out; have := HK.out; have := HC64.out; have := HCM.out; omega, hide (HS2.out.same fun j hj => by have := HCM.out; omega)⟩
              case round =>
                obtain ⟨y, rfl, y1, y2, y3, HQ⟩ := hrel
                obtain ⟨Y, hY⟩ : ∃ Y : Int, (y : Int) = Y := ⟨_, rfl⟩
                rw [hY]
                by_cases cy : y < en
                · have dy : decide (Y < EN) = true := decide_eq_true (by have := HI.out; have := HA.out; omega)
                  obtain ⟨r, hr⟩ : ∃ r, y - 64 * k = r := ⟨_, rfl⟩
                  obtain ⟨q, hq⟩ : ∃ r, y - p = r := ⟨_, rfl⟩
                  have r64 : r < 64 := by have := HK.out; have := HC64.out; omega
                  have tn : (Y - AT).toNat = r := by have := HA.out; omega
                  have tq : Y - P = (q : Int) := by have := HI.out; omega
                  have q0 : (0 : Int) ≤ (q : Int) := by omega
                  have q1 : (q : Int) < (L : Int) := by have := HI.out; omega
                  have q2 : q < L := by omega
                  have y4 : AT ≤ Y := by have := HA.out; omega
                  have y5 : P ≤ Y := by have := HI.out; omega
                  have y6 : Y < 35184372088832 := by have := HI.out; omega
                  have bv := BV.out r r64
                  rw [show 64 * k + r = y by omega] at bv
                  have z1 := HQ.out.row.cell q q2
                  have z2 := HQ.out.row.fz q
                  have NX := hide (HQ.out.next y1 (by have := HI.out; omega) HU.out)
                  rw [hq] at NX
                  have HY := hide hY
                  have yb := y3
                  have HYB := hide (And.intro y1 (And.intro y2 cy))
                  clear hY hr hq y1 y2 y3 cy HQ yb
                  generalize f y = fy at *
                  go_wp2_with fail
                  exact ⟨⟨y + 1, by rw [Int.natCast_add, HY.out]; rfl, by have := HYB.out; omega, by have := HYB.out; omega, by have := HYB.out; omega, NX⟩, by have := HY.out; have := HYB.out; simp [zi]; omega⟩
                · have dy : decide (Y < EN) = false := decide_eq_false (by have := HI.out; have := HA.out; omega)
                  have NX := hide (show RdS W wr U p L f (64 * (k + 1)) from HQ.out.same fun j hj => by have := HI.out; have := HC64.out; omega)
                  have yl : Y ≤ 35184372088896 := by have := HI.out; have := HA.out; omega
                  clear hY y1 y2 y3 cy HQ
                  go_wp2_with fail
                  exact ⟨⟨k + 1, by rw [show 64 * (k + 1) = 64 * k + 64 by omega, Int.natCast_add, HA.out]; rfl, by have := HK.out; omega, by have := HK.out; omega, NX⟩, by have := HA.out; have := HK.out; simp [zi]; omega⟩
            · have u1 : P ≤ AT := by have := HI.out; have := HA.out; omega
              have HC64 := hide c64
              have HCM := hide cm
              clear c64 cm
              go_wp2_with fail
              clear u1
              go_loopw [13] (fun vy wr => ∃ y : Nat, vy = .int .u64 (y : Nat) ∧ p ≤ y ∧ 64 * k ≤ y ∧ y ≤ en ∧ Hid (RdS W wr U p L f y)) (fun vy _ => en - (zi vy).toNat)
              case atStart => exact ⟨64 * k, by rw [HA.out], by have := HCM.out; omega, by have := HCM.out; omega, by have := HI.out; have := HK.out; have := HC64.out; have := HCM.out; omega, hide (HS2.out.same fun j hj => by have := HCM.out; omega)⟩
              case round =>
                obtain ⟨y, rfl, y1, y2, y3, HQ⟩ := hrel
                obtain ⟨Y, hY⟩ : ∃ Y : Int, (y : Int) = Y := ⟨_, rfl⟩
                rw [hY]
                by_cases cy : y < en
                · have dy : decide (Y < EN) = true := decide_eq_true (by have := HI.out; have := HA.out; omega)
                  obtain ⟨r, hr⟩ : ∃ r, y - 64 * k = r := ⟨_, rfl⟩
                  obtain ⟨q, hq⟩ : ∃ r, y - p = r := ⟨_, rfl⟩
                  have r64 : r < 64 := by have := HK.out; have := HC64.out; omega
                  have tn : (Y - AT).toNat = r := by have := HA.out; omega
                  have tq : Y - P = (q : Int) := by have := HI.out; omega
                  have q0 : (0 : Int) ≤ (q : Int) := by omega
                  have q1 : (q : Int) < (L : Int) := by have := HI.out; omega
                  have q2 : q < L := by omega
                  have y4 : AT ≤ Y := by have := HA.out; omega
                  have y5 : P ≤ Y := by have := HI.out; omega
                  have y6 : Y < 35184372088832 := by have := HI.out; omega
                  have bv := BV.out r r64
                  rw [show 64 * k + r = y by omega] at bv
                  have z1 := HQ.out.row.cell q q2
                  have z2 := HQ.out.row.fz q
                  have NX := hide (HQ.out.next y1 (by have := HI.out; omega) HU.out)
                  rw [hq] at NX
                  have HY := hide hY
                  have yb := y3
                  have HYB := hide (And.intro y1 (And.intro y2 cy))
                  clear hY hr hq y1 y2 y3 cy HQ yb
                  generalize f y = fy at *
                  go_wp2_with fail
                  exact ⟨⟨y + 1, by rw [Int.natCast_add, HY.out]; rfl, by have := HYB.out; omega, by have := HYB.out; omega, by have := HYB.out; omega, NX⟩, by have := HY.out; have := HYB.out; simp [zi]; omega⟩
                · have dy : decide (Y < EN) = false := decide_eq_false (by have := HI.out; have := HA.out; omega)
                  have NX := hide (show RdS W wr U p L f (64 * (k + 1)) from HQ.out.same fun j hj => by have := HI.out; have := HC64.out; omega)
                  have yl : Y ≤ 35184372088896 := by have := HI.out; have := HA.out; omega
                  clear hY y1 y2 y3 cy HQ
                  go_wp2_with fail
                  exact ⟨⟨k + 1, by rw [show 64 * (k + 1) = 64 * k + 64 by omega, Int.natCast_add, HA.out]; rfl, by have := HK.out; omega, by have := HK.out; omega, NX⟩, by have := HA.out; have := HK.out; simp [zi]; omega⟩
        · have FQ := hide (FF.out U wr HU.out (HS.out.same fun j hj => by have := HI.out; omega))
          obtain ⟨AT, hA⟩ : ∃ C : Int, ((64 * k : Nat) : Int) = C := ⟨_, rfl⟩
          have d1 : decide (AT < EN) = false := decide_eq_false (by have := HI.out; omega)
          rw [hA]
          clear hA HS FF hk hk2 c
          go_wp2_with fail
          first | exact FQ.out | (go_ret2; exact FQ.out)
  · rw [decide_eq_false cr] at CB
    have FF := hide (show R (.returned (.tuple #[.slice none 0 0, .int .i64 1])) W from by
      rw [hR]
      have e : readE a b = 1 := by unfold readE; rw [if_neg cr]
      refine ⟨⟨_, by rw [e], ?_⟩, Below.refl _ _⟩
      unfold ReadV
      rw [if_neg (by rw [e]; decide)])
    clear hR h cr ha hb
    go_enter Try.func12, Try.ntmps12
    go_wp2_with fail
    refine CB.out.mono ?_
    rintro e w' ⟨rfl, hw'⟩; rw [hw']; clear hw' w' CB
    go_wp2_with fail
    first | exact FF.out | (go_ret2; exact FF.out)
end Go.Proofs.Ytnhllnepnpmegaa
