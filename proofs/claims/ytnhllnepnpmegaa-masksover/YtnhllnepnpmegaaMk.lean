/- Package masks: small calls, and masks as things: New: contracts. -/
import Derived.Test.YtnhllnepnpmegaaLy
import Derived.Test.YtnhllnepnpmegaaSep
namespace Go.Proofs.Ytnhllnepnpmegaa
open Go.ChangeShapes Go.WideShapes Go.ChangeAt Go.RowKit Go.Shelf Go.Proofs.Rx Go.Maps Go.Proofs.Bt
set_option linter.unusedVariables false
set_option linter.unusedSimpArgs false

attribute [local go_sem] Oper.semAt_some

/-- A block that is right. -/
abbrev Right (a b : Nat) : Prop := a % 8 = 0 ∧ b % 8 = 0 ∧ 0 < b ∧ b ≤ 1099511627776 ∧ a + b ≤ 281474976710656
theorem rightBlock_any (a b : Nat) (ha : a < 18446744073709551616) (hb : b < 18446744073709551616) (W : World) :
    Calls Try.prog 20 #[.int .u64 (a : Nat), .int .u64 (b : Nat)] W fun e W' => e = .returned (.bool (decide (Right a b))) ∧ W' = W := by
  obtain ⟨A, hA⟩ : ∃ X : Int, (a : Int) = X := ⟨_, rfl⟩
  obtain ⟨B, hB⟩ : ∃ X : Int, (b : Int) = X := ⟨_, rfl⟩
  obtain ⟨D, hD⟩ : ∃ D, decide (Right a b) = D := ⟨_, rfl⟩
  rw [hA, hB, hD]
  have a0 : 0 ≤ A := by omega
  have a1 : A < 18446744073709551616 := by omega
  have b0 : 0 ≤ B := by omega
  have b1 : B < 18446744073709551616 := by omega
  by_cases c1 : a % 8 = 0
  · have e1 : (A % 8 == 0) = true := by rw [beq_iff_eq]; omega
    by_cases c2 : b % 8 = 0
    · have e2 : (B % 8 == 0) = true := by rw [beq_iff_eq]; omega
      by_cases c3 : 0 < b
      · have e3 : decide (0 < B) = true := decide_eq_true (by omega)
        by_cases c4 : b ≤ 1099511627776
        · have e4 : decide (B ≤ 1099511627776) = true := decide_eq_true (by omega)
          have b2 : B ≤ 1099511627776 := by omega
          have e5 : decide (A ≤ 281474976710656 - B) = D := by
            rw [← hD, decide_eq_decide]
            unfold Right
            omega
          clear hA hB hD c1 c2 c3 c4
          go_enter Try.func20, Try.ntmps20
          go_wp2_with fail
          go_ret
          exact ⟨rfl, rfl⟩
        · have e4 : decide (B ≤ 1099511627776) = false := decide_eq_false (by omega)
          obtain rfl : D = false := by rw [← hD]; exact decide_eq_false (fun h => c4 h.2.2.2.1)
          clear hA hB hD c1 c2 c3 c4
          go_enter Try.func20, Try.ntmps20
          go_wp2_with fail
          go_ret
          exact ⟨rfl, rfl⟩
      · have e3 : decide (0 < B) = false := decide_eq_false (by omega)
        obtain rfl : D = false := by rw [← hD]; exact decide_eq_false (fun h => c3 h.2.2.1)
        clear hA hB hD c1 c2 c3
        go_enter Try.func20, Try.ntmps20
        go_wp2_with fail
        go_ret
        exact ⟨rfl, rfl⟩
    · have e2 : (B % 8 == 0) = false := by rw [beq_eq_false_iff_ne]; omega
      obtain rfl : D = false := by rw [← hD]; exact decide_eq_false (fun h => c2 h.2.1)
      clear hA hB hD c1 c2
      go_enter Try.func20, Try.ntmps20
      go_wp2_with fail
      go_ret
      exact ⟨rfl, rfl⟩
  · have e1 : (A % 8 == 0) = false := by rw [beq_eq_false_iff_ne]; omega
    obtain rfl : D = false := by rw [← hD]; exact decide_eq_false (fun h => c1 h.1)
    clear hA hB hD c1
    go_enter Try.func20, Try.ntmps20
    go_wp2_with fail
    go_ret
    exact ⟨rfl, rfl⟩
/-- A type that is right. -/
abbrev RightT (wd : Int) (len : Nat) : Prop := 1 ≤ wd ∧ wd ≤ 65536 ∧ (len : Int) = wd
theorem rightType_any (wd : Int) (o : Option Addr) (len cap : Nat) (hl : len ≤ 9223372036854775807) (W : World) :
    Calls Try.prog 21 #[.agg #[.int .i64 wd, .slice o len cap]] W fun e W' => e = .returned (.bool (decide (RightT wd len))) ∧ Below W.heap.size W W' := by
  obtain ⟨WA, hWA⟩ : ∃ WA, W.alloc (.cells #[.int .i64 wd, .slice o len cap] 34) = WA := ⟨_, rfl⟩
  have kb : Bk WA W.heap.size 34 #[.int .i64 wd, .slice o len cap] := by rw [← hWA]; exact World.alloc_heap_new W _
  have bA : Below W.heap.size W WA := by rw [← hWA]; exact below_alloc W _
  have a0 := kb.cell 0 _ rfl
  have a1 := kb.cell 1 _ rfl
  have HWA := hide hWA
  have HB := hide bA
  obtain ⟨ab, hab⟩ : ∃ ab, W.heap.size = ab := ⟨_, rfl⟩
  have HAB := hide hab
  rw [hab] at a0 a1 HB ⊢
  obtain ⟨D, hD⟩ : ∃ D, decide (RightT wd len) = D := ⟨_, rfl⟩
  rw [hD]
  clear hWA kb bA hab
  by_cases c1 : 1 ≤ wd
  · have e1 : decide (1 ≤ wd) = true := decide_eq_true c1
    by_cases c2 : wd ≤ 65536
    · have e2 : decide (wd ≤ 65536) = true := decide_eq_true c2
      have e3 : (((len : Nat) : Int) == wd) = D := by
        rw [← hD, Bool.eq_iff_iff, beq_iff_eq, decide_eq_true_eq]
        exact ⟨fun h => ⟨c1, c2, h⟩, fun h => h.2.2⟩
      clear hD c1 c2
      go_enter Try.func21, Try.ntmps21
      go_upto_region 1 with fail
      rw [HWA.out, HAB.out]
      go_wp2_with fail
      go_ret
      exact ⟨rfl, HB.out⟩
    · have e2 : decide (wd ≤ 65536) = false := decide_eq_false c2
      obtain rfl : D = false := by rw [← hD]; exact decide_eq_false (fun h => c2 h.2.1)
      clear hD c1 c2
      go_enter Try.func21, Try.ntmps21
      go_upto_region 1 with fail
      rw [HWA.out, HAB.out]
      go_wp2_with fail
      go_ret
      exact ⟨rfl, HB.out⟩
  · have e1 : decide (1 ≤ wd) = false := decide_eq_false c1
    obtain rfl : D = false := by rw [← hD]; exact decide_eq_false (fun h => c1 h.1)
    clear hD c1
    go_enter Try.func21, Try.ntmps21
    go_upto_region 1 with fail
    rw [HWA.out, HAB.out]
    go_wp2_with fail
    go_ret
    exact ⟨rfl, HB.out⟩
theorem wordsOf_any (a b : Nat) (h : Right a b) (W : World) :
    Calls Try.prog 22 #[.int .u64 (a : Nat), .int .u64 (b : Nat)] W fun e W' => e = .returned (.tuple #[.int .u64 ((a / 8 : Nat) : Int), .int .u64 (((a + b) / 8 : Nat) : Int)]) ∧ W' = W := by
  obtain ⟨_, _, h3, h4, h5⟩ := h
  obtain ⟨P, hP⟩ : ∃ X : Int, ((a / 8 : Nat) : Int) = X := ⟨_, rfl⟩
  obtain ⟨Q, hQ⟩ : ∃ X : Int, (((a + b) / 8 : Nat) : Int) = X := ⟨_, rfl⟩
  rw [hP, hQ]
  obtain ⟨A, hA⟩ : ∃ X : Int, (a : Int) = X := ⟨_, rfl⟩
  obtain ⟨B, hB⟩ : ∃ X : Int, (b : Int) = X := ⟨_, rfl⟩
  rw [hA, hB]
  have t1 : A / 8 = P := by omega
  have t2 : (A + B) / 8 = Q := by omega
  have a0 : 0 ≤ A := by omega
  have a1 : A ≤ 281474976710656 := by omega
  have b0 : 0 ≤ B := by omega
  have b1 : A + B ≤ 281474976710656 := by omega
  have q0 : 0 ≤ P := by omega
  have q1 : P ≤ 281474976710656 := by omega
  have q2 : 0 ≤ Q := by omega
  have q3 : Q ≤ 281474976710656 := by omega
  have HP := hide t1
  have HQ := hide t2
  clear hA hB h3 h4 h5 hP hQ t1 t2
  go_enter Try.func22, Try.ntmps22
  go_wp2_with fail
  go_ret2
  exact ⟨by rw [← HP.out, ← HQ.out]; rfl, rfl⟩
/-! ### Masks as things -/
def mFoot (m : Nat) (t : Tr) (z : Nat) : Prop := z = m ∨ inB t.list z ∨ ∃ x ∈ t.list, z ∈ x.fb
def tMk (m : Nat) (f : Nat → Bool) : Thing := ⟨fun W F => ∃ t, MkAt W m t ∧ (∀ w, fnOf t.list w = f w) ∧ ∀ z, F z ↔ mFoot m t z,
  fun ⟨t, h, hf, hF⟩ k n => ⟨t, ⟨h.bk.kept k (n m ((hF m).2 (.inl rfl))), h.ok.kept k (fun x hx => n _ ((hF _).2 (.inr (.inl ⟨x, hx, rfl⟩)))) (fun x hx z hz => n z ((hF z).2 (.inr (.inr ⟨x, hx, hz⟩))))⟩, hf, hF⟩,
  fun ⟨t, h, hf, hF⟩ z hz => by
    rcases (hF z).1 hz with u | ⟨x, hx, e⟩ | ⟨x, hx, hz⟩
    · rw [u]; exact h.bk.lt
    · rw [← e]; exact h.ok.at_.lt x hx
    · exact FormAt.lt (h.ok.fm x hx) z hz⟩
/-- What a call leaves. -/
def Turn (m : Nat) (f : Nat → Bool) (W W' : World) (F : Nat → Prop) : Prop := ∃ F', (tMk m f).P W' F' ∧ To W W' F F'
theorem Turn.same {m : Nat} {f : Nat → Bool} {W W' : World} {F : Nat → Prop} (h : (tMk m f).P W F) (b : Below W.heap.size W W') : Turn m f W W' F :=
  ⟨F, (tMk m f).kept h (Kept.of_below (F := fun _ => False) b) (fun _ _ f => f), To.of_below b F⟩
/-- Laid, behind steps that turned nothing old. -/
theorem LayS.turn {m : Nat} {t : Tr} {first en : Nat} {g f : Nat → Bool} {fb : List Nat} {W0 W W' : World} {F : Nat → Prop} (h : MkAt W0 m t) (hf : ∀ w, fnOf t.list w = f w) (hF : ∀ z, F z ↔ mFoot m t z) (b : Below W0.heap.size W0 W) (hb : ∀ z ∈ fb, W0.heap.size ≤ z) (s : LayS m t first en g fb W W') :
    Turn m (fun w => if first ≤ w ∧ w < en then g w else f w) W0 W' F := by
  obtain ⟨t', h', f', r, k⟩ := s
  have sz := b.size
  refine ⟨mFoot m t', ⟨t', h', fun w => by rw [f' w, hf w], fun z => Iff.rfl⟩, (Kept.of_below b).trans (k.mono fun z hz => ?_) (fun _ _ h => h), fun z hz => ?_⟩
  · rcases hz with u | u
    · exact (hF z).2 (.inl u)
    · exact (hF z).2 (.inr (.inl u))
  · rcases hz with u | ⟨x, hx, e⟩ | ⟨x, hx, hz⟩
    · exact .inl ((hF z).2 (.inl u))
    · rcases (r x hx).1 with v | v
      · left; rw [← e]; exact (hF _).2 (.inr (.inl v))
      · right; rw [← e]; omega
    · rcases (r x hx).2 with ⟨y, hy, e⟩ | e | e
      · exact .inl ((hF z).2 (.inr (.inr ⟨y, hy, by rw [e]; exact hz⟩)))
      · right; exact hb z (by rw [← e]; exact hz)
      · right; have := e z hz; omega
theorem new_any (W : World) : Calls Try.prog 8 #[] W fun e W' => e = .returned (.pointer (some ⟨W.heap.size, 0, none⟩)) ∧ (tMk W.heap.size (fun _ => false)).P W' (fun z => z = W.heap.size) ∧ Below W.heap.size W W' := by
  have FIN := hide (show (tMk W.heap.size (fun _ => false)).P (W.alloc (.cells #[.pointer none] 53)) (fun z => z = W.heap.size) from ⟨.nil, ⟨World.alloc_heap_new W _, trivial, (fun x hx => by cases hx), Un.nil, Nat.zero_le _⟩, fun _ => rfl, fun z => ⟨fun h => .inl h, fun h => by
    rcases h with u | ⟨x, hx, _⟩ | ⟨x, hx, _⟩
    · exact u
    · cases hx
    · cases hx⟩⟩)
  have BB := hide (below_alloc W (.cells #[.pointer none] 53))
  go_enter Try.func8, Try.ntmps8
  go_wp2_with fail
  go_ret
  exact ⟨rfl, FIN.out, BB.out⟩
end Go.Proofs.Ytnhllnepnpmegaa
