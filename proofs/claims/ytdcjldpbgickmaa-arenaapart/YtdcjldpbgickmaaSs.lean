/- Package slices: nextPowerOfTwo, xorshift.Next, breakPatternsOrdered: contracts. -/
import Derived.Test.YtdcjldpbgickmaaSr
import Derived.Test.YtdcjldpbgickmaaLn
import Derived.Lib.ItoaNum
import Derived.Lib.BitFns
import Derived.Laws.Bits64b
import Derived.Laws.BitsAllLaws
namespace Go.Proofs.Ytdcjldpbgickmaa
open Go.ChangeShapes Go.WideShapes Go.ChangeAt Go.RowKit Go.Shelf Go.Proofs.Rx Go.Maps
open Go.Sort (swp ltInt size_swp swp_left swp_right swp_other PermIn)
set_option linter.unusedVariables false
set_option linter.unusedSimpArgs false

theorem power_any (l : Nat) (h0 : 1 ≤ l) (h1 : l < 1152921504606846976) (w : World) : Calls Try.prog 49 #[.int .i64 (l : Nat)] w fun e w' => ∃ m : Nat, e = .returned (.int .u64 (m : Nat)) ∧ l < m ∧ m ≤ 2 * l ∧ w' = w := by
  have C := hide (Try.bits_Len (l : Nat) w (by omega) (by omega))
  rw [Int.toNat_natCast] at C
  obtain ⟨b1, b2, b3⟩ := Go.Lib.bitLenAux_bounds 64 l (by omega) (by omega)
  obtain ⟨k, hk⟩ : ∃ k, Go.Lib.bitLen l = k := ⟨_, rfl⟩
  have hk' : Go.Lib.bitLenAux 64 l = k := hk
  rw [hk'] at b1 b2 b3
  rw [hk] at C
  have k60 : k ≤ 60 := by rw [← hk]; exact Go.Lib.bitLen_le l 60 (by omega) (by omega)
  obtain ⟨j, rfl⟩ : ∃ j, k = j + 1 := ⟨k - 1, by omega⟩
  rw [show j + 1 - 1 = j by omega] at b2
  have e2 : 2 ^ (j + 1) = 2 * 2 ^ j := by rw [Nat.pow_succ]; omega
  obtain ⟨m, hm⟩ : ∃ m : Nat, 2 ^ (j + 1) = m := ⟨_, rfl⟩
  have hmI : (2 : Int) ^ (j + 1) = (m : Int) := by rw [← hm]; push_cast; rfl
  have m60 : m ≤ 1152921504606846976 := by rw [← hm]; exact Nat.pow_le_pow_right (n := 2) (by omega) k60
  have w2 : IntKind.u64.wrap ((2 : Int) ^ (j + 1)) = (m : Int) := by rw [hmI, IntKind.wrap_u64]; omega
  have l1 : (l : Int) < 1152921504606846976 := by omega
  have HB := hide (show l < m ∧ m ≤ 2 * l from by omega)
  clear hk hk' b2 b3 e2 b1 hm
  go_enter Try.func49, Try.ntmps49
  go_wp2_with fail
  refine C.out.mono ?_
  rintro r w' ⟨rfl, hw⟩
  rw [hw]
  clear hw
  go_wp2_with fail
  go_ret
  exact ⟨m, rfl, HB.out.1, HB.out.2, rfl⟩
theorem wrap_nat (x : Int) (h : 0 ≤ x) : ∃ y : Nat, IntKind.u64.wrap x = (y : Int) ∧ y < 18446744073709551616 := by
  rw [IntKind.wrap_u64]
  exact ⟨(x % 18446744073709551616).toNat, by omega, by omega⟩
theorem xor_nat (a b : Nat) (ha : a < 18446744073709551616) (hb : b < 18446744073709551616) : ∃ y : Nat, bits .xor .u64 (a : Int) (b : Int) = (y : Int) ∧ y < 18446744073709551616 :=
  ⟨a ^^^ b, u64_xor_nat a b ha hb, Nat.xor_lt_two_pow (n := 64) ha hb⟩
theorem next_any {W : World} {rb : Nat} {x : Nat} (h : Boxed W rb 84 (.int .u64 (x : Nat))) (hx : x < 18446744073709551616) :
    Calls Try.prog 50 #[.pointer (some ⟨rb, 0, none⟩)] W fun e W' => ∃ y : Nat, e = .returned (.int .u64 (y : Nat)) ∧ y < 18446744073709551616 ∧ Boxed W' rb 84 (.int .u64 (y : Nat)) ∧ Kept (fun b => b = rb) W W' := by
  have c0 := h.cell
  have f0 := h.frozen
  have H := hide h
  clear h
  go_enter Try.func50, Try.ntmps50
  obtain ⟨s1, hs1, ls1⟩ : ∃ y : Nat, IntKind.u64.wrap ((x : Int) * 8192) = (y : Int) ∧ y < 18446744073709551616 := wrap_nat _ (by omega)
  obtain ⟨x1, hx1, lx1⟩ := xor_nat x s1 hx ls1
  obtain ⟨s2, hs2, ls2⟩ : ∃ y : Nat, (x1 : Int) / 128 = (y : Int) ∧ y < 18446744073709551616 := ⟨x1 / 128, by omega, by omega⟩
  obtain ⟨x2, hx2, lx2⟩ := xor_nat x1 s2 lx1 ls2
  obtain ⟨s3, hs3, ls3⟩ : ∃ y : Nat, IntKind.u64.wrap ((x2 : Int) * 131072) = (y : Int) ∧ y < 18446744073709551616 := wrap_nat _ (by omega)
  obtain ⟨x3, hx3, lx3⟩ := xor_nat x2 s3 lx2 ls3
  have b1 := (H.out.set (.int .u64 (x1 : Nat)))
  obtain ⟨W1, hW1⟩ : ∃ W1, (W.setCell ⟨rb, 0, none⟩ (.int .u64 (x1 : Nat))).drew = W1 := ⟨_, rfl⟩
  have b1' : Boxed W1 rb 84 (.int .u64 (x1 : Nat)) := by rw [← hW1]; exact b1
  have k1 : Kept (fun b => b = rb) W W1 := by rw [← hW1]; exact (kept_set (F := fun b => b = rb) W rb 0 _ rfl).trans (Kept.of_below (drew_below _)) (fun _ _ h => h)
  have c1 := b1'.cell
  have f1 := b1'.frozen
  obtain ⟨W2, hW2⟩ : ∃ W2, (W1.setCell ⟨rb, 0, none⟩ (.int .u64 (x2 : Nat))).drew = W2 := ⟨_, rfl⟩
  have b2 : Boxed W2 rb 84 (.int .u64 (x2 : Nat)) := by rw [← hW2]; exact b1'.set _
  have k2 : Kept (fun b => b = rb) W W2 := by rw [← hW2]; exact k1.trans ((kept_set (F := fun b => b = rb) W1 rb 0 _ rfl).trans (Kept.of_below (drew_below _)) (fun _ _ h => h)) (fun _ _ h => h)
  have c2 := b2.cell
  have f2 := b2.frozen
  obtain ⟨W3, hW3⟩ : ∃ W3, (W2.setCell ⟨rb, 0, none⟩ (.int .u64 (x3 : Nat))).drew = W3 := ⟨_, rfl⟩
  have b3 : Boxed W3 rb 84 (.int .u64 (x3 : Nat)) := by rw [← hW3]; exact b2.set _
  have k3 : Kept (fun b => b = rb) W W3 := by rw [← hW3]; exact k2.trans ((kept_set (F := fun b => b = rb) W2 rb 0 _ rfl).trans (Kept.of_below (drew_below _)) (fun _ _ h => h)) (fun _ _ h => h)
  have c3 := b3.cell
  have FF := hide (And.intro lx3 (And.intro b3 k3))
  clear b1 b1' b2 b3 k1 k2 k3 ls1 ls2 ls3 lx1 lx2 lx3 hx
  go_wp2_with fail
  go_region
  all_goals go_wp2_with fail
  go_region
  all_goals go_wp2_with fail
  go_region
  all_goals go_wp2_with fail
  go_ret
  exact ⟨x3, rfl, FF.out⟩
theorem and_nat (a : Nat) (m : Nat) (ha : a < 18446744073709551616) (h1 : 1 ≤ m) (hm : m ≤ 18446744073709551616) : ∃ o : Nat, bits .and .u64 (a : Int) ((m : Int) - 1) = (o : Int) ∧ o < m := by
  refine ⟨a &&& (m - 1), ?_, ?_⟩
  · rw [show (m : Int) - 1 = ((m - 1 : Nat) : Int) by omega]
    exact u64_and_nat a (m - 1) ha (by omega)
  · have : a &&& (m - 1) ≤ m - 1 := Nat.and_le_right
    omega
set_option maxRecDepth 100000 in
set_option maxHeartbeats 2000000 in
theorem break_any {blk off : Nat} {w0 W : World} {d : Array Int} (h : RwU blk off w0 d W) (cap a b : Nat) (hab : a + 8 ≤ b) (hb : b ≤ d.size) (hsz : d.size < 1152921504606846976) (hw : w0.heap.size ≤ W.heap.size) :
    Calls Try.prog 39 #[.slice (some ⟨blk, off, none⟩) d.size cap, .int .i64 (a : Nat), .int .i64 (b : Nat)] W fun e W' => e = .returned (.tuple #[]) ∧ ∃ d', PermIn a b d d' ∧ RwU blk off w0 d' W' := by
  obtain ⟨n, hn⟩ : ∃ n, d.size = n := ⟨_, rfl⟩
  rw [hn] at hb hsz ⊢
  obtain ⟨l, hl⟩ : ∃ l, b - a = l := ⟨_, rfl⟩
  have hlI : (b : Int) - (a : Int) = (l : Int) := by omega
  obtain ⟨q, hq⟩ : ∃ q, l / 4 = q := ⟨_, rfl⟩
  have hqI : (l : Int) / 4 = (q : Int) := by omega
  have hqT : (l : Int).tdiv 4 = (q : Int) := by rw [Int.tdiv_eq_ediv_of_nonneg (by omega)]; omega
  have d1 : decide ((8 : Int) ≤ (l : Int)) = true := decide_eq_true (by omega)
  obtain ⟨rb, hrb⟩ : ∃ rb, W.heap.size = rb := ⟨_, rfl⟩
  have hR := h.below (below_alloc W (.cells #[.int .u64 (l : Nat)] 84))
  have hB : Boxed (W.alloc (.cells #[.int .u64 (l : Nat)] 84)) rb 84 (.int .u64 (l : Nat)) := by rw [← hrb]; exact Boxed.new W _ _
  have hne : rb ≠ blk := by have := h.lt; omega
  obtain ⟨X0, hX0⟩ : ∃ X0, W.alloc (.cells #[.int .u64 (l : Nat)] 84) = X0 := ⟨_, rfl⟩
  rw [hX0] at hR hB
  have CP := hide (power_any l (by omega) (by omega) X0)
  have HR := hide hR
  have HB := hide hB
  have HN := hide hn
  have HQ := hide (And.intro hl hq)
  have b1 : (b : Int) < 1152921504606846976 := by omega
  have l1 : (l : Int) < 1152921504606846976 := by omega
  have HW := hide (show w0.heap.size ≤ rb from by omega)
  have cr := hB.cell
  have fr := hB.frozen
  obtain ⟨S, hS⟩ : ∃ S, a + q * 2 - 1 = S := ⟨_, rfl⟩
  obtain ⟨T, hT⟩ : ∃ T, a + q * 2 + 1 = T := ⟨_, rfl⟩
  have hSI : (a : Int) + (q : Int) * 2 - 1 = (S : Int) := by omega
  have hTI : (a : Int) + (q : Int) * 2 + 1 = (T : Int) := by omega
  have st1 : a ≤ S := by omega
  have st2 : T < b := by omega
  have st3 : S ≤ T := by omega
  have PR := hide (fun (e : Array Int) => Go.Sort.permIn_refl e a b)
  clear h hR hB hn hl hq hw hS hT
  go_enter Try.func39, Try.ntmps39
  go_wp2_with fail
  refine CP.out.mono ?_
  rintro r X ⟨m, rfl, m1, m2, hw⟩
  rw [hw]
  clear hw CP
  have mb : (m : Int) < 9223372036854775807 := by omega
  have m1I : (1 : Int) ≤ (m : Int) := by omega
  go_wp2_with fail
  go_loopw [9] (fun vi Y => ∃ (i x : Nat) (e : Array Int), vi = .int .i64 (i : Nat) ∧ S ≤ i ∧ i ≤ T + 1 ∧ Hid (x < 18446744073709551616) ∧ Hid (PermIn a b d e) ∧ Hid (RwU blk off w0 e Y) ∧ Hid (Boxed Y rb 84 (.int .u64 (x : Nat)))) (fun vi _ => T + 1 - (zi vi).toNat)
  case atStart => exact ⟨S, l, d, rfl, Nat.le_refl _, by omega, hide (by omega), hide (PR.out d), HR, HB⟩
  case round =>
    obtain ⟨i, x, e, rfl, h1, h2, HX, HP, HE, HBx⟩ := hrel
    by_cases c : i ≤ T
    · have dc : decide ((i : Int) ≤ (T : Int)) = true := decide_eq_true (by omega)
      have CN := hide (next_any HBx.out HX.out)
      go_wp2_with fail
      refine CN.out.mono ?_
      rintro r Y ⟨y, rfl, hy, hb1, hk1⟩
      obtain ⟨o, ho, lo⟩ := and_nat y m hy (by omega) (by omega)
      have es : e.size = n := by rw [HP.out.1]; exact HN.out
      have E1 := hide (HE.out.other hk1 hne HW.out)
      obtain ⟨G, hG⟩ : ∃ G : Nat → Int, ∀ t, G t = e[t]! := ⟨fun t => e[t]!, fun _ => rfl⟩
      have hc : ∀ t, t < n → Y.cell? ⟨blk, off + t, none⟩ = some (.int .u64 (G t)) := fun t ht => by rw [hG]; exact E1.out.cell t (by rw [es]; exact ht)
      have hf : ∀ t, t < n → Y.frozen? ⟨blk, off + t, none⟩ = false := fun t ht => E1.out.fz t (by rw [es]; exact ht)
      have HG := hide hG
      have HB1 := hide hb1
      have ES := hide es
      have HY := hide hy
      have NX := hide (show ∀ (v : Nat) (Z : World), a ≤ v → v < b → RwU blk off w0 (swp e i v) Z → Boxed Z rb 84 (.int .u64 (y : Nat)) → ∃ (i' x' : Nat) (e' : Array Int), Value.int .i64 ((i : Int) + 1) = .int .i64 (i' : Nat) ∧ S ≤ i' ∧ i' ≤ T + 1 ∧ Hid (x' < 18446744073709551616) ∧ Hid (PermIn a b d e') ∧ Hid (RwU blk off w0 e' Z) ∧ Hid (Boxed Z rb 84 (.int .u64 (x' : Nat))) from fun v Z v1 v2 r1 r2 =>
        ⟨i + 1, y, _, by push_cast; rfl, by omega, by omega, HY, hide (Go.Sort.permIn_trans _ _ _ _ _ HP.out (Go.Sort.swp_permIn e a b i v (by omega) (by omega) v1 v2 (by rw [es]; exact hb))), hide r1, hide r2⟩)
      clear hG CN es hb1 hk1 hy
      by_cases ol : l ≤ o
      · have dl : decide ((l : Int) ≤ (o : Int)) = true := decide_eq_true (by omega)
        obtain ⟨p, hp⟩ : ∃ p, o - l = p := ⟨_, rfl⟩
        have hpI : (o : Int) - (l : Int) = (p : Int) := by omega
        obtain ⟨v, hv⟩ : ∃ v, a + p = v := ⟨_, rfl⟩
        have hwv : IntKind.i64.wrap ((a : Int) + (p : Int)) = (v : Int) := by simp [IntKind.wrap, IntKind.bits, IntKind.signed]; omega
        have hvI : (a : Int) + (p : Int) = (v : Int) := by omega
        have v1 : a ≤ v := by omega
        have v2 : v < b := by have := HQ.out; omega
        have v3 : v < n := by omega
        have i3 : i < n := by omega
        have HV := hide hv
        clear hv
        by_cases iv : i = v
        · subst iv
          go_wp2_with fail
          go_region
          all_goals go_wp2_with fail
          have hg := HG.out
          have es := ES.out
          refine ⟨NX.out i _ (by omega) (by omega) ?_ ?_, by simp [zi]; omega⟩
          · rw [hg]
            exact (E1.out.swap i i (by rw [es]; omega) (by rw [es]; omega)).drew
          · exact (boxed_kept (boxed_kept (boxed_kept HB1.out (kept_set (F := fun x => x = blk) Y blk (off + i) _ rfl) hne) (kept_set (F := fun x => x = blk) _ blk (off + i) _ rfl) hne) (Kept.of_below (F := fun _ => False) (drew_below _)) (fun f => f))
        · have vi : ¬ v = i := by omega
          go_wp2_with fail
          go_region
          all_goals go_wp2_with fail
          have hg := HG.out
          have es := ES.out
          refine ⟨NX.out v _ (by omega) (by omega) ?_ ?_, by simp [zi]; omega⟩
          · rw [hg, hg]
            exact (E1.out.swap i v (by rw [es]; omega) (by rw [es]; omega)).drew
          · exact (boxed_kept (boxed_kept (boxed_kept HB1.out (kept_set (F := fun x => x = blk) Y blk (off + i) _ rfl) hne) (kept_set (F := fun x => x = blk) _ blk (off + v) _ rfl) hne) (Kept.of_below (F := fun _ => False) (drew_below _)) (fun f => f))
      · have dl : decide ((l : Int) ≤ (o : Int)) = false := decide_eq_false (by omega)
        obtain ⟨p, hp⟩ : ∃ p, o = p := ⟨_, rfl⟩
        subst hp
        obtain ⟨v, hv⟩ : ∃ v, a + o = v := ⟨_, rfl⟩
        have hwv : IntKind.i64.wrap ((a : Int) + (o : Int)) = (v : Int) := by simp [IntKind.wrap, IntKind.bits, IntKind.signed]; omega
        have hvI : (a : Int) + (o : Int) = (v : Int) := by omega
        have v1 : a ≤ v := by omega
        have v2 : v < b := by have := HQ.out; omega
        have v3 : v < n := by omega
        have i3 : i < n := by omega
        have HV := hide hv
        clear hv
        by_cases iv : i = v
        · subst iv
          go_wp2_with fail
          go_region
          all_goals go_wp2_with fail
          have hg := HG.out
          have es := ES.out
          refine ⟨NX.out i _ (by omega) (by omega) ?_ ?_, by simp [zi]; omega⟩
          · rw [hg]
            exact (E1.out.swap i i (by rw [es]; omega) (by rw [es]; omega)).drew
          · exact (boxed_kept (boxed_kept (boxed_kept HB1.out (kept_set (F := fun x => x = blk) Y blk (off + i) _ rfl) hne) (kept_set (F := fun x => x = blk) _ blk (off + i) _ rfl) hne) (Kept.of_below (F := fun _ => False) (drew_below _)) (fun f => f))
        · have vi : ¬ v = i := by omega
          go_wp2_with fail
          go_region
          all_goals go_wp2_with fail
          have hg := HG.out
          have es := ES.out
          refine ⟨NX.out v _ (by omega) (by omega) ?_ ?_, by simp [zi]; omega⟩
          · rw [hg, hg]
            exact (E1.out.swap i v (by rw [es]; omega) (by rw [es]; omega)).drew
          · exact (boxed_kept (boxed_kept (boxed_kept HB1.out (kept_set (F := fun x => x = blk) Y blk (off + i) _ rfl) hne) (kept_set (F := fun x => x = blk) _ blk (off + v) _ rfl) hne) (Kept.of_below (F := fun _ => False) (drew_below _)) (fun f => f))
    · have dc : decide ((i : Int) ≤ (T : Int)) = false := decide_eq_false (by omega)
      go_wp2_with fail
      go_end0
      exact ⟨rfl, e, HP.out, HE.out⟩
end Go.Proofs.Ytdcjldpbgickmaa
