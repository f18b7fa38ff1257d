/- VmemZeroes, over the face. -/
import Derived.Test.YtpceigglilgelaaAwake
namespace Go.Proofs.Ytpceigglilgelaa
open Go.ChangeShapes Go.WideShapes Go.ChangeAt Go.RowKit Go.Proofs.Sp
set_option linter.unusedVariables false
set_option linter.unusedSimpArgs false

theorem zeroes_new (f a n : Nat) (hf : f < 18446744073709551616) (hs : a + n ≤ 4096) (w : World) : ∃ L S1 S2 S3 S4 S5,
    Sl (w.alloc (.cells #[.int .u64 (f : Int), .int .u64 (IntKind.u64.wrap (f + 1)), .int .u64 (IntKind.u64.wrap (f + 2)), .int .u64 (IntKind.u64.wrap (f + 3))] 23)) (.slice (some ⟨w.heap.size, 0, none⟩) 4 4) (u64s L) ∧ (∀ x ∈ L, x < 18446744073709551616) ∧ L.length ≤ 1048576 ∧
    reserveS (Sp.new [] [] L) 0 512 = (512, 0, S1) ∧ commitS S1 512 4 = (0, S2) ∧ releaseS S2 512 4 = (0, S3) ∧ commitS S3 512 4 = (0, S4) ∧
    zeroS S4 (4194304 + 8 * a) (8 * n) = (0, S5) ∧ zeroS S5 4194308 8 = (11, S5) ∧ zeroS S5 4194304 40960 = (12, S5) ∧ ∀ i, i < 4096 → loadS S5 (4194304 + 8 * i) = (wantZ f a n i, 0) := by
  obtain ⟨S1, S2, S3, S4, S5, h⟩ := zeroes_facts f a n hf hs
  refine ⟨_, S1, S2, S3, S4, S5, Sl.alloc w _ 23 _ 4 ?_ rfl, ?_, ?_, h⟩
  · have a1 := wrap_nat f 1
    have a2 := wrap_nat f 2
    have a3 := wrap_nat f 3
    show [_, _, _, _] = [Value.int .u64 (f : Int), Value.int .u64 (((f + 1) % 18446744073709551616 : Nat) : Int), Value.int .u64 (((f + 2) % 18446744073709551616 : Nat) : Int), Value.int .u64 (((f + 3) % 18446744073709551616 : Nat) : Int)]
    rw [← a1, ← a2, ← a3]
    rfl
  · intro x hx
    simp only [List.mem_cons, List.not_mem_nil, or_false] at hx
    omega
  · show 4 ≤ _; decide

theorem zeroes_int (f a n : Int) (hf : 0 ≤ f ∧ f ≤ 18446744073709551615) (ha : 0 ≤ a) (hn : 0 ≤ n) (hs : a + n ≤ 4096) (w : World) : ∃ L S1 S2 S3 S4 S5, ∃ V : Int → Nat,
    Sl (w.alloc (.cells #[.int .u64 f, .int .u64 (IntKind.u64.wrap (f + 1)), .int .u64 (IntKind.u64.wrap (f + 2)), .int .u64 (IntKind.u64.wrap (f + 3))] 23)) (.slice (some ⟨w.heap.size, 0, none⟩) 4 4) (u64s L) ∧ (∀ x ∈ L, x < 18446744073709551616) ∧ L.length ≤ 1048576 ∧
    reserveS (Sp.new [] [] L) 0 512 = (512, 0, S1) ∧ commitS S1 512 4 = (0, S2) ∧ releaseS S2 512 4 = (0, S3) ∧ commitS S3 512 4 = (0, S4) ∧
    zeroS S4 (4194304 + 8 * a).toNat (8 * n).toNat = (0, S5) ∧ zeroS S5 4194308 8 = (11, S5) ∧ zeroS S5 4194304 40960 = (12, S5) ∧
    (∀ k : Int, 0 ≤ k → k < 4096 → loadS S5 (4194304 + 8 * k).toNat = (V k, 0)) ∧ (∀ k, a ≤ k → k < a + n → V k = 0) ∧ ∀ k, 0 ≤ k → ¬ (a ≤ k ∧ k < a + n) → (V k : Int) = IntKind.u64.wrap (f + k / 1024) := by
  obtain ⟨f, rfl⟩ := Int.eq_ofNat_of_zero_le hf.1
  obtain ⟨a, rfl⟩ := Int.eq_ofNat_of_zero_le ha
  obtain ⟨n, rfl⟩ := Int.eq_ofNat_of_zero_le hn
  obtain ⟨L, S1, S2, S3, S4, S5, h1, h2, h3, h4, h5, h6, h7, h8, h9, h10, h11⟩ := zeroes_new f a n (by omega) (by omega) w
  refine ⟨L, S1, S2, S3, S4, S5, fun k => wantZ f a n k.toNat, h1, h2, h3, h4, h5, h6, h7, ?_, h9, h10, ?_, ?_, ?_⟩
  · rw [show (4194304 + 8 * (a : Int)).toNat = 4194304 + 8 * a by omega, show (8 * (n : Int)).toNat = 8 * n by omega]; exact h8
  · intro k k0 k1
    rw [show (4194304 + 8 * k).toNat = 4194304 + 8 * k.toNat by omega]
    exact h11 _ (by omega)
  · intro k k0 k1
    unfold wantZ
    exact if_pos (by omega)
  · intro k k0 k1
    obtain ⟨j, rfl⟩ := Int.eq_ofNat_of_zero_le k0
    show ((wantZ f a n j : Nat) : Int) = _
    unfold wantZ
    rw [if_neg (by omega), ← wrap_nat]
    rfl

theorem zeroes_core {I : Inv} (Fc : Face vm I) (f a n : Int) (hf : 0 ≤ f ∧ f ≤ 18446744073709551615) (ha : 0 ≤ a) (ha' : a ≤ 3000) (hn : 0 ≤ n) (hn' : n ≤ 3000) (hs : a + n ≤ 4096) (w : World) :
    Calls Try.prog 7 #[.int .u64 f, .int .u64 a, .int .u64 n] w fun e w' => e = .returned (.bool true) ∧ Below w.heap.size w w' := by
  go_enter Try.func7, Try.ntmps7
  go_wp2_with fail
  go_at_call 9
  obtain ⟨L, S1, S2, S3, S4, S5, V, hsl, hL, hl, e1, e2, e3, e4, e5, e6, e7, e8, e9, e10⟩ := zeroes_int f a n hf ha hn hs w
  have E5 : Hid _ := e5
  have E6 : Hid _ := e6
  have E7 : Hid _ := e7
  have E8 : Hid _ := e8
  have E9 : Hid _ := e9
  have E10 : Hid _ := e10
  clear e5 e6 e7 e8 e9 e10
  refine (Fc.jnew (w0 := w) _ _ _ _ [] [] L (Sl.nil _) (Sl.nil _) hsl (by simp) hL (by decide) (by decide) hl ((Below.refl _ _).alloc (Nat.le_refl _) _)).mono ?_
  rintro e w1 ⟨m, rfl, j1⟩
  clear hsl hL hl
  go_wp2_with fail
  go_at_call 10
  refine (Fc.jreserve (a := 0) (b := 512) (by exact e1) j1 (by unfold two64; omega) (by unfold two64; omega) (by decide)).mono ?_
  rintro e w2 ⟨rfl, j2⟩
  go_wp2_with fail
  go_at_call 11
  refine (Fc.jcommit (a := 512) (b := 4) (by exact e2) j2 (by unfold two64; omega) (by unfold two64; omega) (by decide)).mono ?_
  rintro e w3 ⟨rfl, j3⟩
  go_wp2_with fail
  go_at_call 13
  refine (Fc.jrelease (a := 512) (b := 4) (by exact e3) j3 (by unfold two64; omega) (by unfold two64; omega) (by decide)).mono ?_
  rintro e w4 ⟨rfl, j4⟩
  go_wp2_with fail
  go_at_call 11
  refine (Fc.jcommit (a := 512) (b := 4) (by exact e4) j4 (by unfold two64; omega) (by unfold two64; omega) (by decide)).mono ?_
  rintro e w5 ⟨rfl, j5⟩
  clear j1 j2 j3 j4 e1 e2 e3 e4
  go_wp2_with fail
  go_at_call 22
  refine (Fc.jzero (by decide) E5.out j5 (by unfold two64; omega) (by unfold two64; omega) (by decide)).mono ?_
  rintro e w6 ⟨rfl, j6⟩
  obtain ⟨K, hK, j6⟩ : ∃ K, K ≤ 1000000 ∧ J I w m w6 S5 K := ⟨_, by unfold cost; simp; omega, j6⟩
  go_wp2_with fail
  go_at_call 22
  refine (Fc.jzero (by decide) (a := 4194308) (b := 8) (by exact E6.out) j6 (by unfold two64; omega) (by unfold two64; omega) (by unfold lim; omega)).mono ?_
  rintro e w7 ⟨rfl, j7⟩
  go_wp2_with fail
  go_at_call 22
  refine (Fc.jzero (by decide) (a := 4194304) (b := 40960) (by exact E7.out) j7 (by unfold two64; omega) (by unfold two64; omega) (by unfold cost lim; simp; omega)).mono ?_
  rintro e w8 ⟨rfl, j8⟩
  clear j5 j6 j7 E5 E6 E7
  obtain ⟨K, hK, j8⟩ : ∃ K, K ≤ 2000000 ∧ J I w m w8 S5 K := ⟨_, by unfold cost; simp; omega, j8⟩
  go_wp2_with fail
  go_loopw [11] (fun i wr => ∃ k : Int, 0 ≤ k ∧ k ≤ 4096 ∧ i = .int .u64 k ∧ J I w m wr S5 K) (fun i _ => (4096 - intOf i).toNat)
  case atStart => exact ⟨0, by omega, by omega, rfl, j8⟩
  case round =>
    obtain ⟨k, hk0, hk, rfl, jr⟩ := hrel
    clear j8
    by_cases hlt : k < 4096
    · by_cases hin : a ≤ k ∧ k < a + n
      · have v0 := E9.out k hin.1 hin.2
        obtain ⟨hi1, hi2⟩ := hin
        go_wp2_with fail
        go_at_call 12
        refine (Fc.jload (E8.out k hk0 hlt) jr (by unfold two64; omega) (by unfold lim; omega)).mono ?_
        rintro e w9 ⟨rfl, j9⟩
        rw [v0]
        go_wp2_with fail
        go_roundw
        case rel => exact ⟨k + 1, by omega, by omega, rfl, j9⟩
        case measure => simp [intOf]; omega
      · have v1 := E10.out k hk0 hin
        by_cases hlo : a ≤ k
        all_goals
          try have hhi : ¬ k < a + n := by omega
          clear hin
          go_wp2_with fail
          go_at_call 12
          refine (Fc.jload (E8.out k hk0 hlt) jr (by unfold two64; omega) (by unfold lim; omega)).mono ?_
          rintro e w9 ⟨rfl, j9⟩
          rw [v1]
          go_wp2_with fail
          go_roundw
          case rel => exact ⟨k + 1, by omega, by omega, rfl, j9⟩
          case measure => simp [intOf]; omega
    · go_wp2_with fail
      go_at_call 15
      refine (awake_core Fc _).mono ?_
      rintro e w9 ⟨rfl, b9⟩
      go_wp2_with fail
      go_ret
      exact ⟨rfl, jr.below.trans (b9.mono jr.below.size)⟩
end Go.Proofs.Ytpceigglilgelaa
