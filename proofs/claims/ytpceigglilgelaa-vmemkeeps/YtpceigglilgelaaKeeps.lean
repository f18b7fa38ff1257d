/- VmemKeeps, over the face. -/
import Derived.Test.YtpceigglilgelaaAwake
namespace Go.Proofs.Ytpceigglilgelaa
open Go.ChangeShapes Go.WideShapes Go.ChangeAt Go.RowKit Go.Proofs.Sp
set_option linter.unusedVariables false
set_option linter.unusedSimpArgs false

theorem Sl.one (w : World) (f : Int) (hf : 0 ≤ f) (t : TypeId) : Sl (w.alloc (.cells #[.int .u64 f] t)) (.slice (some ⟨w.heap.size, 0, none⟩) 1 1) (u64s [f.toNat]) :=
  Sl.alloc w _ t _ 1 (by show [Value.int .u64 f] = [Value.int .u64 (f.toNat : Int)]; rw [Int.toNat_of_nonneg hf]) rfl

set_option maxRecDepth 100000 in
theorem keeps_core {I : Inv} (Fc : Face vm I) (b off len cap : Nat) (X : Nat → Nat) (f pg : Int) (hlen : len ≤ 100) (hf : 0 ≤ f ∧ f ≤ 18446744073709551615) (hp : 0 ≤ pg) (hp' : pg ≤ 7) (w : World)
    (hb : b < w.heap.size) (hX : ∀ i, i < len → w.cell? ⟨b, off + i, none⟩ = some (.int .u64 (X i : Int))) (hX' : ∀ i, X i < 18446744073709551616) :
    Calls Try.prog 8 #[.slice (some ⟨b, off, none⟩) len cap, .int .u64 f, .int .i64 pg] w fun e w' => e = .returned (.bool true) ∧ Below w.heap.size w w' := by
  obtain ⟨S1, S2, e1, e2, k2⟩ := keeps_start X f.toNat
  have E1 : Hid _ := e1
  have E2 : Hid _ := e2
  have K2 : Hid _ := k2
  have HX : Hid _ := hX
  have HX' : Hid _ := hX'
  clear e1 e2 k2 hX hX'
  go_enter Try.func8, Try.ntmps8
  go_wp2_with fail
  go_at_call 9
  refine (Fc.jnew (w0 := w) _ _ _ _ [] [] [f.toNat] (Sl.nil _) (Sl.nil _) (Sl.one w f hf.1 _) (by simp) (by simp; omega) (by decide) (by decide) (by simp) ((Below.refl _ _).alloc (Nat.le_refl _) _)).mono ?_
  rintro e w1 ⟨m, rfl, j1⟩
  go_wp2_with fail
  go_at_call 10
  refine (Fc.jreserve (a := 0) (b := 512) (by exact E1.out) j1 (by unfold two64; omega) (by unfold two64; omega) (by decide)).mono ?_
  rintro e w2 ⟨rfl, j2⟩
  go_wp2_with fail
  go_at_call 11
  refine (Fc.jcommit (a := 512) (b := 8) (by exact E2.out) j2 (by unfold two64; omega) (by unfold two64; omega) (by decide)).mono ?_
  rintro e w3 ⟨rfl, j3⟩
  obtain ⟨K, hK, j3⟩ : ∃ K, K ≤ 1000 ∧ J I w m w3 S2 K := ⟨_, by unfold cost; simp, j3⟩
  clear j1 j2 E1 E2
  go_wp2_with fail
  go_loopw [10] (fun i wr => ∃ (k K : Nat) (T : Sp), k ≤ len ∧ K ≤ 1000 + k ∧ i = .int .i64 (k : Int) ∧ Hid (KeepsAt X f.toNat k T) ∧ J I w m wr T K) (fun i _ => (len - intOf i).toNat)
  case atStart => exact ⟨0, K, S2, by omega, by omega, rfl, K2, j3⟩
  case round =>
    obtain ⟨k, K', T, hk, hK', rfl, hT, jr⟩ := hrel
    clear j3 K2
    by_cases hlt : k < len
    · obtain ⟨T', e1, k1⟩ := keeps_store hT.out (by omega)
      have hc : wr.cell? ⟨b, off + k, none⟩ = some (.int .u64 (X k : Int)) := by rw [jr.below.cell (by exact hb)]; exact HX.out k hlt
      have hxk := HX'.out k
      have hlt' : (k : Int) < len := by omega
      have e1' : storeS T (4194304 + (k : Int) * 640).toNat (X k : Int).toNat = (0, T') := by
        rw [show (4194304 + (k : Int) * 640).toNat = 4194304 + k * 640 by omega, Int.toNat_natCast]; exact e1
      have E1 : Hid _ := e1'
      have K1 : Hid _ := k1
      clear e1 k1 e1' hT
      go_wp2_with fail
      go_at_call 21
      refine (Fc.jstore E1.out jr (by unfold two64; omega) (by unfold two64; omega) (by unfold lim; omega)).mono ?_
      rintro e w4 ⟨rfl, j4⟩
      go_wp2_with fail
      go_roundw
      case rel => exact ⟨k + 1, K' + 1, T', by omega, by omega, by go_num, K1, j4⟩
      case measure => simp [intOf]; omega
    · obtain rfl : k = len := by omega
      obtain ⟨U1, U, e1, e2, e3, e4⟩ := keeps_end hT.out (by omega) (512 + pg).toNat (by omega) (by omega)
      have E1 : Hid _ := e1
      have E2 : Hid _ := e2
      have E3 : Hid _ := e3
      have E4 : Hid _ := e4
      clear e1 e2 e3 e4 hT
      go_wp2_with fail
      go_at_call 13
      refine (Fc.jrelease (b := 1) (by exact E1.out) jr (by unfold two64; omega) (by unfold two64; omega) (by unfold lim; omega)).mono ?_
      rintro e w4 ⟨rfl, j4⟩
      go_wp2_with fail
      go_at_call 11
      refine (Fc.jcommit (b := 1) (by exact E2.out) j4 (by unfold two64; omega) (by unfold two64; omega) (by unfold cost lim; simp; omega)).mono ?_
      rintro e w5 ⟨rfl, j5⟩
      obtain ⟨K, hK, j5⟩ : ∃ K, K ≤ 5000 ∧ J I w m w5 U K := ⟨_, by unfold cost; simp; omega, j5⟩
      clear E1 E2 j4 jr
      go_wp2_with fail
      go_loopw [12] (fun i wr => ∃ (j : Nat), j ≤ k ∧ i = .int .i64 (j : Int) ∧ J I w m wr U K) (fun i _ => (k - intOf i).toNat)
      case atStart => exact ⟨0, by omega, rfl, j5⟩
      case round =>
        obtain ⟨j, hj, rfl, jr⟩ := hrel
        clear j5
        by_cases hlj : j < k
        · have hc : wr.cell? ⟨b, off + j, none⟩ = some (.int .u64 (X j : Int)) := by rw [jr.below.cell (by exact hb)]; exact HX.out j hlj
          have hxk := HX'.out j
          have hlj' : (j : Int) < k := by omega
          have e3 := E3.out j hlj
          have ea : 4194304 + j * 640 = (4194304 + (j : Int) * 640).toNat := by omega
          have h8 : (4194304 + (j : Int) * 640) / 8192 < 520 := by omega
          by_cases hg : (4194304 + (j : Int) * 640) / 8192 = 512 + pg
          · have hg' : ((4194304 + (j : Int) * 640) / 8192 == 512 + pg) = true := by simpa using hg
            rw [if_pos (by omega), ea] at e3
            have E5 : Hid _ := e3
            have HG : Hid _ := hg
            clear e3 ea hg
            go_wp2_with fail
            go_at_call 12
            refine (Fc.jload E5.out jr (by unfold two64; omega) (by unfold lim; omega)).mono ?_
            rintro e w6 ⟨rfl, j6⟩
            have hc6 : w6.cell? ⟨b, off + j, none⟩ = some (.int .u64 (X j : Int)) := by rw [j6.below.cell (by exact hb)]; exact HX.out j hlj
            have ef : ((f.toNat : Nat) : Int) = f := by omega
            rw [ef]
            clear ef
            go_wp2_with fail
            go_roundw
            case rel => exact ⟨j + 1, by omega, by go_num, j6⟩
            case measure => simp [intOf]; omega
          · have hg' : ((4194304 + (j : Int) * 640) / 8192 == 512 + pg) = false := by simpa using hg
            rw [if_neg (by omega), ea] at e3
            have E5 : Hid _ := e3
            have HG : Hid _ := hg
            clear e3 ea hg
            go_wp2_with fail
            go_at_call 12
            refine (Fc.jload E5.out jr (by unfold two64; omega) (by unfold lim; omega)).mono ?_
            rintro e w6 ⟨rfl, j6⟩
            have hc6 : w6.cell? ⟨b, off + j, none⟩ = some (.int .u64 (X j : Int)) := by rw [j6.below.cell (by exact hb)]; exact HX.out j hlj
            go_wp2_with fail
            go_roundw
            case rel => exact ⟨j + 1, by omega, by go_num, j6⟩
            case measure => simp [intOf]; omega
        · have e4 := E4.out
          rw [show (512 + pg).toNat * 8192 + 8184 = ((512 + pg) * 8192 + 8184).toNat by omega] at e4
          have E5 : Hid _ := e4
          clear e4
          go_wp2_with fail
          go_at_call 12
          refine (Fc.jload E5.out jr (by unfold two64; omega) (by unfold lim; omega)).mono ?_
          rintro e w6 ⟨rfl, j6⟩
          have ef : ((f.toNat : Nat) : Int) = f := by omega
          rw [ef]
          clear ef
          go_wp2_with fail
          go_at_call 15
          refine (awake_core Fc _).mono ?_
          rintro e w9 ⟨rfl, b9⟩
          go_wp2_with fail
          go_ret
          exact ⟨rfl, j6.below.trans (b9.mono j6.below.size)⟩
set_option maxRecDepth 100000 in
theorem keeps_nil {I : Inv} (Fc : Face vm I) (o : Option Addr) (cap : Nat) (f pg : Int) (hf : 0 ≤ f ∧ f ≤ 18446744073709551615) (hp : 0 ≤ pg) (hp' : pg ≤ 7) (w : World) :
    Calls Try.prog 8 #[.slice o 0 cap, .int .u64 f, .int .i64 pg] w fun e w' => e = .returned (.bool true) ∧ Below w.heap.size w w' := by
  obtain ⟨S1, S2, e1, e2, k2⟩ := keeps_start (fun _ => 0) f.toNat
  have E1 : Hid _ := e1
  have E2 : Hid _ := e2
  have K2 : Hid _ := k2
  clear e1 e2 k2
  go_enter Try.func8, Try.ntmps8
  go_wp2_with fail
  go_at_call 9
  refine (Fc.jnew (w0 := w) _ _ _ _ [] [] [f.toNat] (Sl.nil _) (Sl.nil _) (Sl.one w f hf.1 _) (by simp) (by simp; omega) (by decide) (by decide) (by simp) ((Below.refl _ _).alloc (Nat.le_refl _) _)).mono ?_
  rintro e w1 ⟨m, rfl, j1⟩
  go_wp2_with fail
  go_at_call 10
  refine (Fc.jreserve (a := 0) (b := 512) (by exact E1.out) j1 (by unfold two64; omega) (by unfold two64; omega) (by decide)).mono ?_
  rintro e w2 ⟨rfl, j2⟩
  go_wp2_with fail
  go_at_call 11
  refine (Fc.jcommit (a := 512) (b := 8) (by exact E2.out) j2 (by unfold two64; omega) (by unfold two64; omega) (by decide)).mono ?_
  rintro e w3 ⟨rfl, j3⟩
  obtain ⟨K, hK, j3⟩ : ∃ K, K ≤ 1000 ∧ J I w m w3 S2 K := ⟨_, by unfold cost; simp, j3⟩
  clear j1 j2 E1 E2
  go_wp2_with fail
  go_loopw [10] (fun i wr => i = .int .i64 0 ∧ ∃ (K : Nat) (T : Sp), K ≤ 1000 ∧ Hid (KeepsAt (fun _ => 0) f.toNat 0 T) ∧ J I w m wr T K) (fun _ _ => 0)
  case atStart => exact ⟨rfl, K, S2, by omega, K2, j3⟩
  case round =>
      obtain ⟨rfl, K', T, hK', hT, jr⟩ := hrel
      clear j3 K2
      obtain ⟨U1, U, e1, e2, e3, e4⟩ := keeps_end hT.out (by omega) (512 + pg).toNat (by omega) (by omega)
      have E1 : Hid _ := e1
      have E2 : Hid _ := e2
      have E3 : Hid _ := e3
      have E4 : Hid _ := e4
      clear e1 e2 e3 e4 hT
      go_wp2_with fail
      go_at_call 13
      refine (Fc.jrelease (b := 1) (by exact E1.out) jr (by unfold two64; omega) (by unfold two64; omega) (by unfold lim; omega)).mono ?_
      rintro e w4 ⟨rfl, j4⟩
      go_wp2_with fail
      go_at_call 11
      refine (Fc.jcommit (b := 1) (by exact E2.out) j4 (by unfold two64; omega) (by unfold two64; omega) (by unfold cost lim; simp; omega)).mono ?_
      rintro e w5 ⟨rfl, j5⟩
      obtain ⟨K, hK, j5⟩ : ∃ K, K ≤ 5000 ∧ J I w m w5 U K := ⟨_, by unfold cost; simp; omega, j5⟩
      clear E1 E2 j4 jr
      go_wp2_with fail
      go_loopw [12] (fun i wr => i = .int .i64 0 ∧ J I w m wr U K) (fun _ _ => 0)
      case atStart => exact ⟨rfl, j5⟩
      case round =>
          obtain ⟨rfl, jr⟩ := hrel
          clear j5
          have e4 := E4.out
          rw [show (512 + pg).toNat * 8192 + 8184 = ((512 + pg) * 8192 + 8184).toNat by omega] at e4
          have E5 : Hid _ := e4
          clear e4
          go_wp2_with fail
          go_at_call 12
          refine (Fc.jload E5.out jr (by unfold two64; omega) (by unfold lim; omega)).mono ?_
          rintro e w6 ⟨rfl, j6⟩
          have ef : ((f.toNat : Nat) : Int) = f := by omega
          rw [ef]
          clear ef
          go_wp2_with fail
          go_at_call 15
          refine (awake_core Fc _).mono ?_
          rintro e w9 ⟨rfl, b9⟩
          go_wp2_with fail
          go_ret
          exact ⟨rfl, j6.below.trans (b9.mono j6.below.size)⟩
end Go.Proofs.Ytpceigglilgelaa
