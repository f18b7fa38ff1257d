/- VmemFills, over the face. -/
import Derived.Test.YtpceigglilgelaaAwake
import Derived.Laws.AppendOwnNone
namespace Go.Proofs.Ytpceigglilgelaa
open Go.ChangeShapes Go.WideShapes Go.ChangeAt Go.RowKit Go.Proofs.Sp
set_option linter.unusedVariables false
set_option linter.unusedSimpArgs false

def relN (i N n k : Int) (u len : Nat) : Prop := (i = 0 ∧ N = 0) ∨ (0 < i ∧ n ≤ u ∧ ((N = u - n + k ∧ u - n + k ≤ len) ∨ (N = len ∧ len ≤ u - n + k)))
def relB (i : Int) (u K : Nat) : Prop := (K : Int) ≤ 1000 + 100 * i ∧ (u : Int) ≤ 10 * i
set_option maxRecDepth 100000 in
theorem fills_core {I : Inv} (Fc : Face vm I) (b off len cap : Nat) (X : Nat → Nat) (r n : Int) (hlen : len ≤ 50) (hr : 0 ≤ r) (hr' : r ≤ 10) (hn : 1 ≤ n) (hn' : n ≤ 10) (w : World)
    (hb : b < w.heap.size) (hX : ∀ i, i < len → w.cell? ⟨b, off + i, none⟩ = some (.int .u64 (X i : Int))) (hX' : ∀ i, X i < 18446744073709551616) :
    Calls Try.prog 3 #[.slice (some ⟨b, off, none⟩) len cap, .int .i64 r, .int .u64 n] w fun e w' => e = .returned (.bool true) ∧ Below w.heap.size w w' := by
  obtain ⟨i0, hi, hz0, hz1, hz2⟩ := info_parts infoU
  have hnews : ∀ j u, (u64s ((List.range len).map X))[j]? = some u → (w.alloc (.cells #[] 23)).cell? ((⟨b, off, none⟩ : Addr).add j) = some u := by
    intro j u hu
    obtain ⟨hj, rfl⟩ := u64s_get X len j u hu
    rw [show (⟨b, off, none⟩ : Addr).add j = ⟨b, off + j, none⟩ by simp [Addr.add], World.cell?_alloc_lt _ _ _ (by exact hb)]
    exact hX j hj
  have hll : (u64s ((List.range len).map X)).length = len * 1 := by simp [u64s]
  have hone := u64s_one ((List.range len).map X)
  obtain ⟨L, hL⟩ : ∃ L, L = (List.range len).map X := ⟨_, rfl⟩
  rw [← hL] at hnews hll hone
  have HL : Hid _ := hL
  have H1 : Hid _ := hnews
  have H2 : Hid _ := hll
  have H3 : Hid _ := hone
  clear hL hnews hll hone
  go_enter Try.func3, Try.ntmps3
  go_wp2_with (first | (at_builtin; refine wpList_append_own _ rfl (.tmp 35) (.tmp 36) 22 rfl w.heap.size 23 i0 (.int .u64 0) 1 8 Try.underlying22 hi hz0 hz1 hz2 rfl (by decide) (.slice (some ⟨w.heap.size, 0, none⟩) 0 0) 0 [] rfl (own_empty w 23 1) ⟨b, off, none⟩ len cap (u64s L) rfl H2.out H1.out H3.out (by unfold maxLen; omega) (by omega) (by simp) ?_; intro v' w1 hown hgrow hnil; obtain ⟨g, cp, rfl⟩ := own_shape hown (fun h => by have := (hnil.1 h).1; cases this); have HG : Hid _ := hgrow; clear hgrow hnil))
  rw [Nat.zero_add] at hown
  have bel : Below w.heap.size w w1 := ((Below.refl _ _).alloc (Nat.le_refl _) _).grown HG.out (by simp) (by intro k hk; simp [Value.ownBlock] at hk; omega)
  have hsl : Sl w1 _ (u64s L) := Sl.of_owns hown
  go_at_call 9
  refine (Fc.jnew (w0 := w) _ _ _ _ [] [] L (Sl.nil _) (Sl.nil _) hsl (by simp) (by rw [HL.out]; intro x hx; obtain ⟨i, _, rfl⟩ := List.mem_map.1 hx; exact hX' i) (by decide) (by decide) (by rw [HL.out]; simp; omega) bel).mono ?_
  rintro e w2 ⟨m, rfl, j1⟩
  clear hsl hown HG bel H1 H2 H3
  go_wp2_with fail
  go_at_call 10
  obtain ⟨S1, S2, e1, e2, f2⟩ := fills_start L n.toNat (by omega) (by omega)
  refine (Fc.jreserve (a := 0) (b := 512) (by exact e1) j1 (by unfold two64; omega) (by unfold two64; omega) (by decide)).mono ?_
  rintro e w3 ⟨rfl, j2⟩
  go_wp2_with fail
  go_at_call 11
  refine (Fc.jcommit (a := 512) (b := n) (by exact e2) j2 (by unfold two64; omega) (by unfold two64; omega) (by decide)).mono ?_
  rintro e w4 ⟨rfl, j3⟩
  obtain ⟨K, hK, j3⟩ : ∃ K, K ≤ 1000 ∧ J I w m w4 S2 K := ⟨_, by unfold cost; simp; omega, j3⟩
  have F2 : Hid _ := f2
  clear j1 j2 e1 e2 f2
  go_wp2_with fail
  go_loopw [10, 11] (fun nx i wr => ∃ (N i' : Int) (u K : Nat) (T : Sp), 0 ≤ i' ∧ i' ≤ r + 1 ∧ relB i' u K ∧ i = .int .i64 i' ∧ nx = .int .i64 N ∧ Hid (FillsAt L n.toNat u (decide (i' = 0)) T) ∧ J I w m wr T K ∧ relN i' N n 0 u len) (fun _ i _ => (r + 1 - intOf i).toNat)
  case atStart => exact ⟨0, 0, 0, K, S2, by omega, by omega, ⟨by omega, by omega⟩, rfl, rfl, F2, j3, Or.inl ⟨rfl, rfl⟩⟩
  case round =>
    obtain ⟨N, i', u, K', T, hi0, hi1, ⟨hK', hu⟩, rfl, rfl, hT, jr, hN⟩ := hrel
    have hKn : K' ≤ 3000 := by omega
    have hun : u ≤ 200 := by omega
    have HK : Hid _ := hK'
    have HU : Hid _ := hu
    clear j3 F2 hK' hu
    by_cases hlt : i' ≤ r
    · have HT := hT
      clear hT hi1
      go_wp2_with fail
      go_loopw [10, 12] (fun nx k wr => ∃ (N k' : Int), 0 ≤ k' ∧ k' ≤ n ∧ k = .int .u64 k' ∧ nx = .int .i64 N ∧ J I w m wr T K' ∧ relN i' N n k' u len) (fun _ k _ => (n - intOf k).toNat)
      case atStart => exact ⟨N, 0, by omega, by omega, rfl, rfl, jr, hN⟩
      case round =>
        obtain ⟨N2, k, hk0, hk1, rfl, rfl, jr2, hN2⟩ := hrel
        clear jr
        by_cases hk : k < n
        · have hl := fills_load HT.out (by omega) k.toNat (by omega)
          have ea : (512 + k.toNat) * 8192 + 8 * k.toNat = ((512 + k) * 8192 + 8 * k).toNat := by omega
          rw [ea] at hl
          unfold relN at hN2
          rcases hN2 with ⟨hz, hz'⟩ | ⟨hz, hz1, hz2⟩
          · subst hz hz'
            have HLd : Hid (loadS T ((512 + k) * 8192 + 8 * k).toNat = (0, 0)) := by rw [hl]; rfl
            clear hl ea HT
            go_wp2_with fail
            go_at_call 12
            refine (Fc.jload HLd.out jr2 (by unfold two64; omega) (by unfold lim; omega)).mono ?_
            rintro e w5 ⟨rfl, j5⟩
            go_wp2_with fail
            go_roundw
            case rel => exact ⟨0, k + 1, by omega, by omega, rfl, rfl, j5, Or.inl ⟨rfl, rfl⟩⟩
            case measure => simp [intOf]; omega
          · rw [if_neg (by simp; omega)] at hl
            by_cases hq : N2 < len
            · have e2 : u - n.toNat + k.toNat = N2.toNat := by omega
              have HLd : Hid (loadS T ((512 + k) * 8192 + 8 * k).toNat = (X N2.toNat, 0)) := by
                rw [hl, e2, HL.out, List.getD_eq_getElem?_getD, List.getElem?_map, List.getElem?_range (by omega)]; rfl
              have hc : wr.cell? ⟨b, off + N2.toNat, none⟩ = some (.int .u64 (X N2.toNat : Int)) := by
                rw [jr2.below.cell (by exact hb)]; exact hX _ (by omega)
              have hq0 : 0 ≤ N2 := by omega
              clear hl ea e2 HT
              go_wp2_with fail
              go_at_call 12
              refine (Fc.jload HLd.out jr2 (by unfold two64; omega) (by unfold lim; omega)).mono ?_
              rintro e w5 ⟨rfl, j5⟩
              go_wp2_with fail
              go_roundw
              case rel => exact ⟨N2 + 1, k + 1, by omega, by omega, rfl, rfl, j5, by unfold relN; omega⟩
              case measure => simp [intOf]; omega
            · have HLd : Hid (loadS T ((512 + k) * 8192 + 8 * k).toNat = (0, 0)) := by
                rw [hl, HL.out, List.getD_eq_getElem?_getD, List.getElem?_eq_none (by simp; omega)]; rfl
              clear hl ea HT
              go_wp2_with fail
              go_at_call 12
              refine (Fc.jload HLd.out jr2 (by unfold two64; omega) (by unfold lim; omega)).mono ?_
              rintro e w5 ⟨rfl, j5⟩
              go_wp2_with fail
              go_roundw
              case rel => exact ⟨N2, k + 1, by omega, by omega, rfl, rfl, j5, by unfold relN; omega⟩
              case measure => simp [intOf]; omega
        · obtain ⟨T1, T2, e1, e2, f2⟩ := fills_round HT.out (by omega) (by omega)
          have F2 : Hid _ := f2
          have HN2 : Hid _ := hN2
          have E1 : Hid _ := e1
          have E2 : Hid _ := e2
          clear f2 hN2 hN HT e1 e2
          go_wp2_with fail
          go_at_call 13
          refine (Fc.jrelease (a := 512) (b := n) E1.out jr2 (by unfold two64; omega) (by unfold two64; omega) (by unfold lim; omega)).mono ?_
          rintro e w5 ⟨rfl, j5⟩
          go_wp2_with fail
          go_at_call 11
          refine (Fc.jcommit (a := 512) (b := n) E2.out j5 (by unfold two64; omega) (by unfold two64; omega) (by unfold cost lim; simp; omega)).mono ?_
          rintro e w6 ⟨rfl, j6⟩
          go_wp2_with fail
          go_roundw
          case rel =>
            have h2 := F2.out
            rw [show false = decide (i' + 1 = 0) by simp; omega] at h2
            have hK' := HK.out
            have hu := HU.out
            exact ⟨N2, i' + 1, u + n.toNat, _, T2, by omega, by omega, ⟨by unfold cost; simp; omega, by omega⟩, rfl, rfl, h2, j6, by have := HN2.out; unfold relN at *; omega⟩
          case measure => simp [intOf]; omega
    · have hc : countS T 2 = n.toNat := (base_count hT.out.base (by omega) (by decide)).1
      clear hT hN
      go_wp2_with fail
      go_at_call 14
      refine (Fc.jcount (k := 2) hc jr (by omega) (by omega) (by unfold lim; omega)).mono ?_
      rintro e w5 ⟨rfl, j5⟩
      have ec : ((n.toNat : Nat) : Int) = n := by omega
      rw [ec]
      clear hc ec
      go_wp2_with fail
      go_at_call 15
      refine (awake_core Fc _).mono ?_
      rintro e w9 ⟨rfl, b9⟩
      go_wp2_with fail
      go_ret
      exact ⟨rfl, j5.below.trans (b9.mono j5.below.size)⟩
set_option maxRecDepth 100000 in
theorem fills_nil {I : Inv} (Fc : Face vm I) (r n : Int) (hr : 0 ≤ r) (hr' : r ≤ 10) (hn : 1 ≤ n) (hn' : n ≤ 10) (w : World) :
    Calls Try.prog 3 #[.slice none 0 0, .int .i64 r, .int .u64 n] w fun e w' => e = .returned (.bool true) ∧ Below w.heap.size w w' := by
  obtain ⟨i0, hi, hz0, hz1, hz2⟩ := info_parts infoU
  have e0 := own_empty w 23 1
  go_enter Try.func3, Try.ntmps3
  go_wp2_with (first | (at_builtin; refine wpList_append_own_none rfl (.tmp 35) (.tmp 36) 22 rfl w.heap.size 23 i0 1 Try.underlying22 hi (.slice (some ⟨w.heap.size, 0, none⟩) 0 0) 0 [] rfl e0 rfl ?_))
  have bel : Below w.heap.size w (w.alloc (.cells #[] 23)) := (Below.refl _ _).alloc (Nat.le_refl _) _
  have hsl : Sl (w.alloc (.cells #[] 23)) _ (u64s []) := Sl.of_owns e0
  go_at_call 9
  refine (Fc.jnew (w0 := w) _ _ _ _ [] [] [] (Sl.nil _) (Sl.nil _) hsl (by simp) (by simp) (by decide) (by decide) (by decide) bel).mono ?_
  rintro e w2 ⟨m, rfl, j1⟩
  clear hsl bel e0
  go_wp2_with fail
  go_at_call 10
  obtain ⟨S1, S2, e1, e2, f2⟩ := fills_start [] n.toNat (by omega) (by omega)
  refine (Fc.jreserve (a := 0) (b := 512) (by exact e1) j1 (by unfold two64; omega) (by unfold two64; omega) (by decide)).mono ?_
  rintro e w3 ⟨rfl, j2⟩
  go_wp2_with fail
  go_at_call 11
  refine (Fc.jcommit (a := 512) (b := n) (by exact e2) j2 (by unfold two64; omega) (by unfold two64; omega) (by decide)).mono ?_
  rintro e w4 ⟨rfl, j3⟩
  obtain ⟨K, hK, j3⟩ : ∃ K, K ≤ 1000 ∧ J I w m w4 S2 K := ⟨_, by unfold cost; simp; omega, j3⟩
  have F2 : Hid _ := f2
  clear j1 j2 e1 e2 f2
  go_wp2_with fail
  go_loopw [10, 11] (fun nx i wr => ∃ (N i' : Int) (u K : Nat) (T : Sp), 0 ≤ i' ∧ i' ≤ r + 1 ∧ relB i' u K ∧ i = .int .i64 i' ∧ nx = .int .i64 N ∧ Hid (FillsAt [] n.toNat u (decide (i' = 0)) T) ∧ J I w m wr T K ∧ relN i' N n 0 u 0) (fun _ i _ => (r + 1 - intOf i).toNat)
  case atStart => exact ⟨0, 0, 0, K, S2, by omega, by omega, ⟨by omega, by omega⟩, rfl, rfl, F2, j3, Or.inl ⟨rfl, rfl⟩⟩
  case round =>
    obtain ⟨N, i', u, K', T, hi0, hi1, ⟨hK', hu⟩, rfl, rfl, hT, jr, hN⟩ := hrel
    have hKn : K' ≤ 3000 := by omega
    have hun : u ≤ 200 := by omega
    have HK : Hid _ := hK'
    have HU : Hid _ := hu
    clear j3 F2 hK' hu
    by_cases hlt : i' ≤ r
    · have HT := hT
      clear hT hi1
      go_wp2_with fail
      go_loopw [10, 12] (fun nx k wr => ∃ (N k' : Int), 0 ≤ k' ∧ k' ≤ n ∧ k = .int .u64 k' ∧ nx = .int .i64 N ∧ J I w m wr T K' ∧ relN i' N n k' u 0) (fun _ k _ => (n - intOf k).toNat)
      case atStart => exact ⟨N, 0, by omega, by omega, rfl, rfl, jr, hN⟩
      case round =>
        obtain ⟨N2, k, hk0, hk1, rfl, rfl, jr2, hN2⟩ := hrel
        clear jr
        by_cases hk : k < n
        · have hl := fills_load HT.out (by omega) k.toNat (by omega)
          have ea : (512 + k.toNat) * 8192 + 8 * k.toNat = ((512 + k) * 8192 + 8 * k).toNat := by omega
          rw [ea] at hl
          unfold relN at hN2
          rcases hN2 with ⟨hz, hz'⟩ | ⟨hz, hz1, hz2⟩
          · subst hz hz'
            have HLd : Hid (loadS T ((512 + k) * 8192 + 8 * k).toNat = (0, 0)) := by rw [hl]; rfl
            clear hl ea HT
            go_wp2_with fail
            go_at_call 12
            refine (Fc.jload HLd.out jr2 (by unfold two64; omega) (by unfold lim; omega)).mono ?_
            rintro e w5 ⟨rfl, j5⟩
            go_wp2_with fail
            go_roundw
            case rel => exact ⟨0, k + 1, by omega, by omega, rfl, rfl, j5, Or.inl ⟨rfl, rfl⟩⟩
            case measure => simp [intOf]; omega
          · rw [if_neg (by simp; omega)] at hl
            have HLd : Hid (loadS T ((512 + k) * 8192 + 8 * k).toNat = (0, 0)) := by
              rw [hl]; rfl
            clear hl ea HT
            go_wp2_with fail
            go_at_call 12
            refine (Fc.jload HLd.out jr2 (by unfold two64; omega) (by unfold lim; omega)).mono ?_
            rintro e w5 ⟨rfl, j5⟩
            go_wp2_with fail
            go_roundw
            case rel => exact ⟨N2, k + 1, by omega, by omega, rfl, rfl, j5, by unfold relN; omega⟩
            case measure => simp [intOf]; omega
        · obtain ⟨T1, T2, e1, e2, f2⟩ := fills_round HT.out (by omega) (by omega)
          have F2 : Hid _ := f2
          have HN2 : Hid _ := hN2
          have E1 : Hid _ := e1
          have E2 : Hid _ := e2
          clear f2 hN2 hN HT e1 e2
          go_wp2_with fail
          go_at_call 13
          refine (Fc.jrelease (a := 512) (b := n) E1.out jr2 (by unfold two64; omega) (by unfold two64; omega) (by unfold lim; omega)).mono ?_
          rintro e w5 ⟨rfl, j5⟩
          go_wp2_with fail
          go_at_call 11
          refine (Fc.jcommit (a := 512) (b := n) E2.out j5 (by unfold two64; omega) (by unfold two64; omega) (by unfold cost lim; simp; omega)).mono ?_
          rintro e w6 ⟨rfl, j6⟩
          go_wp2_with fail
          go_roundw
          case rel =>
            have h2 := F2.out
            rw [show false = decide (i' + 1 = 0) by simp; omega] at h2
            have hK' := HK.out
            have hu := HU.out
            exact ⟨N2, i' + 1, u + n.toNat, _, T2, by omega, by omega, ⟨by unfold cost; simp; omega, by omega⟩, rfl, rfl, h2, j6, by have := HN2.out; unfold relN at *; omega⟩
          case measure => simp [intOf]; omega
    · have hc : countS T 2 = n.toNat := (base_count hT.out.base (by omega) (by decide)).1
      clear hT hN
      go_wp2_with fail
      go_at_call 14
      refine (Fc.jcount (k := 2) hc jr (by omega) (by omega) (by unfold lim; omega)).mono ?_
      rintro e w5 ⟨rfl, j5⟩
      have ec : ((n.toNat : Nat) : Int) = n := by omega
      rw [ec]
      clear hc ec
      go_wp2_with fail
      go_at_call 15
      refine (awake_core Fc _).mono ?_
      rintro e w9 ⟨rfl, b9⟩
      go_wp2_with fail
      go_ret
      exact ⟨rfl, j5.below.trans (b9.mono j5.below.size)⟩
set_option maxRecDepth 100000 in
theorem fills_zero {I : Inv} (Fc : Face vm I) (ad : Addr) (cap : Nat) (r n : Int) (hr : 0 ≤ r) (hr' : r ≤ 10) (hn : 1 ≤ n) (hn' : n ≤ 10) (w : World) :
    Calls Try.prog 3 #[.slice (some ad) 0 cap, .int .i64 r, .int .u64 n] w fun e w' => e = .returned (.bool true) ∧ Below w.heap.size w w' := by
  obtain ⟨i0, hi, hz0, hz1, hz2⟩ := info_parts infoU
  have e0 := own_empty w 23 1
  go_enter Try.func3, Try.ntmps3
  go_wp2_with (first | (at_builtin; refine wpList_append_own _ rfl (.tmp 35) (.tmp 36) 22 rfl w.heap.size 23 i0 (.int .u64 0) 1 8 Try.underlying22 hi hz0 hz1 hz2 rfl (by decide) (.slice (some ⟨w.heap.size, 0, none⟩) 0 0) 0 [] rfl (own_empty w 23 1) ad 0 cap [] rfl rfl (fun j u hu => by simp at hu) (fun u hu => by cases hu) (by decide) (by decide) (by simp) ?_; intro v' w1 hown hgrow hnil; obtain ⟨g, cp, rfl⟩ := own_shape hown (fun h => by have := (hnil.1 h).1; cases this); have HG : Hid _ := hgrow; clear hgrow hnil))
  rw [Nat.zero_add] at hown
  have bel : Below w.heap.size w w1 := ((Below.refl _ _).alloc (Nat.le_refl _) _).grown HG.out (by simp) (by intro k hk; simp [Value.ownBlock] at hk; omega)
  have hsl : Sl w1 _ (u64s []) := Sl.of_owns hown
  go_at_call 9
  refine (Fc.jnew (w0 := w) _ _ _ _ [] [] [] (Sl.nil _) (Sl.nil _) hsl (by simp) (by simp) (by decide) (by decide) (by decide) bel).mono ?_
  rintro e w2 ⟨m, rfl, j1⟩
  clear hsl bel e0 hown HG
  go_wp2_with fail
  go_at_call 10
  obtain ⟨S1, S2, e1, e2, f2⟩ := fills_start [] n.toNat (by omega) (by omega)
  refine (Fc.jreserve (a := 0) (b := 512) (by exact e1) j1 (by unfold two64; omega) (by unfold two64; omega) (by decide)).mono ?_
  rintro e w3 ⟨rfl, j2⟩
  go_wp2_with fail
  go_at_call 11
  refine (Fc.jcommit (a := 512) (b := n) (by exact e2) j2 (by unfold two64; omega) (by unfold two64; omega) (by decide)).mono ?_
  rintro e w4 ⟨rfl, j3⟩
  obtain ⟨K, hK, j3⟩ : ∃ K, K ≤ 1000 ∧ J I w m w4 S2 K := ⟨_, by unfold cost; simp; omega, j3⟩
  have F2 : Hid _ := f2
  clear j1 j2 e1 e2 f2
  go_wp2_with fail
  go_loopw [10, 11] (fun nx i wr => ∃ (N i' : Int) (u K : Nat) (T : Sp), 0 ≤ i' ∧ i' ≤ r + 1 ∧ relB i' u K ∧ i = .int .i64 i' ∧ nx = .int .i64 N ∧ Hid (FillsAt [] n.toNat u (decide (i' = 0)) T) ∧ J I w m wr T K ∧ relN i' N n 0 u 0) (fun _ i _ => (r + 1 - intOf i).toNat)
  case atStart => exact ⟨0, 0, 0, K, S2, by omega, by omega, ⟨by omega, by omega⟩, rfl, rfl, F2, j3, Or.inl ⟨rfl, rfl⟩⟩
  case round =>
    obtain ⟨N, i', u, K', T, hi0, hi1, ⟨hK', hu⟩, rfl, rfl, hT, jr, hN⟩ := hrel
    have hKn : K' ≤ 3000 := by omega
    have hun : u ≤ 200 := by omega
    have HK : Hid _ := hK'
    have HU : Hid _ := hu
    clear j3 F2 hK' hu
    by_cases hlt : i' ≤ r
    · have HT := hT
      clear hT hi1
      go_wp2_with fail
      go_loopw [10, 12] (fun nx k wr => ∃ (N k' : Int), 0 ≤ k' ∧ k' ≤ n ∧ k = .int .u64 k' ∧ nx = .int .i64 N ∧ J I w m wr T K' ∧ relN i' N n k' u 0) (fun _ k _ => (n - intOf k).toNat)
      case atStart => exact ⟨N, 0, by omega, by omega, rfl, rfl, jr, hN⟩
      case round =>
        obtain ⟨N2, k, hk0, hk1, rfl, rfl, jr2, hN2⟩ := hrel
        clear jr
        by_cases hk : k < n
        · have hl := fills_load HT.out (by omega) k.toNat (by omega)
          have ea : (512 + k.toNat) * 8192 + 8 * k.toNat = ((512 + k) * 8192 + 8 * k).toNat := by omega
          rw [ea] at hl
          unfold relN at hN2
          rcases hN2 with ⟨hz, hz'⟩ | ⟨hz, hz1, hz2⟩
          · subst hz hz'
            have HLd : Hid (loadS T ((512 + k) * 8192 + 8 * k).toNat = (0, 0)) := by rw [hl]; rfl
            clear hl ea HT
            go_wp2_with fail
            go_at_call 12
            refine (Fc.jload HLd.out jr2 (by unfold two64; omega) (by unfold lim; omega)).mono ?_
            rintro e w5 ⟨rfl, j5⟩
            go_wp2_with fail
            go_roundw
            case rel => exact ⟨0, k + 1, by omega, by omega, rfl, rfl, j5, Or.inl ⟨rfl, rfl⟩⟩
            case measure => simp [intOf]; omega
          · rw [if_neg (by simp; omega)] at hl
            have HLd : Hid (loadS T ((512 + k) * 8192 + 8 * k).toNat = (0, 0)) := by
              rw [hl]; rfl
            clear hl ea HT
            go_wp2_with fail
            go_at_call 12
            refine (Fc.jload HLd.out jr2 (by unfold two64; omega) (by unfold lim; omega)).mono ?_
            rintro e w5 ⟨rfl, j5⟩
            go_wp2_with fail
            go_roundw
            case rel => exact ⟨N2, k + 1, by omega, by omega, rfl, rfl, j5, by unfold relN; omega⟩
            case measure => simp [intOf]; omega
        · obtain ⟨T1, T2, e1, e2, f2⟩ := fills_round HT.out (by omega) (by omega)
          have F2 : Hid _ := f2
          have HN2 : Hid _ := hN2
          have E1 : Hid _ := e1
          have E2 : Hid _ := e2
          clear f2 hN2 hN HT e1 e2
          go_wp2_with fail
          go_at_call 13
          refine (Fc.jrelease (a := 512) (b := n) E1.out jr2 (by unfold two64; omega) (by unfold two64; omega) (by unfold lim; omega)).mono ?_
          rintro e w5 ⟨rfl, j5⟩
          go_wp2_with fail
          go_at_call 11
          refine (Fc.jcommit (a := 512) (b := n) E2.out j5 (by unfold two64; omega) (by unfold two64; omega) (by unfold cost lim; simp; omega)).mono ?_
          rintro e w6 ⟨rfl, j6⟩
          go_wp2_with fail
          go_roundw
          case rel =>
            have h2 := F2.out
            rw [show false = decide (i' + 1 = 0) by simp; omega] at h2
            have hK' := HK.out
            have hu := HU.out
            exact ⟨N2, i' + 1, u + n.toNat, _, T2, by omega, by omega, ⟨by unfold cost; simp; omega, by omega⟩, rfl, rfl, h2, j6, by have := HN2.out; unfold relN at *; omega⟩
          case measure => simp [intOf]; omega
    · have hc : countS T 2 = n.toNat := (base_count hT.out.base (by omega) (by decide)).1
      clear hT hN
      go_wp2_with fail
      go_at_call 14
      refine (Fc.jcount (k := 2) hc jr (by omega) (by omega) (by unfold lim; omega)).mono ?_
      rintro e w5 ⟨rfl, j5⟩
      have ec : ((n.toNat : Nat) : Int) = n := by omega
      rw [ec]
      clear hc ec
      go_wp2_with fail
      go_at_call 15
      refine (awake_core Fc _).mono ?_
      rintro e w9 ⟨rfl, b9⟩
      go_wp2_with fail
      go_ret
      exact ⟨rfl, j5.below.trans (b9.mono j5.below.size)⟩
end Go.Proofs.Ytpceigglilgelaa
