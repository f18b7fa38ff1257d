/- Package slices: heapSortOrdered: a contract. -/
import Derived.Test.YtdcjldpbgickmaaSp
namespace Go.Proofs.Ytdcjldpbgickmaa
open Go.ChangeShapes Go.WideShapes Go.ChangeAt Go.RowKit Go.Shelf Go.Proofs.Rx Go.Maps
open Go.Sort (swp ltInt size_swp swp_left swp_right swp_other)
set_option linter.unusedVariables false
set_option linter.unusedSimpArgs false

theorem sift_size (lt : Int → Int → Bool) (hi F : Nat) : ∀ (n r : Nat) (d : Array Int), hi - r ≤ n → (Go.Sort.siftDown lt hi F r d).size = d.size := by
  intro n
  induction n with
  | zero => intro r d h; rw [sift_end lt hi F r d (by omega)]
  | succ n ih =>
    intro r d h
    by_cases c1 : 2 * r + 1 < hi
    · by_cases c2 : 2 * r + 2 < hi ∧ lt d[F + (2 * r + 1)]! d[F + (2 * r + 1) + 1]! = true
      · rw [sift_two lt hi F r d c2.1 c2.2]
        split
        · rw [ih _ _ (by omega), size_swp]
        · rfl
      · rw [sift_one lt hi F r d c1 (by
          by_cases z : 2 * r + 2 < hi
          · exact .inr (by cases hz : lt d[F + (2 * r + 1)]! d[F + (2 * r + 1) + 1]! with
              | true => exact absurd ⟨z, hz⟩ c2
              | false => rfl)
          · exact .inl z)]
        split
        · rw [ih _ _ (by omega), size_swp]
        · rfl
    · rw [sift_end lt hi F r d (by omega)]
set_option maxRecDepth 100000 in
set_option maxHeartbeats 2000000 in
theorem heap_any {blk off : Nat} {w0 W : World} {d : Array Int} (h : RwU blk off w0 d W) (cap a b : Nat) (hab : a < b) (hb : b ≤ d.size) (hsz : d.size < 1152921504606846976) :
    Calls Try.prog 38 #[.slice (some ⟨blk, off, none⟩) d.size cap, .int .i64 (a : Nat), .int .i64 (b : Nat)] W fun e W' => e = .returned (.tuple #[]) ∧ RwU blk off w0 (Go.Sort.heapSort ltInt d a b) W' := by
  obtain ⟨n, hn⟩ : ∃ n, d.size = n := ⟨_, rfl⟩
  rw [hn] at hb hsz ⊢
  have H := hide h
  have HN := hide hn
  obtain ⟨m, hm⟩ : ∃ m, b - a = m := ⟨_, rfl⟩
  have hmI : (b : Int) - (a : Int) = (m : Int) := by omega
  have m0 : 1 ≤ m := by omega
  have m1 : a + m ≤ n := by omega
  obtain ⟨K, hK⟩ : ∃ K, (m - 1) / 2 = K := ⟨_, rfl⟩
  have hKI : ((m : Int) - 1).tdiv 2 = (K : Int) := by
    rw [Int.tdiv_eq_ediv_of_nonneg (by omega)]; omega
  have FIN := hide (show ∀ e, Go.Sort.heapPop ltInt a m (Go.Sort.heapBuild ltInt m a (K + 1) d) = e → Go.Sort.heapSort ltInt d a b = e from fun e he => by
    unfold Go.Sort.heapSort
    rw [hm, hK]; exact he)
  have k1 : K < m := by omega
  clear h hn hm hK
  go_enter Try.func38, Try.ntmps38
  go_wp2_with fail
  go_loopw [9] (fun vi X => ∃ (k : Nat) (e : Array Int), vi = .int .i64 ((k : Int) - 1) ∧ k ≤ K + 1 ∧ Hid (e.size = n) ∧ Hid (RwU blk off w0 e X) ∧ Hid (Go.Sort.heapBuild ltInt m a k e = Go.Sort.heapBuild ltInt m a (K + 1) d)) (fun vi _ => (zi vi + 1).toNat)
  case atStart => exact ⟨K + 1, d, by congr 1; omega, by omega, HN, H, hide rfl⟩
  case round =>
    obtain ⟨k, e, rfl, h1, HS, HE, HO⟩ := hrel
    by_cases c : 1 ≤ k
    · have dc : decide ((0 : Int) ≤ (k : Int) - 1) = true := decide_eq_true (by omega)
      obtain ⟨j, hj⟩ : ∃ j, k - 1 = j := ⟨_, rfl⟩
      have hjI : (k : Int) - 1 = (j : Int) := by omega
      have CS := hide (sift_any HE.out cap j m a (by rw [HS.out]; exact m1) (by rw [HS.out]; omega) (by rw [HS.out]; exact hsz))
      rw [HS.out] at CS
      go_wp2_with fail
      refine CS.out.mono ?_
      rintro r X ⟨rfl, hx⟩
      have HX := hide hx
      clear hx
      go_wp2_with fail
      refine ⟨⟨j, Go.Sort.siftDown ltInt m a j e, rfl, by omega, hide (by rw [sift_size ltInt m a (m - j) j e (Nat.le_refl _)]; exact HS.out), HX, hide ?_⟩, ?_⟩
      · rw [← HO.out, show k = j + 1 by omega]; rfl
      · simp [zi]; omega
    · have dc : decide ((0 : Int) ≤ (k : Int) - 1) = false := decide_eq_false (by omega)
      have HB := hide (show e = Go.Sort.heapBuild ltInt m a (K + 1) d from by rw [← HO.out, show k = 0 by omega]; rfl)
      clear HO
      go_wp2_with fail
      clear dc c h1
      go_loopw [10] (fun vi Y => ∃ (k : Nat) (f : Array Int), vi = .int .i64 ((k : Int) - 1) ∧ k ≤ m ∧ Hid (f.size = n) ∧ Hid (RwU blk off w0 f Y) ∧ Hid (Go.Sort.heapPop ltInt a k f = Go.Sort.heapPop ltInt a m e)) (fun vi _ => (zi vi + 1).toNat)
      case atStart => exact ⟨m, e, rfl, Nat.le_refl _, HS, HE, hide rfl⟩
      case round =>
        obtain ⟨k, f, rfl, h1, FS, FE, FO⟩ := hrel
        by_cases c : 1 ≤ k
        · have dc : decide ((0 : Int) ≤ (k : Int) - 1) = true := decide_eq_true (by omega)
          obtain ⟨j, hj⟩ : ∃ j, k - 1 = j := ⟨_, rfl⟩
          have hjI : (k : Int) - 1 = (j : Int) := by omega
          obtain ⟨G, hG⟩ : ∃ G : Nat → Int, ∀ t, G t = f[t]! := ⟨fun t => f[t]!, fun _ => rfl⟩
          have hc : ∀ t, t < n → wr.cell? ⟨blk, off + t, none⟩ = some (.int .u64 (G t)) := fun t ht => by rw [hG]; exact FE.out.cell t (by rw [FS.out]; exact ht)
          have hf : ∀ t, t < n → wr.frozen? ⟨blk, off + t, none⟩ = false := fun t ht => FE.out.fz t (by rw [FS.out]; exact ht)
          have HG := hide hG
          have an : a < n := by omega
          have NX := hide (show ∀ (y : Nat), a + j = y → ∀ Y, RwU blk off w0 (Go.Sort.siftDown ltInt j a 0 (swp f a y)) Y → ∃ (k' : Nat) (f' : Array Int), Value.int .i64 ((j : Int) - 1) = .int .i64 ((k' : Int) - 1) ∧ k' ≤ m ∧ Hid (f'.size = n) ∧ Hid (RwU blk off w0 f' Y) ∧ Hid (Go.Sort.heapPop ltInt a k' f' = Go.Sort.heapPop ltInt a m e) from fun y hy Y hY =>
            ⟨j, _, rfl, by omega, hide (by rw [sift_size ltInt j a (j - 0) 0 _ (Nat.le_refl _), size_swp]; exact FS.out), hide hY, hide (by rw [← FO.out, show k = j + 1 by omega, ← hy]; rfl)⟩)
          clear hG
          by_cases cz : j = 0
          · subst cz
            go_wp2_with fail
            go_region
            all_goals go_wp2_with fail
            have E2 := hide (show RwU blk off w0 (swp f a a) (((wr.setCell ⟨blk, off + a, none⟩ (.int .u64 (G a))).setCell ⟨blk, off + a, none⟩ (.int .u64 (G a))).drew) from by
              have hg := HG.out
              simp only [hg]
              exact (FE.out.swap a a (by rw [FS.out]; omega) (by rw [FS.out]; omega)).drew)
            have CS := hide (sift_any E2.out cap 0 0 a (by rw [size_swp, FS.out]; omega) (by omega) (by rw [size_swp, FS.out]; exact hsz))
            rw [size_swp, FS.out] at CS
            refine CS.out.mono ?_
            rintro r X ⟨rfl, hx⟩
            have HX := hide hx
            clear hx CS E2
            go_wp2_with fail
            go_roundw
            case rel => exact NX.out a (by omega) _ HX.out
            case measure => simp [zi]; omega
          · obtain ⟨y, hy⟩ : ∃ y, a + j = y := ⟨_, rfl⟩
            have hwy : IntKind.i64.wrap ((a : Int) + (j : Int)) = (y : Int) := by simp [IntKind.wrap, IntKind.bits, IntKind.signed]; omega
            have hyI : (a : Int) + (j : Int) = (y : Int) := by omega
            have qy : y < n := by omega
            have xy : ¬ a = y := by omega
            have yx : ¬ y = a := by omega
            have HY := hide hy
            clear hy
            go_wp2_with fail
            go_region
            all_goals go_wp2_with fail
            have E2 := hide (show RwU blk off w0 (swp f a y) (((wr.setCell ⟨blk, off + a, none⟩ (.int .u64 (G y))).setCell ⟨blk, off + y, none⟩ (.int .u64 (G a))).drew) from by
              have hg := HG.out
              simp only [hg]
              exact (FE.out.swap a y (by rw [FS.out]; omega) (by rw [FS.out]; omega)).drew)
            have CS := hide (sift_any E2.out cap 0 j a (by rw [size_swp, FS.out]; omega) (by omega) (by rw [size_swp, FS.out]; exact hsz))
            rw [size_swp, FS.out] at CS
            refine CS.out.mono ?_
            rintro r X ⟨rfl, hx⟩
            have HX := hide hx
            clear hx CS E2
            go_wp2_with fail
            go_roundw
            case rel => exact NX.out y HY.out _ HX.out
            case measure => simp [zi]; omega
        · have dc : decide ((0 : Int) ≤ (k : Int) - 1) = false := decide_eq_false (by omega)
          obtain rfl : k = 0 := by omega
          go_wp2_with fail
          go_end0
          refine ⟨rfl, ?_⟩
          rw [FIN.out f (by rw [← HB.out, ← FO.out]; rfl)]
          exact FE.out
end Go.Proofs.Ytdcjldpbgickmaa
