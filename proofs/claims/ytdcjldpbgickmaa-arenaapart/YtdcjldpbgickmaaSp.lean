/- Package slices: siftDownOrdered, heapSortOrdered: contracts. -/
import Derived.Test.YtdcjldpbgickmaaSo
namespace Go.Proofs.Ytdcjldpbgickmaa
open Go.ChangeShapes Go.WideShapes Go.ChangeAt Go.RowKit Go.Shelf Go.Proofs.Rx Go.Maps
open Go.Sort (swp ltInt size_swp swp_left swp_right swp_other)
set_option linter.unusedVariables false
set_option linter.unusedSimpArgs false

section
variable {α : Type} [Inhabited α] (lt : α → α → Bool)
theorem sift_end (hi F r : Nat) (d : Array α) (h : hi ≤ 2 * r + 1) : Go.Sort.siftDown lt hi F r d = d := by
  rw [Go.Sort.siftDown, dif_pos h]
theorem sift_two (hi F r : Nat) (d : Array α) (h : 2 * r + 2 < hi) (h1 : lt d[F + (2 * r + 1)]! d[F + (2 * r + 1) + 1]! = true) : Go.Sort.siftDown lt hi F r d = if lt d[F + r]! d[F + (2 * r + 2)]! = true then Go.Sort.siftDown lt hi F (2 * r + 2) (swp d (F + r) (F + (2 * r + 2))) else d := by
  rw [Go.Sort.siftDown, dif_neg (by omega), if_pos (by rw [h1]; simp; omega)]
  cases lt d[F + r]! d[F + (2 * r + 2)]! with
  | true => simp [h]
  | false => simp
theorem sift_one (hi F r : Nat) (d : Array α) (h : 2 * r + 1 < hi) (h1 : ¬ 2 * r + 2 < hi ∨ lt d[F + (2 * r + 1)]! d[F + (2 * r + 1) + 1]! = false) : Go.Sort.siftDown lt hi F r d = if lt d[F + r]! d[F + (2 * r + 1)]! = true then Go.Sort.siftDown lt hi F (2 * r + 1) (swp d (F + r) (F + (2 * r + 1))) else d := by
  rw [Go.Sort.siftDown, dif_neg (by omega), if_neg]
  · cases lt d[F + r]! d[F + (2 * r + 1)]! with
    | true => simp
    | false => simp
  · intro z
    rw [Bool.and_eq_true, decide_eq_true_eq] at z
    rcases h1 with h1 | h1
    · omega
    · rw [h1] at z; cases z.2
end
set_option maxRecDepth 100000 in
set_option maxHeartbeats 2000000 in
theorem sift_any {blk off : Nat} {w0 W : World} {d : Array Int} (h : RwU blk off w0 d W) (cap lo hi F : Nat) (hF : F + hi ≤ d.size) (hlo : lo ≤ d.size) (hsz : d.size < 1152921504606846976) :
    Calls Try.prog 48 #[.slice (some ⟨blk, off, none⟩) d.size cap, .int .i64 (lo : Nat), .int .i64 (hi : Nat), .int .i64 (F : Nat)] W fun e W' => e = .returned (.tuple #[]) ∧ RwU blk off w0 (Go.Sort.siftDown ltInt hi F lo d) W' := by
  obtain ⟨n, hn⟩ : ∃ n, d.size = n := ⟨_, rfl⟩
  rw [hn] at hF hsz hlo ⊢
  have H := hide h
  have HN := hide hn
  clear h hn
  go_enter Try.func48, Try.ntmps48
  go_wp2_with fail
  go_loopw [8] (fun vr X => ∃ (r : Nat) (e : Array Int), vr = .int .i64 (r : Nat) ∧ r ≤ n ∧ Hid (e.size = n) ∧ Hid (RwU blk off w0 e X) ∧ Hid (Go.Sort.siftDown ltInt hi F r e = Go.Sort.siftDown ltInt hi F lo d)) (fun vr _ => n + 1 - (zi vr).toNat)
  case atStart => exact ⟨lo, d, rfl, hlo, HN, H, hide rfl⟩
  case round =>
    obtain ⟨r, e, rfl, h1, HS, HE, HO⟩ := hrel
    obtain ⟨G, hG⟩ : ∃ G : Nat → Int, ∀ t, G t = e[t]! := ⟨fun t => e[t]!, fun _ => rfl⟩
    have hc : ∀ t, t < n → wr.cell? ⟨blk, off + t, none⟩ = some (.int .u64 (G t)) := fun t ht => by rw [hG]; exact HE.out.cell t (by rw [HS.out]; exact ht)
    have hf : ∀ t, t < n → wr.frozen? ⟨blk, off + t, none⟩ = false := fun t ht => HE.out.fz t (by rw [HS.out]; exact ht)
    have HG := hide hG
    clear hG
    by_cases c1 : 2 * r + 1 < hi
    · obtain ⟨x, hx⟩ : ∃ x, F + r = x := ⟨_, rfl⟩
      have hwx : IntKind.i64.wrap ((F : Int) + (r : Int)) = (x : Int) := by simp [IntKind.wrap, IntKind.bits, IntKind.signed]; omega
      have q2 : x < n := by omega
      have dc : decide ((hi : Int) ≤ 2 * (r : Int) + 1) = false := decide_eq_false (by omega)
      by_cases c2 : 2 * r + 2 < hi
      · have d2 : decide (2 * (r : Int) + 1 + 1 < (hi : Int)) = true := decide_eq_true (by omega)
        go_wp2_with fail
        go_quiet (first | (go_at_call 43; refine Calls.quiet_of_same (less_any _ _ _)))
        cases hl : ltInt (G (F + 2 * r + 1)) (G (F + 2 * r + 2)) with
        | true =>
          have HL := hide hl
          go_wp2_with fail
          have E1 := hide (HE.out.drewN nq)
          obtain ⟨X1, hX1⟩ : ∃ X1, wr.drewN nq = X1 := ⟨_, rfl⟩
          rw [hX1] at E1 ⊢
          have hc1 : ∀ t, t < n → X1.cell? ⟨blk, off + t, none⟩ = some (.int .u64 (G t)) := fun t ht => by rw [HG.out]; exact E1.out.cell t (by rw [HS.out]; exact ht)
          have hf1 : ∀ t, t < n → X1.frozen? ⟨blk, off + t, none⟩ = false := fun t ht => E1.out.fz t (by rw [HS.out]; exact ht)
          clear hX1 hc hf
          obtain ⟨y, hy⟩ : ∃ y, F + (2 * r + 2) = y := ⟨_, rfl⟩
          have hwy : IntKind.i64.wrap ((F : Int) + (2 * (r : Int) + 1 + 1)) = (y : Int) := by simp [IntKind.wrap, IntKind.bits, IntKind.signed]; omega
          have qy : y < n := by omega
          have xy : ¬ x = y := by omega
          have yx : ¬ y = x := by omega
          have HX := hide (And.intro hx hy)
          clear hx hy
          go_quiet (first | (go_at_call 43; refine Calls.quiet_of_same (less_any _ _ _)))
          cases hm : ltInt (G x) (G y) with
          | true =>
            go_wp2_with fail
            go_region
            all_goals go_wp2_with fail
            have hg := HG.out
            obtain ⟨hx, hy⟩ := HX.out
            refine ⟨⟨2 * r + 2, swp e x y, by congr 1, by omega, hide (by rw [size_swp]; exact HS.out), hide ?_, hide ?_⟩, ?_⟩
            · rw [hg, hg]
              exact (E1.out.drewN _).swap x y (by rw [HS.out]; omega) (by rw [HS.out]; omega)
            · rw [← HO.out, sift_two ltInt hi F r e (by omega) (by have z := HL.out; rw [hg, hg] at z; exact z), hx, hy, if_pos (by rw [← hg, ← hg]; exact hm)]
            · simp [zi]; omega
          | false =>
            go_wp2_with fail
            have hg := HG.out
            obtain ⟨hx, hy⟩ := HX.out
            refine bodyPost_ret (results_none rfl _ _ _) rfl ?_
            refine ⟨rfl, ?_⟩
            rw [← HO.out, sift_two ltInt hi F r e (by omega) (by have z := HL.out; rw [hg, hg] at z; exact z), hx, hy, if_neg (by rw [← hg, ← hg, hm]; simp)]
            exact E1.out.drewN _
        | false =>
          have HL := hide hl
          go_wp2_with fail
          have E1 := hide (HE.out.drewN nq)
          obtain ⟨X1, hX1⟩ : ∃ X1, wr.drewN nq = X1 := ⟨_, rfl⟩
          rw [hX1] at E1 ⊢
          have hc1 : ∀ t, t < n → X1.cell? ⟨blk, off + t, none⟩ = some (.int .u64 (G t)) := fun t ht => by rw [HG.out]; exact E1.out.cell t (by rw [HS.out]; exact ht)
          have hf1 : ∀ t, t < n → X1.frozen? ⟨blk, off + t, none⟩ = false := fun t ht => E1.out.fz t (by rw [HS.out]; exact ht)
          clear hX1 hc hf
          obtain ⟨y, hy⟩ : ∃ y, F + (2 * r + 1) = y := ⟨_, rfl⟩
          have hwy : IntKind.i64.wrap ((F : Int) + (2 * (r : Int) + 1)) = (y : Int) := by simp [IntKind.wrap, IntKind.bits, IntKind.signed]; omega
          have qy : y < n := by omega
          have xy : ¬ x = y := by omega
          have yx : ¬ y = x := by omega
          have HX := hide (And.intro hx hy)
          clear hx hy
          go_quiet (first | (go_at_call 43; refine Calls.quiet_of_same (less_any _ _ _)))
          cases hm : ltInt (G x) (G y) with
          | true =>
            go_wp2_with fail
            go_region
            all_goals go_wp2_with fail
            have hg := HG.out
            obtain ⟨hx, hy⟩ := HX.out
            refine ⟨⟨2 * r + 1, swp e x y, by congr 1, by omega, hide (by rw [size_swp]; exact HS.out), hide ?_, hide ?_⟩, ?_⟩
            · rw [hg, hg]
              exact (E1.out.drewN _).swap x y (by rw [HS.out]; omega) (by rw [HS.out]; omega)
            · rw [← HO.out, sift_one ltInt hi F r e (by omega) (.inr (by have z := HL.out; rw [hg, hg] at z; exact z)), hx, hy, if_pos (by rw [← hg, ← hg]; exact hm)]
            · simp [zi]; omega
          | false =>
            go_wp2_with fail
            have hg := HG.out
            obtain ⟨hx, hy⟩ := HX.out
            refine bodyPost_ret (results_none rfl _ _ _) rfl ?_
            refine ⟨rfl, ?_⟩
            rw [← HO.out, sift_one ltInt hi F r e (by omega) (.inr (by have z := HL.out; rw [hg, hg] at z; exact z)), hx, hy, if_neg (by rw [← hg, ← hg, hm]; simp)]
            exact E1.out.drewN _
      · have d2 : decide (2 * (r : Int) + 1 + 1 < (hi : Int)) = false := decide_eq_false (by omega)
        go_wp2_with fail
        go_quiet (first | (go_at_call 43; refine Calls.quiet_of_same (less_any _ _ _)))
        go_wp2_with fail
        have E1 := hide (HE.out.drewN nq)
        obtain ⟨X1, hX1⟩ : ∃ X1, wr.drewN nq = X1 := ⟨_, rfl⟩
        rw [hX1] at E1 ⊢
        have hc1 : ∀ t, t < n → X1.cell? ⟨blk, off + t, none⟩ = some (.int .u64 (G t)) := fun t ht => by rw [HG.out]; exact E1.out.cell t (by rw [HS.out]; exact ht)
        have hf1 : ∀ t, t < n → X1.frozen? ⟨blk, off + t, none⟩ = false := fun t ht => E1.out.fz t (by rw [HS.out]; exact ht)
        clear hX1 hc hf
        obtain ⟨y, hy⟩ : ∃ y, F + (2 * r + 1) = y := ⟨_, rfl⟩
        have hwy : IntKind.i64.wrap ((F : Int) + (2 * (r : Int) + 1)) = (y : Int) := by simp [IntKind.wrap, IntKind.bits, IntKind.signed]; omega
        have qy : y < n := by omega
        have xy : ¬ x = y := by omega
        have yx : ¬ y = x := by omega
        have HX := hide (And.intro hx hy)
        clear hx hy
        go_quiet (first | (go_at_call 43; refine Calls.quiet_of_same (less_any _ _ _)))
        cases hm : ltInt (G x) (G y) with
        | true =>
          go_wp2_with fail
          go_region
          all_goals go_wp2_with fail
          have hg := HG.out
          obtain ⟨hx, hy⟩ := HX.out
          refine ⟨⟨2 * r + 1, swp e x y, by congr 1, by omega, hide (by rw [size_swp]; exact HS.out), hide ?_, hide ?_⟩, ?_⟩
          · rw [hg, hg]
            exact (E1.out.drewN _).swap x y (by rw [HS.out]; omega) (by rw [HS.out]; omega)
          · rw [← HO.out, sift_one ltInt hi F r e (by omega) (.inl c2), hx, hy, if_pos (by rw [← hg, ← hg]; exact hm)]
          · simp [zi]; omega
        | false =>
          go_wp2_with fail
          have hg := HG.out
          obtain ⟨hx, hy⟩ := HX.out
          refine bodyPost_ret (results_none rfl _ _ _) rfl ?_
          refine ⟨rfl, ?_⟩
          rw [← HO.out, sift_one ltInt hi F r e (by omega) (.inl c2), hx, hy, if_neg (by rw [← hg, ← hg, hm]; simp)]
          exact E1.out.drewN _
    · have dc : decide ((hi : Int) ≤ 2 * (r : Int) + 1) = true := decide_eq_true (by omega)
      go_wp2_with fail
      go_end0
      refine ⟨rfl, ?_⟩
      rw [← HO.out, sift_end ltInt hi F r e (by omega)]
      exact HE.out
end Go.Proofs.Ytdcjldpbgickmaa
