/- Package slices: partialInsertionSortOrdered: a contract. -/
import Derived.Test.YtdcjldpbgickmaaSr
namespace Go.Proofs.Ytdcjldpbgickmaa
open Go.ChangeShapes Go.WideShapes Go.ChangeAt Go.RowKit Go.Shelf Go.Proofs.Rx Go.Maps
open Go.Sort (swp ltInt size_swp swp_left swp_right swp_other PermIn)
set_option linter.unusedVariables false
set_option linter.unusedSimpArgs false

section
variable {α : Type} [Inhabited α] (lt : α → α → Bool)
theorem scan_on (d : Array α) (b i : Nat) (h : i < b) (hl : lt d[i]! d[i - 1]! = false) : Go.Sort.scanSorted lt d b i = Go.Sort.scanSorted lt d b (i + 1) := by
  rw [Go.Sort.scanSorted, if_pos (by simp [h, hl])]
theorem scan_off (d : Array α) (b i : Nat) (h : ¬ i < b ∨ lt d[i]! d[i - 1]! = true) : Go.Sort.scanSorted lt d b i = i := by
  rw [Go.Sort.scanSorted, if_neg]
  intro z
  rw [Bool.and_eq_true, decide_eq_true_eq] at z
  rcases h with h | h
  · exact h z.1
  · rw [h] at z; cases z.2
theorem down_on (d : Array α) (j : Nat) (h : 1 ≤ j) (hl : lt d[j]! d[j - 1]! = true) : Go.Sort.shiftDown lt j d = Go.Sort.shiftDown lt (j - 1) (swp d j (j - 1)) := by
  obtain ⟨k, rfl⟩ : ∃ k, j = k + 1 := ⟨j - 1, by omega⟩
  rw [show k + 1 - 1 = k by omega] at hl ⊢
  rw [Go.Sort.shiftDown, if_neg (by simp [hl])]
theorem down_off (d : Array α) (j : Nat) (h : j = 0 ∨ lt d[j]! d[j - 1]! = false) : Go.Sort.shiftDown lt j d = d := by
  cases j with
  | zero => rw [Go.Sort.shiftDown]
  | succ k =>
    rw [show k + 1 - 1 = k by omega] at h
    rw [Go.Sort.shiftDown, if_pos]
    rcases h with h | h
    · omega
    · simp [h]
theorem up_on (d : Array α) (b j : Nat) (h : j < b) (hl : lt d[j]! d[j - 1]! = true) : Go.Sort.shiftUp lt b j d = Go.Sort.shiftUp lt b (j + 1) (swp d j (j - 1)) := by
  rw [Go.Sort.shiftUp, if_pos h, if_neg (by simp [hl])]
theorem up_off (d : Array α) (b j : Nat) (h : ¬ j < b ∨ lt d[j]! d[j - 1]! = false) : Go.Sort.shiftUp lt b j d = d := by
  rw [Go.Sort.shiftUp]
  by_cases c : j < b
  · rw [if_pos c, if_pos]
    rcases h with h | h
    · exact absurd c h
    · simp [h]
  · rw [if_neg c]
theorem pins_true (a b s i i1 : Nat) (d : Array α) (h : Go.Sort.scanSorted lt d b i = i1) (h1 : i1 = b) : Go.Sort.partialIns lt a b (s + 1) i d = (d, true) := by
  unfold Go.Sort.partialIns
  simp only [h, h1, if_true]
theorem pins_short (a b s i i1 : Nat) (d : Array α) (h : Go.Sort.scanSorted lt d b i = i1) (h1 : i1 ≠ b) (h2 : b - a < 50) : Go.Sort.partialIns lt a b (s + 1) i d = (d, false) := by
  unfold Go.Sort.partialIns
  simp only [h, if_neg h1, if_pos h2]
theorem pins_next (a b s i i1 : Nat) (d d2 d3 : Array α) (h : Go.Sort.scanSorted lt d b i = i1) (h1 : i1 ≠ b) (h2 : ¬ b - a < 50) (h3 : (if i1 - a ≥ 2 then Go.Sort.shiftDown lt (i1 - 1) (swp d i1 (i1 - 1)) else swp d i1 (i1 - 1)) = d2) (h4 : (if b - i1 ≥ 2 then Go.Sort.shiftUp lt b (i1 + 1) d2 else d2) = d3) : Go.Sort.partialIns lt a b (s + 1) i d = Go.Sort.partialIns lt a b s i1 d3 := by
  conv => lhs; unfold Go.Sort.partialIns
  simp only [h, if_neg h1, if_neg h2, h3, h4]
end
set_option maxRecDepth 100000 in
set_option maxHeartbeats 4000000 in
theorem pins_any {blk off : Nat} {w0 W : World} {d : Array Int} (h : RwU blk off w0 d W) (cap a b : Nat) (hab : a < b) (hb : b ≤ d.size) (hsz : d.size < 1152921504606846976) :
    Calls Try.prog 42 #[.slice (some ⟨blk, off, none⟩) d.size cap, .int .i64 (a : Nat), .int .i64 (b : Nat)] W fun e W' => e = .returned (.bool (Go.Sort.partialInsertionSort ltInt d a b).2) ∧ RwU blk off w0 (Go.Sort.partialInsertionSort ltInt d a b).1 W' := by
  obtain ⟨n, hn⟩ : ∃ n, d.size = n := ⟨_, rfl⟩
  rw [hn] at hb hsz ⊢
  have H := hide h
  have HN := hide hn
  have bI : (b : Int) < 1152921504606846976 := by omega
  obtain ⟨R, hR⟩ : ∃ R : Ending → World → Prop, R = fun e W' => e = .returned (.bool (Go.Sort.partialInsertionSort ltInt d a b).2) ∧ RwU blk off w0 (Go.Sort.partialInsertionSort ltInt d a b).1 W' := ⟨_, rfl⟩
  rw [← hR]
  have FIN := hide (show ∀ (e : Array Int) (r : Bool) (Y : World), Go.Sort.partialIns ltInt a b 5 (a + 1) d = (e, r) → RwU blk off w0 e Y → R (.returned (.bool r)) Y from fun e r Y h1 h2 => by
    rw [hR]
    unfold Go.Sort.partialInsertionSort
    rw [h1]
    exact ⟨rfl, h2⟩)
  clear h hn hR
  go_enter Try.func42, Try.ntmps42
  go_wp2_with fail
  go_loopw [7, 8] (fun vi vj X => ∃ (s i : Nat) (e : Array Int), vi = .int .i64 (i : Nat) ∧ vj = .int .i64 (5 - (s : Int)) ∧ s ≤ 5 ∧ a < i ∧ i ≤ b ∧ Hid (e.size = n) ∧ Hid (RwU blk off w0 e X) ∧ Hid (Go.Sort.partialIns ltInt a b s i e = Go.Sort.partialIns ltInt a b 5 (a + 1) d)) (fun _ vj _ => (5 - zi vj).toNat)
  case atStart => exact ⟨5, a + 1, d, by push_cast; rfl, rfl, by omega, by omega, by omega, HN, H, hide rfl⟩
  case round =>
    obtain ⟨s, i, e, rfl, rfl, h1, h2, h3, HS, HE, HO⟩ := hrel
    by_cases c : 1 ≤ s
    · have dc : decide (5 - (s : Int) < 5) = true := decide_eq_true (by omega)
      go_wp2_with fail
      go_loopw [7] (fun vi Y => ∃ (k : Nat), vi = .int .i64 (k : Nat) ∧ i ≤ k ∧ k ≤ b ∧ Hid (RwU blk off w0 e Y) ∧ Hid (Go.Sort.scanSorted ltInt e b k = Go.Sort.scanSorted ltInt e b i)) (fun vi _ => b - (zi vi).toNat)
      case atStart => exact ⟨i, rfl, Nat.le_refl _, h3, HE, hide rfl⟩
      case round =>
        obtain ⟨k, rfl, k1, k2, KE, KO⟩ := hrel
        obtain ⟨G, hG⟩ : ∃ G : Nat → Int, ∀ t, G t = e[t]! := ⟨fun t => e[t]!, fun _ => rfl⟩
        have hc : ∀ t, t < n → wr.cell? ⟨blk, off + t, none⟩ = some (.int .u64 (G t)) := fun t ht => by rw [hG]; exact KE.out.cell t (by rw [HS.out]; exact ht)
        have hf : ∀ t, t < n → wr.frozen? ⟨blk, off + t, none⟩ = false := fun t ht => KE.out.fz t (by rw [HS.out]; exact ht)
        have HG := hide hG
        clear hG
        by_cases ck : k < b
        · have dk : decide ((k : Int) < (b : Int)) = true := decide_eq_true (by omega)
          have kn : k < n := by omega
          go_wp2_with fail
          go_quiet (first | (go_at_call 43; refine Calls.quiet_of_same (less_any _ _ _)))
          cases hl : ltInt (G k) (G (k - 1)) with
          | false =>
            simp only [Bool.not_false]
            go_wp2_with fail
            have hg := HG.out
            refine ⟨⟨k + 1, by push_cast; rfl, by omega, by omega, hide (KE.out.drewN _), hide ?_⟩, by simp [zi]; omega⟩
            rw [← KO.out, scan_on ltInt e b k ck (by rw [← hg, ← hg]; exact hl)]
          | true =>
            have E1 := hide (KE.out.drewN nq)
            have SC := hide (show Go.Sort.scanSorted ltInt e b i = k from by
              have hg := HG.out
              rw [← KO.out, scan_off ltInt e b k (.inr (by rw [← hg, ← hg]; exact hl))])
            obtain ⟨X1, hX1⟩ : ∃ X1, wr.drewN nq = X1 := ⟨_, rfl⟩
            rw [hX1] at E1 ⊢
            simp only [Bool.not_true]
            have hc1 : ∀ t, t < n → X1.cell? ⟨blk, off + t, none⟩ = some (.int .u64 (G t)) := fun t ht => by rw [HG.out]; exact E1.out.cell t (by rw [HS.out]; exact ht)
            have hf1 : ∀ t, t < n → X1.frozen? ⟨blk, off + t, none⟩ = false := fun t ht => E1.out.fz t (by rw [HS.out]; exact ht)
            clear hX1 hc hf
            have de : ((k : Int) == (b : Int)) = false := by simp; omega
            by_cases c5 : b - a < 50
            · have d5 : decide ((b : Int) - (a : Int) < 50) = true := decide_eq_true (by omega)
              go_wp2_with fail
              have F := hide (FIN.out e false X1 (by rw [← HO.out, show s = (s - 1) + 1 by omega, pins_short ltInt a b (s - 1) i k e SC.out (by omega) c5]) E1.out)
              first | exact F.out | (go_ret; exact F.out)
            · have d5 : decide ((b : Int) - (a : Int) < 50) = false := decide_eq_false (by omega)
              have NX := hide (show ∀ (d2 d3 : Array Int) (Y : World), (if k - a ≥ 2 then Go.Sort.shiftDown ltInt (k - 1) (swp e k (k - 1)) else swp e k (k - 1)) = d2 → (if b - k ≥ 2 then Go.Sort.shiftUp ltInt b (k + 1) d2 else d2) = d3 → d3.size = n → RwU blk off w0 d3 Y → ∃ (s' i' : Nat) (e' : Array Int), Value.int .i64 (k : Nat) = .int .i64 (i' : Nat) ∧ Value.int .i64 (5 - (s : Int) + 1) = .int .i64 (5 - (s' : Int)) ∧ s' ≤ 5 ∧ a < i' ∧ i' ≤ b ∧ Hid (e'.size = n) ∧ Hid (RwU blk off w0 e' Y) ∧ Hid (Go.Sort.partialIns ltInt a b s' i' e' = Go.Sort.partialIns ltInt a b 5 (a + 1) d) from fun d2 d3 Y q1 q2 q3 q4 =>
                ⟨s - 1, k, d3, rfl, by congr 1; omega, by omega, by omega, by omega, hide q3, hide q4, hide (by rw [← HO.out, show s = (s - 1) + 1 by omega, pins_next ltInt a b (s - 1) i k e d2 d3 SC.out (by omega) c5 q1 q2]; rfl)⟩)
              obtain ⟨f0, hf0⟩ : ∃ f0, swp e k (k - 1) = f0 := ⟨_, rfl⟩
              have S0 := hide (show f0.size = n from by rw [← hf0, size_swp]; exact HS.out)
              have E0 := hide (show RwU blk off w0 f0 ((X1.setCell ⟨blk, off + k, none⟩ (.int .u64 (G (k - 1)))).setCell ⟨blk, off + (k - 1), none⟩ (.int .u64 (G k))).drew from by
                have hg := HG.out
                rw [hg, hg, ← hf0]
                exact (E1.out.swap k (k - 1) (by rw [HS.out]; omega) (by rw [HS.out]; omega)).drew)
              rw [hf0] at NX
              clear hf0
              by_cases c7 : 2 ≤ k - a
              · have d7 : decide ((2 : Int) ≤ (k : Int) - (a : Int)) = true := decide_eq_true (by omega)
                go_wp2_with fail
                go_region
                all_goals go_wp2_with fail
                go_loopw [9] (fun vj Y => ∃ (j : Nat) (tt : Array Int), vj = .int .i64 (j : Nat) ∧ j ≤ k - 1 ∧ Hid (tt.size = n) ∧ Hid (RwU blk off w0 tt Y) ∧ Hid (Go.Sort.shiftDown ltInt j tt = Go.Sort.shiftDown ltInt (k - 1) f0)) (fun vj _ => (zi vj).toNat)
                case atStart => exact ⟨k - 1, f0, by congr 1; omega, by omega, S0, E0, hide rfl⟩
                case round =>
                  obtain ⟨j, tt, rfl, j1, TS, TE, TO⟩ := hrel
                  obtain ⟨Gt, hGt⟩ : ∃ G : Nat → Int, ∀ t, G t = tt[t]! := ⟨fun t => tt[t]!, fun _ => rfl⟩
                  have hct : ∀ t, t < n → wr.cell? ⟨blk, off + t, none⟩ = some (.int .u64 (Gt t)) := fun t ht => by rw [hGt]; exact TE.out.cell t (by rw [TS.out]; exact ht)
                  have hft : ∀ t, t < n → wr.frozen? ⟨blk, off + t, none⟩ = false := fun t ht => TE.out.fz t (by rw [TS.out]; exact ht)
                  have HGt := hide hGt
                  clear hGt
                  by_cases cj : 1 ≤ j
                  · have dj : decide ((1 : Int) ≤ (j : Int)) = true := decide_eq_true (by omega)
                    have jn : j < n := by omega
                    go_wp2_with fail
                    go_quiet (first | (go_at_call 43; refine Calls.quiet_of_same (less_any _ _ _)))
                    cases hv : ltInt (Gt j) (Gt (j - 1)) with
                    | true =>
                      simp only [Bool.not_true]
                      go_wp2_with fail
                      go_region
                      all_goals go_wp2_with fail
                      have hg := HGt.out
                      refine ⟨⟨j - 1, swp tt j (j - 1), by congr 1; omega, by omega, hide (by rw [size_swp]; exact TS.out), hide ?_, hide ?_⟩, by simp [zi]; omega⟩
                      · rw [hg, hg]
                        exact (TE.out.drewN _).swap j (j - 1) (by rw [TS.out]; omega) (by rw [TS.out]; omega)
                      · rw [← TO.out, down_on ltInt tt j cj (by rw [← hg, ← hg]; exact hv)]
                    | false =>
                      simp only [Bool.not_false]
                      have TE2 := hide (TE.out.drewN nq)
                      have T2 := hide (show (if k - a ≥ 2 then Go.Sort.shiftDown ltInt (k - 1) f0 else f0) = tt from by
                        have hg := HGt.out
                        rw [if_pos c7, ← TO.out, down_off ltInt tt j (.inr (by rw [← hg, ← hg]; exact hv))])
                      obtain ⟨X2, hX2⟩ : ∃ X2, wr.drewN nq = X2 := ⟨_, rfl⟩
                      rw [hX2] at TE2 ⊢
                      clear hX2 hct hft hv HGt
                      by_cases c6 : 2 ≤ b - k
                      · have d6 : decide ((2 : Int) ≤ (b : Int) - (k : Int)) = true := decide_eq_true (by omega)
                        go_wp2_with fail
                        go_loopw [10] (fun vj Y => ∃ (j : Nat) (u : Array Int), vj = .int .i64 (j : Nat) ∧ k + 1 ≤ j ∧ j ≤ b ∧ Hid (u.size = n) ∧ Hid (RwU blk off w0 u Y) ∧ Hid (Go.Sort.shiftUp ltInt b j u = Go.Sort.shiftUp ltInt b (k + 1) tt)) (fun vj _ => b - (zi vj).toNat)
                        case atStart => exact ⟨k + 1, tt, by push_cast; rfl, by omega, by omega, TS, TE2, hide rfl⟩
                        case round =>
                          obtain ⟨j, u, rfl, j1, j2, US, UE, UO⟩ := hrel
                          obtain ⟨Gu, hGu⟩ : ∃ G : Nat → Int, ∀ t, G t = u[t]! := ⟨fun t => u[t]!, fun _ => rfl⟩
                          have hcu : ∀ t, t < n → wr.cell? ⟨blk, off + t, none⟩ = some (.int .u64 (Gu t)) := fun t ht => by rw [hGu]; exact UE.out.cell t (by rw [US.out]; exact ht)
                          have hfu : ∀ t, t < n → wr.frozen? ⟨blk, off + t, none⟩ = false := fun t ht => UE.out.fz t (by rw [US.out]; exact ht)
                          have HGu := hide hGu
                          clear hGu
                          by_cases cj : j < b
                          · have dj : decide ((j : Int) < (b : Int)) = true := decide_eq_true (by omega)
                            have jn : j < n := by omega
                            go_wp2_with fail
                            go_quiet (first | (go_at_call 43; refine Calls.quiet_of_same (less_any _ _ _)))
                            cases hv : ltInt (Gu j) (Gu (j - 1)) with
                            | true =>
                              simp only [Bool.not_true]
                              go_wp2_with fail
                              go_region
                              all_goals go_wp2_with fail
                              have hg := HGu.out
                              refine ⟨⟨j + 1, swp u j (j - 1), by push_cast; rfl, by omega, by omega, hide (by rw [size_swp]; exact US.out), hide ?_, hide ?_⟩, by simp [zi]; omega⟩
                              · rw [hg, hg]
                                exact (UE.out.drewN _).swap j (j - 1) (by rw [US.out]; omega) (by rw [US.out]; omega)
                              · rw [← UO.out, up_on ltInt u b j cj (by rw [← hg, ← hg]; exact hv)]
                            | false =>
                              simp only [Bool.not_false]
                              go_wp2_with fail
                              have hg := HGu.out
                              exact ⟨NX.out tt u _ (T2.out) (by rw [if_pos c6, ← UO.out, up_off ltInt u b j (.inr (by rw [← hg, ← hg]; exact hv))]) US.out (UE.out.drewN _), by simp [zi]; omega⟩
                          · have dj : decide ((j : Int) < (b : Int)) = false := decide_eq_false (by omega)
                            go_wp2_with fail
                            exact ⟨NX.out tt u _ (T2.out) (by rw [if_pos c6, ← UO.out, up_off ltInt u b j (.inl cj)]) US.out UE.out, by simp [zi]; omega⟩
                      · have d6 : decide ((2 : Int) ≤ (b : Int) - (k : Int)) = false := decide_eq_false (by omega)
                        go_wp2_with fail
                        exact ⟨NX.out tt tt _ (T2.out) (by rw [if_neg c6]) TS.out TE2.out, by simp [zi]; omega⟩
                  · have dj : decide ((1 : Int) ≤ (j : Int)) = false := decide_eq_false (by omega)
                    have T2 := hide (show (if k - a ≥ 2 then Go.Sort.shiftDown ltInt (k - 1) f0 else f0) = tt from by
                      rw [if_pos c7, ← TO.out, down_off ltInt tt j (.inl (by omega))])
                    clear hct hft HGt
                    by_cases c6 : 2 ≤ b - k
                    · have d6 : decide ((2 : Int) ≤ (b : Int) - (k : Int)) = true := decide_eq_true (by omega)
                      go_wp2_with fail
                      go_loopw [10] (fun vj Y => ∃ (j : Nat) (u : Array Int), vj = .int .i64 (j : Nat) ∧ k + 1 ≤ j ∧ j ≤ b ∧ Hid (u.size = n) ∧ Hid (RwU blk off w0 u Y) ∧ Hid (Go.Sort.shiftUp ltInt b j u = Go.Sort.shiftUp ltInt b (k + 1) tt)) (fun vj _ => b - (zi vj).toNat)
                      case atStart => exact ⟨k + 1, tt, by push_cast; rfl, by omega, by omega, TS, TE, hide rfl⟩
                      case round =>
                        obtain ⟨j, u, rfl, j1, j2, US, UE, UO⟩ := hrel
                        obtain ⟨Gu, hGu⟩ : ∃ G : Nat → Int, ∀ t, G t = u[t]! := ⟨fun t => u[t]!, fun _ => rfl⟩
                        have hcu : ∀ t, t < n → wr.cell? ⟨blk, off + t, none⟩ = some (.int .u64 (Gu t)) := fun t ht => by rw [hGu]; exact UE.out.cell t (by rw [US.out]; exact ht)
                        have hfu : ∀ t, t < n → wr.frozen? ⟨blk, off + t, none⟩ = false := fun t ht => UE.out.fz t (by rw [US.out]; exact ht)
                        have HGu := hide hGu
                        clear hGu
                        by_cases cj : j < b
                        · have dj : decide ((j : Int) < (b : Int)) = true := decide_eq_true (by omega)
                          have jn : j < n := by omega
                          go_wp2_with fail
                          go_quiet (first | (go_at_call 43; refine Calls.quiet_of_same (less_any _ _ _)))
                          cases hv : ltInt (Gu j) (Gu (j - 1)) with
                          | true =>
                            simp only [Bool.not_true]
                            go_wp2_with fail
                            go_region
                            all_goals go_wp2_with fail
                            have hg := HGu.out
                            refine ⟨⟨j + 1, swp u j (j - 1), by push_cast; rfl, by omega, by omega, hide (by rw [size_swp]; exact US.out), hide ?_, hide ?_⟩, by simp [zi]; omega⟩
                            · rw [hg, hg]
                              exact (UE.out.drewN _).swap j (j - 1) (by rw [US.out]; omega) (by rw [US.out]; omega)
                            · rw [← UO.out, up_on ltInt u b j cj (by rw [← hg, ← hg]; exact hv)]
                          | false =>
                            simp only [Bool.not_false]
                            go_wp2_with fail
                            have hg := HGu.out
                            exact ⟨NX.out tt u _ (T2.out) (by rw [if_pos c6, ← UO.out, up_off ltInt u b j (.inr (by rw [← hg, ← hg]; exact hv))]) US.out (UE.out.drewN _), by simp [zi]; omega⟩
                        · have dj : decide ((j : Int) < (b : Int)) = false := decide_eq_false (by omega)
                          go_wp2_with fail
                          exact ⟨NX.out tt u _ (T2.out) (by rw [if_pos c6, ← UO.out, up_off ltInt u b j (.inl cj)]) US.out UE.out, by simp [zi]; omega⟩
                    · have d6 : decide ((2 : Int) ≤ (b : Int) - (k : Int)) = false := decide_eq_false (by omega)
                      go_wp2_with fail
                      exact ⟨NX.out tt tt _ (T2.out) (by rw [if_neg c6]) TS.out TE.out, by simp [zi]; omega⟩
              · have d7 : decide ((2 : Int) ≤ (k : Int) - (a : Int)) = false := decide_eq_false (by omega)
                by_cases c6 : 2 ≤ b - k
                · have d6 : decide ((2 : Int) ≤ (b : Int) - (k : Int)) = true := decide_eq_true (by omega)
                  go_wp2_with fail
                  go_region
                  all_goals go_wp2_with fail
                  go_loopw [10] (fun vj Y => ∃ (j : Nat) (u : Array Int), vj = .int .i64 (j : Nat) ∧ k + 1 ≤ j ∧ j ≤ b ∧ Hid (u.size = n) ∧ Hid (RwU blk off w0 u Y) ∧ Hid (Go.Sort.shiftUp ltInt b j u = Go.Sort.shiftUp ltInt b (k + 1) f0)) (fun vj _ => b - (zi vj).toNat)
                  case atStart => exact ⟨k + 1, f0, by push_cast; rfl, by omega, by omega, S0, E0, hide rfl⟩
                  case round =>
                    obtain ⟨j, u, rfl, j1, j2, US, UE, UO⟩ := hrel
                    obtain ⟨Gu, hGu⟩ : ∃ G : Nat → Int, ∀ t, G t = u[t]! := ⟨fun t => u[t]!, fun _ => rfl⟩
                    have hcu : ∀ t, t < n → wr.cell? ⟨blk, off + t, none⟩ = some (.int .u64 (Gu t)) := fun t ht => by rw [hGu]; exact UE.out.cell t (by rw [US.out]; exact ht)
                    have hfu : ∀ t, t < n → wr.frozen? ⟨blk, off + t, none⟩ = false := fun t ht => UE.out.fz t (by rw [US.out]; exact ht)
                    have HGu := hide hGu
                    clear hGu
                    by_cases cj : j < b
                    · have dj : decide ((j : Int) < (b : Int)) = true := decide_eq_true (by omega)
                      have jn : j < n := by omega
                      go_wp2_with fail
                      go_quiet (first | (go_at_call 43; refine Calls.quiet_of_same (less_any _ _ _)))
                      cases hv : ltInt (Gu j) (Gu (j - 1)) with
                      | true =>
                        simp only [Bool.not_true]
                        go_wp2_with fail
                        go_region
                        all_goals go_wp2_with fail
                        have hg := HGu.out
                        refine ⟨⟨j + 1, swp u j (j - 1), by push_cast; rfl, by omega, by omega, hide (by rw [size_swp]; exact US.out), hide ?_, hide ?_⟩, by simp [zi]; omega⟩
                        · rw [hg, hg]
                          exact (UE.out.drewN _).swap j (j - 1) (by rw [US.out]; omega) (by rw [US.out]; omega)
                        · rw [← UO.out, up_on ltInt u b j cj (by rw [← hg, ← hg]; exact hv)]
                      | false =>
                        simp only [Bool.not_false]
                        go_wp2_with fail
                        have hg := HGu.out
                        exact ⟨NX.out f0 u _ (by rw [if_neg c7]) (by rw [if_pos c6, ← UO.out, up_off ltInt u b j (.inr (by rw [← hg, ← hg]; exact hv))]) US.out (UE.out.drewN _), by simp [zi]; omega⟩
                    · have dj : decide ((j : Int) < (b : Int)) = false := decide_eq_false (by omega)
                      go_wp2_with fail
                      exact ⟨NX.out f0 u _ (by rw [if_neg c7]) (by rw [if_pos c6, ← UO.out, up_off ltInt u b j (.inl cj)]) US.out UE.out, by simp [zi]; omega⟩
                · have d6 : decide ((2 : Int) ≤ (b : Int) - (k : Int)) = false := decide_eq_false (by omega)
                  omega
        · have dk : decide ((k : Int) < (b : Int)) = false := decide_eq_false (by omega)
          obtain rfl : k = b := by omega
          have SC := hide (show Go.Sort.scanSorted ltInt e k i = k from by rw [← KO.out, scan_off ltInt e k k (.inl (by omega))])
          go_wp2_with fail
          go_quiet (first | (go_at_call 43; refine Calls.quiet_of_same (less_any _ _ _)))
          go_wp2_with fail
          have F := hide (FIN.out e true _ (by rw [← HO.out, show s = (s - 1) + 1 by omega, pins_true ltInt a k (s - 1) i k e SC.out rfl]) (KE.out.drewN nq))
          first | exact F.out | (go_ret; exact F.out)
    · have dc : decide (5 - (s : Int) < 5) = false := decide_eq_false (by omega)
      obtain rfl : s = 0 := by omega
      go_wp2_with fail
      have F := hide (FIN.out e false _ (by rw [← HO.out]; rfl) HE.out)
      first | exact F.out | (go_ret; exact F.out)
end Go.Proofs.Ytdcjldpbgickmaa
