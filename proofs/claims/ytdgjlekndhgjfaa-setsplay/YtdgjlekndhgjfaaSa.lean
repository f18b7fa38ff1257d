/- Package sets: which, hasID, hasBase, count, firstOf: contracts. -/
import Derived.Test.YtdgjlekndhgjfaaPu
namespace Go.Proofs.Ytdgjlekndhgjfaa
open Go.ChangeShapes Go.WideShapes Go.ChangeAt Go.RowKit Go.Shelf Go.Proofs.Rx Go.Maps Go.Proofs.Hm
set_option linter.unusedVariables false
set_option linter.unusedSimpArgs false

attribute [local go_sem] Oper.semAt_some

section
variable {W W' : World} {s c : Nat} {G : Gh}
theorem which_any (h : Parts W s c G) (hg : G.g < 2) (sw : Bool) : Calls Try.prog 23 #[.pointer (some ⟨s, 0, none⟩), .bool sw] W fun e W' => e = .returned (.int .i64 ((if sw then G.g else 1 - G.g : Nat) : Nat)) ∧ W' = W := by
  have c0 : W.cell? ⟨s, 10, none⟩ = some (.int .i64 (G.g : Nat)) := h.sb.cell 10 _ rfl
  obtain ⟨R, hR⟩ : ∃ R : Ending → World → Prop, R = fun e W' => e = .returned (.int .i64 ((if sw then G.g else 1 - G.g : Nat) : Nat)) ∧ W' = W := ⟨_, rfl⟩
  rw [← hR]
  have w1 : IntKind.i64.wrap (1 - (G.g : Int)) = ((1 - G.g : Nat) : Int) := by rw [IntKind.wrap_i64]; omega
  have e1 : (1 : Int) - (G.g : Int) = ((1 - G.g : Nat) : Int) := by omega
  have F1 := hide (show sw = true → R (.returned (.int .i64 (G.g : Nat))) W from fun z => by rw [hR, z]; exact ⟨rfl, rfl⟩)
  have F2 := hide (show sw = false → R (.returned (.int .i64 ((1 - G.g : Nat) : Nat))) W from fun z => by rw [hR, z]; exact ⟨rfl, rfl⟩)
  clear h hR hg
  cases sw with
  | true =>
    have F := hide (F1.out rfl)
    clear F1 F2 e1
    go_enter Try.func23, Try.ntmps23
    go_wp2_with fail
    first | exact F.out | (go_ret; exact F.out)
  | false =>
    have F := hide (F2.out rfl)
    clear F1 F2
    rw [← e1] at F w1
    clear e1
    go_enter Try.func23, Try.ntmps23
    go_wp2_with fail
    first | exact F.out | (go_ret; exact F.out)
theorem hasID_any (h : Parts W s c G) (i : Int) (h0 : -9223372036854775808 ≤ i) (h1 : i ≤ 9223372036854775807) : Calls Try.prog 25 #[.pointer (some ⟨s, 0, none⟩), .int .i64 i] W fun e W' => e = .returned (.bool (G.M0 i).isSome) ∧ W' = W := by
  have c0 : W.cell? ⟨s, 0, none⟩ = some (.map (some G.b0)) := h.sb.cell 0 _ rfl
  have l0 := h.m0.looks tyI (zeroM W) (p := i) ⟨h0, h1⟩
  rw [show keyI.kv i = .int .i64 i from rfl] at l0
  obtain ⟨x, hx⟩ : ∃ x, valO encPt (G.M0 i) = x := ⟨_, rfl⟩
  rw [hx] at l0
  clear hx h h0 h1
  go_enter Try.func25, Try.ntmps25
  go_wp2_with fail
  go_ret
  exact ⟨rfl, rfl⟩
theorem hasBase_any (h : Parts W s c G) (b : Nat) (h1 : b < 18446744073709551616) : Calls Try.prog 26 #[.pointer (some ⟨s, 0, none⟩), .int .u64 (b : Nat)] W fun e W' => e = .returned (.bool (G.M1 b).isSome) ∧ Below W.heap.size W W' := by
  have c0 : W.cell? ⟨s, 1, none⟩ = some (.map (some G.b1)) := h.sb.cell 1 _ rfl
  have l0 := h.m1.looks tyN (zeroN W) (p := b) h1
  rw [show keyN.kv b = .int .u64 (b : Nat) from rfl] at l0
  rw [valO_no] at l0
  clear h h1
  go_enter Try.func26, Try.ntmps26
  go_wp2_with fail
  go_ret
  exact ⟨rfl, below_alloc _ _⟩
theorem count_any (h : Parts W s c G) (d : Nat) (hd : d < 2) : Calls Try.prog 24 #[.pointer (some ⟨s, 2 + 4 * d, none⟩)] W fun e W' => e = .returned (.int .i64 ((G.l d none).length : Nat)) ∧ W' = W := by
  have hp := (h.hpc hd (h.pl.on0 d hd)).hp
  obtain ⟨ov, cap, e⟩ := row_form hp.at_.row
  have c0 := hp.at_.c0
  rw [e] at c0
  obtain ⟨n, hn⟩ : ∃ n, (G.l d none).length = n := ⟨_, rfl⟩
  rw [hn] at c0 ⊢
  have c1 : W.cell? ⟨s, 2 + 4 * d, none⟩ = some (.slice ov n cap) := c0
  obtain ⟨o, ho⟩ : ∃ o, 2 + 4 * d = o := ⟨_, rfl⟩
  rw [ho] at c1 ⊢
  clear hp e hn c0 ho h
  go_enter Try.func24, Try.ntmps24
  go_wp2_with fail
  go_ret
  exact ⟨rfl, rfl⟩
theorem firstOf_none (h : Parts W s c G) (d : Nat) (hd : d < 2) (k : Kd) (hk : -9223372036854775808 ≤ k.c ∧ k.c ≤ 9223372036854775807) (ho : G.on d (some k) = false) : Calls Try.prog 29 #[.pointer (some ⟨s, 2 + 4 * d, none⟩), kdV k] W fun e W' => e = .returned (.pointer none) ∧ Below W.heap.size W W' := by
  have c1 : W.cell? ⟨s, 2 + 4 * d + 3, none⟩ = some (.map (some (G.mb d))) := by
    rcases (show d = 0 ∨ d = 1 by omega) with rfl | rfl
    · exact h.sb.cell 5 _ rfl
    · exact h.sb.cell 9 _ rfl
  have l0 := fun X (b : Below W.heap.size W X) => ((h.below b).m2 d hd).look tyK (zeroH X) (p := k) hk
  rw [show (if G.on d (some k) = true then some (G.kb d k) else none) = none by rw [ho]; rfl] at l0
  rw [show valO encPt none = .pointer none from rfl, show keyK.kv k = kdV k from rfl] at l0
  obtain ⟨o, hoo⟩ : ∃ o, 2 + 4 * d = o := ⟨_, rfl⟩
  rw [hoo] at c1 ⊢
  obtain ⟨WA, hWA⟩ : ∃ WA, W.alloc (.cells #[.int .i64 k.c, .bool k.a, .bool k.f] 72) = WA := ⟨_, rfl⟩
  have bA : Below W.heap.size W WA := by rw [← hWA]; exact below_alloc W _
  have kb : Bk WA W.heap.size 72 #[.int .i64 k.c, .bool k.a, .bool k.f] := by rw [← hWA]; exact World.alloc_heap_new W _
  obtain ⟨ab, hab⟩ : ∃ ab, W.heap.size = ab := ⟨_, rfl⟩
  have cA : WA.cell? ⟨s, o + 3, none⟩ = some (.map (some (G.mb d))) := (bA.cell (p := ⟨s, o + 3, none⟩) h.sb.lt).trans c1
  have l1 := fun n => l0 (WA.drewN n) (bA.trans (drewN_below WA n |>.mono bA.size))
  rw [hab] at kb
  have y0 := kb.cell 0 _ rfl
  have y1 := kb.cell 1 _ rfl
  have y2 := kb.cell 2 _ rfl
  have FIN := hide (show ∀ n, Below W.heap.size W (WA.drewN n) from fun n => bA.trans (drewN_below WA n |>.mono bA.size))
  have HH := hide (And.intro hab hWA)
  unfold kdV at l1 ⊢
  clear h hd ho hoo l0 hk bA kb hab hWA c1
  obtain ⟨kc, ka, kf⟩ := k
  simp only [] at l1 y0 y1 y2 HH ⊢
  go_enter Try.func29, Try.ntmps29
  go_upto_region 1 with fail
  rw [HH.out.2, HH.out.1]
  go_quiet (fail)
  go_wp2_with fail
  go_ret
  exact ⟨rfl, FIN.out _⟩
theorem firstOf_some (h : Parts W s c G) (d : Nat) (hd : d < 2) (k : Kd) (hk : -9223372036854775808 ≤ k.c ∧ k.c ≤ 9223372036854775807) (ho : G.on d (some k) = true) (hl : 0 < (G.l d (some k)).length) : Calls Try.prog 29 #[.pointer (some ⟨s, 2 + 4 * d, none⟩), kdV k] W fun e W' => e = .returned (.pointer (some ⟨at' (G.l d (some k)) 0, 0, none⟩)) ∧ Below W.heap.size W W' := by
  have c1 : W.cell? ⟨s, 2 + 4 * d + 3, none⟩ = some (.map (some (G.mb d))) := by
    rcases (show d = 0 ∨ d = 1 by omega) with rfl | rfl
    · exact h.sb.cell 5 _ rfl
    · exact h.sb.cell 9 _ rfl
  have l0 := fun X (b : Below W.heap.size W X) => ((h.below b).m2 d hd).look tyK (zeroH X) (p := k) hk
  rw [show (if G.on d (some k) = true then some (G.kb d k) else none) = some (G.kb d k) by rw [ho]; rfl] at l0
  rw [show valO encPt (some (G.kb d k)) = .pointer (some ⟨G.kb d k, 0, none⟩) from rfl, show keyK.kv k = kdV k from rfl] at l0
  obtain ⟨o, hoo⟩ : ∃ o, 2 + 4 * d = o := ⟨_, rfl⟩
  rw [hoo] at c1 ⊢
  obtain ⟨WA, hWA⟩ : ∃ WA, W.alloc (.cells #[.int .i64 k.c, .bool k.a, .bool k.f] 72) = WA := ⟨_, rfl⟩
  have bA : Below W.heap.size W WA := by rw [← hWA]; exact below_alloc W _
  have kb : Bk WA W.heap.size 72 #[.int .i64 k.c, .bool k.a, .bool k.f] := by rw [← hWA]; exact World.alloc_heap_new W _
  obtain ⟨ab, hab⟩ : ∃ ab, W.heap.size = ab := ⟨_, rfl⟩
  have cA : WA.cell? ⟨s, o + 3, none⟩ = some (.map (some (G.mb d))) := (bA.cell (p := ⟨s, o + 3, none⟩) h.sb.lt).trans c1
  have l1 := fun n => l0 (WA.drewN n) (bA.trans (drewN_below WA n |>.mono bA.size))
  rw [hab] at kb
  have y0 := kb.cell 0 _ rfl
  have y1 := kb.cell 1 _ rfl
  have y2 := kb.cell 2 _ rfl
  have FIN := hide (show ∀ n, Below W.heap.size W (WA.drewN n) from fun n => bA.trans (drewN_below WA n |>.mono bA.size))
  have HH := hide (And.intro hab hWA)
  have CF := hide (fun n => first_some (h.below (bA.trans (drewN_below WA n |>.mono bA.size)) |>.hpc hd ho).hp hl)
  rw [show hbI s G d (some k) = G.kb d k from rfl, show offI d (some k) = 0 from rfl] at CF
  obtain ⟨hb, hhb⟩ : ∃ hb, G.kb d k = hb := ⟨_, rfl⟩
  obtain ⟨m, hm⟩ : ∃ m, at' (G.l d (some k)) 0 = m := ⟨_, rfl⟩
  rw [hm] at CF ⊢
  rw [hhb] at CF l1
  unfold kdV at l1 ⊢
  clear h hd ho hoo l0 hk bA kb hab hWA c1 hl hm hhb
  obtain ⟨kc, ka, kf⟩ := k
  simp only [] at l1 y0 y1 y2 HH ⊢
  go_enter Try.func29, Try.ntmps29
  go_upto_region 1 with fail
  rw [HH.out.2, HH.out.1]
  go_quiet (fail)
  go_wp2_with fail
  refine (CF.out _).mono ?_
  rintro e W1 ⟨rfl, hw⟩
  have F := FIN.out nq
  go_wp2_with fail
  go_ret
  exact ⟨rfl, F⟩
theorem first_at0 (h : Parts W s c G) (d : Nat) (hd : d < 2) (e : G.l d none = []) (n : Nat) : Calls Try.prog 28 #[.pointer (some ⟨s, 2 + 4 * d, none⟩)] (W.drewN n) fun e W' => e = .returned (.pointer none) ∧ W' = W.drewN n := by
  have hp := ((h.below (drewN_below W n)).hpc hd (h.pl.on0 d hd)).hp
  rw [e] at hp
  exact first_none hp
theorem first_at1 (h : Parts W s c G) (d : Nat) (hd : d < 2) (e : G.l d none ≠ []) (n : Nat) : Calls Try.prog 28 #[.pointer (some ⟨s, 2 + 4 * d, none⟩)] (W.drewN n) fun e W' => e = .returned (.pointer (some ⟨at' (G.l d none) 0, 0, none⟩)) ∧ W' = W.drewN n :=
  first_some ((h.below (drewN_below W n)).hpc hd (h.pl.on0 d hd)).hp (List.length_pos_iff.2 e)
/-- The span of the lowest base of those that are not swept. -/
theorem least_any (h : Parts W s c G) (hg : G.g < 2) : Calls Try.prog 14 #[.pointer (some ⟨s, 0, none⟩)] W fun e W' => (e = .returned (if G.l (1 - G.g) none = [] then .tuple #[.int .i64 0, .bool false] else .tuple #[.int .i64 (G.x (at' (G.l (1 - G.g) none) 0)).id, .bool true])) ∧ Below W.heap.size W W' := by
  have CW := hide (fun n => which_any (h.below (drewN_below W n)) hg false)
  simp only [Bool.false_eq_true, if_false] at CW
  have CF0 := hide (fun e n => first_at0 h (1 - G.g) (by omega) e n)
  have CF1 := hide (fun e n => first_at1 h (1 - G.g) (by omega) e n)
  have CM := hide (show ∀ n, G.l (1 - G.g) none ≠ [] → (W.drewN n).cell? ⟨at' (G.l (1 - G.g) none) 0, 0, none⟩ = some (.int .i64 (G.x (at' (G.l (1 - G.g) none) 0)).id) from fun n z => by
    have := h.pl.sub (1 - G.g) none (by omega) (h.pl.on0 _ (by omega)) _ (at_mem (List.length_pos_iff.2 z))
    exact ((h.below (drewN_below W n)).mb _ this.1).cell 0 _ rfl)
  have FIN := hide (show ∀ n, Below W.heap.size W (W.drewN n) from fun n => drewN_below W n)
  obtain ⟨d, hd⟩ : ∃ d, 1 - G.g = d := ⟨_, rfl⟩
  have hd2 : d = 0 ∨ d = 1 := by omega
  rw [hd] at CW CF0 CF1 CM ⊢
  obtain ⟨l, hl⟩ : ∃ l, G.l d none = l := ⟨_, rfl⟩
  obtain ⟨i, hi⟩ : ∃ i, (G.x (at' l 0)).id = i := ⟨_, rfl⟩
  obtain ⟨m, hm⟩ : ∃ m, at' l 0 = m := ⟨_, rfl⟩
  rw [hl] at CF0 CF1 CM ⊢
  rw [hi] at CM ⊢
  rw [hm] at CF1 CM
  clear h hd hg hl hi hm
  by_cases c0 : l = []
  · have CF := hide (CF0.out c0)
    rw [if_pos c0]
    clear c0 CM CF0 CF1
    rcases hd2 with rfl | rfl
    · go_enter Try.func14, Try.ntmps14
      go_wp2_with fail
      go_quiet (first | (go_at_call 23; refine Calls.quiet_of_same (CW.out _)) | (go_at_call 28; refine Calls.quiet_of_same (CF.out _)))
      go_wp2_with fail
      exact bodyPost_ret (results_tmp2 Try.results14 _ _ _) rfl ⟨rfl, FIN.out _⟩
    · go_enter Try.func14, Try.ntmps14
      go_wp2_with fail
      go_quiet (first | (go_at_call 23; refine Calls.quiet_of_same (CW.out _)) | (go_at_call 28; refine Calls.quiet_of_same (CF.out _)))
      go_wp2_with fail
      exact bodyPost_ret (results_tmp2 Try.results14 _ _ _) rfl ⟨rfl, FIN.out _⟩
  · have CF := hide (CF1.out c0)
    rw [if_neg c0]
    have cm := fun n => CM.out n c0
    clear c0 CM CF0 CF1
    rcases hd2 with rfl | rfl
    · go_enter Try.func14, Try.ntmps14
      go_wp2_with fail
      go_quiet (first | (go_at_call 23; refine Calls.quiet_of_same (CW.out _)) | (go_at_call 28; refine Calls.quiet_of_same (CF.out _)))
      go_wp2_with fail
      exact bodyPost_ret (results_tmp2 Try.results14 _ _ _) rfl ⟨rfl, FIN.out _⟩
    · go_enter Try.func14, Try.ntmps14
      go_wp2_with fail
      go_quiet (first | (go_at_call 23; refine Calls.quiet_of_same (CW.out _)) | (go_at_call 28; refine Calls.quiet_of_same (CF.out _)))
      go_wp2_with fail
      exact bodyPost_ret (results_tmp2 Try.results14 _ _ _) rfl ⟨rfl, FIN.out _⟩
theorem Count_any (h : Parts W s c G) (hg : G.g < 2) (sw : Bool) : Calls Try.prog 9 #[.pointer (some ⟨s, 0, none⟩), .bool sw] W fun e W' => e = .returned (.int .i64 ((G.l (if sw then G.g else 1 - G.g) none).length : Nat)) ∧ Below W.heap.size W W' := by
  have CW := hide (fun n => which_any (h.below (drewN_below W n)) hg sw)
  obtain ⟨d, hd⟩ : ∃ d, (if sw then G.g else 1 - G.g) = d := ⟨_, rfl⟩
  have hd2 : d = 0 ∨ d = 1 := by
    rw [← hd]
    split <;> omega
  have CF := hide (fun n => count_any (h.below (drewN_below W n)) d (by omega))
  have FIN := hide (show ∀ n, Below W.heap.size W (W.drewN n) from fun n => drewN_below W n)
  rw [hd] at CW ⊢
  obtain ⟨m, hm⟩ : ∃ m, (G.l d none).length = m := ⟨_, rfl⟩
  rw [hm] at CF ⊢
  clear h hd hg hm
  rcases hd2 with rfl | rfl
  · go_enter Try.func9, Try.ntmps9
    go_wp2_with fail
    go_quiet (first | (go_at_call 23; refine Calls.quiet_of_same (CW.out _)) | (go_at_call 24; refine Calls.quiet_of_same (CF.out _)))
    go_wp2_with fail
    go_ret
    exact ⟨rfl, FIN.out _⟩
  · go_enter Try.func9, Try.ntmps9
    go_wp2_with fail
    go_quiet (first | (go_at_call 23; refine Calls.quiet_of_same (CW.out _)) | (go_at_call 24; refine Calls.quiet_of_same (CF.out _)))
    go_wp2_with fail
    go_ret
    exact ⟨rfl, FIN.out _⟩
end
end Go.Proofs.Ytdgjlekndhgjfaa
