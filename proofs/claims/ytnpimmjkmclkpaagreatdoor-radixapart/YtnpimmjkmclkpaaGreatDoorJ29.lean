/- J29 of the proof of both laws: texts Zs, Zt, Zu, one behind the other. -/
import Derived.Test.YtnpimmjkmclkpaaGreatDoorJ28
/- Both trees beside one another: page, act: contracts. -/
namespace Go.Proofs.YtnpimmjkmclkpaaGreatDoor
open Go.ChangeShapes Go.WideShapes Go.ChangeAt Go.RowKit Go.Proofs.Bt Go.Shelf Go.Proofs.Rx Go.Maps Go.Proofs.Pk
set_option linter.unusedVariables false
set_option linter.unusedSimpArgs false

section
variable {N : Nat} {O : Nat → Prop} {w W W' W1 : World} {tb rb : Nat} {st : Nat → Nat} {Q : List (Nat × Nat)} {F : Nat → Prop} {o : Option Addr} {k : Nat}
theorem Both.land (h : Both N O w W tb rb st Q F o k) (t1 : T9 N (fun x => F x ∨ O x) w W1 tb st) (l1 : Left9 N (fun x => F x ∨ O x) W W1) : Both N O w W1 tb rb st Q F o k ∧ Left9 N O W W1 :=
  ⟨⟨t1, h.r.kept l1 (fun x hx z => z.2 (.inl hx)), h.ap⟩, Kept.mono l1 (fun x hx => ⟨hx.1, fun z => hx.2 (.inr z)⟩)⟩
theorem left_read (h : Left9 N O W W1) (b : Below W1.heap.size W1 W') : Left9 N O W W' := Kept.trans h (Kept.of_below (F := fun x => N ≤ x ∧ ¬ O x) b) (fun _ _ z => z)
theorem below_drew' (W : World) (j : Nat) : Below W.heap.size W (W.drewN j) := ⟨rfl, rfl, rfl, Nat.le_refl _, fun _ _ => rfl⟩
set_option maxRecDepth 100000 in
theorem page_any (h : Both N O w W tb rb st Q F o k) (hl : Q.length ≤ 1000000) (p : Nat) (hp : p < 18446744073709551616) :
    Calls Tryz.prog 25 #[.pointer (some ⟨tb, 0, none⟩), .pointer (some ⟨rb, 0, none⟩), .int .u64 (p : Nat)] W fun e W' => e = .returned (.bool true) ∧ Both N O w W' tb rb st Q F o k ∧ Left9 N O W W' := by
  obtain ⟨R, hR⟩ : ∃ R : Ending → World → Prop, R = fun e W' => e = .returned (.bool true) ∧ Both N O w W' tb rb st Q F o k ∧ Left9 N O W W' := ⟨_, rfl⟩
  rw [← hR]
  have HR := hide hR
  have HH := hide h
  have CL := hide (t9_state h.t p hp)
  have CR := hide (fun X (hX : Both N O w X tb rb st Q F o k) => r9_state hX.r hl p hp)
  generalize inU st p = x1 at CL CR
  generalize fre st p = x2 at CL CR
  generalize rel st p = x3 at CL CR
  clear hR h
  go_enter Tryz.func25, Tryz.ntmps25
  go_wp2_with fail
  refine CL.out.mono ?_
  rintro e w1 ⟨rfl, t1, l1⟩
  obtain ⟨h1, l1'⟩ := HH.out.land t1 l1
  have C2 := hide (CR.out w1 h1)
  have H1 := hide (And.intro h1 l1')
  clear CL CR h1 l1' t1 l1
  go_wp2_with fail
  refine C2.out.mono ?_
  rintro e w2 ⟨rfl, j, hj⟩
  have FI := hide (show R (.returned (.bool true)) w2 from by
    rw [HR.out, hj]
    exact ⟨rfl, H1.out.1.read (below_drew' w1 j), left_read H1.out.2 (below_drew' w1 j)⟩)
  clear C2 hj HR H1
  go_wp2_with fail
  first | exact FI.out | (go_ret; exact FI.out)
end
theorem lastP_congr {f g : Nat → Bool} {n i k : Int} (hc : ∀ j, j < 512 → f j = g j) (h : LastP f n 512 i k) : LastP g n 512 i k := by
  rcases h with ⟨e1, e2, h1⟩ | ⟨h1, a, m, e1, e2, h2, h3, h4, h5, h6, h7⟩
  · refine .inl ⟨e1, e2, h1.imp id fun z c hc' => ?_⟩
    rw [← hc c (by simp at hc'; omega)]
    exact z c hc'
  · have h4' : a + m ≤ 512 := by simp at h4; omega
    refine .inr ⟨h1, a, m, e1, e2, h2, h3, h4, fun j hj => ?_, fun c c1 c2 => ?_, ?_⟩
    · rw [← hc _ (by omega)]; exact h5 j hj
    · rw [← hc c (by simp at c2; omega)]; exact h6 c c1 c2
    · rcases h7 with z | z | z
      · exact .inl z
      · exact .inr (.inl z)
      · exact .inr (.inr (by rw [← hc _ (by omega)]; exact z))
theorem scav_same {st c : Nat → Nat} {y i a m N a2 m2 : Nat} (g2 : ∀ k, k < 512 → c k = st (512 * i + k)) (g3 : ∀ q, (i + 1) * 512 ≤ q → st q ≠ 2) (g4 : 1 ≤ m) (g6 : a + m ≤ 512) (g7 : LastP (bsyC c) (min y 512 : Nat) 512 (a : Nat) (m : Nat)) (g8 : ∀ q, 512 * i + a ≤ q → q < 512 * i + a + m → st q = 2)
    (q2 : ∀ q, 512 * (N + 1) ≤ q → st q ≠ 2) (q3 : 1 ≤ m2) (q4 : a2 + m2 ≤ 512) (q5 : st (512 * N + a2) = 2) (q6 : LastP (busy (fun k => decide (st (512 * N + k) = 1)) (fun k => decide (st (512 * N + k) = 3))) (min y 512 : Nat) 512 (a2 : Nat) (m2 : Nat)) : i = N ∧ a = a2 ∧ m = m2 := by
  have e : i = N := by
    rcases Nat.lt_trichotomy i N with z | z | z
    · exact absurd q5 (g3 _ (by omega))
    · exact z
    · exact absurd (g8 (512 * i + a) (by omega) (by omega)) (q2 _ (by omega))
  subst e
  have q6' : LastP (bsyC c) (min y 512 : Nat) 512 (a2 : Nat) (m2 : Nat) := lastP_congr (fun j hj => by unfold bsyC busy; dsimp only; rw [g2 j hj]) q6
  obtain ⟨e1, e2⟩ := g7.one q6'
  exact ⟨rfl, by omega, by omega⟩
set_option maxRecDepth 100000 in
set_option maxHeartbeats 4000000 in
theorem act_any {N : Nat} {O : Nat → Prop} {w W : World} {tb rb : Nat} {st : Nat → Nat} {Q : List (Nat × Nat)} {F : Nat → Prop} {o : Option Addr} {k : Nat} (h : Both N O w W tb rb st Q F o k) (hl : Q.length ≤ 1000000) (a : Int) (x y : Nat) (hx : x < 18446744073709551616) (hy : y < 18446744073709551616) (M : Nat) (hM : Q.length + more9 a y ≤ M) :
    Calls Tryz.prog 7 #[.pointer (some ⟨tb, 0, none⟩), .pointer (some ⟨rb, 0, none⟩), .agg #[.int .i64 a, .int .u64 (x : Nat), .int .u64 (y : Nat)]] W (ActR N O w W tb rb M) := by
  obtain ⟨w0, hw0⟩ : ∃ w0, w0 = W.alloc (.cells #[.int .i64 a, .int .u64 (x : Nat), .int .u64 (y : Nat)] 33) := ⟨_, rfl⟩
  obtain ⟨A, hA⟩ : ∃ A, W.heap.size = A := ⟨_, rfl⟩
  have k0 : Below W.heap.size W w0 := by rw [hw0]; exact (Below.refl _ W).alloc (Nat.le_refl _) _
  have s0 : w0.heap.size = A + 1 := by rw [hw0, ← hA]; simp
  have hB : ActB w0 A a x y := by unfold ActB; rw [hw0, ← hA, alloc_at, if_pos rfl]
  obtain ⟨t0, r0⟩ := h.own k0
  rw [hA, s0] at t0
  obtain ⟨O', hO'⟩ : ∃ O' : Nat → Prop, O' = fun x => F x ∨ O x ∨ (A ≤ x ∧ x < A + 1) := ⟨_, rfl⟩
  rw [← hO'] at t0
  have mt := h.r.mt
  have AF : ∀ z, F z → z < A := fun z hz => by have := (h.t.inO (.inl hz)).2; omega
  obtain ⟨R, hR⟩ : ∃ R, R = ActR N O w W tb rb M := ⟨_, rfl⟩
  rw [← hR]
  have HT := hide t0
  have HRR := hide r0
  have HB := hide hB
  have W0 := hide hw0
  have HA := hide hA
  -- what was to be done stands yet
  have B1 := hide (show ∀ w1 X : World, w1.heap[A]? = w0.heap[A]? → A < w1.heap.size → Left9 N O' w1 X → ActB X A a x y ∧ A < X.heap.size from fun w1 X e hlt l => ⟨hB.same ((l.block A hlt (fun z => z.2 (by rw [hO']; exact .inr (.inr (by omega))))).trans e), by have := l.size; omega⟩)
  have B2 := hide (show ∀ X Y : World, ActB X A a x y → Kept F X Y → ActB Y A a x y from fun X Y hb kk => hb.same (kk.block A hb.lt (fun z => by have := AF A z; omega)))
  have FR := hide (show ∀ X Y : World, RefAt F X rb st Q o k → Left9 N O' X Y → RefAt F Y rb st Q o k from fun X Y hr l => hr.kept l (fun z hz q => q.2 (by rw [hO']; exact .inl hz)))
  have OF := hide (show ∀ z, F z → O' z from fun z hz => by rw [hO']; exact .inl hz)
  have FIN := hide (show ∀ (j : Nat) (w1 w2 : World) (st' : Nat → Nat) (M' : Nat), M' ≤ M → T9 N O' w w1 tb st' → Left9 N O' (w0.drewN j) w1 → (∃ Q' o' k', RefAt (fun x => F x ∨ (w1.heap.size ≤ x ∧ x < w2.heap.size)) w2 rb st' Q' o' k' ∧ Q'.length ≤ M') → Kept F w1 w2 → R (.returned (.bool true)) w2 from fun j w1 w2 st' M' hM' t1 l1 r2 k2 => by
    obtain ⟨Q', o', k', r2, hq⟩ := r2
    rw [hO'] at t1 l1
    rw [hR]
    exact ⟨rfl, h.done ((Kept.of_below (F := fun x => N ≤ x ∧ ¬ O x) k0).trans (Kept.of_below (F := fun x => N ≤ x ∧ ¬ O x) (below_drew' w0 j)) (fun _ _ z => z)) t1 l1 r2 k2 (Nat.le_trans hq hM')⟩)
  have FIN0 := hide (show R (.returned (.bool true)) w0 from by
    rw [hR]
    exact ⟨rfl, ⟨st, Q, F, o, k, h.read k0, Nat.le_trans (Nat.le_add_right _ _) hM⟩, Kept.of_below k0⟩)
  have HP := hide (And.intro (h.read k0) k0)
  have PG := hide (show ∀ (e : Ending) (w1 : World), (e = .returned (.bool true) ∧ Both N O w w1 tb rb st Q F o k ∧ Left9 N O w0 w1) → e = .returned (.bool true) ∧ R (.returned (.bool true)) w1 from fun e w1 q => ⟨q.1, by
    rw [hR]
    exact ⟨rfl, ⟨st, Q, F, o, k, q.2.1, Nat.le_trans (Nat.le_add_right _ _) hM⟩, Kept.trans (Kept.of_below (F := fun x => N ≤ x ∧ ¬ O x) k0) q.2.2 (fun _ _ z => z)⟩⟩)
  have HHM := hide hM
  have MT := hide mt
  clear hB k0 hw0 hR h t0 r0 mt AF s0 hO' hA hM
  have b0 := HB.out.c0
  have b1 := HB.out.c1
  have b2 := HB.out.c2
  by_cases a1 : a = 1
  · subst a1
    obtain ⟨v, st', CL, CR⟩ := pair_grow MT.out hl x y hx hy
    have HCL := hide (fun X (hX : T9 N O' w X tb st) => CL hX)
    have HCR := hide (fun X (hX : RefAt F X rb st Q o k) => CR hX)
    have T0d := hide (HT.out.read (drew_below w0)).1
    have R0d := hide (HRR.out.below (drew_below w0))
    have MM := hide (show (Q.length + if y ≤ 262144 then y else 0) ≤ M from by have := HHM.out; unfold more9 at this; simp at this; omega)
    clear CL CR FIN0 HP PG HHM MT
    go_enter Tryz.func7, Tryz.ntmps7
    go_wp2_with fail
    rw [← W0.out, HA.out]
    clear W0
    go_region_held3 (fun w' => w'.cell? ⟨A, 1, none⟩ = some (.int .u64 (x : Nat)) ∧ w'.cell? ⟨A, 2, none⟩ = some (.int .u64 (y : Nat))) (go_keep) (first
      | (go_at_call 10; refine (HCL.out w0.drew T0d.out).mono ?_; rintro e w1 ⟨rfl, t1, l1⟩; obtain ⟨q1, q1'⟩ := B1.out w0.drew w1 rfl HB.out.lt l1; have d1 := q1.c1; have d2 := q1.c2; have Q1 := hide q1; have T1 := hide t1; have L1 := hide l1; have R1 := hide (FR.out _ _ R0d.out l1); clear t1 l1 q1 q1')
      | (go_at_call 11; refine (HCR.out w1 R1.out).mono ?_; rintro e w2 ⟨rfl, r2, k2⟩; have q2 := B2.out w1 w2 Q1.out k2; have d3 := q2.c1; have d4 := q2.c2; have FI := hide (FIN.out 1 w1 w2 st' _ MM.out T1.out L1.out r2 k2); clear r2 k2 q2))
    go_wp2_with fail
    exact FI.out
  by_cases a2 : a = 2
  · subst a2
    clear a1
    obtain ⟨v1, v2, v3, st', CL, CR⟩ := pair_alloc MT.out hl y hy
    have HCL := hide (CL HT.out)
    have HCR := hide (fun X (hX : RefAt F X rb st Q o k) => CR hX)
    have MM := hide (show Q.length ≤ M from by have := HHM.out; unfold more9 at this; simp at this; omega)
    clear CL CR FIN0 HP PG HHM MT
    go_enter Tryz.func7, Tryz.ntmps7
    go_wp2_with fail
    rw [← W0.out, HA.out]
    clear W0
    refine HCL.out.mono ?_
    rintro e w1 ⟨rfl, t1, l1⟩
    obtain ⟨q1, q1'⟩ := B1.out w0 w1 rfl HB.out.lt l1
    have d0 := q1.c0
    have d1 := q1.c1
    have d2 := q1.c2
    have C2 := hide (HCR.out w1 (FR.out _ _ HRR.out l1))
    have T1 := hide t1
    have L1 := hide l1
    clear t1 l1 q1 q1' HCL HCR b0 b1 b2
    go_wp2_with fail
    refine C2.out.mono ?_
    rintro e w2 ⟨rfl, r2, k2⟩
    have FI := hide (FIN.out 0 w1 w2 st' _ MM.out T1.out L1.out r2 k2)
    clear r2 k2 C2 T1 L1 d0 d1 d2
    go_wp2_with fail
    exact FI.out
  by_cases a3 : a = 3
  · subst a3
    clear a1 a2
    obtain ⟨v1, v2, st', CL, CR⟩ := pair_take MT.out hl x y hx hy
    have HCL := hide (CL HT.out)
    have HCR := hide (fun X (hX : RefAt F X rb st Q o k) => CR hX)
    have MM := hide (show Q.length ≤ M from by have := HHM.out; unfold more9 at this; simp at this; omega)
    clear CL CR FIN0 HP PG HHM MT
    go_enter Tryz.func7, Tryz.ntmps7
    go_wp2_with fail
    rw [← W0.out, HA.out]
    clear W0
    refine HCL.out.mono ?_
    rintro e w1 ⟨rfl, t1, l1⟩
    obtain ⟨q1, q1'⟩ := B1.out w0 w1 rfl HB.out.lt l1
    have d0 := q1.c0
    have d1 := q1.c1
    have d2 := q1.c2
    have C2 := hide (HCR.out w1 (FR.out _ _ HRR.out l1))
    have T1 := hide t1
    have L1 := hide l1
    clear t1 l1 q1 q1' HCL HCR b0 b1 b2
    go_wp2_with fail
    refine C2.out.mono ?_
    rintro e w2 ⟨rfl, r2, k2⟩
    have FI := hide (FIN.out 0 w1 w2 st' _ MM.out T1.out L1.out r2 k2)
    clear r2 k2 C2 T1 L1 d0 d1 d2
    go_wp2_with fail
    exact FI.out
  by_cases a4 : a = 4
  · subst a4
    clear a1 a2 a3
    obtain ⟨v, st', CL, CR⟩ := pair_give MT.out hl x y hx hy
    have HCL := hide (fun X (hX : T9 N O' w X tb st) => CL hX)
    have HCR := hide (fun X (hX : RefAt F X rb st Q o k) => CR hX)
    have T0d := hide (HT.out.read (drew_below w0)).1
    have R0d := hide (HRR.out.below (drew_below w0))
    have MM := hide (show Q.length ≤ M from by have := HHM.out; unfold more9 at this; simp at this; omega)
    clear CL CR FIN0 HP PG HHM MT
    go_enter Tryz.func7, Tryz.ntmps7
    go_wp2_with fail
    rw [← W0.out, HA.out]
    clear W0
    go_region_held3 (fun w' => w'.cell? ⟨A, 1, none⟩ = some (.int .u64 (x : Nat)) ∧ w'.cell? ⟨A, 2, none⟩ = some (.int .u64 (y : Nat))) (go_keep) (first
      | (go_at_call 16; refine (HCL.out w0.drew T0d.out).mono ?_; rintro e w1 ⟨rfl, t1, l1⟩; obtain ⟨q1, q1'⟩ := B1.out w0.drew w1 rfl HB.out.lt l1; have d1 := q1.c1; have d2 := q1.c2; have Q1 := hide q1; have T1 := hide t1; have L1 := hide l1; have R1 := hide (FR.out _ _ R0d.out l1); clear t1 l1 q1 q1')
      | (go_at_call 17; refine (HCR.out w1 R1.out).mono ?_; rintro e w2 ⟨rfl, r2, k2⟩; have q2 := B2.out w1 w2 Q1.out k2; have d3 := q2.c1; have d4 := q2.c2; have FI := hide (FIN.out 1 w1 w2 st' _ MM.out T1.out L1.out r2 k2); clear r2 k2 q2))
    go_wp2_with fail
    exact FI.out
  by_cases a5 : a = 5
  · subst a5
    clear a1 a2 a3 a4
    obtain ⟨v, st', CL, CR⟩ := pair_back MT.out hl x y hx hy
    have HCL := hide (fun X (hX : T9 N O' w X tb st) => CL hX)
    have HCR := hide (fun X (hX : RefAt F X rb st Q o k) => CR hX)
    have T0d := hide (HT.out.read (drew_below w0)).1
    have R0d := hide (HRR.out.below (drew_below w0))
    have MM := hide (show Q.length ≤ M from by have := HHM.out; unfold more9 at this; simp at this; omega)
    clear CL CR FIN0 HP PG HHM MT
    go_enter Tryz.func7, Tryz.ntmps7
    go_wp2_with fail
    rw [← W0.out, HA.out]
    clear W0
    go_region_held3 (fun w' => w'.cell? ⟨A, 1, none⟩ = some (.int .u64 (x : Nat)) ∧ w'.cell? ⟨A, 2, none⟩ = some (.int .u64 (y : Nat))) (go_keep) (first
      | (go_at_call 18; refine (HCL.out w0.drew T0d.out).mono ?_; rintro e w1 ⟨rfl, t1, l1⟩; obtain ⟨q1, q1'⟩ := B1.out w0.drew w1 rfl HB.out.lt l1; have d1 := q1.c1; have d2 := q1.c2; have Q1 := hide q1; have T1 := hide t1; have L1 := hide l1; have R1 := hide (FR.out _ _ R0d.out l1); clear t1 l1 q1 q1')
      | (go_at_call 17; refine (HCR.out w1 R1.out).mono ?_; rintro e w2 ⟨rfl, r2, k2⟩; have q2 := B2.out w1 w2 Q1.out k2; have d3 := q2.c1; have d4 := q2.c2; have FI := hide (FIN.out 1 w1 w2 st' _ MM.out T1.out L1.out r2 k2); clear r2 k2 q2))
    go_wp2_with fail
    exact FI.out
  by_cases a6 : a = 6
  · subst a6
    clear a1 a2 a3 a4 a5
    obtain ⟨v1, v2, CL, CR⟩ := pair_find MT.out hl y hy
    have HCL := hide (CL HT.out)
    have HCR := hide (fun X (hX : RefAt F X rb st Q o k) => CR hX)
    have MM := hide (show Q.length ≤ M from by have := HHM.out; unfold more9 at this; simp at this; omega)
    clear CL CR FIN0 HP PG HHM MT
    go_enter Tryz.func7, Tryz.ntmps7
    go_wp2_with fail
    rw [← W0.out, HA.out]
    clear W0
    refine HCL.out.mono ?_
    rintro e w1 ⟨rfl, t1, l1⟩
    obtain ⟨q1, q1'⟩ := B1.out w0 w1 rfl HB.out.lt l1
    have d0 := q1.c0
    have d1 := q1.c1
    have d2 := q1.c2
    have C2 := hide (HCR.out w1 (FR.out _ _ HRR.out l1))
    have T1 := hide t1
    have L1 := hide l1
    clear t1 l1 q1 q1' HCL HCR b0 b1 b2
    go_wp2_with fail
    refine C2.out.mono ?_
    rintro e w2 ⟨rfl, r2, k2⟩
    have FI := hide (FIN.out 0 w1 w2 st _ MM.out T1.out L1.out r2 k2)
    clear r2 k2 C2 T1 L1 d0 d1 d2
    go_wp2_with fail
    exact FI.out
  by_cases a7 : a = 7
  · subst a7
    clear a1 a2 a3 a4 a5 a6
    have HCL := hide (scav9_any HT.out.tr y hy)
    have HCR := hide (fun X (hX : RefAt F X rb st Q o k) => r9_scav hX hl y hy)
    have MM := hide (show Q.length ≤ M from by have := HHM.out; unfold more9 at this; simp at this; omega)
    clear FIN0 HP PG HHM MT
    go_enter Tryz.func7, Tryz.ntmps7
    go_wp2_with fail
    rw [← W0.out, HA.out]
    clear W0
    refine HCL.out.mono ?_
    rintro e w1 (⟨h1, rfl, hc⟩ | ⟨h1, i, a', m, c, g1, g2, g3, g4, g5, g6, g7, g8, rfl, hc⟩)
    · obtain ⟨t1, l1⟩ := HT.out.chg hc
      obtain ⟨q1, q1'⟩ := B1.out w0 w1 rfl HB.out.lt l1
      have d0 := q1.c0
      have d1 := q1.c1
      have d2 := q1.c2
      have C2 := hide (HCR.out w1 (FR.out _ _ HRR.out l1))
      have T1 := hide t1
      have L1 := hide l1
      have H1 := hide h1
      clear t1 l1 q1 q1' HCL HCR b0 b1 b2 hc h1
      go_wp2_with fail
      refine C2.out.mono ?_
      rintro e w2 ⟨(⟨_, rfl, r2⟩ | ⟨q1, N2, a2, m2, q2, q3, q4, q5, q6, rfl, r2⟩), k2⟩
      · have FI := hide (FIN.out 0 w1 w2 st Q.length MM.out T1.out L1.out ⟨Q, o, k, r2.mono (fun x hx => .inl hx), Nat.le_refl _⟩ k2)
        clear r2 k2 C2 T1 L1 d0 d1 d2 H1
        go_wp2_with fail
        exact FI.out
      · exfalso
        rcases H1.out with z | z
        · omega
        · exact z _ q5
    · obtain ⟨t1, l1⟩ := HT.out.chg hc
      obtain ⟨q1, q1'⟩ := B1.out w0 w1 rfl HB.out.lt l1
      have d0 := q1.c0
      have d1 := q1.c1
      have d2 := q1.c2
      have C2 := hide (HCR.out w1 (FR.out _ _ HRR.out l1))
      have T1 := hide t1
      have L1 := hide l1
      have SS := hide (fun N2 a2 m2 q2 q3 q4 q5 q6 => scav_same (N := N2) (a2 := a2) (m2 := m2) g2 g3 g4 g6 g7 g8 q2 q3 q4 q5 q6)
      have NZ := hide (show ¬ (y = 0 ∨ ∀ q, st q ≠ 2) from fun z => by
        rcases z with z | z
        · omega
        · exact z _ (g8 (512 * i + a') (by omega) (by omega)))
      clear t1 l1 q1 q1' HCL HCR b0 b1 b2 hc h1 g1 g2 g3 g4 g5 g6 g7 g8
      go_wp2_with fail
      refine C2.out.mono ?_
      rintro e w2 ⟨(⟨z, rfl, r2⟩ | ⟨q1, N2, a2, m2, q2, q3, q4, q5, q6, rfl, r2⟩), k2⟩
      · exact absurd z NZ.out
      · obtain ⟨rfl, rfl, rfl⟩ := SS.out N2 a2 m2 q2 q3 q4 q5 q6
        have FI := hide (FIN.out 0 w1 w2 _ Q.length MM.out T1.out L1.out ⟨Q, o, k, r2.mono (fun x hx => .inl hx), Nat.le_refl _⟩ k2)
        clear r2 k2 C2 T1 L1 d0 d1 d2 SS NZ q1 q2 q3 q4 q5 q6
        go_wp2_with fail
        exact FI.out
  by_cases a8 : a = 8
  · subst a8
    clear a1 a2 a3 a4 a5 a6 a7
    obtain ⟨v1, v2, v3, v4, CL, CR⟩ := pair_sum MT.out hl (wrap64 (wrap64 (bits .and .u64 (y : Int) 7) - 1)) x hx
    have HCL := hide (CL HT.out)
    have HCR := hide (fun X (hX : RefAt F X rb st Q o k) => CR hX)
    have MM := hide (show Q.length ≤ M from by have := HHM.out; unfold more9 at this; simp at this; omega)
    clear CL CR FIN0 HP PG HHM MT
    go_enter Tryz.func7, Tryz.ntmps7
    go_wp2_with fail
    rw [← W0.out, HA.out]
    clear W0
    refine HCL.out.mono ?_
    rintro e w1 ⟨rfl, t1, l1⟩
    obtain ⟨w3, hw3⟩ : ∃ w3, w1.alloc (.cells #[.int .i64 v1, .int .i64 v2, .int .i64 v3] 56) = w3 := ⟨_, rfl⟩
    obtain ⟨S, hS⟩ : ∃ S, w1.heap.size = S := ⟨_, rfl⟩
    have b3 : Below w1.heap.size w1 w3 := by rw [← hw3]; exact (Below.refl _ w1).alloc (Nat.le_refl _) _
    have f3 : Bk w3 S 56 #[.int .i64 v1, .int .i64 v2, .int .i64 v3] := by rw [← hw3, ← hS]; exact World.alloc_heap_new w1 _
    obtain ⟨q1, q1'⟩ := B1.out w0 w1 rfl HB.out.lt l1
    have q3 := q1.same (b3.block A q1')
    have d0 := q3.c0
    have d1 := q3.c1
    have d2 := q3.c2
    have z0 := f3.cell 0 _ rfl
    have z1 := f3.cell 1 _ rfl
    have z2 := f3.cell 2 _ rfl
    have r1 := FR.out _ _ HRR.out l1
    have C2 := hide (HCR.out w3 (r1.below b3))
    have T1 := hide (t1.read b3).1
    have L1 := hide (left_read l1 b3)
    have NS := hide (show ¬ F S from fun z => by have := (t1.inO (OF.out S z)).2; omega)
    have F3 := hide f3
    clear t1 l1 q1 q1' HCL HCR b0 b1 b2 b3 f3 r1 q3
    go_wp2_with fail
    refine C2.out.mono ?_
    rintro e w2 ⟨rfl, r2, k2⟩
    obtain ⟨w4, hw4⟩ : ∃ w4, w2.alloc (.cells #[.int .i64 v1, .int .i64 v2, .int .i64 v3] 56) = w4 := ⟨_, rfl⟩
    have b4 : Below w2.heap.size w2 w4 := by rw [← hw4]; exact (Below.refl _ w2).alloc (Nat.le_refl _) _
    have f4 : Bk w4 w2.heap.size 56 #[.int .i64 v1, .int .i64 v2, .int .i64 v3] := by rw [← hw4]; exact World.alloc_heap_new w2 _
    have f5 := (F3.out.kept k2 NS.out).below b4
    have y0 := f4.cell 0 _ rfl
    have y1 := f4.cell 1 _ rfl
    have y2 := f4.cell 2 _ rfl
    have u0 := f5.cell 0 _ rfl
    have u1 := f5.cell 1 _ rfl
    have u2 := f5.cell 2 _ rfl
    have FI := hide (FIN.out 0 w3 w4 st Q.length MM.out T1.out L1.out (by
      obtain ⟨Q', o', k', r3, hq⟩ := r2
      exact ⟨Q', o', k', (r3.below b4).mono (fun x hx => hx.imp id (fun z => ⟨z.1, by have := b4.size; omega⟩)), hq⟩) (k2.trans (Kept.of_below (F := F) b4) (fun _ _ z => z)))
    clear r2 k2 C2 T1 L1 d0 d1 d2 b4 f4 f5 F3 NS
    go_wp2_with fail
    exact FI.out
  by_cases a9 : a = 9
  · subst a9
    clear a1 a2 a3 a4 a5 a6 a7 a8
    have CP := hide (page_any HP.out.1 hl x hx)
    clear FIN0 FIN HP HHM MT
    go_enter Tryz.func7, Tryz.ntmps7
    go_wp2_with fail
    rw [← W0.out, HA.out]
    clear W0
    refine CP.out.mono ?_
    intro e w1 q
    obtain ⟨rfl, hr⟩ := PG.out e w1 q
    have FI := hide hr
    clear q hr CP PG
    go_wp2_with fail
    exact FI.out
  have q1 : (a == 1) = false := by simpa using a1
  have q2 : (a == 2) = false := by simpa using a2
  have q3 : (a == 3) = false := by simpa using a3
  have q4 : (a == 4) = false := by simpa using a4
  have q5 : (a == 5) = false := by simpa using a5
  have q6 : (a == 6) = false := by simpa using a6
  have q7 : (a == 7) = false := by simpa using a7
  have q8 : (a == 8) = false := by simpa using a8
  have q9 : (a == 9) = false := by simpa using a9
  clear a1 a2 a3 a4 a5 a6 a7 a8 a9
  go_enter Tryz.func7, Tryz.ntmps7
  go_wp2_with fail
  rw [← W0.out]
  exact FIN0.out
end Go.Proofs.YtnpimmjkmclkpaaGreatDoor

/- Both trees beside one another, read: contracts. -/
namespace Go.Proofs.YtnpimmjkmclkpaaGreatDoor
open Go.ChangeShapes Go.WideShapes Go.ChangeAt Go.RowKit Go.Proofs.Bt Go.Shelf Go.Proofs.Rx Go.Maps Go.Proofs.Pk
set_option linter.unusedVariables false
set_option linter.unusedSimpArgs false

/-- Both are as they were behind X. -/
def Rd9 (N : Nat) (O : Nat → Prop) (w : World) (tb rb : Nat) (st : Nat → Nat) (Q : List (Nat × Nat)) (F : Nat → Prop) (o : Option Addr) (k : Nat) (X X' : World) : Prop := Both N O w X' tb rb st Q F o k ∧ Left9 N O X X'
section
variable {N : Nat} {O : Nat → Prop} {w W W' W1 X X1 X2 : World} {tb rb : Nat} {st : Nat → Nat} {Q : List (Nat × Nat)} {F : Nat → Prop} {o : Option Addr} {k : Nat}
theorem Rd9.refl (h : Both N O w X tb rb st Q F o k) : Rd9 N O w tb rb st Q F o k X X := ⟨h, Kept.refl _ _⟩
theorem Rd9.trans (h : Rd9 N O w tb rb st Q F o k X X1) (h' : Rd9 N O w tb rb st Q F o k X1 X2) : Rd9 N O w tb rb st Q F o k X X2 := ⟨h'.1, Kept.trans h.2 h'.2 (fun _ _ z => z)⟩
theorem Rd9.below (h : Rd9 N O w tb rb st Q F o k X X1) (b : Below X1.heap.size X1 X2) : Rd9 N O w tb rb st Q F o k X X2 := ⟨h.1.read b, left_read h.2 b⟩
theorem b_free (h : Both N O w X tb rb st Q F o k) : Calls Tryz.prog 26 #[.pointer (some ⟨tb, 0, none⟩)] X fun e X' => e = .returned (.int .u64 (frT st : Nat)) ∧ Rd9 N O w tb rb st Q F o k X X' :=
  (t9_free h.t).mono fun e X' ⟨e1, e2, e3⟩ => ⟨e1, h.land e2 e3⟩
theorem b_rel (h : Both N O w X tb rb st Q F o k) : Calls Tryz.prog 28 #[.pointer (some ⟨tb, 0, none⟩)] X fun e X' => e = .returned (.int .u64 (rlT st : Nat)) ∧ Rd9 N O w tb rb st Q F o k X X' :=
  (t9_released h.t).mono fun e X' ⟨e1, e2, e3⟩ => ⟨e1, h.land e2 e3⟩
theorem b_rfree (h : Both N O w X tb rb st Q F o k) (hl : Q.length ≤ 1000000) : Calls Tryz.prog 27 #[.pointer (some ⟨rb, 0, none⟩)] X fun e X' => e = .returned (.int .u64 (frT st : Nat)) ∧ Rd9 N O w tb rb st Q F o k X X' :=
  (r9_free h.r hl).mono fun e X' ⟨e1, j, e2⟩ => ⟨e1, (Rd9.refl h).below (by rw [e2]; exact below_drew' X j)⟩
theorem b_rrel (h : Both N O w X tb rb st Q F o k) (hl : Q.length ≤ 1000000) : Calls Tryz.prog 29 #[.pointer (some ⟨rb, 0, none⟩)] X fun e X' => e = .returned (.int .u64 (rlT st : Nat)) ∧ Rd9 N O w tb rb st Q F o k X X' :=
  (r9_released h.r hl).mono fun e X' ⟨e1, j, e2⟩ => ⟨e1, (Rd9.refl h).below (by rw [e2]; exact below_drew' X j)⟩
theorem b_sum (h : Both N O w X tb rb st Q F o k) (lv i : Nat) (hl : lv ≤ 3) (hi : (i + 1) * sz (3 + lv) ≤ 34359738368) (s m e : Nat) (hs : SumN (bsy st (i * sz (3 + lv))) (sz (3 + lv)) s m e) :
    Calls Tryz.prog 23 #[.pointer (some ⟨tb, 0, none⟩), .int .i64 (lv : Nat), .int .u64 (i : Nat)] X fun en X' => en = .returned (.tuple #[.agg #[.int .i64 (s : Nat), .int .i64 (m : Nat), .int .i64 (e : Nat)], .int .i64 0]) ∧ Rd9 N O w tb rb st Q F o k X X' :=
  (t9_sum h.t lv i hl hi s m e hs).mono fun e X' ⟨e1, e2, e3⟩ => ⟨e1, h.land e2 e3⟩
theorem b_rsum (h : Both N O w X tb rb st Q F o k) (hQ : Q.length ≤ 1000000) (lv i : Nat) (hl : lv ≤ 3) (hi : (i + 1) * sz (3 + lv) ≤ 34359738368) (s m e : Nat) (hs : SumN (bsy st (i * sz (3 + lv))) (sz (3 + lv)) s m e) :
    Calls Tryz.prog 24 #[.pointer (some ⟨rb, 0, none⟩), .int .i64 (lv : Nat), .int .u64 (i : Nat)] X fun en X' => en = .returned (.tuple #[.agg #[.int .i64 (s : Nat), .int .i64 (m : Nat), .int .i64 (e : Nat)], .int .i64 0]) ∧ Rd9 N O w tb rb st Q F o k X X' ∧ Below X.heap.size X X' := by
  refine (r9_sum_any h.r hQ lv i hl hi).mono ?_
  rintro en X' ⟨⟨s', m', e', he, hS⟩, hb⟩
  obtain ⟨rfl, rfl, rfl⟩ := hS.one hs
  exact ⟨he, (Rd9.refl h).below hb, hb⟩
/-- What Hint answers: the first free page, or 0. -/
def hintV (st : Nat → Nat) (p : Nat) (b : Bool) : Prop := (b = true ∧ First st 1 p) ∨ (b = false ∧ p = 0 ∧ ∀ q, ¬ Run st q 1)
theorem hint_ex (st : Nat → Nat) : ∃ p b, hintV st p b := by
  by_cases hr : ∃ p, Run st p 1
  · obtain ⟨p, hp⟩ := hr
    obtain ⟨q, hq⟩ := first_ex p hp
    exact ⟨q, true, .inl ⟨rfl, hq⟩⟩
  · exact ⟨0, false, .inr ⟨rfl, rfl, fun q hq => hr ⟨q, hq⟩⟩⟩
theorem b_find1 (h : Both N O w X tb rb st Q F o k) {p : Nat} {b : Bool} (hv : hintV st p b) : Calls Tryz.prog 19 #[.pointer (some ⟨tb, 0, none⟩), .int .u64 1] X fun e X' => e = .returned (.tuple #[.int .u64 (p : Nat), .bool b]) ∧ Rd9 N O w tb rb st Q F o k X X' := by
  rcases hv with ⟨rfl, hf⟩ | ⟨rfl, rfl, hf⟩
  · exact (t9_find h.t 1 p (by omega) (by omega) hf).mono fun e X' ⟨e1, e2, e3⟩ => ⟨e1, h.land e2 e3⟩
  · exact (t9_find_no h.t 1 (by omega) (.inr hf)).mono fun e X' ⟨e1, e2, e3⟩ => ⟨e1, h.land e2 e3⟩
theorem b_first (h : Both N O w X tb rb st Q F o k) (hl : Q.length ≤ 1000000) {p : Nat} {b : Bool} (hv : hintV st p b) : Calls Tryz.prog 31 #[.pointer (some ⟨rb, 0, none⟩)] X fun e X' => e = .returned (.tuple #[.int .u64 (p : Nat), .bool b]) ∧ Rd9 N O w tb rb st Q F o k X X' := by
  refine (r9_First h.r hl).mono ?_
  rintro e X' ⟨hx, j, hj⟩
  refine ⟨?_, (Rd9.refl h).below (by rw [hj]; exact below_drew' X j)⟩
  rcases hv with ⟨rfl, hf⟩ | ⟨rfl, rfl, hf⟩
  · rcases hx with ⟨q, hq, _, he⟩ | ⟨hno, he⟩
    · rw [First_one hq hf] at he; exact he
    · exact absurd hf.1 (hno.resolve_left (by omega) p)
  · rcases hx with ⟨q, hq, _, he⟩ | ⟨hno, he⟩
    · exact absurd hq.1 (hf q)
    · exact he
set_option maxRecDepth 100000 in
theorem b_hint (h : Both N O w X tb rb st Q F o k) {p : Nat} {b : Bool} (hv : hintV st p b) : Calls Tryz.prog 30 #[.pointer (some ⟨tb, 0, none⟩)] X fun e X' => e = .returned (.int .u64 (p : Nat)) ∧ Rd9 N O w tb rb st Q F o k X X' := by
  have CF := hide (b_find1 h hv)
  obtain ⟨R, hR⟩ : ∃ R : Ending → World → Prop, R = fun e X' => e = .returned (.int .u64 (p : Nat)) ∧ Rd9 N O w tb rb st Q F o k X X' := ⟨_, rfl⟩
  rw [← hR]
  have HR := hide hR
  clear hR h hv
  go_enter Tryz.func30, Tryz.ntmps30
  go_wp2_with fail
  refine CF.out.mono ?_
  rintro e X' ⟨rfl, hr⟩
  have FI := hide (show R (.returned (.int .u64 (p : Nat))) X' from by rw [HR.out]; exact ⟨rfl, hr⟩)
  clear CF hr HR
  go_wp2_with fail
  first | exact FI.out | (go_ret; exact FI.out)
theorem b_page (h : Both N O w X tb rb st Q F o k) (hl : Q.length ≤ 1000000) (p : Nat) (hp : p < 18446744073709551616) :
    Calls Tryz.prog 25 #[.pointer (some ⟨tb, 0, none⟩), .pointer (some ⟨rb, 0, none⟩), .int .u64 (p : Nat)] X fun e X' => e = .returned (.bool true) ∧ Rd9 N O w tb rb st Q F o k X X' :=
  (page_any h hl p hp).mono fun e X' ⟨e1, e2, e3⟩ => ⟨e1, e2, e3⟩
end
end Go.Proofs.YtnpimmjkmclkpaaGreatDoor

/- Both trees beside one another: same: its contract. -/
namespace Go.Proofs.YtnpimmjkmclkpaaGreatDoor
open Go.ChangeShapes Go.WideShapes Go.ChangeAt Go.RowKit Go.Proofs.Bt Go.Shelf Go.Proofs.Rx Go.Maps Go.Proofs.Pk
set_option linter.unusedVariables false
set_option linter.unusedSimpArgs false

theorem fit_0 (n : Nat) (h : n < 67108864) : (n / 512 + 1) * sz (3 + 0) ≤ 34359738368 :=
  Nat.le_trans (Nat.mul_le_mul_right _ (show n / 512 + 1 ≤ 131072 by omega)) (Nat.le_of_eq rfl)
theorem fit_1 (n : Nat) (h : n < 67108864) : (n / 64 + 1) * sz (3 + 1) ≤ 34359738368 :=
  Nat.le_trans (Nat.mul_le_mul_right _ (show n / 64 + 1 ≤ 1048576 by omega)) (Nat.le_of_eq rfl)
theorem fit_2 (n : Nat) (h : n < 67108864) : (n / 8 + 1) * sz (3 + 2) ≤ 34359738368 :=
  Nat.le_trans (Nat.mul_le_mul_right _ (show n / 8 + 1 ≤ 8388608 by omega)) (Nat.le_of_eq rfl)
theorem fit_3 (n : Nat) (h : n < 67108864) : (n / 1 + 1) * sz (3 + 3) ≤ 34359738368 :=
  Nat.le_trans (Nat.mul_le_mul_right _ (show n / 1 + 1 ≤ 67108864 by omega)) (Nat.le_of_eq rfl)
set_option maxRecDepth 100000 in
set_option maxHeartbeats 4000000 in
theorem same_any {N : Nat} {O : Nat → Prop} {w W : World} {tb rb : Nat} {st : Nat → Nat} {Q : List (Nat × Nat)} {F : Nat → Prop} {o : Option Addr} {k : Nat} (h : Both N O w W tb rb st Q F o k) (hl : Q.length ≤ 1000000) (step : Int) (s1 : 1 ≤ step) (s2 : step ≤ 512) :
    Calls Tryz.prog 8 #[.pointer (some ⟨tb, 0, none⟩), .pointer (some ⟨rb, 0, none⟩), .int .i64 step] W fun e W' => e = .returned (.bool true) ∧ Rd9 N O w tb rb st Q F o k W W' := by
  obtain ⟨R, hR⟩ : ∃ R : Ending → World → Prop, R = fun e W' => e = .returned (.bool true) ∧ Rd9 N O w tb rb st Q F o k W W' := ⟨_, rfl⟩
  rw [← hR]
  have HR := hide (show ∀ X, Rd9 N O w tb rb st Q F o k W X → R (.returned (.bool true)) X from fun X hX => by rw [hR]; exact ⟨rfl, hX⟩)
  obtain ⟨p, b, hv⟩ := hint_ex st
  have HV := hide hv
  have HLL := hide hl
  have MT := hide h.r.mt
  have G := hide (Rd9.refl h)
  obtain ⟨L, hL⟩ : ∃ L : Nat, Q.length = L := ⟨_, rfl⟩
  have HL := hide hL
  have l1 : (L : Int) ≤ 1000000 := by omega
  have l0 : 0 ≤ (L : Int) := by omega
  obtain ⟨P, hP⟩ : ∃ P : Int, (p : Int) = P := ⟨_, rfl⟩
  have CH := hide (fun X (hX : Both N O w X tb rb st Q F o k) => b_hint hX hv)
  have CF := hide (fun X (hX : Both N O w X tb rb st Q F o k) => b_first hX hl hv)
  obtain ⟨fr, hfr⟩ : ∃ fr : Int, ((frT st : Nat) : Int) = fr := ⟨_, rfl⟩
  obtain ⟨rl, hrl⟩ : ∃ rl : Int, ((rlT st : Nat) : Int) = rl := ⟨_, rfl⟩
  have C1 := hide (fun X (hX : Both N O w X tb rb st Q F o k) => b_free hX)
  have C2 := hide (fun X (hX : Both N O w X tb rb st Q F o k) => b_rfree hX hl)
  have C3 := hide (fun X (hX : Both N O w X tb rb st Q F o k) => b_rel hX)
  have C4 := hide (fun X (hX : Both N O w X tb rb st Q F o k) => b_rrel hX hl)
  rw [hfr] at C1 C2
  rw [hrl] at C3 C4
  rw [hP] at CH CF
  clear hR h hv hL hfr hrl hP hl
  go_enter Tryz.func8, Tryz.ntmps8
  go_wp2_with fail
  refine (C1.out _ G.out.1).mono ?_
  rintro e x0 ⟨rfl, g0⟩
  have H0 := hide (G.out.trans g0)
  clear g0 G
  have G := H0
  clear H0
  go_wp2_with fail
  refine (C2.out _ G.out.1).mono ?_
  rintro e x1 ⟨rfl, g1⟩
  have H1 := hide (G.out.trans g1)
  clear g1 G
  have G := H1
  clear H1
  go_wp2_with fail
  refine (C3.out _ G.out.1).mono ?_
  rintro e x2 ⟨rfl, g2⟩
  have H2 := hide (G.out.trans g2)
  clear g2 G
  have G := H2
  clear H2
  go_wp2_with fail
  refine (C4.out _ G.out.1).mono ?_
  rintro e x3 ⟨rfl, g3⟩
  have H3 := hide (G.out.trans g3)
  clear g3 G
  have G := H3
  clear H3
  clear C1 C2 C3 C4
  go_wp2_with fail
  refine (CH.out _ G.out.1).mono ?_
  rintro e x5 ⟨rfl, g5⟩
  have G5 := hide (G.out.trans g5)
  clear g5 G CH
  go_wp2_with fail
  refine (CF.out _ G5.out.1).mono ?_
  rintro e x6 ⟨rfl, g6⟩
  have G6 := hide (G5.out.trans g6)
  clear g6 G5 CF HV
  cases b with
  | true =>
    go_wp2_with fail
    go_loopw [10] (fun iv wr => ∃ i : Int, iv = .int .i64 i ∧ 0 ≤ i ∧ i ≤ L ∧ Hid (Rd9 N O w tb rb st Q F o k W wr)) (fun iv _ => (L - intOf iv).toNat)
    case atStart => exact ⟨0, rfl, by omega, by omega, G6⟩
    case round =>
      clear G6
      obtain ⟨i, rfl, i0, i1, HG⟩ := hrel
      have c0 := HG.out.1.r.cell0
      rw [HL.out] at c0
      by_cases hi : i < L
      · obtain ⟨iN, hiN⟩ : ∃ iN : Nat, i.toNat = iN := ⟨_, rfl⟩
        have hq : iN < Q.length := by have := HL.out; omega
        obtain ⟨bl, rfl, -, -⟩ := HG.out.1.r.at hq
        have ng := MT.out.below _ (List.getElem_mem hq)
        obtain ⟨CN, hCN⟩ : ∃ CN : Nat, Q[iN].1 = CN := ⟨_, rfl⟩
        obtain ⟨NI, hNI⟩ : ∃ NI : Int, (CN : Int) = NI := ⟨_, rfl⟩
        rw [hCN] at ng
        have n0 : 0 ≤ NI := by omega
        have n1 : NI < 67108864 := by omega
        have CEL := hide (show ∀ X, Both N O w X tb rb st Q F (some ⟨bl, 0, none⟩) k → X.cell? ⟨rb, 0, none⟩ = some (.slice (some ⟨bl, 0, none⟩) L k) ∧ X.cell? ⟨bl, i.toNat * 2, none⟩ = some (.int .u64 NI) from fun X hX => ⟨by have := hX.r.cell0; rwa [HL.out] at this, by
          obtain ⟨b', e', d, -⟩ := hX.r.at hq
          injection e' with e'
          injection e' with e'
          rw [hCN, hNI] at d
          rw [e', show i.toNat = iN by omega]
          exact d⟩)
        have HCN := hide ng
        have HNI := hide hNI
        clear hiN hq hCN hNI ng
        go_wp2_with fail
        go_loopw [11] (fun kv wr2 => ∃ j : Int, kv = .int .i64 j ∧ 0 ≤ j ∧ j ≤ 1024 ∧ Hid (Rd9 N O w tb rb st Q F (some ⟨bl, 0, none⟩) k W wr2)) (fun kv _ => (1024 - intOf kv).toNat)
        case atStart => exact ⟨0, rfl, by omega, by omega, HG⟩
        case round =>
          clear HG c0
          obtain ⟨j, rfl, j0, j1, HG2⟩ := hrel
          by_cases hj : j < 512
          · obtain ⟨c0, d0⟩ := CEL.out _ HG2.out.1
            have CP := hide (b_page HG2.out.1 HLL.out (CN * 512 + j.toNat) (by have := HCN.out; omega))
            rw [show ((CN * 512 + j.toNat : Nat) : Int) = NI * 512 + j by have := HNI.out; omega] at CP
            go_wp2_with fail
            refine CP.out.mono ?_
            rintro e w1 ⟨rfl, g1⟩
            have G2 := hide (HG2.out.trans g1)
            clear g1 CP HG2 c0 d0
            go_wp2_with fail
            refine ⟨⟨j + step, by go_num, by omega, by omega, G2⟩, ?_⟩
            simp [intOf]; omega
          · have hj' : 512 ≤ j := by omega
            clear hj
            go_wp2_with fail
            go_loopw [12] (fun lv wr3 => ∃ l : Int, lv = .int .i64 l ∧ 0 ≤ l ∧ l ≤ 4 ∧ Hid (Rd9 N O w tb rb st Q F (some ⟨bl, 0, none⟩) k W wr3)) (fun lv _ => (4 - intOf lv).toNat)
            case atStart => exact ⟨0, rfl, by omega, by omega, HG2⟩
            case round =>
              clear HG2
              obtain ⟨l, rfl, l2, l3, HG3⟩ := hrel
              obtain ⟨c0, d0⟩ := CEL.out _ HG3.out.1
              rcases (show l = 0 ∨ l = 1 ∨ l = 2 ∨ l = 3 ∨ l = 4 by omega) with rfl | rfl | rfl | rfl | rfl
              · obtain ⟨r, hr⟩ := sum_total9 st (CN / 512 * sz (3 + 0)) (sz (3 + 0))
                unfold Su at hr
                obtain ⟨v1, hv1⟩ : ∃ v : Int, ((r.s : Nat) : Int) = v := ⟨_, rfl⟩
                obtain ⟨v2, hv2⟩ : ∃ v : Int, ((r.m : Nat) : Int) = v := ⟨_, rfl⟩
                obtain ⟨v3, hv3⟩ : ∃ v : Int, ((r.e : Nat) : Int) = v := ⟨_, rfl⟩
                have D1 := hide (fun X (hX : Both N O w X tb rb st Q F (some ⟨bl, 0, none⟩) k) => b_sum hX 0 (CN / 512) (by omega) (fit_0 CN HCN.out) r.s r.m r.e hr)
                have D2 := hide (fun X (hX : Both N O w X tb rb st Q F (some ⟨bl, 0, none⟩) k) => b_rsum hX HLL.out 0 (CN / 512) (by omega) (fit_0 CN HCN.out) r.s r.m r.e hr)
                rw [hv1, hv2, hv3, show ((CN / 512 : Nat) : Int) = NI / 512 by have := HNI.out; omega] at D1 D2
                simp only [Int.cast_ofNat_Int] at D1 D2
                clear hr hv1 hv2 hv3
                go_wp2_with fail
                refine (D1.out _ HG3.out.1).mono ?_
                rintro e w1 ⟨rfl, g1⟩
                obtain ⟨w3, hw3⟩ : ∃ w3, w1.alloc (.cells #[.int .i64 v1, .int .i64 v2, .int .i64 v3] 56) = w3 := ⟨_, rfl⟩
                obtain ⟨S, hS⟩ : ∃ S, w1.heap.size = S := ⟨_, rfl⟩
                have b3 : Below w1.heap.size w1 w3 := by rw [← hw3]; exact (Below.refl _ w1).alloc (Nat.le_refl _) _
                have f3 : Bk w3 S 56 #[.int .i64 v1, .int .i64 v2, .int .i64 v3] := by rw [← hw3, ← hS]; exact World.alloc_heap_new w1 _
                have G3 := hide ((HG3.out.trans g1).below b3)
                have C5 := hide (D2.out w3 G3.out.1)
                have F3 := hide f3
                clear g1 b3 f3 D1 D2 HG3 d0 c0
                go_wp2_with fail
                refine C5.out.mono ?_
                rintro e w2 ⟨rfl, g2, bb⟩
                obtain ⟨w4, hw4⟩ : ∃ w4, w2.alloc (.cells #[.int .i64 v1, .int .i64 v2, .int .i64 v3] 56) = w4 := ⟨_, rfl⟩
                have b4 : Below w2.heap.size w2 w4 := by rw [← hw4]; exact (Below.refl _ w2).alloc (Nat.le_refl _) _
                have f4 : Bk w4 w2.heap.size 56 #[.int .i64 v1, .int .i64 v2, .int .i64 v3] := by rw [← hw4]; exact World.alloc_heap_new w2 _
                have f5 := (F3.out.below bb).below b4
                have G4 := hide ((G3.out.trans g2).below b4)
                have y0 := f4.cell 0 _ rfl
                have y1 := f4.cell 1 _ rfl
                have y2 := f4.cell 2 _ rfl
                have u0 := f5.cell 0 _ rfl
                have u1 := f5.cell 1 _ rfl
                have u2 := f5.cell 2 _ rfl
                clear g2 b4 f4 f5 F3 C5 G3 bb
                go_wp2_with fail
                refine ⟨⟨1, rfl, by omega, by omega, G4⟩, ?_⟩
                simp [intOf]
              · obtain ⟨r, hr⟩ := sum_total9 st (CN / 64 * sz (3 + 1)) (sz (3 + 1))
                unfold Su at hr
                obtain ⟨v1, hv1⟩ : ∃ v : Int, ((r.s : Nat) : Int) = v := ⟨_, rfl⟩
                obtain ⟨v2, hv2⟩ : ∃ v : Int, ((r.m : Nat) : Int) = v := ⟨_, rfl⟩
                obtain ⟨v3, hv3⟩ : ∃ v : Int, ((r.e : Nat) : Int) = v := ⟨_, rfl⟩
                have D1 := hide (fun X (hX : Both N O w X tb rb st Q F (some ⟨bl, 0, none⟩) k) => b_sum hX 1 (CN / 64) (by omega) (fit_1 CN HCN.out) r.s r.m r.e hr)
                have D2 := hide (fun X (hX : Both N O w X tb rb st Q F (some ⟨bl, 0, none⟩) k) => b_rsum hX HLL.out 1 (CN / 64) (by omega) (fit_1 CN HCN.out) r.s r.m r.e hr)
                rw [hv1, hv2, hv3, show ((CN / 64 : Nat) : Int) = NI / 64 by have := HNI.out; omega] at D1 D2
                simp only [Int.cast_ofNat_Int] at D1 D2
                clear hr hv1 hv2 hv3
                go_wp2_with fail
                refine (D1.out _ HG3.out.1).mono ?_
                rintro e w1 ⟨rfl, g1⟩
                obtain ⟨w3, hw3⟩ : ∃ w3, w1.alloc (.cells #[.int .i64 v1, .int .i64 v2, .int .i64 v3] 56) = w3 := ⟨_, rfl⟩
                obtain ⟨S, hS⟩ : ∃ S, w1.heap.size = S := ⟨_, rfl⟩
                have b3 : Below w1.heap.size w1 w3 := by rw [← hw3]; exact (Below.refl _ w1).alloc (Nat.le_refl _) _
                have f3 : Bk w3 S 56 #[.int .i64 v1, .int .i64 v2, .int .i64 v3] := by rw [← hw3, ← hS]; exact World.alloc_heap_new w1 _
                have G3 := hide ((HG3.out.trans g1).below b3)
                have C5 := hide (D2.out w3 G3.out.1)
                have F3 := hide f3
                clear g1 b3 f3 D1 D2 HG3 d0 c0
                go_wp2_with fail
                refine C5.out.mono ?_
                rintro e w2 ⟨rfl, g2, bb⟩
                obtain ⟨w4, hw4⟩ : ∃ w4, w2.alloc (.cells #[.int .i64 v1, .int .i64 v2, .int .i64 v3] 56) = w4 := ⟨_, rfl⟩
                have b4 : Below w2.heap.size w2 w4 := by rw [← hw4]; exact (Below.refl _ w2).alloc (Nat.le_refl _) _
                have f4 : Bk w4 w2.heap.size 56 #[.int .i64 v1, .int .i64 v2, .int .i64 v3] := by rw [← hw4]; exact World.alloc_heap_new w2 _
                have f5 := (F3.out.below bb).below b4
                have G4 := hide ((G3.out.trans g2).below b4)
                have y0 := f4.cell 0 _ rfl
                have y1 := f4.cell 1 _ rfl
                have y2 := f4.cell 2 _ rfl
                have u0 := f5.cell 0 _ rfl
                have u1 := f5.cell 1 _ rfl
                have u2 := f5.cell 2 _ rfl
                clear g2 b4 f4 f5 F3 C5 G3 bb
                go_wp2_with fail
                refine ⟨⟨2, rfl, by omega, by omega, G4⟩, ?_⟩
                simp [intOf]
              · obtain ⟨r, hr⟩ := sum_total9 st (CN / 8 * sz (3 + 2)) (sz (3 + 2))
                unfold Su at hr
                obtain ⟨v1, hv1⟩ : ∃ v : Int, ((r.s : Nat) : Int) = v := ⟨_, rfl⟩
                obtain ⟨v2, hv2⟩ : ∃ v : Int, ((r.m : Nat) : Int) = v := ⟨_, rfl⟩
                obtain ⟨v3, hv3⟩ : ∃ v : Int, ((r.e : Nat) : Int) = v := ⟨_, rfl⟩
                have D1 := hide (fun X (hX : Both N O w X tb rb st Q F (some ⟨bl, 0, none⟩) k) => b_sum hX 2 (CN / 8) (by omega) (fit_2 CN HCN.out) r.s r.m r.e hr)
                have D2 := hide (fun X (hX : Both N O w X tb rb st Q F (some ⟨bl, 0, none⟩) k) => b_rsum hX HLL.out 2 (CN / 8) (by omega) (fit_2 CN HCN.out) r.s r.m r.e hr)
                rw [hv1, hv2, hv3, show ((CN / 8 : Nat) : Int) = NI / 8 by have := HNI.out; omega] at D1 D2
                simp only [Int.cast_ofNat_Int] at D1 D2
                clear hr hv1 hv2 hv3
                go_wp2_with fail
                refine (D1.out _ HG3.out.1).mono ?_
                rintro e w1 ⟨rfl, g1⟩
                obtain ⟨w3, hw3⟩ : ∃ w3, w1.alloc (.cells #[.int .i64 v1, .int .i64 v2, .int .i64 v3] 56) = w3 := ⟨_, rfl⟩
                obtain ⟨S, hS⟩ : ∃ S, w1.heap.size = S := ⟨_, rfl⟩
                have b3 : Below w1.heap.size w1 w3 := by rw [← hw3]; exact (Below.refl _ w1).alloc (Nat.le_refl _) _
                have f3 : Bk w3 S 56 #[.int .i64 v1, .int .i64 v2, .int .i64 v3] := by rw [← hw3, ← hS]; exact World.alloc_heap_new w1 _
                have G3 := hide ((HG3.out.trans g1).below b3)
                have C5 := hide (D2.out w3 G3.out.1)
                have F3 := hide f3
                clear g1 b3 f3 D1 D2 HG3 d0 c0
                go_wp2_with fail
                refine C5.out.mono ?_
                rintro e w2 ⟨rfl, g2, bb⟩
                obtain ⟨w4, hw4⟩ : ∃ w4, w2.alloc (.cells #[.int .i64 v1, .int .i64 v2, .int .i64 v3] 56) = w4 := ⟨_, rfl⟩
                have b4 : Below w2.heap.size w2 w4 := by rw [← hw4]; exact (Below.refl _ w2).alloc (Nat.le_refl _) _
                have f4 : Bk w4 w2.heap.size 56 #[.int .i64 v1, .int .i64 v2, .int .i64 v3] := by rw [← hw4]; exact World.alloc_heap_new w2 _
                have f5 := (F3.out.below bb).below b4
                have G4 := hide ((G3.out.trans g2).below b4)
                have y0 := f4.cell 0 _ rfl
                have y1 := f4.cell 1 _ rfl
                have y2 := f4.cell 2 _ rfl
                have u0 := f5.cell 0 _ rfl
                have u1 := f5.cell 1 _ rfl
                have u2 := f5.cell 2 _ rfl
                clear g2 b4 f4 f5 F3 C5 G3 bb
                go_wp2_with fail
                refine ⟨⟨3, rfl, by omega, by omega, G4⟩, ?_⟩
                simp [intOf]
              · obtain ⟨r, hr⟩ := sum_total9 st (CN / 1 * sz (3 + 3)) (sz (3 + 3))
                unfold Su at hr
                obtain ⟨v1, hv1⟩ : ∃ v : Int, ((r.s : Nat) : Int) = v := ⟨_, rfl⟩
                obtain ⟨v2, hv2⟩ : ∃ v : Int, ((r.m : Nat) : Int) = v := ⟨_, rfl⟩
                obtain ⟨v3, hv3⟩ : ∃ v : Int, ((r.e : Nat) : Int) = v := ⟨_, rfl⟩
                have D1 := hide (fun X (hX : Both N O w X tb rb st Q F (some ⟨bl, 0, none⟩) k) => b_sum hX 3 (CN / 1) (by omega) (fit_3 CN HCN.out) r.s r.m r.e hr)
                have D2 := hide (fun X (hX : Both N O w X tb rb st Q F (some ⟨bl, 0, none⟩) k) => b_rsum hX HLL.out 3 (CN / 1) (by omega) (fit_3 CN HCN.out) r.s r.m r.e hr)
                rw [hv1, hv2, hv3, show ((CN / 1 : Nat) : Int) = NI by have := HNI.out; omega] at D1 D2
                simp only [Int.cast_ofNat_Int] at D1 D2
                clear hr hv1 hv2 hv3
                go_wp2_with fail
                refine (D1.out _ HG3.out.1).mono ?_
                rintro e w1 ⟨rfl, g1⟩
                obtain ⟨w3, hw3⟩ : ∃ w3, w1.alloc (.cells #[.int .i64 v1, .int .i64 v2, .int .i64 v3] 56) = w3 := ⟨_, rfl⟩
                obtain ⟨S, hS⟩ : ∃ S, w1.heap.size = S := ⟨_, rfl⟩
                have b3 : Below w1.heap.size w1 w3 := by rw [← hw3]; exact (Below.refl _ w1).alloc (Nat.le_refl _) _
                have f3 : Bk w3 S 56 #[.int .i64 v1, .int .i64 v2, .int .i64 v3] := by rw [← hw3, ← hS]; exact World.alloc_heap_new w1 _
                have G3 := hide ((HG3.out.trans g1).below b3)
                have C5 := hide (D2.out w3 G3.out.1)
                have F3 := hide f3
                clear g1 b3 f3 D1 D2 HG3 d0 c0
                go_wp2_with fail
                refine C5.out.mono ?_
                rintro e w2 ⟨rfl, g2, bb⟩
                obtain ⟨w4, hw4⟩ : ∃ w4, w2.alloc (.cells #[.int .i64 v1, .int .i64 v2, .int .i64 v3] 56) = w4 := ⟨_, rfl⟩
                have b4 : Below w2.heap.size w2 w4 := by rw [← hw4]; exact (Below.refl _ w2).alloc (Nat.le_refl _) _
                have f4 : Bk w4 w2.heap.size 56 #[.int .i64 v1, .int .i64 v2, .int .i64 v3] := by rw [← hw4]; exact World.alloc_heap_new w2 _
                have f5 := (F3.out.below bb).below b4
                have G4 := hide ((G3.out.trans g2).below b4)
                have y0 := f4.cell 0 _ rfl
                have y1 := f4.cell 1 _ rfl
                have y2 := f4.cell 2 _ rfl
                have u0 := f5.cell 0 _ rfl
                have u1 := f5.cell 1 _ rfl
                have u2 := f5.cell 2 _ rfl
                clear g2 b4 f4 f5 F3 C5 G3 bb
                go_wp2_with fail
                refine ⟨⟨4, rfl, by omega, by omega, G4⟩, ?_⟩
                simp [intOf]
              · clear c0 d0 CEL
                go_wp2_with fail
                refine ⟨⟨i + 1, by go_num, by omega, by omega, HG3⟩, ?_⟩
                simp [intOf]; omega
      · have F0 := hide (HR.out _ HG.out)
        have hd : decide (i < (L : Int)) = false := decide_eq_false hi
        clear hi HG HR
        go_wp2_with fail
        first | exact F0.out | (go_ret; exact F0.out)
  | false =>
    go_wp2_with fail
    go_loopw [10] (fun iv wr => ∃ i : Int, iv = .int .i64 i ∧ 0 ≤ i ∧ i ≤ L ∧ Hid (Rd9 N O w tb rb st Q F o k W wr)) (fun iv _ => (L - intOf iv).toNat)
    case atStart => exact ⟨0, rfl, by omega, by omega, G6⟩
    case round =>
      clear G6
      obtain ⟨i, rfl, i0, i1, HG⟩ := hrel
      have c0 := HG.out.1.r.cell0
      rw [HL.out] at c0
      by_cases hi : i < L
      · obtain ⟨iN, hiN⟩ : ∃ iN : Nat, i.toNat = iN := ⟨_, rfl⟩
        have hq : iN < Q.length := by have := HL.out; omega
        obtain ⟨bl, rfl, -, -⟩ := HG.out.1.r.at hq
        have ng := MT.out.below _ (List.getElem_mem hq)
        obtain ⟨CN, hCN⟩ : ∃ CN : Nat, Q[iN].1 = CN := ⟨_, rfl⟩
        obtain ⟨NI, hNI⟩ : ∃ NI : Int, (CN : Int) = NI := ⟨_, rfl⟩
        rw [hCN] at ng
        have n0 : 0 ≤ NI := by omega
        have n1 : NI < 67108864 := by omega
        have CEL := hide (show ∀ X, Both N O w X tb rb st Q F (some ⟨bl, 0, none⟩) k → X.cell? ⟨rb, 0, none⟩ = some (.slice (some ⟨bl, 0, none⟩) L k) ∧ X.cell? ⟨bl, i.toNat * 2, none⟩ = some (.int .u64 NI) from fun X hX => ⟨by have := hX.r.cell0; rwa [HL.out] at this, by
          obtain ⟨b', e', d, -⟩ := hX.r.at hq
          injection e' with e'
          injection e' with e'
          rw [hCN, hNI] at d
          rw [e', show i.toNat = iN by omega]
          exact d⟩)
        have HCN := hide ng
        have HNI := hide hNI
        clear hiN hq hCN hNI ng
        go_wp2_with fail
        go_loopw [11] (fun kv wr2 => ∃ j : Int, kv = .int .i64 j ∧ 0 ≤ j ∧ j ≤ 1024 ∧ Hid (Rd9 N O w tb rb st Q F (some ⟨bl, 0, none⟩) k W wr2)) (fun kv _ => (1024 - intOf kv).toNat)
        case atStart => exact ⟨0, rfl, by omega, by omega, HG⟩
        case round =>
          clear HG c0
          obtain ⟨j, rfl, j0, j1, HG2⟩ := hrel
          by_cases hj : j < 512
          · obtain ⟨c0, d0⟩ := CEL.out _ HG2.out.1
            have CP := hide (b_page HG2.out.1 HLL.out (CN * 512 + j.toNat) (by have := HCN.out; omega))
            rw [show ((CN * 512 + j.toNat : Nat) : Int) = NI * 512 + j by have := HNI.out; omega] at CP
            go_wp2_with fail
            refine CP.out.mono ?_
            rintro e w1 ⟨rfl, g1⟩
            have G2 := hide (HG2.out.trans g1)
            clear g1 CP HG2 c0 d0
            go_wp2_with fail
            refine ⟨⟨j + step, by go_num, by omega, by omega, G2⟩, ?_⟩
            simp [intOf]; omega
          · have hj' : 512 ≤ j := by omega
            clear hj
            go_wp2_with fail
            go_loopw [12] (fun lv wr3 => ∃ l : Int, lv = .int .i64 l ∧ 0 ≤ l ∧ l ≤ 4 ∧ Hid (Rd9 N O w tb rb st Q F (some ⟨bl, 0, none⟩) k W wr3)) (fun lv _ => (4 - intOf lv).toNat)
            case atStart => exact ⟨0, rfl, by omega, by omega, HG2⟩
            case round =>
              clear HG2
              obtain ⟨l, rfl, l2, l3, HG3⟩ := hrel
              obtain ⟨c0, d0⟩ := CEL.out _ HG3.out.1
              rcases (show l = 0 ∨ l = 1 ∨ l = 2 ∨ l = 3 ∨ l = 4 by omega) with rfl | rfl | rfl | rfl | rfl
              · obtain ⟨r, hr⟩ := sum_total9 st (CN / 512 * sz (3 + 0)) (sz (3 + 0))
                unfold Su at hr
                obtain ⟨v1, hv1⟩ : ∃ v : Int, ((r.s : Nat) : Int) = v := ⟨_, rfl⟩
                obtain ⟨v2, hv2⟩ : ∃ v : Int, ((r.m : Nat) : Int) = v := ⟨_, rfl⟩
                obtain ⟨v3, hv3⟩ : ∃ v : Int, ((r.e : Nat) : Int) = v := ⟨_, rfl⟩
                have D1 := hide (fun X (hX : Both N O w X tb rb st Q F (some ⟨bl, 0, none⟩) k) => b_sum hX 0 (CN / 512) (by omega) (fit_0 CN HCN.out) r.s r.m r.e hr)
                have D2 := hide (fun X (hX : Both N O w X tb rb st Q F (some ⟨bl, 0, none⟩) k) => b_rsum hX HLL.out 0 (CN / 512) (by omega) (fit_0 CN HCN.out) r.s r.m r.e hr)
                rw [hv1, hv2, hv3, show ((CN / 512 : Nat) : Int) = NI / 512 by have := HNI.out; omega] at D1 D2
                simp only [Int.cast_ofNat_Int] at D1 D2
                clear hr hv1 hv2 hv3
                go_wp2_with fail
                refine (D1.out _ HG3.out.1).mono ?_
                rintro e w1 ⟨rfl, g1⟩
                obtain ⟨w3, hw3⟩ : ∃ w3, w1.alloc (.cells #[.int .i64 v1, .int .i64 v2, .int .i64 v3] 56) = w3 := ⟨_, rfl⟩
                obtain ⟨S, hS⟩ : ∃ S, w1.heap.size = S := ⟨_, rfl⟩
                have b3 : Below w1.heap.size w1 w3 := by rw [← hw3]; exact (Below.refl _ w1).alloc (Nat.le_refl _) _
                have f3 : Bk w3 S 56 #[.int .i64 v1, .int .i64 v2, .int .i64 v3] := by rw [← hw3, ← hS]; exact World.alloc_heap_new w1 _
                have G3 := hide ((HG3.out.trans g1).below b3)
                have C5 := hide (D2.out w3 G3.out.1)
                have F3 := hide f3
                clear g1 b3 f3 D1 D2 HG3 d0 c0
                go_wp2_with fail
                refine C5.out.mono ?_
                rintro e w2 ⟨rfl, g2, bb⟩
                obtain ⟨w4, hw4⟩ : ∃ w4, w2.alloc (.cells #[.int .i64 v1, .int .i64 v2, .int .i64 v3] 56) = w4 := ⟨_, rfl⟩
                have b4 : Below w2.heap.size w2 w4 := by rw [← hw4]; exact (Below.refl _ w2).alloc (Nat.le_refl _) _
                have f4 : Bk w4 w2.heap.size 56 #[.int .i64 v1, .int .i64 v2, .int .i64 v3] := by rw [← hw4]; exact World.alloc_heap_new w2 _
                have f5 := (F3.out.below bb).below b4
                have G4 := hide ((G3.out.trans g2).below b4)
                have y0 := f4.cell 0 _ rfl
                have y1 := f4.cell 1 _ rfl
                have y2 := f4.cell 2 _ rfl
                have u0 := f5.cell 0 _ rfl
                have u1 := f5.cell 1 _ rfl
                have u2 := f5.cell 2 _ rfl
                clear g2 b4 f4 f5 F3 C5 G3 bb
                go_wp2_with fail
                refine ⟨⟨1, rfl, by omega, by omega, G4⟩, ?_⟩
                simp [intOf]
              · obtain ⟨r, hr⟩ := sum_total9 st (CN / 64 * sz (3 + 1)) (sz (3 + 1))
                unfold Su at hr
                obtain ⟨v1, hv1⟩ : ∃ v : Int, ((r.s : Nat) : Int) = v := ⟨_, rfl⟩
                obtain ⟨v2, hv2⟩ : ∃ v : Int, ((r.m : Nat) : Int) = v := ⟨_, rfl⟩
                obtain ⟨v3, hv3⟩ : ∃ v : Int, ((r.e : Nat) : Int) = v := ⟨_, rfl⟩
                have D1 := hide (fun X (hX : Both N O w X tb rb st Q F (some ⟨bl, 0, none⟩) k) => b_sum hX 1 (CN / 64) (by omega) (fit_1 CN HCN.out) r.s r.m r.e hr)
                have D2 := hide (fun X (hX : Both N O w X tb rb st Q F (some ⟨bl, 0, none⟩) k) => b_rsum hX HLL.out 1 (CN / 64) (by omega) (fit_1 CN HCN.out) r.s r.m r.e hr)
                rw [hv1, hv2, hv3, show ((CN / 64 : Nat) : Int) = NI / 64 by have := HNI.out; omega] at D1 D2
                simp only [Int.cast_ofNat_Int] at D1 D2
                clear hr hv1 hv2 hv3
                go_wp2_with fail
                refine (D1.out _ HG3.out.1).mono ?_
                rintro e w1 ⟨rfl, g1⟩
                obtain ⟨w3, hw3⟩ : ∃ w3, w1.alloc (.cells #[.int .i64 v1, .int .i64 v2, .int .i64 v3] 56) = w3 := ⟨_, rfl⟩
                obtain ⟨S, hS⟩ : ∃ S, w1.heap.size = S := ⟨_, rfl⟩
                have b3 : Below w1.heap.size w1 w3 := by rw [← hw3]; exact (Below.refl _ w1).alloc (Nat.le_refl _) _
                have f3 : Bk w3 S 56 #[.int .i64 v1, .int .i64 v2, .int .i64 v3] := by rw [← hw3, ← hS]; exact World.alloc_heap_new w1 _
                have G3 := hide ((HG3.out.trans g1).below b3)
                have C5 := hide (D2.out w3 G3.out.1)
                have F3 := hide f3
                clear g1 b3 f3 D1 D2 HG3 d0 c0
                go_wp2_with fail
                refine C5.out.mono ?_
                rintro e w2 ⟨rfl, g2, bb⟩
                obtain ⟨w4, hw4⟩ : ∃ w4, w2.alloc (.cells #[.int .i64 v1, .int .i64 v2, .int .i64 v3] 56) = w4 := ⟨_, rfl⟩
                have b4 : Below w2.heap.size w2 w4 := by rw [← hw4]; exact (Below.refl _ w2).alloc (Nat.le_refl _) _
                have f4 : Bk w4 w2.heap.size 56 #[.int .i64 v1, .int .i64 v2, .int .i64 v3] := by rw [← hw4]; exact World.alloc_heap_new w2 _
                have f5 := (F3.out.below bb).below b4
                have G4 := hide ((G3.out.trans g2).below b4)
                have y0 := f4.cell 0 _ rfl
                have y1 := f4.cell 1 _ rfl
                have y2 := f4.cell 2 _ rfl
                have u0 := f5.cell 0 _ rfl
                have u1 := f5.cell 1 _ rfl
                have u2 := f5.cell 2 _ rfl
                clear g2 b4 f4 f5 F3 C5 G3 bb
                go_wp2_with fail
                refine ⟨⟨2, rfl, by omega, by omega, G4⟩, ?_⟩
                simp [intOf]
              · obtain ⟨r, hr⟩ := sum_total9 st (CN / 8 * sz (3 + 2)) (sz (3 + 2))
                unfold Su at hr
                obtain ⟨v1, hv1⟩ : ∃ v : Int, ((r.s : Nat) : Int) = v := ⟨_, rfl⟩
                obtain ⟨v2, hv2⟩ : ∃ v : Int, ((r.m : Nat) : Int) = v := ⟨_, rfl⟩
                obtain ⟨v3, hv3⟩ : ∃ v : Int, ((r.e : Nat) : Int) = v := ⟨_, rfl⟩
                have D1 := hide (fun X (hX : Both N O w X tb rb st Q F (some ⟨bl, 0, none⟩) k) => b_sum hX 2 (CN / 8) (by omega) (fit_2 CN HCN.out) r.s r.m r.e hr)
                have D2 := hide (fun X (hX : Both N O w X tb rb st Q F (some ⟨bl, 0, none⟩) k) => b_rsum hX HLL.out 2 (CN / 8) (by omega) (fit_2 CN HCN.out) r.s r.m r.e hr)
                rw [hv1, hv2, hv3, show ((CN / 8 : Nat) : Int) = NI / 8 by have := HNI.out; omega] at D1 D2
                simp only [Int.cast_ofNat_Int] at D1 D2
                clear hr hv1 hv2 hv3
                go_wp2_with fail
                refine (D1.out _ HG3.out.1).mono ?_
                rintro e w1 ⟨rfl, g1⟩
                obtain ⟨w3, hw3⟩ : ∃ w3, w1.alloc (.cells #[.int .i64 v1, .int .i64 v2, .int .i64 v3] 56) = w3 := ⟨_, rfl⟩
                obtain ⟨S, hS⟩ : ∃ S, w1.heap.size = S := ⟨_, rfl⟩
                have b3 : Below w1.heap.size w1 w3 := by rw [← hw3]; exact (Below.refl _ w1).alloc (Nat.le_refl _) _
                have f3 : Bk w3 S 56 #[.int .i64 v1, .int .i64 v2, .int .i64 v3] := by rw [← hw3, ← hS]; exact World.alloc_heap_new w1 _
                have G3 := hide ((HG3.out.trans g1).below b3)
                have C5 := hide (D2.out w3 G3.out.1)
                have F3 := hide f3
                clear g1 b3 f3 D1 D2 HG3 d0 c0
                go_wp2_with fail
                refine C5.out.mono ?_
                rintro e w2 ⟨rfl, g2, bb⟩
                obtain ⟨w4, hw4⟩ : ∃ w4, w2.alloc (.cells #[.int .i64 v1, .int .i64 v2, .int .i64 v3] 56) = w4 := ⟨_, rfl⟩
                have b4 : Below w2.heap.size w2 w4 := by rw [← hw4]; exact (Below.refl _ w2).alloc (Nat.le_refl _) _
                have f4 : Bk w4 w2.heap.size 56 #[.int .i64 v1, .int .i64 v2, .int .i64 v3] := by rw [← hw4]; exact World.alloc_heap_new w2 _
                have f5 := (F3.out.below bb).below b4
                have G4 := hide ((G3.out.trans g2).below b4)
                have y0 := f4.cell 0 _ rfl
                have y1 := f4.cell 1 _ rfl
                have y2 := f4.cell 2 _ rfl
                have u0 := f5.cell 0 _ rfl
                have u1 := f5.cell 1 _ rfl
                have u2 := f5.cell 2 _ rfl
                clear g2 b4 f4 f5 F3 C5 G3 bb
                go_wp2_with fail
                refine ⟨⟨3, rfl, by omega, by omega, G4⟩, ?_⟩
                simp [intOf]
              · obtain ⟨r, hr⟩ := sum_total9 st (CN / 1 * sz (3 + 3)) (sz (3 + 3))
                unfold Su at hr
                obtain ⟨v1, hv1⟩ : ∃ v : Int, ((r.s : Nat) : Int) = v := ⟨_, rfl⟩
                obtain ⟨v2, hv2⟩ : ∃ v : Int, ((r.m : Nat) : Int) = v := ⟨_, rfl⟩
                obtain ⟨v3, hv3⟩ : ∃ v : Int, ((r.e : Nat) : Int) = v := ⟨_, rfl⟩
                have D1 := hide (fun X (hX : Both N O w X tb rb st Q F (some ⟨bl, 0, none⟩) k) => b_sum hX 3 (CN / 1) (by omega) (fit_3 CN HCN.out) r.s r.m r.e hr)
                have D2 := hide (fun X (hX : Both N O w X tb rb st Q F (some ⟨bl, 0, none⟩) k) => b_rsum hX HLL.out 3 (CN / 1) (by omega) (fit_3 CN HCN.out) r.s r.m r.e hr)
                rw [hv1, hv2, hv3, show ((CN / 1 : Nat) : Int) = NI by have := HNI.out; omega] at D1 D2
                simp only [Int.cast_ofNat_Int] at D1 D2
                clear hr hv1 hv2 hv3
                go_wp2_with fail
                refine (D1.out _ HG3.out.1).mono ?_
                rintro e w1 ⟨rfl, g1⟩
                obtain ⟨w3, hw3⟩ : ∃ w3, w1.alloc (.cells #[.int .i64 v1, .int .i64 v2, .int .i64 v3] 56) = w3 := ⟨_, rfl⟩
                obtain ⟨S, hS⟩ : ∃ S, w1.heap.size = S := ⟨_, rfl⟩
                have b3 : Below w1.heap.size w1 w3 := by rw [← hw3]; exact (Below.refl _ w1).alloc (Nat.le_refl _) _
                have f3 : Bk w3 S 56 #[.int .i64 v1, .int .i64 v2, .int .i64 v3] := by rw [← hw3, ← hS]; exact World.alloc_heap_new w1 _
                have G3 := hide ((HG3.out.trans g1).below b3)
                have C5 := hide (D2.out w3 G3.out.1)
                have F3 := hide f3
                clear g1 b3 f3 D1 D2 HG3 d0 c0
                go_wp2_with fail
                refine C5.out.mono ?_
                rintro e w2 ⟨rfl, g2, bb⟩
                obtain ⟨w4, hw4⟩ : ∃ w4, w2.alloc (.cells #[.int .i64 v1, .int .i64 v2, .int .i64 v3] 56) = w4 := ⟨_, rfl⟩
                have b4 : Below w2.heap.size w2 w4 := by rw [← hw4]; exact (Below.refl _ w2).alloc (Nat.le_refl _) _
                have f4 : Bk w4 w2.heap.size 56 #[.int .i64 v1, .int .i64 v2, .int .i64 v3] := by rw [← hw4]; exact World.alloc_heap_new w2 _
                have f5 := (F3.out.below bb).below b4
                have G4 := hide ((G3.out.trans g2).below b4)
                have y0 := f4.cell 0 _ rfl
                have y1 := f4.cell 1 _ rfl
                have y2 := f4.cell 2 _ rfl
                have u0 := f5.cell 0 _ rfl
                have u1 := f5.cell 1 _ rfl
                have u2 := f5.cell 2 _ rfl
                clear g2 b4 f4 f5 F3 C5 G3 bb
                go_wp2_with fail
                refine ⟨⟨4, rfl, by omega, by omega, G4⟩, ?_⟩
                simp [intOf]
              · clear c0 d0 CEL
                go_wp2_with fail
                refine ⟨⟨i + 1, by go_num, by omega, by omega, HG3⟩, ?_⟩
                simp [intOf]; omega
      · have F0 := hide (HR.out _ HG.out)
        have hd : decide (i < (L : Int)) = false := decide_eq_false hi
        clear hi HG HR
        go_wp2_with fail
        first | exact F0.out | (go_ret; exact F0.out)
end Go.Proofs.YtnpimmjkmclkpaaGreatDoor
