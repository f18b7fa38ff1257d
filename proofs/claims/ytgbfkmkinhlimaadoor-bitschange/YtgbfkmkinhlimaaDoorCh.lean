/- BitsChange: its walk. -/
import Derived.Test.YtgbfkmkinhlimaaDoorCa
namespace Go.Proofs.YtgbfkmkinhlimaaDoor
open Go.ChangeShapes Go.WideShapes Go.ChangeAt Go.RowKit Go.Proofs.Bt Go.Shelf
set_option linter.unusedVariables false
set_option linter.unusedSimpArgs false
attribute [local go_sem] eqRow eqWords

theorem RowF.congr2 {w : World} {b : Nat} {f f' : Nat → Bool} (h : RowF w b f) (e : ∀ i, i < 512 → f i = f' i) : RowF w b f' := by
  obtain ⟨g, h1, h2⟩ := h
  exact ⟨g, h1, fun i hi => (h2 i hi).trans (e i hi)⟩
theorem set_put (f : Nat → Bool) (i n j : Nat) : setF f i n j = putF f i n true j := by
  unfold setF putF
  by_cases h : i ≤ j ∧ j < i + n
  · rw [decide_eq_true h, if_pos h, Bool.or_true]
  · rw [decide_eq_false h, if_neg h, Bool.or_false]
theorem clr_put (f : Nat → Bool) (i n j : Nat) : clrF f i n j = putF f i n false j := by
  unfold clrF putF
  by_cases h : i ≤ j ∧ j < i + n
  · rw [decide_eq_true h, if_pos h]; simp
  · rw [decide_eq_false h, if_neg h]; simp
/-- What an act makes of both rows, and what is answered. -/
structure Doing (B Q : Nat) (i n : Int) (E : Int) (F : (Nat → Bool) → Bool → Nat → Bool) : Prop where
  set : ∀ W f, RowF W B f → Calls Tryd.prog 10 #[.pointer (some ⟨B, 0, none⟩), .int .i64 i, .int .i64 n] W fun e w' => e = .returned (.int .i64 E) ∧ RowF w' B (F f true) ∧ Kept (fun x => x = B) W w'
  clr : ∀ W f, RowF W B f → Calls Tryd.prog 12 #[.pointer (some ⟨B, 0, none⟩), .int .i64 i, .int .i64 n] W fun e w' => e = .returned (.int .i64 E) ∧ RowF w' B (F f false) ∧ Kept (fun x => x = B) W w'
  put : ∀ W f x, BoolAt W Q f → Calls Tryd.prog 11 #[.pointer (some ⟨Q, 0, none⟩), .int .i64 i, .int .i64 n, .bool x] W fun e w' => e = .returned (.int .i64 E) ∧ BoolAt w' Q (F f x) ∧ Kept (fun y => y = Q) W w'
theorem doing (B Q : Nat) (i n : Int) (hi : -9223372036854775808 ≤ i) : ∃ E F, Doing B Q i n E F := by
  by_cases hr : Right i n
  · obtain ⟨h1, h2, h3, h4⟩ := hr
    refine ⟨0, fun f x => putF f i.toNat n.toNat x, ?_, ?_, ?_⟩
    · intro W f h
      have := set_any B f W h i.toNat n.toNat (by omega)
      rw [show ((i.toNat : Nat) : Int) = i by omega, show ((n.toNat : Nat) : Int) = n by omega] at this
      exact this.mono fun e w' ⟨a, b, c⟩ => ⟨a, b.congr2 (fun j _ => set_put f _ _ j), c⟩
    · intro W f h
      have := clear_any B f W h i.toNat n.toNat (by omega)
      rw [show ((i.toNat : Nat) : Int) = i by omega, show ((n.toNat : Nat) : Int) = n by omega] at this
      exact this.mono fun e w' ⟨a, b, c⟩ => ⟨a, b.congr2 (fun j _ => clr_put f _ _ j), c⟩
    · intro W f x h
      have := put_core Q f x W h i.toNat n.toNat (by omega)
      rw [show ((i.toNat : Nat) : Int) = i by omega, show ((n.toNat : Nat) : Int) = n by omega] at this
      exact this
  · refine ⟨1, fun f _ => f, ?_, ?_, ?_⟩
    · exact fun W f h => (set_bad B i n hi hr W).mono fun e w' ⟨a, b⟩ => by rw [b]; exact ⟨a, h, Kept.refl _ _⟩
    · exact fun W f h => (clear_bad B i n hi hr W).mono fun e w' ⟨a, b⟩ => by rw [b]; exact ⟨a, h, Kept.refl _ _⟩
    · exact fun W f x h => (put_bad Q x i n hi hr W).mono fun e w' ⟨a, b⟩ => by rw [b]; exact ⟨a, h, Kept.refl _ _⟩
/-- Both counts. -/
theorem counting (B Q : Nat) (i n : Int) (hi : -9223372036854775808 ≤ i) (f : Nat → Bool) : ∃ C : Int,
    (∀ W, RowF W B f → Calls Tryd.prog 13 #[.pointer (some ⟨B, 0, none⟩), .int .i64 i, .int .i64 n] W fun e w' => e = .returned (.int .i64 C) ∧ Below W.heap.size W w') ∧
    (∀ W, BoolAt W Q f → Calls Tryd.prog 14 #[.pointer (some ⟨Q, 0, none⟩), .int .i64 i, .int .i64 n] W fun e w' => e = .returned (.int .i64 C) ∧ w' = W) := by
  by_cases hr : Right i n
  · obtain ⟨h1, h2, h3, h4⟩ := hr
    refine ⟨(cnt f i.toNat n.toNat : Nat), fun W h => count_int B _ W h i n h1 h3 (by omega), fun W h => ?_⟩
    have := countRef_core Q _ W h i.toNat n.toNat (by omega)
    rw [show ((i.toNat : Nat) : Int) = i by omega, show ((n.toNat : Nat) : Int) = n by omega] at this
    exact this
  · exact ⟨0, fun W h => (count_bad B i n hi hr W).mono fun e w' ⟨h1, h2⟩ => ⟨h1, by rw [h2]; exact Below.refl _ _⟩, fun W h => countRef_bad Q i n hi hr W⟩

/-- Both rows of the law, with the same bits. -/
structure CS (N Q : Nat) (w : World) (f : Nat → Bool) (W : World) : Prop where
  be : Below N w W
  ro : RowF W (N + 1) f
  q : BoolAt W Q f
  ta : TabW W
  lq : N + 1 < Q
  n0 : 0 < N
theorem CS.next {N Q : Nat} {w : World} {f : Nat → Bool} {W W' : World} (h : CS N Q w f W) (k : Below W.heap.size W W') : CS N Q w f W' :=
  ⟨h.be.trans (k.mono (by have := h.ro.lt; omega)), h.ro.below k, h.q.below k, h.ta.below k, h.lq, h.n0⟩
/-- Behind an act. -/
theorem CS.two {N Q : Nat} {w : World} {f f' : Nat → Bool} {W W1 W2 : World} (h : CS N Q w f W) (r : RowF W1 (N + 1) f') (k1 : Kept (fun x => x = N + 1) W W1) (q : BoolAt W2 Q f') (k2 : Kept (fun x => x = Q) W1 W2) : CS N Q w f' W2 := by
  have lq := h.lq
  have n0 := h.n0
  have l1 := h.ro.lt
  have b1 := below_kept h.be k1 (fun x hx => by omega) (by omega)
  exact ⟨below_kept b1 k2 (fun x hx => by omega) (by have := k1.size; omega), r.kept k2 (by omega), q, (h.ta.kept k1 (by omega)).kept k2 (by omega), lq, n0⟩
/-- A block of three numbers. -/
def A3 (w : World) (b : Nat) (x y z : Int) : Prop := w.heap[b]? = some (.cells #[.int .i64 x, .int .i64 y, .int .i64 z] 30 (0, 0))
theorem A3.lt {w : World} {b : Nat} {x y z : Int} (h : A3 w b x y z) : b < w.heap.size := (Array.getElem?_eq_some_iff.1 h).1
theorem A3.c0 {w : World} {b : Nat} {x y z : Int} (h : A3 w b x y z) : w.cell? ⟨b, 0, none⟩ = some (.int .i64 x) := by unfold A3 at h; simp [World.cell?, h]
theorem A3.c1 {w : World} {b : Nat} {x y z : Int} (h : A3 w b x y z) : w.cell? ⟨b, 1, none⟩ = some (.int .i64 y) := by unfold A3 at h; simp [World.cell?, h]
theorem A3.c2 {w : World} {b : Nat} {x y z : Int} (h : A3 w b x y z) : w.cell? ⟨b, 2, none⟩ = some (.int .i64 z) := by unfold A3 at h; simp [World.cell?, h]
theorem A3.kept {F : Nat → Prop} {w w' : World} {b : Nat} {x y z : Int} (h : A3 w b x y z) (k : Kept F w w') (hF : ¬ F b) : A3 w' b x y z := kept_at k h hF
theorem A3.below {w w' : World} {b : Nat} {x y z : Int} (h : A3 w b x y z) (k : Below w.heap.size w w') : A3 w' b x y z := (k.block b h.lt).trans h
/-- Words of a row with the same bits are the row's own. -/
theorem words_same {W : World} {b t : Nat} {g gg : Nat → Nat} {f : Nat → Bool} (h : RowAt W b t g) (hf : ∀ i, i < 512 → bitW g i = f i) (hg : ∀ k, gg k < 18446744073709551616) (hgf : ∀ i, i < 512 → bitW gg i = f i) : words gg = words g := by
  have e : ∀ k, k < 8 → gg k = g k := fun k hk => eq_of_bits (hg k) (h.fit k) fun q hq => by rw [← bitW_at gg k q hq, ← bitW_at g k q hq, hgf _ (by omega), hf _ (by omega)]
  unfold words cells8
  rw [e 0 (by omega), e 1 (by omega), e 2 (by omega), e 3 (by omega), e 4 (by omega), e 5 (by omega), e 6 (by omega), e 7 (by omega)]

set_option maxRecDepth 100000 in
set_option maxHeartbeats 1000000 in
theorem change_core (g : Nat → Nat) (hg : ∀ k, g k < 18446744073709551616) (o : Option Addr) (len cap : Nat) (X : Nat → ActV) (w : World) (hA : ActsAt w o len cap X) (hl : len ≤ 200) (ht : TabW w) :
    Calls Tryd.prog 3 #[words g, .slice o len cap] w fun e w' => e = .returned (.bool true) ∧ Below w.heap.size w w' := by
  obtain ⟨N, hN⟩ : ∃ N, w.heap.size = N := ⟨_, rfl⟩
  rw [hN]
  obtain ⟨w2, hw2⟩ : ∃ w2, w2 = (w.alloc (.cells (cells8 g) 23)).alloc (.cells (cells8 g) 25) := ⟨_, rfl⟩
  obtain ⟨s2, q2⟩ := st_start g hg w ht w2 hw2 N hN
  have n2 : RowAt w2 N 23 g := ⟨q2, hg⟩
  have hN0 := ht.lt
  rw [hN] at hN0
  have hl' : (len : Int) ≤ 200 := by omega
  have d200 : decide ((200 : Int) < (len : Int)) = false := decide_eq_false (by omega)
  have d201 : decide (200 < len) = false := decide_eq_false (by omega)
  have S2 := hide s2
  have N2 := hide n2
  have HW := hide hw2
  have HG := hide hg
  have HA := hide hA
  have HN0 := hide hN0
  have HL := hide hl
  clear s2 q2 hg hw2 ht hA hN0 hl
  have x0 := n2.cell 0 (by omega)
  have x1 := n2.cell 1 (by omega)
  have x2 := n2.cell 2 (by omega)
  have x3 := n2.cell 3 (by omega)
  have x4 := n2.cell 4 (by omega)
  have x5 := n2.cell 5 (by omega)
  have x6 := n2.cell 6 (by omega)
  have x7 := n2.cell 7 (by omega)
  clear n2
  unfold words cells8
  go_enter Tryd.func3, Tryd.ntmps3
  go_wp2_with fail
  have hw := HW.out
  unfold cells8 at hw
  rw [← hw]
  clear hw HW
  refine (show Calls Tryd.prog 9 #[words g] w2 _ from of_any g HG.out w2).mono ?_
  rintro r w3 ⟨rfl, b3⟩
  have S3 := S2.out.next b3
  obtain ⟨th, qb, be⟩ := ref_box w3 (bitW g)
  have S4 := S3.next be
  obtain ⟨Q, hQ⟩ : ∃ Q, w3.heap.size = Q := ⟨_, rfl⟩
  have hlq : N + 1 < Q := by rw [← hQ]; exact S3.ro.lt
  have C4 := hide (⟨S4.be, S4.ro, qb, S4.ta, by rw [hQ]; exact hlq, HN0.out⟩ : CS N w3.heap.size w (bitW g) _)
  rw [hQ] at th C4
  have TH := hide th
  have zr := zs_run
  have zz := zs_size
  have zn := zs_ne
  have bl := bools_len (bitW g)
  clear b3 th qb be S2 S3 S4 N2 x0 x1 x2 x3 x4 x5 x6 x7
  simp only []
  go_step
  go_step
  go_step
  go_step
  refine wpList_store_mid rfl 27 (.tmp 6) (.tmp 17) rfl Q 0 (bools (bitW g)).toArray rfl rfl TH.out (by rw [List.size_toArray, bools_len]; exact info27) (bools_one _) ?_
  simp only [Act.put, List.toList_toArray]
  obtain ⟨W4, hW4⟩ : ∃ W4, (w3.alloc (.cells zs512 27)).setCells Q 0 (bools (bitW g)) = W4 := ⟨_, rfl⟩
  rw [hW4] at C4 ⊢
  obtain ⟨V, hV⟩ : ∃ V, V = Value.agg (bools (bitW g)).toArray := ⟨_, rfl⟩
  rw [← hV]
  have HLQ := hide hlq
  clear hW4 hV zr zz zn bl TH hQ hlq
  go_wp2_with fail
  go_loopw [7] (fun v wr => ∃ (i : Nat) (f : Nat → Bool), v = .int .i64 (i : Int) ∧ i ≤ len ∧ Hid (CS N Q w f wr)) (fun v _ => len - (intOf v).toNat)
  case atStart => exact ⟨0, bitW g, rfl, by omega, C4⟩
  case round =>
    obtain ⟨i, f, rfl, hi, HC⟩ := hrel
    by_cases hlt : i < len
    · have hlt' : (i : Int) < (len : Int) := by omega
      obtain ⟨b, off, rfl, hb, hcells⟩ := HA.out.at hlt
      obtain ⟨c0, c1, c2⟩ := hcells i hlt
      have ok := HA.out.ok i
      have cb : ∀ j, wr.cell? ⟨b, j, none⟩ = w.cell? ⟨b, j, none⟩ := fun j => cell_block (HC.out.be.block b (by rw [← hN]; exact hb)) j
      rw [← cb] at c0 c1 c2
      obtain ⟨E, F, hD⟩ := doing (N + 1) Q (X i).i (X i).n ok.b0
      obtain ⟨K, hK⟩ : ∃ K, (X i).what = K := ⟨_, rfl⟩
      obtain ⟨I, hI⟩ : ∃ I, (X i).i = I := ⟨_, rfl⟩
      obtain ⟨M, hM⟩ : ∃ M, (X i).n = M := ⟨_, rfl⟩
      have hCt := fun f' => counting (N + 1) Q (X i).i (X i).n ok.b0 f'
      rw [hI, hM] at hD hCt
      rw [hK] at c0
      rw [hI] at c1
      rw [hM] at c2
      have HD := hide hD
      have HCt := hide hCt
      obtain ⟨A, hAz⟩ : ∃ A, wr.heap.size = A := ⟨_, rfl⟩
      obtain ⟨W5, hW5⟩ : ∃ W5, wr.alloc (.cells #[.int .i64 K, .int .i64 I, .int .i64 M] 30) = W5 := ⟨_, rfl⟩
      have b5 : Below wr.heap.size wr W5 := by rw [← hW5]; exact (Below.refl _ _).alloc (Nat.le_refl _) _
      have a5 : A3 W5 A K I M := by rw [← hW5, ← hAz]; exact World.alloc_heap_new wr _
      have C5 := hide (HC.out.next b5)
      have hAN : N + 1 < A ∧ Q < A := by rw [← hAz]; exact ⟨HC.out.ro.lt, HC.out.q.lt⟩
      have A5 := hide a5
      have HAN := hide hAN
      have HW5 := hide hW5
      clear hcells cb ok hD hCt hK hI hM b5 a5 HC hAN hW5
      have hk : (K == 1) = true ∨ (K == 1) = false := by cases (K == 1) <;> simp
      rcases hk with hk | hk
      · skip
        have z0 := A5.out.c0
        have z1 := A5.out.c1
        have z2 := A5.out.c2
        go_wp2_with (rw [HW5.out])
        have C5d := hide (C5.out.next (drew_below W5))
        have A5d := hide (A5.out.below (drew_below W5))
        go_region_held3 (fun w' => w'.cell? ⟨A, 1, none⟩ = some (.int .i64 I) ∧ w'.cell? ⟨A, 2, none⟩ = some (.int .i64 M)) (go_keep) (first
          | (go_at_call 10; refine (HD.out.set _ f C5d.out.ro).mono ?_; rintro r w6 ⟨rfl, r6, k6⟩; have a6 := A5d.out.kept k6 (by have := HAN.out; omega); have v1 := a6.c1; have v2 := a6.c2; have R6 := hide r6; have K6 := hide k6; have A6 := hide a6; have Q6 := hide (C5d.out.q.kept k6 (by have := HLQ.out; omega)); clear r6 k6 a6)
          | (go_at_call 11; refine (HD.out.put _ f true Q6.out).mono ?_; rintro r w7 ⟨rfl, q7, k7⟩; have a7 := A6.out.kept k7 (by have := HAN.out; omega); have y1 := a7.c1; have y2 := a7.c2; have A7 := hide a7; have C7 := hide (C5d.out.two R6.out K6.out q7 k7); clear q7 k7 a7))
        obtain ⟨Ct, hL, hR⟩ := HCt.out (F f true)
        have CL := hide hL
        have CR := hide hR
        have C7d := hide (C7.out.next (drew_below w7))
        have A7d := hide (A7.out.below (drew_below w7))
        clear hL hR z0 z1 z2 v1 v2 C5 C5d A5 A5d R6 K6 A6 Q6 HW5
        go_wp2_with fail
        go_region_held3 (fun w' => w'.cell? ⟨A, 1, none⟩ = some (.int .i64 I) ∧ w'.cell? ⟨A, 2, none⟩ = some (.int .i64 M)) (go_keep) (first
          | (go_at_call 13; refine (CL.out _ C7d.out.ro).mono ?_; rintro r w8 ⟨rfl, b8⟩; have a8 := A7d.out.below b8; have v1 := a8.c1; have v2 := a8.c2; have C8 := hide (C7d.out.next b8); clear b8 a8)
          | (go_at_call 14; refine (CR.out _ C8.out.q).mono ?_; rintro r w9 ⟨rfl, hw9⟩; rw [hw9]; clear hw9 w9))
        go_wp2_with fail
        refine ⟨⟨i + 1, F f true, by rw [Int.natCast_add]; rfl, by omega, C8⟩, ?_⟩
        simp [intOf]; omega
      · skip
        have z0 := A5.out.c0
        have z1 := A5.out.c1
        have z2 := A5.out.c2
        go_wp2_with (rw [HW5.out])
        have C5d := hide (C5.out.next (drew_below W5))
        have A5d := hide (A5.out.below (drew_below W5))
        go_region_held3 (fun w' => w'.cell? ⟨A, 1, none⟩ = some (.int .i64 I) ∧ w'.cell? ⟨A, 2, none⟩ = some (.int .i64 M)) (go_keep) (first
          | (go_at_call 12; refine (HD.out.clr _ f C5d.out.ro).mono ?_; rintro r w6 ⟨rfl, r6, k6⟩; have a6 := A5d.out.kept k6 (by have := HAN.out; omega); have v1 := a6.c1; have v2 := a6.c2; have R6 := hide r6; have K6 := hide k6; have A6 := hide a6; have Q6 := hide (C5d.out.q.kept k6 (by have := HLQ.out; omega)); clear r6 k6 a6)
          | (go_at_call 11; refine (HD.out.put _ f false Q6.out).mono ?_; rintro r w7 ⟨rfl, q7, k7⟩; have a7 := A6.out.kept k7 (by have := HAN.out; omega); have y1 := a7.c1; have y2 := a7.c2; have A7 := hide a7; have C7 := hide (C5d.out.two R6.out K6.out q7 k7); clear q7 k7 a7))
        obtain ⟨Ct, hL, hR⟩ := HCt.out (F f false)
        have CL := hide hL
        have CR := hide hR
        have C7d := hide (C7.out.next (drew_below w7))
        have A7d := hide (A7.out.below (drew_below w7))
        clear hL hR z0 z1 z2 v1 v2 C5 C5d A5 A5d R6 K6 A6 Q6 HW5
        go_wp2_with fail
        go_region_held3 (fun w' => w'.cell? ⟨A, 1, none⟩ = some (.int .i64 I) ∧ w'.cell? ⟨A, 2, none⟩ = some (.int .i64 M)) (go_keep) (first
          | (go_at_call 13; refine (CL.out _ C7d.out.ro).mono ?_; rintro r w8 ⟨rfl, b8⟩; have a8 := A7d.out.below b8; have v1 := a8.c1; have v2 := a8.c2; have C8 := hide (C7d.out.next b8); clear b8 a8)
          | (go_at_call 14; refine (CR.out _ C8.out.q).mono ?_; rintro r w9 ⟨rfl, hw9⟩; rw [hw9]; clear hw9 w9))
        go_wp2_with fail
        refine ⟨⟨i + 1, F f false, by rw [Int.natCast_add]; rfl, by omega, C8⟩, ?_⟩
        simp [intOf]; omega
    · have hge : (len : Int) ≤ (i : Int) := by omega
      have dn : decide (i < len) = false := decide_eq_false hlt
      have di : decide ((i : Int) < (len : Int)) = false := decide_eq_false (by omega)
      clear hlt HA
      go_wp2_with fail
      go_loopw [11] (fun v wr => ∃ k : Int, v = .int .i64 k ∧ -1 ≤ k ∧ k ≤ 514 ∧ Hid (CS N Q w f wr)) (fun v _ => (514 - intOf v).toNat)
      case atStart => exact ⟨-1, rfl, by omega, by omega, HC⟩
      case round =>
        clear HC
        obtain ⟨k, rfl, k0, k1, HC⟩ := hrel
        by_cases hlt : k < 514
        · by_cases l1 : 0 ≤ k
          · by_cases l2 : k < 512
            · have cq := HC.out.q.cell k.toNat (by omega)
              have cG := get_any (N + 1) f wr HC.out.ro k.toNat (by omega)
              rw [show ((k.toNat : Nat) : Int) = k by omega] at cG
              have CG := hide cG
              clear cG
              go_wp2_with fail
              refine (CG.out).mono ?_
              rintro e w' ⟨rfl, hw'⟩; rw [hw']; clear hw' w'
              go_wp2_with fail
              refine ⟨⟨k + 1, rfl, by omega, by omega, HC⟩, ?_⟩
              simp [intOf]; omega
            · have CG := hide (get_out (N + 1) wr k (by omega))
              have l3 : decide (k < 512) = false := decide_eq_false l2
              clear l2
              go_wp2_with fail
              refine (CG.out).mono ?_
              rintro e w' ⟨rfl, hw'⟩; rw [hw']; clear hw' w'
              go_wp2_with fail
              refine ⟨⟨k + 1, rfl, by omega, by omega, HC⟩, ?_⟩
              simp [intOf]; omega
          · have CG := hide (get_out (N + 1) wr k (by omega))
            have l3 : decide (0 ≤ k) = false := decide_eq_false l1
            clear l1
            go_wp2_with fail
            refine (CG.out).mono ?_
            rintro e w' ⟨rfl, hw'⟩; rw [hw']; clear hw' w'
            go_wp2_with fail
            refine ⟨⟨k + 1, rfl, by omega, by omega, HC⟩, ?_⟩
            simp [intOf]; omega
        · have hge2 : 514 ≤ k := by omega
          clear hlt
          obtain ⟨gr, hra, hrf⟩ := HC.out.ro
          have x0 := hra.cell 0 (by omega)
          have x1 := hra.cell 1 (by omega)
          have x2 := hra.cell 2 (by omega)
          have x3 := hra.cell 3 (by omega)
          have x4 := hra.cell 4 (by omega)
          have x5 := hra.cell 5 (by omega)
          have x6 := hra.cell 6 (by omega)
          have x7 := hra.cell 7 (by omega)
          have Cd := hide (HC.out.next (drew_below wr))
          have hra2 := hra.below (drew_below wr)
          have HRA := hide hra2
          have HRF := hide hrf
          clear hra hrf hra2
          go_wp2_with fail
          go_region_held3 (fun w' => w'.cell? ⟨N + 1, 0, none⟩ = some (.int .u64 ((gr 0 : Nat) : Int)) ∧ w'.cell? ⟨N + 1, 1, none⟩ = some (.int .u64 ((gr 1 : Nat) : Int)) ∧ w'.cell? ⟨N + 1, 2, none⟩ = some (.int .u64 ((gr 2 : Nat) : Int)) ∧ w'.cell? ⟨N + 1, 3, none⟩ = some (.int .u64 ((gr 3 : Nat) : Int)) ∧ w'.cell? ⟨N + 1, 4, none⟩ = some (.int .u64 ((gr 4 : Nat) : Int)) ∧ w'.cell? ⟨N + 1, 5, none⟩ = some (.int .u64 ((gr 5 : Nat) : Int)) ∧ w'.cell? ⟨N + 1, 6, none⟩ = some (.int .u64 ((gr 6 : Nat) : Int)) ∧ w'.cell? ⟨N + 1, 7, none⟩ = some (.int .u64 ((gr 7 : Nat) : Int))) (go_keep) (first
            | (go_at_call 16; refine (words_any Q f _ Cd.out.q).mono ?_; rintro r w8 ⟨gg, rfl, hgg, hgf, b8⟩; rw [words_same HRA.out HRF.out hgg hgf]; unfold words cells8; have C8 := hide (Cd.out.next b8); have ra8 := HRA.out.below b8; have v0 := ra8.cell 0 (by omega); have v1 := ra8.cell 1 (by omega); have v2 := ra8.cell 2 (by omega); have v3 := ra8.cell 3 (by omega); have v4 := ra8.cell 4 (by omega); have v5 := ra8.cell 5 (by omega); have v6 := ra8.cell 6 (by omega); have v7 := ra8.cell 7 (by omega); have RA8 := hide ra8; clear b8 hgg hgf ra8)
            | (go_at_call 17; refine (awake_any _ C8.out.ta).mono ?_; rintro r w9 ⟨rfl, b9⟩; have C9 := hide (C8.out.next b9); have ra9 := RA8.out.below b9; have u0 := ra9.cell 0 (by omega); have u1 := ra9.cell 1 (by omega); have u2 := ra9.cell 2 (by omega); have u3 := ra9.cell 3 (by omega); have u4 := ra9.cell 4 (by omega); have u5 := ra9.cell 5 (by omega); have u6 := ra9.cell 6 (by omega); have u7 := ra9.cell 7 (by omega); clear b9 ra9))
          go_wp2_with fail
          go_ret
          exact ⟨rfl, C9.out.be⟩
theorem change_out (g : Nat → Nat) (o : Option Addr) (len cap : Nat) (w : World) (hl : 200 < len) (h : len ≤ maxLen) :
    Calls Tryd.prog 3 #[words g, .slice o len cap] w fun e w' => e = .returned (.bool true) ∧ Below w.heap.size w w' := by
  have hl' : (200 : Int) < (len : Int) := by omega
  clear hl
  unfold words cells8
  go_enter Tryd.func3, Tryd.ntmps3
  go_wp2_with fail
  go_ret
  exact ⟨rfl, (Below.refl _ w).alloc (Nat.le_refl _) _⟩
theorem change_any (g : Nat → Nat) (hg : ∀ k, g k < 18446744073709551616) (o : Option Addr) (len cap : Nat) (w : World) (h : len ≤ maxLen ∧ len ≤ cap ∧ ∃ X, ActsAt w o len cap X) (ht : TabW w) :
    Calls Tryd.prog 3 #[words g, .slice o len cap] w fun e w' => e = .returned (.bool true) ∧ Below w.heap.size w w' := by
  obtain ⟨h1, _, X, hX⟩ := h
  by_cases hl : len ≤ 200
  · exact change_core g hg o len cap X w hX hl ht
  · exact change_out g o len cap w (by omega) h1
end Go.Proofs.YtgbfkmkinhlimaaDoor
