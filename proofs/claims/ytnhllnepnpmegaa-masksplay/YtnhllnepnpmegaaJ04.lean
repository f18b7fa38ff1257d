/- J04 of the proof of both laws: texts Fm, Fn, Fo, one behind the other. -/
import Derived.Test.YtnhllnepnpmegaaJ03
import Derived.Laws.MakeOwn
import Derived.LoopNIn
import Derived.LoopIn
/- The forms of package masks: how they lie; mask's has, ahead: contracts. -/
namespace Go.Proofs.Ytnhllnepnpmegaa
open Go.ChangeShapes Go.WideShapes Go.ChangeAt Go.RowKit Go.Shelf Go.Proofs.Rx Go.Maps Go.Proofs.Bt
set_option linter.unusedVariables false
set_option linter.unusedSimpArgs false

attribute [local go_sem] Oper.semAt_some

/-- A block of L cells of one type. -/
structure Vec (W : World) (U L t : Nat) (f : Nat → Value) : Prop where
  ex : ∃ vs, Bk W U t vs ∧ vs.size = L ∧ ∀ k, k < L → vs[k]? = some (f k)
section
variable {W W' : World} {U L t : Nat} {f f' : Nat → Value}
theorem Vec.cell (h : Vec W U L t f) (k : Nat) (hk : k < L) : W.cell? ⟨U, k, none⟩ = some (f k) := by
  obtain ⟨vs, b, s, c⟩ := h.ex
  exact b.cell k _ (c k hk)
theorem Vec.fz (h : Vec W U L t f) (k : Nat) : W.frozen? ⟨U, k, none⟩ = false := by
  obtain ⟨vs, b, s, c⟩ := h.ex
  exact b.fz k
theorem Vec.lt (h : Vec W U L t f) : U < W.heap.size := by
  obtain ⟨vs, b, s, c⟩ := h.ex
  exact b.lt
theorem Vec.kept {F : Nat → Prop} (h : Vec W U L t f) (k : Kept F W W') (hF : ¬ F U) : Vec W' U L t f := by
  obtain ⟨vs, b, s, c⟩ := h.ex
  exact ⟨vs, b.kept k hF, s, c⟩
theorem Vec.below (h : Vec W U L t f) (k : Below W.heap.size W W') : Vec W' U L t f := by
  obtain ⟨vs, b, s, c⟩ := h.ex
  exact ⟨vs, b.below k, s, c⟩
theorem Vec.congr (h : Vec W U L t f) (e : ∀ k, k < L → f k = f' k) : Vec W U L t f' := by
  obtain ⟨vs, b, s, c⟩ := h.ex
  exact ⟨vs, b, s, fun k hk => by rw [c k hk, e k hk]⟩
theorem Vec.set (h : Vec W U L t f) (k : Nat) (hk : k < L) (v : Value) : Vec (W.setCell ⟨U, k, none⟩ v) U L t (fun j => if j = k then v else f j) := by
  obtain ⟨vs, b, s, c⟩ := h.ex
  refine ⟨_, b.set k v, by simpa using s, fun j hj => ?_⟩
  by_cases e : j = k
  · subst e
    rw [if_pos rfl, Array.getElem?_setIfInBounds_self_of_lt (by omega)]
  · rw [if_neg e, Array.getElem?_setIfInBounds_ne (fun u => e u.symm)]
    exact c j hj
end
def zi : Value → Int
  | .int _ n => n
  | _ => 0
theorem infoW : (Try.prog.info? 31).map (fun i => (i.zero, i.size, i.bytes)) = some (some (.int .u64 0), 1, 8) := by kernel_rfl
theorem infoB : (Try.prog.info? 4).map (fun i => (i.zero, i.size, i.bytes)) = some (some (.bool false), 1, 1) := by kernel_rfl
/-- A row is made. -/
theorem make_words (W : World) (L : Nat) (hL : L ≤ 1000000) : ∃ W', (Instr.makeSlice 48 (.int .i64 (L : Nat)) (.int .i64 (L : Nat))).run Try.prog W = .ok (.slice (some ⟨W.heap.size, 0, none⟩) L L) W' ∧ Vec W' W.heap.size L 31 (fun _ => .int .u64 0) ∧ Below W.heap.size W W' ∧ W'.heap.size = W.heap.size + 1 := by
  obtain ⟨i0, hi0, hz0, hz1, hz2⟩ := info_parts infoW
  have hr := run_make (P := Try.prog) W 48 31 i0 _ Try.underlying48 hi0 hz0 .i64 .i64 (L : Nat) (L : Nat) (by omega) (by omega) (by rw [hz2]; omega) (by omega)
  rw [Int.toNat_natCast, hz1, Nat.mul_one] at hr
  refine ⟨_, hr, ⟨_, World.alloc_heap_new W _, ?_, fun k hk => ?_⟩, below_alloc W _, by simp⟩
  · simp [madeCells, Value.cells]
  · simp [madeCells, Value.cells, hk, Nat.mod_one]
theorem make_bools (W : World) (L : Nat) (hL : L ≤ 1000000) : ∃ W', (Instr.makeSlice 32 (.int .i64 (L : Nat)) (.int .i64 (L : Nat))).run Try.prog W = .ok (.slice (some ⟨W.heap.size, 0, none⟩) L L) W' ∧ Vec W' W.heap.size L 4 (fun _ => .bool false) ∧ Below W.heap.size W W' ∧ W'.heap.size = W.heap.size + 1 := by
  obtain ⟨i0, hi0, hz0, hz1, hz2⟩ := info_parts infoB
  have hr := run_make (P := Try.prog) W 32 4 i0 _ Try.underlying32 hi0 hz0 .i64 .i64 (L : Nat) (L : Nat) (by omega) (by omega) (by rw [hz2]; omega) (by omega)
  rw [Int.toNat_natCast, hz1, Nat.mul_one] at hr
  refine ⟨_, hr, ⟨_, World.alloc_heap_new W _, ?_, fun k hk => ?_⟩, below_alloc W _, by simp⟩
  · simp [madeCells, Value.cells]
  · simp [madeCells, Value.cells, hk, Nat.mod_one]
/-- Bits by strips. -/
def strips (f : Nat → Bool) (k : Nat) : Value := .int .u64 (wd (fun i => f (64 * k + i)) 64 : Nat)
theorem bit_val (N r : Nat) (h : N < 18446744073709551616) : (bits .and .u64 ((N : Int) / 2 ^ r) 1 == 1) = N.testBit r := by
  have e : ((N : Int) / 2 ^ r) = ((N / 2 ^ r : Nat) : Int) := by simp
  rw [e, show (1 : Int) = ((1 : Nat) : Int) from rfl, w_and _ _ (Nat.lt_of_le_of_lt (Nat.div_le_self _ _) h) (by decide), Nat.testBit_eq_decide_div_mod_eq, Nat.and_one_is_mod]
  rw [Bool.eq_iff_iff]
  simp only [beq_iff_eq, decide_eq_true_eq]
  omega
set_option maxRecDepth 100000 in
theorem has_any {W : World} {b sb L : Nat} {mb : Nat → Bool} (c : W.cell? ⟨b, 3, none⟩ = some (.slice (some ⟨sb, 0, none⟩) L L)) (v : Vec W sb L 31 (strips mb)) (hL : L ≤ 1024) (i : Nat) (hi : i / 64 < L) :
    Calls Try.prog 71 #[.pointer (some ⟨b, 1, none⟩), .int .u64 (i : Nat)] W fun e W' => e = .returned (.bool (mb i)) ∧ ∃ j, W' = W.drewN j := by
  obtain ⟨q, hq⟩ : ∃ q : Nat, i / 64 = q := ⟨_, rfl⟩
  obtain ⟨r, hr⟩ : ∃ r : Nat, i % 64 = r := ⟨_, rfl⟩
  have t3 : (i : Int) / 64 = (q : Int) := by omega
  have t4 : (i : Int) % 64 = (r : Int) := by omega
  have x1 := v.cell q (by omega)
  have lt := wd_lt (fun i => mb (64 * q + i)) (Nat.le_refl 64)
  have hb := bit_val (wd (fun i => mb (64 * q + i)) 64) r lt
  rw [wd_bit, decide_eq_true (show r < 64 by omega), Bool.true_and, show 64 * q + r = i by omega] at hb
  unfold strips at x1
  generalize wd (fun i => mb (64 * q + i)) 64 = N at *
  have q2 : q < L := by omega
  have q1 : (q : Int) < (L : Int) := by omega
  have q0 : (0 : Int) ≤ (q : Int) := by omega
  have r64 : r < 64 := by omega
  have n1 : (N : Int) < 18446744073709551616 := by omega
  have n0 : (0 : Int) ≤ (N : Int) := by omega
  obtain ⟨I, hI⟩ : ∃ I : Int, (i : Int) = I := ⟨_, rfl⟩
  have i0 : 0 ≤ I := by omega
  have i1 : I < 1048576 := by omega
  rw [hI] at t3 t4 ⊢
  generalize mb i = B at hb ⊢
  clear hI hq hr hi v lt
  go_enter Try.func71, Try.ntmps71
  go_wp2_with fail
  go_ret
  exact ⟨rfl, 0, rfl⟩
set_option maxRecDepth 100000 in
set_option maxHeartbeats 1000000 in
theorem mahead_any {W : World} {b sb L : Nat} {mb : Nat → Bool} (c : W.cell? ⟨b, 3, none⟩ = some (.slice (some ⟨sb, 0, none⟩) L L)) (v : Vec W sb L 31 (strips mb)) (hL : L ≤ 1024) (i : Nat) (hi : i ≤ 64 * L) :
    Calls Try.prog 72 #[.pointer (some ⟨b, 1, none⟩), .int .u64 (i : Nat)] W fun e W' => e = .returned (.int .u64 (cnt mb 0 i : Nat)) ∧ ∃ j, W' = W.drewN j := by
  obtain ⟨R, hR⟩ : ∃ R : Ending → World → Prop, R = fun e W' => e = .returned (.int .u64 (cnt mb 0 i : Nat)) ∧ ∃ j, W' = W.drewN j := ⟨_, rfl⟩
  rw [← hR]
  have FIN := hide (show ∀ (k : Nat) j, i ≤ 64 * k → R (.returned (.int .u64 (cnt mb 0 (min (64 * k) i) : Nat))) (W.drewN j) from fun k j h => by rw [hR, show min (64 * k) i = i by omega]; exact ⟨rfl, j, rfl⟩)
  clear hR
  have V := hide v
  have CW := hide (show ∀ (k : Nat) (hk : k < 1100) (w : World), Calls Try.prog 38 #[.int .u64 ((64 * k : Nat) : Int), .int .u64 0, .int .u64 (i : Nat)] w fun e w' => e = .returned (.int .u64 (prt k 0 i : Nat)) ∧ w' = w from fun k hk w => within_any k 0 i (by omega) (by omega) (by omega) w)
  have CO := hide (fun (x : Nat) (hx : x < 18446744073709551616) (w : World) => ones_any x hx w)
  have STEP := hide (show ∀ k, 64 * k < i → cnt mb 0 (min (64 * k) i) + pc (wd (fun j => mb (64 * k + j)) 64 &&& prt k 0 i) = cnt mb 0 (min (64 * (k + 1)) i) from fun k hk => by
    rw [strip_cnt, show max (64 * k) 0 = 64 * k by omega, show min (64 * k) i = 64 * k by omega]
    rw [show cnt mb (64 * k) (min (64 * k + 64) i - 64 * k) = cnt mb (0 + 64 * k) (min (64 * k + 64) i - 64 * k) by rw [Nat.zero_add], ← cnt_add]
    congr 1; omega)
  have LE := hide (show ∀ k, cnt mb 0 (min (64 * k) i) ≤ 65536 from fun k => by have := cnt_le mb 0 (min (64 * k) i); omega)
  obtain ⟨I, hI⟩ : ∃ I : Int, (i : Int) = I := ⟨_, rfl⟩
  have HI := hide hI
  have i0 : 0 ≤ I := by omega
  have i1 : I ≤ 65536 := by omega
  rw [hI]
  simp only [hI] at CW
  clear hI v
  go_enter Try.func72, Try.ntmps72
  go_wp2_with fail
  go_loopw [5, 6] (fun vn va wr => ∃ k : Nat, va = .int .u64 ((64 * k : Nat) : Int) ∧ vn = .int .i64 (cnt mb 0 (min (64 * k) i) : Nat) ∧ 64 * k < i + 64 ∧ Hid (∃ j, wr = W.drewN j)) (fun vn va _ => i + 64 - (zi va).toNat)
  case atStart => exact ⟨0, rfl, by simp [cnt], by omega, hide ⟨0, rfl⟩⟩
  case round =>
    obtain ⟨k, rfl, rfl, hk, HJ⟩ := hrel
    obtain ⟨j, hj⟩ := HJ.out
    by_cases hlt : 64 * k < i
    · have d : decide (((64 * k : Nat) : Int) < I) = true := decide_eq_true (by have := HI.out; omega)
      have x1 := (V.out.below (drewN_below W j)).cell k (by omega)
      rw [← hj] at x1
      have c1 := (drewN_below W j).cell (p := ⟨b, 3, none⟩) (World.block_lt_of_cell? W ⟨b, 3, none⟩ c)
      rw [← hj, c] at c1
      unfold strips at x1
      have lt := wd_lt (fun i => mb (64 * k + i)) (Nat.le_refl 64)
      have ST := STEP.out k hlt
      have l1 := LE.out k
      have l2 := LE.out (k + 1)
      have hb := w_and (wd (fun i => mb (64 * k + i)) 64) (prt k 0 i) lt (prt_lt _ _ _)
      have CO1 := hide (fun w => CO.out (wd (fun i => mb (64 * k + i)) 64 &&& prt k 0 i) (and_lt _ lt) w)
      have CW1 := hide (CW.out k (by omega))
      generalize wd (fun i => mb (64 * k + i)) 64 = N at *
      generalize prt k 0 i = PR at *
      generalize pc (N &&& PR) = D at *
      obtain ⟨Z, hZ⟩ : ∃ Z : Int, ((N &&& PR : Nat) : Int) = Z := ⟨_, rfl⟩
      rw [hZ] at hb CO1
      obtain ⟨C, hC⟩ : ∃ C : Int, ((cnt mb 0 (min (64 * k) i) : Nat) : Int) = C := ⟨_, rfl⟩
      obtain ⟨C', hC'⟩ : ∃ C : Int, ((cnt mb 0 (min (64 * (k + 1)) i) : Nat) : Int) = C := ⟨_, rfl⟩
      obtain ⟨D', hD⟩ : ∃ C : Int, (D : Int) = C := ⟨_, rfl⟩
      rw [hD] at CO1
      obtain ⟨AT, hA⟩ : ∃ C : Int, ((64 * k : Nat) : Int) = C := ⟨_, rfl⟩
      rw [hA] at d CW1 ⊢
      rw [hC]
      have q1 : AT / 64 = (k : Int) := by omega
      have q2 : 0 ≤ AT := by omega
      have q3 : AT ≤ 65536 := by omega
      have s0 : 0 ≤ C := by omega
      have s1 : C ≤ 65536 := by omega
      have s2 : 0 ≤ D' := by omega
      have s3 : D' ≤ 65536 := by omega
      have HC := hide (show C + D' = C' by omega)
      have HJ2 := hide hj
      have HC' := hide hC'
      have HA := hide hA
      have kL : k < L := by omega
      have n0 : (0 : Int) ≤ (N : Int) := by omega
      have n1 : (N : Int) < 18446744073709551616 := by omega
      clear hC hC' hD hA hZ ST l1 l2 lt hj
      go_wp2_with fail
      go_quiet (first
        | (go_at_call 38; refine Calls.quiet_of_same (CW1.out _))
        | (go_at_call 73; refine Calls.quiet_of_same (CO1.out _)))
      go_wp2_with fail
      refine ⟨⟨k + 1, ?_, ?_, by omega, hide ⟨j + nq, by rw [HJ2.out, World.drewN_drewN]⟩⟩, ?_⟩
      · rw [show 64 * (k + 1) = 64 * k + 64 by omega, Int.natCast_add, HA.out]; rfl
      · rw [HC'.out, HC.out]
      · have := HA.out; simp [zi]; omega
    · have d : decide (((64 * k : Nat) : Int) < I) = false := decide_eq_false (by have := HI.out; omega)
      have F := FIN.out k j (by omega)
      rw [← hj] at F
      have HF := hide F
      have l1 := LE.out k
      obtain ⟨C, hC⟩ : ∃ C : Int, ((cnt mb 0 (min (64 * k) i) : Nat) : Int) = C := ⟨_, rfl⟩
      rw [hC] at HF ⊢
      have s0 : 0 ≤ C := by omega
      have s1 : C ≤ 65536 := by omega
      have cv : IntKind.u64.wrap C = C := by rw [IntKind.wrap_u64]; omega
      obtain ⟨AT, hA⟩ : ∃ C : Int, ((64 * k : Nat) : Int) = C := ⟨_, rfl⟩
      rw [hA] at d ⊢
      clear F hC l1 hj hA
      go_wp2_with fail
      first | exact HF.out | (go_ret; exact HF.out)
end Go.Proofs.Ytnhllnepnpmegaa

/- The forms of package masks: things: contracts. -/
namespace Go.Proofs.Ytnhllnepnpmegaa
open Go.ChangeShapes Go.WideShapes Go.ChangeAt Go.RowKit Go.Shelf Go.Proofs.Rx Go.Maps Go.Proofs.Bt
set_option linter.unusedVariables false
set_option linter.unusedSimpArgs false

attribute [local go_sem] Oper.semAt_some

/-- Things at block b, their mask's strips at block sb. -/
structure ThAt (W : World) (b sb fi wds n : Nat) (mb : Nat → Bool) : Prop where
  bk : Bk W b 76 #[.int .u64 (fi : Nat), .int .u64 (wds : Nat), .int .u64 (cnt mb 0 wds : Nat), .slice (some ⟨sb, 0, none⟩) ((wds + 63) / 64) ((wds + 63) / 64), .int .u64 (n : Nat)]
  row : Vec W sb ((wds + 63) / 64) 31 (strips mb)
  w1 : 1 ≤ wds
  w2 : wds ≤ 65536
  lim : fi + n * wds ≤ 35184372088832
section
variable {W W' : World} {b sb fi wds n : Nat} {mb : Nat → Bool}
theorem ThAt.kept {F : Nat → Prop} (h : ThAt W b sb fi wds n mb) (k : Kept F W W') (h1 : ¬ F b) (h2 : ¬ F sb) : ThAt W' b sb fi wds n mb := ⟨h.bk.kept k h1, h.row.kept k h2, h.w1, h.w2, h.lim⟩
theorem ThAt.below (h : ThAt W b sb fi wds n mb) (k : Below W.heap.size W W') : ThAt W' b sb fi wds n mb := ⟨h.bk.below k, h.row.below k, h.w1, h.w2, h.lim⟩
theorem end_any (h : ThAt W b sb fi wds n mb) : Calls Try.prog 68 #[.pointer (some ⟨b, 0, none⟩)] W fun e W' => e = .returned (.int .u64 ((fi + n * wds : Nat) : Int)) ∧ ∃ j, W' = W.drewN j := by
  have c0 : W.cell? ⟨b, 0, none⟩ = some (.int .u64 (fi : Nat)) := h.bk.cell 0 _ rfl
  have c1 : W.cell? ⟨b, 1, none⟩ = some (.int .u64 (wds : Nat)) := h.bk.cell 1 _ rfl
  have c4 : W.cell? ⟨b, 4, none⟩ = some (.int .u64 (n : Nat)) := h.bk.cell 4 _ rfl
  have lim := h.lim
  have e : ((fi + n * wds : Nat) : Int) = (fi : Int) + (n : Int) * (wds : Int) := by rw [Int.natCast_add, Int.natCast_mul]
  have p : ((n * wds : Nat) : Int) = (n : Int) * (wds : Int) := by rw [Int.natCast_mul]
  rw [e]
  obtain ⟨FI, hFI⟩ : ∃ X : Int, (fi : Int) = X := ⟨_, rfl⟩
  obtain ⟨WD, hWD⟩ : ∃ X : Int, (wds : Int) = X := ⟨_, rfl⟩
  obtain ⟨N, hN⟩ : ∃ X : Int, (n : Int) = X := ⟨_, rfl⟩
  rw [hFI] at c0 ⊢
  rw [hWD] at c1 p ⊢
  rw [hN] at c4 p ⊢
  have m0 : 0 ≤ N * WD := by omega
  have m1 : N * WD < 18446744073709551616 := by omega
  have m2 : 0 ≤ FI + N * WD := by omega
  have m3 : FI + N * WD < 18446744073709551616 := by omega
  clear hFI hWD hN e p lim h
  go_enter Try.func68, Try.ntmps68
  go_wp2_with fail
  go_quiet (fail)
  go_wp2_with fail
  go_ret
  exact ⟨rfl, _, rfl⟩
set_option maxRecDepth 100000 in
theorem thahead_any (h : ThAt W b sb fi wds n mb) (x : Nat) (hx : x ≤ 70368744177664) : Calls Try.prog 70 #[.pointer (some ⟨b, 0, none⟩), .int .u64 (x : Nat)] W fun e W' => e = .returned (.int .u64 (cto (thF fi wds n mb) x : Nat)) ∧ ∃ j, W' = W.drewN j := by
  have w1 := h.w1
  have w2 := h.w2
  have lim := h.lim
  have c0 : W.cell? ⟨b, 0, none⟩ = some (.int .u64 (fi : Nat)) := h.bk.cell 0 _ rfl
  have c1 : W.cell? ⟨b, 1, none⟩ = some (.int .u64 (wds : Nat)) := h.bk.cell 1 _ rfl
  have c2 : W.cell? ⟨b, 2, none⟩ = some (.int .u64 (cnt mb 0 wds : Nat)) := h.bk.cell 2 _ rfl
  obtain ⟨m, hm⟩ : ∃ m, m = min (max x fi) (fi + n * wds) - fi := ⟨_, rfl⟩
  have hv := th_cto fi wds n mb (by omega) x m hm
  have hle := cto_le (thF fi wds n mb) x
  have CE := fun j => end_any (h.below (drewN_below W j))
  have hmod : m % wds < wds := Nat.mod_lt _ (by omega)
  have CM := fun (W1 : World) (h1 : ThAt W1 b sb fi wds n mb) => mahead_any (W := W1) (b := b) (sb := sb) (L := (wds + 63) / 64) (mb := mb) (h1.bk.cell 3 _ rfl) h1.row (by omega) (m % wds) (by omega)
  have TH := hide (fun (W1 : World) (h1 : ThAt W1 b sb fi wds n mb) => And.intro (show W1.cell? ⟨b, 1, none⟩ = some (.int .u64 (wds : Nat)) from h1.bk.cell 1 _ rfl) (show W1.cell? ⟨b, 2, none⟩ = some (.int .u64 (cnt mb 0 wds : Nat)) from h1.bk.cell 2 _ rfl))
  have HH := hide h
  rw [hv] at hle ⊢
  rw [Int.natCast_add, Int.natCast_mul, Int.natCast_ediv]
  have hq : ((m / wds : Nat) : Int) = (m : Int) / (wds : Int) := Int.natCast_ediv _ _
  have hr : ((m % wds : Nat) : Int) = (m : Int) % (wds : Int) := Int.natCast_emod _ _
  have hcast : ((m / wds * cnt mb 0 wds + cnt mb 0 (m % wds) : Nat) : Int) = (m : Int) / (wds : Int) * ((cnt mb 0 wds : Nat) : Int) + ((cnt mb 0 (m % wds) : Nat) : Int) := by rw [Int.natCast_add, Int.natCast_mul, hq]
  have hp0 : (((m / wds * cnt mb 0 wds) : Nat) : Int) = (m : Int) / (wds : Int) * ((cnt mb 0 wds : Nat) : Int) := by rw [Int.natCast_mul, hq]
  simp only [hr] at CM
  obtain ⟨CV, hCV⟩ : ∃ X : Int, ((cnt mb 0 (m % wds) : Nat) : Int) = X := ⟨_, rfl⟩
  obtain ⟨PT, hPT⟩ : ∃ X : Int, ((cnt mb 0 wds : Nat) : Int) = X := ⟨_, rfl⟩
  obtain ⟨E, hE⟩ : ∃ X : Int, ((fi + n * wds : Nat) : Int) = X := ⟨_, rfl⟩
  obtain ⟨FI, hFI⟩ : ∃ X : Int, (fi : Int) = X := ⟨_, rfl⟩
  obtain ⟨WD, hWD⟩ : ∃ X : Int, (wds : Int) = X := ⟨_, rfl⟩
  obtain ⟨M, hM⟩ : ∃ X : Int, (m : Int) = X := ⟨_, rfl⟩
  obtain ⟨X, hX⟩ : ∃ X : Int, (x : Int) = X := ⟨_, rfl⟩
  have p1 : 0 ≤ (m : Int) / (wds : Int) * ((cnt mb 0 wds : Nat) : Int) := by omega
  have p2 : (m : Int) / (wds : Int) * ((cnt mb 0 wds : Nat) : Int) < 18446744073709551616 := by omega
  have cv0 : 0 ≤ CV := by omega
  have p3 : (m : Int) / (wds : Int) * ((cnt mb 0 wds : Nat) : Int) + CV < 18446744073709551616 := by omega
  have d0 : (WD == 0) = false := by rw [beq_eq_false_iff_ne]; omega
  have d1 : 1 ≤ WD := by omega
  have x0 : 0 ≤ X := by omega
  have x1 : X ≤ 70368744177664 := by omega
  have f0 : 0 ≤ FI := by omega
  have f1 : FI ≤ 35184372088832 := by omega
  have e0 : FI ≤ E := by omega
  have e1 : E ≤ 35184372088832 := by omega
  have m0 : 0 ≤ M := by omega
  have m1 : M ≤ 35184372088832 := by omega
  have d2 : WD ≤ 65536 := by omega
  have dz : (WD = 0) = False := by simp; omega
  have q0 : 0 ≤ M / WD := Int.ediv_nonneg m0 (by omega)
  have q1 : M / WD ≤ M := Int.ediv_le_self _ m0
  have r0 : 0 ≤ M % WD := Int.emod_nonneg _ (by omega)
  have r1 : M % WD < 65536 := by have := Int.emod_lt_of_pos M (show 0 < WD by omega); omega
  have wq : IntKind.u64.wrap (M / WD) = M / WD := by rw [IntKind.wrap_u64]; omega
  have td : M.tdiv WD = M / WD := Int.tdiv_eq_ediv_of_nonneg m0
  have tm : M.tmod WD = M % WD := Int.tmod_eq_emod_of_nonneg m0
  have MV := hide (show (X < FI ∧ M = 0) ∨ (FI ≤ X ∧ X < E ∧ M = X - FI) ∨ (FI ≤ X ∧ E ≤ X ∧ M = E - FI) by omega)
  rw [hFI] at c0
  rw [hWD] at c1 p1 p2 p3
  rw [hPT] at c2 p1 p2 p3
  rw [hM] at p1 p2 p3
  simp only [hE] at CE
  simp only [hCV, hM, hWD] at CM
  simp only [hPT, hWD] at TH
  rw [hX, hM, hWD, hPT, hCV]
  have HCE := hide CE
  have HCM := hide CM
  clear hFI hWD hM hX hE hPT hCV CE CM hp0 hcast hq hr hm hv hle hmod w1 w2 lim h hx
  go_enter Try.func70, Try.ntmps70
  go_wp2_with fail
  go_quiet (first | (go_at_call 68; refine Calls.quiet_of (HCE.out _)))
  have H1 := hide (HH.out.below (drewN_below W nq))
  have NQ := hide (show ∃ j, W.drewN nq = W.drewN j from ⟨nq, rfl⟩)
  generalize W.drewN nq = W1 at *
  obtain ⟨y1, y2⟩ := TH.out W1 H1.out
  have CM := fun j => HCM.out (W1.drewN j) (H1.out.below (drewN_below W1 j))
  clear HCM
  have HCM := hide CM
  clear CM c0 c1 c2 HCE HH H1 TH
  go_wp2_with fail
  · have e : E - FI = M := by have := MV.out; omega
    rw [e]
    clear e MV
    go_wp2_with fail
    go_quiet (first | (go_at_call 72; refine Calls.quiet_of (HCM.out _)))
    go_wp2_with fail
    go_ret
    refine ⟨by first | rfl | simp, ?_⟩
    obtain ⟨j, hj⟩ := NQ.out
    exact ⟨_, by rw [hj, World.drewN_drewN]⟩
  · obtain rfl : M = 0 := by have := MV.out; omega
    have CM := HCM.out
    simp only [Int.zero_emod] at CM
    have HCM := hide CM
    simp only [Int.zero_ediv, Int.zero_mul, Int.zero_add] at p1 p2 p3 ⊢
    clear CM MV p1 p2
    go_wp2_with fail
    go_quiet (first | (go_at_call 72; refine Calls.quiet_of (HCM.out _)))
    go_wp2_with fail
    go_ret
    refine ⟨by first | rfl | simp, ?_⟩
    obtain ⟨j, hj⟩ := NQ.out
    exact ⟨_, by rw [hj, World.drewN_drewN]⟩
  · have e : X - FI = M := by have := MV.out; omega
    rw [e]
    clear e MV
    go_wp2_with fail
    go_quiet (first | (go_at_call 72; refine Calls.quiet_of (HCM.out _)))
    go_wp2_with fail
    go_ret
    refine ⟨by first | rfl | simp, ?_⟩
    obtain ⟨j, hj⟩ := NQ.out
    exact ⟨_, by rw [hj, World.drewN_drewN]⟩
theorem thcount_any (h : ThAt W b sb fi wds n mb) (x y : Nat) (hxy : x ≤ y) (hy : y ≤ 70368744177664) : Calls Try.prog 67 #[.pointer (some ⟨b, 0, none⟩), .int .u64 (x : Nat), .int .u64 (y : Nat)] W fun e W' => e = .returned (.int .u64 (cnt (thF fi wds n mb) x (y - x) : Nat)) ∧ ∃ j, W' = W.drewN j := by
  have C1 := fun j => thahead_any (h.below (drewN_below W j)) x (by omega)
  have C2 := thahead_any h y hy
  have m := cto_mono (thF fi wds n mb) hxy
  have l := cto_le (thF fi wds n mb) y
  rw [cnt_cto _ hxy]
  obtain ⟨A, hA⟩ : ∃ X : Int, ((cto (thF fi wds n mb) x : Nat) : Int) = X := ⟨_, rfl⟩
  obtain ⟨B, hB⟩ : ∃ X : Int, ((cto (thF fi wds n mb) y : Nat) : Int) = X := ⟨_, rfl⟩
  rw [Int.natCast_sub m, hA, hB]
  simp only [hA] at C1
  rw [hB] at C2
  have a0 : 0 ≤ A := by omega
  have a1 : A ≤ B := by omega
  have a2 : B ≤ 70368744177664 := by omega
  have HC1 := hide C1
  have HC2 := hide C2
  clear C1 C2 hA hB m l h hxy hy
  go_enter Try.func67, Try.ntmps67
  go_wp2_with fail
  refine HC2.out.mono ?_
  rintro e W1 ⟨rfl, j, hj⟩
  rw [hj]
  clear hj
  go_wp2_with fail
  refine (HC1.out j).mono ?_
  rintro e W2 ⟨rfl, k, hk⟩
  rw [hk, World.drewN_drewN]
  clear hk
  go_wp2_with fail
  go_ret
  exact ⟨rfl, _, rfl⟩
end
end Go.Proofs.Ytnhllnepnpmegaa

/- The forms of package masks: things' strip: contract. -/
namespace Go.Proofs.Ytnhllnepnpmegaa
open Go.ChangeShapes Go.WideShapes Go.ChangeAt Go.RowKit Go.Shelf Go.Proofs.Rx Go.Maps Go.Proofs.Bt
set_option linter.unusedVariables false
set_option linter.unusedSimpArgs false

attribute [local go_sem] Oper.semAt_some

theorem shl1 (r : Nat) (h : 2 ^ r < 18446744073709551616) : IntKind.u64.wrap ((2 : Int) ^ r) = (2 : Int) ^ r := by
  have e : ((2 : Int) ^ r) = ((2 ^ r : Nat) : Int) := by simp
  rw [IntKind.wrap_u64, e]
  generalize 2 ^ r = x at *
  omega
theorem pow64 {r : Nat} (h : r < 64) : 2 ^ r < 18446744073709551616 := Nat.pow_lt_pow_right (m := r) (n := 64) (by decide) h
section
variable {W W' : World} {b sb fi wds n : Nat} {mb : Nat → Bool}
/-- The strip so far. -/
def sofar (fi wds n : Nat) (mb : Nat → Bool) (S y : Nat) : Nat := wd (fun k => thF fi wds n mb (64 * S + k) && decide (64 * S + k < y)) 64
set_option maxRecDepth 100000 in
set_option maxHeartbeats 1000000 in
theorem thstrip_any (h : ThAt W b sb fi wds n mb) (S : Nat) (hS : S < 549755813888) : Calls Try.prog 69 #[.pointer (some ⟨b, 0, none⟩), .int .u64 ((64 * S : Nat) : Int)] W fun e W' => e = .returned (.int .u64 (wd (fun k => thF fi wds n mb (64 * S + k)) 64 : Nat)) ∧ ∃ j, W' = W.drewN j := by
  obtain ⟨R, hR⟩ : ∃ R : Ending → World → Prop, R = fun e W' => e = .returned (.int .u64 (wd (fun k => thF fi wds n mb (64 * S + k)) 64 : Nat)) ∧ ∃ j, W' = W.drewN j := ⟨_, rfl⟩
  rw [← hR]
  have w1 := h.w1
  have w2 := h.w2
  have lim := h.lim
  obtain ⟨lo, hlo⟩ : ∃ x, x = max (64 * S) fi := ⟨_, rfl⟩
  obtain ⟨hi, hhi⟩ : ∃ x, x = min (64 * S + 64) (fi + n * wds) := ⟨_, rfl⟩
  have FIN := hide (show ∀ y j, hi ≤ y → R (.returned (.int .u64 (sofar fi wds n mb S y : Nat))) (W.drewN j) from fun y j hy => by
    rw [hR]
    refine ⟨?_, j, rfl⟩
    congr 3
    refine wd_congr fun k hk => ?_
    show (thF fi wds n mb (64 * S + k) && decide (64 * S + k < y)) = _
    unfold thF
    by_cases c : 64 * S + k < y
    · rw [decide_eq_true c, Bool.and_true]
    · rw [decide_eq_false c, Bool.and_false]; rw [decide_eq_false (by omega)]; rfl)
  have BEG := hide (show sofar fi wds n mb S lo = 0 from wd_none fun k hk => by
    unfold thF
    by_cases c : 64 * S + k < lo
    · rw [show decide (fi ≤ 64 * S + k ∧ 64 * S + k < fi + n * wds) = false from decide_eq_false (by omega)]; rfl
    · rw [decide_eq_false c, Bool.and_false])
  have NXT := hide (show ∀ y, lo ≤ y → y < hi → sofar fi wds n mb S (y + 1) = if mb ((y - fi) % wds) then sofar fi wds n mb S y ||| 2 ^ (y - 64 * S) else sofar fi wds n mb S y from fun y h1 h2 => by
    have et : thF fi wds n mb y = mb ((y - fi) % wds) := by unfold thF; rw [decide_eq_true (by omega), Bool.true_and]
    split
    · rename_i c
      unfold sofar
      rw [wd_pow _ _ (by omega)]
      refine wd_congr fun k hk => ?_
      by_cases e : k = y - 64 * S
      · rw [decide_eq_true e, Bool.or_true, show 64 * S + k = y by omega, et, c, decide_eq_true (by omega)]; rfl
      · rw [decide_eq_false e, Bool.or_false]
        congr 1
        rw [Bool.eq_iff_iff]; simp; omega
    · rename_i c
      refine wd_congr fun k hk => ?_
      by_cases e : k = y - 64 * S
      · rw [show 64 * S + k = y by omega, et]; simp at c; rw [c]; simp
      · congr 1
        rw [Bool.eq_iff_iff]; simp; omega)
  have LT := hide (show ∀ y, sofar fi wds n mb S y < 18446744073709551616 from fun y => wd_lt _ (Nat.le_refl _))
  have HH := hide h
  have CE := hide (fun j => end_any (h.below (drewN_below W j)))
  have TH := hide (fun (W1 : World) (h1 : ThAt W1 b sb fi wds n mb) => And.intro (show W1.cell? ⟨b, 0, none⟩ = some (.int .u64 (fi : Nat)) from h1.bk.cell 0 _ rfl) (show W1.cell? ⟨b, 1, none⟩ = some (.int .u64 (wds : Nat)) from h1.bk.cell 1 _ rfl))
  have CH := hide (show ∀ (W1 : World) (h1 : ThAt W1 b sb fi wds n mb) (y : Nat) (hy : fi ≤ y) (z : Int), z = (y : Int) → Calls Try.prog 71 #[.pointer (some ⟨b, 1, none⟩), .int .u64 ((z - (fi : Int)) % (wds : Int))] W1 fun e W' => e = .returned (.bool (mb ((y - fi) % wds))) ∧ ∃ j, W' = W1.drewN j from fun W1 h1 y hy z hz => by
    have hmod : (y - fi) % wds < wds := Nat.mod_lt _ (by omega)
    have e : ((z - (fi : Int)) % (wds : Int)) = (((y - fi) % wds : Nat) : Int) := by rw [hz, Int.natCast_emod, Int.natCast_sub hy]
    rw [e]
    exact has_any (h1.bk.cell 3 _ rfl) h1.row (by omega) _ (by omega))
  have c0 : W.cell? ⟨b, 0, none⟩ = some (.int .u64 (fi : Nat)) := h.bk.cell 0 _ rfl
  obtain ⟨E, hE⟩ : ∃ X : Int, ((fi + n * wds : Nat) : Int) = X := ⟨_, rfl⟩
  obtain ⟨FI, hFI⟩ : ∃ X : Int, (fi : Int) = X := ⟨_, rfl⟩
  obtain ⟨WD, hWD⟩ : ∃ X : Int, (wds : Int) = X := ⟨_, rfl⟩
  obtain ⟨X, hX⟩ : ∃ X : Int, ((64 * S : Nat) : Int) = X := ⟨_, rfl⟩
  obtain ⟨LO, hLO⟩ : ∃ X : Int, (lo : Int) = X := ⟨_, rfl⟩
  obtain ⟨HI, hHI⟩ : ∃ X : Int, (hi : Int) = X := ⟨_, rfl⟩
  have d0 : (WD == 0) = false := by rw [beq_eq_false_iff_ne]; omega
  have dz : (WD = 0) = False := by simp; omega
  have d1 : 1 ≤ WD := by omega
  have d2 : WD ≤ 65536 := by omega
  have x0 : 0 ≤ X := by omega
  have x1 : X ≤ 35184372088832 := by omega
  have f0 : 0 ≤ FI := by omega
  have f1 : FI ≤ 35184372088832 := by omega
  have e0 : FI ≤ E := by omega
  have e1 : E ≤ 35184372088832 := by omega
  have MX := hide (show (X < FI ∧ FI = LO) ∨ (FI ≤ X ∧ X = LO) by omega)
  have MN := hide (show (E < X + 64 ∧ E = HI) ∨ (X + 64 ≤ E ∧ X + 64 = HI) by omega)
  have LH := hide (show X ≤ LO ∧ FI ≤ LO ∧ HI ≤ X + 64 ∧ HI ≤ E ∧ LO ≤ 35184372088832 by omega)
  have NN := hide (And.intro hX (And.intro hLO (And.intro hHI hFI)))
  rw [hFI] at c0
  simp only [hE] at CE
  simp only [hFI, hWD] at CH TH
  rw [hX]
  clear hFI hWD hX hE hLO hHI hlo hhi hR h w1 w2 lim hS
  go_enter Try.func69, Try.ntmps69
  go_wp2_with fail
  go_quiet (first | (go_at_call 68; refine Calls.quiet_of (CE.out _)))
  go_wp2_with fail
  all_goals
    clear CE c0
    have mx := MX.out
    have mn := MN.out
    have lh := LH.out
    have nn := NN.out
    first
      | (have v : E = HI := by omega
         rw [v])
      | (have v : X + 64 = HI := by omega
         rw [v])
    have l1 : HI ≤ 35184372088896 := by omega
    have l2 := lh.1
    have l3 := lh.2.1
    have l4 := lh.2.2.1
    clear v mx mn lh
    go_loopw [7, 8] (fun vs vy wr => ∃ y : Nat, vy = .int .u64 (y : Nat) ∧ vs = .int .u64 (sofar fi wds n mb S y : Nat) ∧ lo ≤ y ∧ Hid (∃ j, wr = W.drewN j)) (fun vs vy _ => hi - (zi vy).toNat)
    case atStart => exact ⟨lo, by have mx := MX.out; congr 1; omega, by rw [BEG.out]; rfl, Nat.le_refl _, hide ⟨_, rfl⟩⟩
    case round =>
      obtain ⟨y, rfl, rfl, hy, HJ⟩ := hrel
      obtain ⟨j, hj⟩ := HJ.out
      obtain ⟨Y, hY⟩ : ∃ Y : Int, (y : Int) = Y := ⟨_, rfl⟩
      obtain ⟨v, hv⟩ : ∃ v, sofar fi wds n mb S y = v := ⟨_, rfl⟩
      have vl := LT.out y
      rw [hv] at vl ⊢
      rw [hY]
      have y0 : LO ≤ Y := by omega
      by_cases c : y < hi
      · have d : decide (Y < HI) = true := decide_eq_true (by omega)
        have H1 := hide (show ThAt wr b sb fi wds n mb from by rw [hj]; exact HH.out.below (drewN_below W j))
        obtain ⟨z0, z1⟩ := TH.out wr H1.out
        have C1 := fun i => CH.out (wr.drewN i) (H1.out.below (drewN_below wr i)) y (by omega) Y hY.symm
        have HC1 := hide C1
        have NX := hide (NXT.out y hy c)
        have NL := hide (LT.out (y + 1))
        have y1 : Y < 35184372088896 := by omega
        have t1 : 0 ≤ Y - FI := by omega
        have t2 : 0 ≤ (Y - FI) % WD := Int.emod_nonneg _ (by omega)
        have t3 : (Y - FI) % WD < 65536 := by have := Int.emod_lt_of_pos (Y - FI) (show 0 < WD by omega); omega
        have t4 : (Y - FI).tmod WD = (Y - FI) % WD := Int.tmod_eq_emod_of_nonneg t1
        have HY := hide hY
        have HV := hide hv
        have HJ2 := hide hj
        have r64 : y - 64 * S < 64 := by omega
        have tn : (Y - X).toNat = y - 64 * S := by omega
        generalize hr : y - 64 * S = r at *
        have w1 := shl1 r (pow64 r64)
        have wo : bits .or .u64 (v : Int) ((2 : Int) ^ r) = ((v ||| 2 ^ r : Nat) : Int) := by rw [show ((2 : Int) ^ r) = ((2 ^ r : Nat) : Int) by simp]; exact w_or v (2 ^ r) vl (pow64 r64)
        clear hY hv hj C1 nn hr
        by_cases cb : mb ((y - fi) % wds) = true
        · have C1 := HC1.out
          rw [cb] at C1
          have HC1 := hide C1
          clear C1
          have nx := NX.out
          rw [if_pos cb, HV.out] at nx
          have NX := hide nx
          clear nx cb
          go_wp2_with fail
          go_quiet (first | (go_at_call 71; refine Calls.quiet_of (HC1.out _)))
          go_wp2_with fail
          exact ⟨⟨y + 1, by rw [Int.natCast_add, HY.out]; rfl, by rw [NX.out], by omega, hide ⟨j + nq, by rw [HJ2.out, World.drewN_drewN]⟩⟩, by have := HY.out; simp [zi]; omega⟩
        · have cb' : mb ((y - fi) % wds) = false := by simpa using cb
          have C1 := HC1.out
          rw [cb'] at C1
          have HC1 := hide C1
          clear C1
          have nx := NX.out
          rw [if_neg cb, HV.out] at nx
          have NX := hide nx
          clear nx cb cb'
          go_wp2_with fail
          go_quiet (first | (go_at_call 71; refine Calls.quiet_of (HC1.out _)))
          go_wp2_with fail
          exact ⟨⟨y + 1, by rw [Int.natCast_add, HY.out]; rfl, by rw [NX.out], by omega, hide ⟨j + nq, by rw [HJ2.out, World.drewN_drewN]⟩⟩, by have := HY.out; simp [zi]; omega⟩
      · have d : decide (Y < HI) = false := decide_eq_false (by omega)
        have F := FIN.out y j (by omega)
        rw [← hj, hv] at F
        have HF := hide F
        clear F hY hv hj nn
        go_wp2_with fail
        first | exact HF.out | (go_ret; exact HF.out)
end
end Go.Proofs.Ytnhllnepnpmegaa
