/- The forms of package masks: how they lie; mask's has, ahead: contracts. -/
import Derived.Test.YtnhllnepnpmegaaPm
import Derived.Laws.MakeOwn
import Derived.LoopNIn
import Derived.LoopIn
namespace Go.Proofs.Ytnhllnepnpmegaa
open Go.ChangeShapes Go.WideShapes Go.ChangeAt Go.RowKit Go.Shelf Go.Proofs.Rx Go.Maps Go.Proofs.Bt
set_option linter.unusedVariables false
set_option linter.unusedSimpArgs false

attribute [local go_sem] Oper.semAt_some

/-- A block of L cells of one type. -/
structure Vec (W : World) (U L t : Nat) (f : Nat → Value) : Prop where
  ex : ∃ vs, Bk W U t vs ∧ vs.size = L ∧ ∀ k, k < L → vs[k]? = some (f k)
section
variable {W W' : World} {U L t : Nat} {f f' : Nat → Value}
theorem Vec.cell (h : Vec W U L t f) (k : Nat) (hk : k < L) : W.cell? ⟨U, k, none⟩ = some (f k) := by
  obtain ⟨vs, b, s, c⟩ := h.ex
  exact b.cell k _ (c k hk)
theorem Vec.fz (h : Vec W U L t f) (k : Nat) : W.frozen? ⟨U, k, none⟩ = false := by
  obtain ⟨vs, b, s, c⟩ := h.ex
  exact b.fz k
theorem Vec.lt (h : Vec W U L t f) : U < W.heap.size := by
  obtain ⟨vs, b, s, c⟩ := h.ex
  exact b.lt
theorem Vec.kept {F : Nat → Prop} (h : Vec W U L t f) (k : Kept F W W') (hF : ¬ F U) : Vec W' U L t f := by
  obtain ⟨vs, b, s, c⟩ := h.ex
  exact ⟨vs, b.kept k hF, s, c⟩
theorem Vec.below (h : Vec W U L t f) (k : Below W.heap.size W W') : Vec W' U L t f := by
  obtain ⟨vs, b, s, c⟩ := h.ex
  exact ⟨vs, b.below k, s, c⟩
theorem Vec.congr (h : Vec W U L t f) (e : ∀ k, k < L → f k = f' k) : Vec W U L t f' := by
  obtain ⟨vs, b, s, c⟩ := h.ex
  exact ⟨vs, b, s, fun k hk => by rw [c k hk, e k hk]⟩
theorem Vec.set (h : Vec W U L t f) (k : Nat) (hk : k < L) (v : Value) : Vec (W.setCell ⟨U, k, none⟩ v) U L t (fun j => if j = k then v else f j) := by
  obtain ⟨vs, b, s, c⟩ := h.ex
  refine ⟨_, b.set k v, by simpa using s, fun j hj => ?_⟩
  by_cases e : j = k
  · subst e
    rw [if_pos rfl, Array.getElem?_setIfInBounds_self_of_lt (by omega)]
  · rw [if_neg e, Array.getElem?_setIfInBounds_ne (fun u => e u.symm)]
    exact c j hj
end
def zi : Value → Int
  | .int _ n => n
  | _ => 0
theorem infoW : (Try.prog.info? 31).map (fun i => (i.zero, i.size, i.bytes)) = some (some (.int .u64 0), 1, 8) := by kernel_rfl
theorem infoB : (Try.prog.info? 4).map (fun i => (i.zero, i.size, i.bytes)) = some (some (.bool false), 1, 1) := by kernel_rfl
/-- A row is made. -/
theorem make_words (W : World) (L : Nat) (hL : L ≤ 1000000) : ∃ W', (Instr.makeSlice 48 (.int .i64 (L : Nat)) (.int .i64 (L : Nat))).run Try.prog W = .ok (.slice (some ⟨W.heap.size, 0, none⟩) L L) W' ∧ Vec W' W.heap.size L 31 (fun _ => .int .u64 0) ∧ Below W.heap.size W W' ∧ W'.heap.size = W.heap.size + 1 := by
  obtain ⟨i0, hi0, hz0, hz1, hz2⟩ := info_parts infoW
  have hr := run_make (P := Try.prog) W 48 31 i0 _ Try.underlying48 hi0 hz0 .i64 .i64 (L : Nat) (L : Nat) (by omega) (by omega) (by rw [hz2]; omega) (by omega)
  rw [Int.toNat_natCast, hz1, Nat.mul_one] at hr
  refine ⟨_, hr, ⟨_, World.alloc_heap_new W _, ?_, fun k hk => ?_⟩, below_alloc W _, by simp⟩
  · simp [madeCells, Value.cells]
  · simp [madeCells, Value.cells, hk, Nat.mod_one]
theorem make_bools (W : World) (L : Nat) (hL : L ≤ 1000000) : ∃ W', (Instr.makeSlice 32 (.int .i64 (L : Nat)) (.int .i64 (L : Nat))).run Try.prog W = .ok (.slice (some ⟨W.heap.size, 0, none⟩) L L) W' ∧ Vec W' W.heap.size L 4 (fun _ => .bool false) ∧ Below W.heap.size W W' ∧ W'.heap.size = W.heap.size + 1 := by
  obtain ⟨i0, hi0, hz0, hz1, hz2⟩ := info_parts infoB
  have hr := run_make (P := Try.prog) W 32 4 i0 _ Try.underlying32 hi0 hz0 .i64 .i64 (L : Nat) (L : Nat) (by omega) (by omega) (by rw [hz2]; omega) (by omega)
  rw [Int.toNat_natCast, hz1, Nat.mul_one] at hr
  refine ⟨_, hr, ⟨_, World.alloc_heap_new W _, ?_, fun k hk => ?_⟩, below_alloc W _, by simp⟩
  · simp [madeCells, Value.cells]
  · simp [madeCells, Value.cells, hk, Nat.mod_one]
/-- Bits by strips. -/
def strips (f : Nat → Bool) (k : Nat) : Value := .int .u64 (wd (fun i => f (64 * k + i)) 64 : Nat)
theorem bit_val (N r : Nat) (h : N < 18446744073709551616) : (bits .and .u64 ((N : Int) / 2 ^ r) 1 == 1) = N.testBit r := by
  have e : ((N : Int) / 2 ^ r) = ((N / 2 ^ r : Nat) : Int) := by simp
  rw [e, show (1 : Int) = ((1 : Nat) : Int) from rfl, w_and _ _ (Nat.lt_of_le_of_lt (Nat.div_le_self _ _) h) (by decide), Nat.testBit_eq_decide_div_mod_eq, Nat.and_one_is_mod]
  rw [Bool.eq_iff_iff]
  simp only [beq_iff_eq, decide_eq_true_eq]
  omega
set_option maxRecDepth 100000 in
theorem has_any {W : World} {b sb L : Nat} {mb : Nat → Bool} (c : W.cell? ⟨b, 3, none⟩ = some (.slice (some ⟨sb, 0, none⟩) L L)) (v : Vec W sb L 31 (strips mb)) (hL : L ≤ 1024) (i : Nat) (hi : i / 64 < L) :
    Calls Try.prog 71 #[.pointer (some ⟨b, 1, none⟩), .int .u64 (i : Nat)] W fun e W' => e = .returned (.bool (mb i)) ∧ ∃ j, W' = W.drewN j := by
  obtain ⟨q, hq⟩ : ∃ q : Nat, i / 64 = q := ⟨_, rfl⟩
  obtain ⟨r, hr⟩ : ∃ r : Nat, i % 64 = r := ⟨_, rfl⟩
  have t3 : (i : Int) / 64 = (q : Int) := by omega
  have t4 : (i : Int) % 64 = (r : Int) := by omega
  have x1 := v.cell q (by omega)
  have lt := wd_lt (fun i => mb (64 * q + i)) (Nat.le_refl 64)
  have hb := bit_val (wd (fun i => mb (64 * q + i)) 64) r lt
  rw [wd_bit, decide_eq_true (show r < 64 by omega), Bool.true_and, show 64 * q + r = i by omega] at hb
  unfold strips at x1
  generalize wd (fun i => mb (64 * q + i)) 64 = N at *
  have q2 : q < L := by omega
  have q1 : (q : Int) < (L : Int) := by omega
  have q0 : (0 : Int) ≤ (q : Int) := by omega
  have r64 : r < 64 := by omega
  have n1 : (N : Int) < 18446744073709551616 := by omega
  have n0 : (0 : Int) ≤ (N : Int) := by omega
  obtain ⟨I, hI⟩ : ∃ I : Int, (i : Int) = I := ⟨_, rfl⟩
  have i0 : 0 ≤ I := by omega
  have i1 : I < 1048576 := by omega
  rw [hI] at t3 t4 ⊢
  generalize mb i = B at hb ⊢
  clear hI hq hr hi v lt
  go_enter Try.func71, Try.ntmps71
  go_wp2_with fail
  go_ret
  exact ⟨rfl, 0, rfl⟩
set_option maxRecDepth 100000 in
set_option maxHeartbeats 1000000 in
theorem mahead_any {W : World} {b sb L : Nat} {mb : Nat → Bool} (c : W.cell? ⟨b, 3, none⟩ = some (.slice (some ⟨sb, 0, none⟩) L L)) (v : Vec W sb L 31 (strips mb)) (hL : L ≤ 1024) (i : Nat) (hi : i ≤ 64 * L) :
    Calls Try.prog 72 #[.pointer (some ⟨b, 1, none⟩), .int .u64 (i : Nat)] W fun e W' => e = .returned (.int .u64 (cnt mb 0 i : Nat)) ∧ ∃ j, W' = W.drewN j := by
  obtain ⟨R, hR⟩ : ∃ R : Ending → World → Prop, R = fun e W' => e = .returned (.int .u64 (cnt mb 0 i : Nat)) ∧ ∃ j, W' = W.drewN j := ⟨_, rfl⟩
  rw [← hR]
  have FIN := hide (show ∀ (k : Nat) j, i ≤ 64 * k → R (.returned (.int .u64 (cnt mb 0 (min (64 * k) i) : Nat))) (W.drewN j) from fun k j h => by rw [hR, show min (64 * k) i = i by omega]; exact ⟨rfl, j, rfl⟩)
  clear hR
  have V := hide v
  have CW := hide (show ∀ (k : Nat) (hk : k < 1100) (w : World), Calls Try.prog 38 #[.int .u64 ((64 * k : Nat) : Int), .int .u64 0, .int .u64 (i : Nat)] w fun e w' => e = .returned (.int .u64 (prt k 0 i : Nat)) ∧ w' = w from fun k hk w => within_any k 0 i (by omega) (by omega) (by omega) w)
  have CO := hide (fun (x : Nat) (hx : x < 18446744073709551616) (w : World) => ones_any x hx w)
  have STEP := hide (show ∀ k, 64 * k < i → cnt mb 0 (min (64 * k) i) + pc (wd (fun j => mb (64 * k + j)) 64 &&& prt k 0 i) = cnt mb 0 (min (64 * (k + 1)) i) from fun k hk => by
    rw [strip_cnt, show max (64 * k) 0 = 64 * k by omega, show min (64 * k) i = 64 * k by omega]
    rw [show cnt mb (64 * k) (min (64 * k + 64) i - 64 * k) = cnt mb (0 + 64 * k) (min (64 * k + 64) i - 64 * k) by rw [Nat.zero_add], ← cnt_add]
    congr 1; omega)
  have LE := hide (show ∀ k, cnt mb 0 (min (64 * k) i) ≤ 65536 from fun k => by have := cnt_le mb 0 (min (64 * k) i); omega)
  obtain ⟨I, hI⟩ : ∃ I : Int, (i : Int) = I := ⟨_, rfl⟩
  have HI := hide hI
  have i0 : 0 ≤ I := by omega
  have i1 : I ≤ 65536 := by omega
  rw [hI]
  simp only [hI] at CW
  clear hI v
  go_enter Try.func72, Try.ntmps72
  go_wp2_with fail
  go_loopw [5, 6] (fun vn va wr => ∃ k : Nat, va = .int .u64 ((64 * k : Nat) : Int) ∧ vn = .int .i64 (cnt mb 0 (min (64 * k) i) : Nat) ∧ 64 * k < i + 64 ∧ Hid (∃ j, wr = W.drewN j)) (fun vn va _ => i + 64 - (zi va).toNat)
  case atStart => exact ⟨0, rfl, by simp [cnt], by omega, hide ⟨0, rfl⟩⟩
  case round =>
    obtain ⟨k, rfl, rfl, hk, HJ⟩ := hrel
    obtain ⟨j, hj⟩ := HJ.out
    by_cases hlt : 64 * k < i
    · have d : decide (((64 * k : Nat) : Int) < I) = true := decide_eq_true (by have := HI.out; omega)
      have x1 := (V.out.below (drewN_below W j)).cell k (by omega)
      rw [← hj] at x1
      have c1 := (drewN_below W j).cell (p := ⟨b, 3, none⟩) (World.block_lt_of_cell? W ⟨b, 3, none⟩ c)
      rw [← hj, c] at c1
      unfold strips at x1
      have lt := wd_lt (fun i => mb (64 * k + i)) (Nat.le_refl 64)
      have ST := STEP.out k hlt
      have l1 := LE.out k
      have l2 := LE.out (k + 1)
      have hb := w_and (wd (fun i => mb (64 * k + i)) 64) (prt k 0 i) lt (prt_lt _ _ _)
      have CO1 := hide (fun w => CO.out (wd (fun i => mb (64 * k + i)) 64 &&& prt k 0 i) (and_lt _ lt) w)
      have CW1 := hide (CW.out k (by omega))
      generalize wd (fun i => mb (64 * k + i)) 64 = N at *
      generalize prt k 0 i = PR at *
      generalize pc (N &&& PR) = D at *
      obtain ⟨Z, hZ⟩ : ∃ Z : Int, ((N &&& PR : Nat) : Int) = Z := ⟨_, rfl⟩
      rw [hZ] at hb CO1
      obtain ⟨C, hC⟩ : ∃ C : Int, ((cnt mb 0 (min (64 * k) i) : Nat) : Int) = C := ⟨_, rfl⟩
      obtain ⟨C', hC'⟩ : ∃ C : Int, ((cnt mb 0 (min (64 * (k + 1)) i) : Nat) : Int) = C := ⟨_, rfl⟩
      obtain ⟨D', hD⟩ : ∃ C : Int, (D : Int) = C := ⟨_, rfl⟩
      rw [hD] at CO1
      obtain ⟨AT, hA⟩ : ∃ C : Int, ((64 * k : Nat) : Int) = C := ⟨_, rfl⟩
      rw [hA] at d CW1 ⊢
      rw [hC]
      have q1 : AT / 64 = (k : Int) := by omega
      have q2 : 0 ≤ AT := by omega
      have q3 : AT ≤ 65536 := by omega
      have s0 : 0 ≤ C := by omega
      have s1 : C ≤ 65536 := by omega
      have s2 : 0 ≤ D' := by omega
      have s3 : D' ≤ 65536 := by omega
      have HC := hide (show C + D' = C' by omega)
      have HJ2 := hide hj
      have HC' := hide hC'
      have HA := hide hA
      have kL : k < L := by omega
      have n0 : (0 : Int) ≤ (N : Int) := by omega
      have n1 : (N : Int) < 18446744073709551616 := by omega
      clear hC hC' hD hA hZ ST l1 l2 lt hj
      go_wp2_with fail
      go_quiet (first
        | (go_at_call 38; refine Calls.quiet_of_same (CW1.out _))
        | (go_at_call 73; refine Calls.quiet_of_same (CO1.out _)))
      go_wp2_with fail
      refine ⟨⟨k + 1, ?_, ?_, by omega, hide ⟨j + nq, by rw [HJ2.out, World.drewN_drewN]⟩⟩, ?_⟩
      · rw [show 64 * (k + 1) = 64 * k + 64 by omega, Int.natCast_add, HA.out]; rfl
      · rw [HC'.out, HC.out]
      · have := HA.out; simp [zi]; omega
    · have d : decide (((64 * k : Nat) : Int) < I) = false := decide_eq_false (by have := HI.out; omega)
      have F := FIN.out k j (by omega)
      rw [← hj] at F
      have HF := hide F
      have l1 := LE.out k
      obtain ⟨C, hC⟩ : ∃ C : Int, ((cnt mb 0 (min (64 * k) i) : Nat) : Int) = C := ⟨_, rfl⟩
      rw [hC] at HF ⊢
      have s0 : 0 ≤ C := by omega
      have s1 : C ≤ 65536 := by omega
      have cv : IntKind.u64.wrap C = C := by rw [IntKind.wrap_u64]; omega
      obtain ⟨AT, hA⟩ : ∃ C : Int, ((64 * k : Nat) : Int) = C := ⟨_, rfl⟩
      rw [hA] at d ⊢
      clear F hC l1 hj hA
      go_wp2_with fail
      first | exact HF.out | (go_ret; exact HF.out)
end Go.Proofs.Ytnhllnepnpmegaa
