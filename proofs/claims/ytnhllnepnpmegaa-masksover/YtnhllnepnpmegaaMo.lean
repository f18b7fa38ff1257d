/- The forms of package masks: maskOf: contract. -/
import Derived.Test.YtnhllnepnpmegaaFp
import Derived.Test.YtnhllnepnpmegaaBa2
namespace Go.Proofs.Ytnhllnepnpmegaa
open Go.ChangeShapes Go.WideShapes Go.ChangeAt Go.RowKit Go.Shelf Go.Proofs.Rx Go.Maps Go.Proofs.Bt
set_option linter.unusedVariables false
set_option linter.unusedSimpArgs false

attribute [local go_sem] Oper.semAt_some

/-- The first k bits. -/
def cutF (X : Nat → Bool) (k i : Nat) : Bool := decide (i < k) && X i
theorem strips_next {X : Nat → Bool} {k : Nat} (j : Nat) : strips (cutF X (k + 1)) j = if j = k / 64 ∧ X k = true then .int .u64 ((wd (fun i => cutF X k (64 * j + i)) 64 ||| 2 ^ (k % 64) : Nat) : Int) else strips (cutF X k) j := by
  unfold strips
  split
  · rename_i h
    obtain ⟨rfl, hx⟩ := h
    rw [wd_pow _ _ (by omega)]
    congr 2
    refine wd_congr fun i hi => ?_
    unfold cutF
    by_cases e : i = k % 64
    · rw [decide_eq_true e, Bool.or_true, show 64 * (k / 64) + i = k by omega, hx, decide_eq_true (by omega)]; rfl
    · rw [decide_eq_false e, Bool.or_false]
      congr 1
      rw [Bool.eq_iff_iff]; simp; omega
  · rename_i h
    congr 2
    refine wd_congr fun i hi => ?_
    unfold cutF
    by_cases e : 64 * j + i = k
    · rw [e]
      have : X k = false := by
        cases hx : X k with
        | false => rfl
        | true => exact absurd ⟨by omega, hx⟩ h
      rw [this, Bool.and_false, Bool.and_false]
    · congr 1
      rw [Bool.eq_iff_iff]; simp; omega
/-- The mask so far. -/
structure MI (W wr : World) (rb sb m L len : Nat) (X : Nat → Bool) (k : Nat) : Prop where
  b0 : Bk wr rb 72 #[.int .u64 0, .int .u64 0, .slice none 0 0]
  b1 : Bk wr m 72 #[.int .u64 (len : Nat), .int .u64 (cnt X 0 k : Nat), .slice (some ⟨sb, 0, none⟩) L L]
  row : Vec wr sb L 31 (strips (cutF X k))
  be : Below W.heap.size W wr
theorem MI.skip {W wr : World} {rb sb m L len : Nat} {X : Nat → Bool} {k : Nat} (h : MI W wr rb sb m L len X k) (hx : X k = false) : MI W wr rb sb m L len X (k + 1) := by
  refine ⟨h.b0, ?_, h.row.congr fun j hj => ?_, h.be⟩
  · have : cnt X 0 (k + 1) = cnt X 0 k := by rw [cnt, Nat.zero_add, hx]; rfl
    rw [this]; exact h.b1
  · rw [strips_next, if_neg (fun u => by rw [hx] at u; exact absurd u.2 (by decide))]
theorem MI.bit {W wr : World} {rb sb m L len : Nat} {X : Nat → Bool} {k : Nat} (h : MI W wr rb sb m L len X k) (hx : X k = true) (hk : k / 64 < L) (ne : sb ≠ m ∧ sb ≠ rb ∧ m ≠ rb) (s0 : W.heap.size ≤ sb) (m0 : W.heap.size ≤ m) {w1 : World} (k1 : Below wr.heap.size wr w1) {w3 : World} (hw3 : (w1.setCell ⟨sb, k / 64, none⟩ (.int .u64 ((wd (fun i => cutF X k (64 * (k / 64) + i)) 64 ||| 2 ^ (k % 64) : Nat) : Int))).setCell ⟨m, 1, none⟩ (.int .u64 ((cnt X 0 k : Nat) + 1)) = w3) : MI W w3 rb sb m L len X (k + 1) := by
  subst hw3
  have c : ((cnt X 0 (k + 1) : Nat) : Int) = (cnt X 0 k : Nat) + 1 := by rw [cnt, Nat.zero_add, hx]; rfl
  refine ⟨((h.b0.below k1).other (Ne.symm ne.2.1) _ _).other (Ne.symm ne.2.2) _ _, ?_, ?_, ?_⟩
  · rw [c]
    exact ((h.b1.below k1).other (Ne.symm ne.1) _ _).set 1 _
  · refine Vec.kept (F := fun z => z = m) ?_ (kept_set _ m 1 _ rfl) ne.1
    refine ((h.row.below k1).set (k / 64) hk _).congr fun j hj => ?_
    rw [strips_next]
    by_cases e : j = k / 64
    · rw [if_pos e, if_pos ⟨e, hx⟩, e]
    · rw [if_neg e, if_neg (fun u => e u.1)]
  · exact (h.be.trans (k1.mono h.be.size)).trans ((Kept.below ((kept_set (F := fun z => z = sb ∨ z = m) w1 sb _ _ (.inl rfl)).trans (kept_set (F := fun z => z = sb ∨ z = m) _ m _ _ (.inr rfl)) (fun _ _ h => h)) (by have := h.be.size; have := k1.size; omega) (fun z hz => by rcases hz with rfl | rfl <;> assumption)))
theorem load_mask {W : World} {b : Nat} {x y z : Value} (h : Bk W b 72 #[x, y, z]) : (loadVar 72 ⟨b, 0, none⟩).run Try.prog W = .ok (.agg #[x, y, z]) W := by
  have e0 := h.cell 0 _ rfl
  have e1 := h.cell 1 _ rfl
  have e2 := h.cell 2 _ rfl
  simp [go_sem, Nat.add_assoc, e0, e1, e2, Result.andThen]
theorem MI.fin {W wr : World} {rb sb m L len : Nat} {X : Nat → Bool} {k : Nat} (h : MI W wr rb sb m L len X k) (ne : sb ≠ rb) (r0 : W.heap.size ≤ rb) {w3 : World} {x y z : Value} (hw3 : ((wr.setCell ⟨rb, 0, none⟩ x).setCell ⟨rb, 1, none⟩ y).setCell ⟨rb, 2, none⟩ z = w3) :
    Bk w3 rb 72 #[x, y, z] ∧ Vec w3 sb L 31 (strips (cutF X k)) ∧ Below W.heap.size W w3 := by
  have kk : Kept (fun q => q = rb) wr w3 := by
    rw [← hw3]
    exact ((kept_set (F := fun q => q = rb) _ rb _ _ rfl).trans (kept_set (F := fun q => q = rb) _ rb _ _ rfl) (fun _ _ h => h)).trans (kept_set (F := fun q => q = rb) _ rb _ _ rfl) (fun _ _ h => h)
  refine ⟨?_, h.row.kept kk ne, h.be.trans (kk.below h.be.size (fun q hq => by rw [hq]; exact r0))⟩
  rw [← hw3]
  exact ((h.b0.set 0 x).set 1 y).set 2 z
set_option maxRecDepth 100000 in
set_option maxHeartbeats 1000000 in
theorem maskOf_any {W : World} {o : Option Addr} {len cap : Nat} {X : Nat → Bool} (h : BoolsAt W o len cap X) (h1 : 1 ≤ len) (h2 : len ≤ 65536) :
    Calls Try.prog 35 #[.slice o len cap] W fun e W' => ∃ sb, e = .returned (.agg #[.int .u64 (len : Nat), .int .u64 (cnt X 0 len : Nat), .slice (some ⟨sb, 0, none⟩) ((len + 63) / 64) ((len + 63) / 64)]) ∧ W.heap.size ≤ sb ∧ Vec W' sb ((len + 63) / 64) 31 (strips (cutF X len)) ∧ Below W.heap.size W W' := by
  obtain ⟨R, hR⟩ : ∃ R : Ending → World → Prop, R = fun e W' => ∃ sb, e = .returned (.agg #[.int .u64 (len : Nat), .int .u64 (cnt X 0 len : Nat), .slice (some ⟨sb, 0, none⟩) ((len + 63) / 64) ((len + 63) / 64)]) ∧ W.heap.size ≤ sb ∧ Vec W' sb ((len + 63) / 64) 31 (strips (cutF X len)) ∧ Below W.heap.size W W' := ⟨_, rfl⟩
  rw [← hR]
  have HR := hide hR
  clear hR
  obtain ⟨b0, f0, rfl, hb0, hc0⟩ := h.at (show 0 < len by omega)
  have CEL := hide (show ∀ wr k, Below W.heap.size W wr → k < len → wr.cell? ⟨b0, f0 + k, none⟩ = some (.bool (X k)) from fun wr k hb hk => (hb.cell (p := ⟨b0, f0 + k, none⟩) hb0).trans (hc0 k hk))
  clear h hc0 hb0
  obtain ⟨L, hL⟩ : ∃ L, (len + 63) / 64 = L := ⟨_, rfl⟩
  rw [hL] at HR
  obtain ⟨W0, hW0⟩ : ∃ W0, W.alloc (.cells #[.int .u64 0, .int .u64 0, .slice none 0 0] 72) = W0 := ⟨_, rfl⟩
  have HW0 := hide hW0
  have e1 : (((len : Int) + 64 - 1).tdiv 64) = (L : Int) := by rw [Int.tdiv_eq_ediv_of_nonneg (by omega)]; omega
  have e2 : (((len : Int) + 64 - 1) / 64) = (L : Int) := by omega
  have i0 : (0 : Int) ≤ (len : Int) := by omega
  have i1 : (len : Int) ≤ 65536 := by omega
  have hL1 : L ≤ 1024 := by omega
  have hL0 : (L : Int) ≤ 1024 := by omega
  have hL2 : (0 : Int) ≤ (L : Int) := by omega
  obtain ⟨W1, r1, v1, bl1, s1⟩ := make_words W0 L (by omega)
  go_enter Try.func35, Try.ntmps35
  go_wp2_with fail
  have P0 := hide (show MI W (W1.alloc (.cells #[.int .u64 (len : Nat), .int .u64 0, .slice (some ⟨W0.heap.size, 0, none⟩) L L] 72)) W.heap.size W0.heap.size (W0.heap.size + 1) L len X 0 from by
    have z0 : Bk W0 W.heap.size 72 #[.int .u64 0, .int .u64 0, .slice none 0 0] := by rw [← HW0.out]; exact World.alloc_heap_new _ _
    have ba := below_alloc W1 (.cells #[.int .u64 (len : Nat), .int .u64 0, .slice (some ⟨W0.heap.size, 0, none⟩) L L] 72)
    refine ⟨(z0.below bl1).below ba, ?_, (v1.below ba).congr fun j hj => ?_, ?_⟩
    · have := World.alloc_heap_new W1 (.cells #[.int .u64 (len : Nat), .int .u64 0, .slice (some ⟨W0.heap.size, 0, none⟩) L L] 72)
      rw [s1] at this
      exact this
    · unfold strips cutF
      rw [wd_none (fun k hk => by rw [decide_eq_false (by omega)]; rfl)]; rfl
    · have b0 : Below W.heap.size W W0 := by rw [← HW0.out]; exact below_alloc _ _
      exact (b0.trans (bl1.mono b0.size)).trans (ba.mono (by have := b0.size; have := bl1.size; omega)))
  have z0 : W0.heap.size = W.heap.size + 1 := by rw [← HW0.out]; simp
  have NE := hide (show (W0.heap.size ≠ W0.heap.size + 1 ∧ W0.heap.size ≠ W.heap.size ∧ W0.heap.size + 1 ≠ W.heap.size) ∧ W.heap.size ≤ W0.heap.size ∧ W.heap.size ≤ W0.heap.size + 1 by omega)
  clear r1 v1 bl1 s1 hW0
  obtain ⟨wz, hwz⟩ : ∃ wz, W1.alloc (.cells #[.int .u64 (len : Nat), .int .u64 0, .slice (some ⟨W0.heap.size, 0, none⟩) L L] 72) = wz := ⟨_, rfl⟩
  rw [hwz] at P0 ⊢
  clear hwz
  obtain ⟨rb, hrb⟩ : ∃ rb, W.heap.size = rb := ⟨_, rfl⟩
  have HRB := hide hrb
  rw [z0] at P0 NE ⊢
  rw [hrb] at P0 NE ⊢
  obtain ⟨sb, hsb⟩ : ∃ sb, rb + 1 = sb := ⟨_, rfl⟩
  obtain ⟨m, hm⟩ : ∃ m, rb + 1 + 1 = m := ⟨_, rfl⟩
  rw [hm] at P0 NE ⊢
  rw [hsb] at P0 NE ⊢
  clear z0 hrb hsb hm HW0
  have CL := hide (show cnt X 0 len ≤ 65536 from by have := cnt_le X 0 len; omega)
  go_loopw [18] (fun vi wr => ∃ k : Nat, vi = .int .i64 (k : Nat) ∧ k ≤ len ∧ Hid (MI W wr rb sb m L len X k)) (fun vi _ => len - (zi vi).toNat)
  case atStart => exact ⟨0, rfl, Nat.zero_le _, P0⟩
  case round =>
    clear P0
    obtain ⟨k, rfl, hk, HM⟩ := hrel
    by_cases c : k < len
    · have d : decide ((k : Int) < (len : Int)) = true := decide_eq_true (by omega)
      have c0 := CEL.out wr k HM.out.be c
      have k0 : (0 : Int) ≤ (k : Int) := by omega
      have k1 : (k : Int) < 65536 := by omega
      by_cases x : X k = true
      · rw [x] at c0
        obtain ⟨q, hq⟩ : ∃ q, k / 64 = q := ⟨_, rfl⟩
        obtain ⟨r, hr⟩ : ∃ q, k % 64 = q := ⟨_, rfl⟩
        have t1 : (k : Int).tdiv 64 = (q : Int) := by rw [Int.tdiv_eq_ediv_of_nonneg (by omega)]; omega
        have t2 : (k : Int).tmod 64 = (r : Int) := by rw [Int.tmod_eq_emod_of_nonneg (by omega)]; omega
        have t3 : (k : Int) / 64 = (q : Int) := by omega
        have t4 : (k : Int) % 64 = (r : Int) := by omega
        have q0 : (0 : Int) ≤ (q : Int) := by omega
        have q1 : (q : Int) < (L : Int) := by omega
        have t5 : IntKind.i64.wrap (q : Int) = (q : Int) := by rw [IntKind.wrap_i64]; omega
        have t6 : IntKind.i64.wrap (r : Int) = (r : Int) := by rw [IntKind.wrap_i64]; omega
        have q2 : q < L := by omega
        have r64 : r < 64 := by omega
        have r0 : (0 : Int) ≤ (r : Int) := by omega
        have r1 : (r : Int) < 64 := by omega
        have FIN := hide (HM.out.bit x (by omega) NE.out.1 (by rw [HRB.out]; exact NE.out.2.1) (by rw [HRB.out]; exact NE.out.2.2) (drew_below wr) rfl)
        rw [hq, hr] at FIN
        have lt := wd_lt (fun i => cutF X k (64 * q + i)) (Nat.le_refl 64)
        have n1 : wr.cell? ⟨sb, q, none⟩ = some (.int .u64 (wd (fun i => cutF X k (64 * q + i)) 64 : Nat)) := HM.out.row.cell q q2
        have n2 := HM.out.row.fz q
        have m1 : wr.cell? ⟨m, 1, none⟩ = some (.int .u64 (cnt X 0 k : Nat)) := HM.out.b1.cell 1 _ rfl
        have m2 : wr.cell? ⟨m, 2, none⟩ = some (.slice (some ⟨sb, 0, none⟩) L L) := HM.out.b1.cell 2 _ rfl
        have cn := cnt_le X 0 k
        generalize wd (fun i => cutF X k (64 * q + i)) 64 = N at *
        have w1 := shl1 r (pow64 r64)
        have wo : bits .or .u64 (N : Int) ((2 : Int) ^ r) = ((N ||| 2 ^ r : Nat) : Int) := by rw [show ((2 : Int) ^ r) = ((2 ^ r : Nat) : Int) by simp]; exact w_or N (2 ^ r) lt (pow64 r64)
        have m1' : (wr.setCell ⟨sb, q, none⟩ (.int .u64 ((N ||| 2 ^ r : Nat) : Int))).cell? ⟨m, 1, none⟩ = some (.int .u64 (cnt X 0 k : Nat)) := (HM.out.b1.other (Ne.symm NE.out.1.1) _ _).cell 1 _ rfl
        have f1' : (wr.setCell ⟨sb, q, none⟩ (.int .u64 ((N ||| 2 ^ r : Nat) : Int))).frozen? ⟨m, 1, none⟩ = false := (HM.out.b1.other (Ne.symm NE.out.1.1) _ _).fz 1
        obtain ⟨C, hC⟩ : ∃ C : Int, ((cnt X 0 k : Nat) : Int) = C := ⟨_, rfl⟩
        rw [hC] at m1 m1' FIN
        have C0 : 0 ≤ C := by omega
        have C1 : C < 65536 := by omega
        generalize N ||| 2 ^ r = V at *
        clear hC cn hq hr HM x
        go_wp2_with fail
        refine still_tail 10 (by kernel_rfl) (by kernel_rfl) ?_
        simp only [List.take_succ_cons, List.take_zero, List.drop_succ_cons, List.drop_zero]
        repeat still_step
        refine wpStill_nil ?_
        go_wp2_with fail
        exact ⟨⟨k + 1, by rw [Int.natCast_add]; rfl, by omega, FIN⟩, by simp [zi]; omega⟩
      · have x' : X k = false := by simpa using x
        rw [x'] at c0
        have FIN := hide (HM.out.skip x')
        clear HM x x'
        go_wp2_with fail
        exact ⟨⟨k + 1, by rw [Int.natCast_add]; rfl, by omega, FIN⟩, by simp [zi]; omega⟩
    · have d : decide ((k : Int) < (len : Int)) = false := decide_eq_false (by omega)
      obtain rfl : k = len := by omega
      have y0 : wr.cell? ⟨rb, 0, none⟩ = some (.int .u64 0) := HM.out.b0.cell 0 _ rfl
      have y1 : wr.cell? ⟨rb, 1, none⟩ = some (.int .u64 0) := HM.out.b0.cell 1 _ rfl
      have y2 : wr.cell? ⟨rb, 2, none⟩ = some (.slice none 0 0) := HM.out.b0.cell 2 _ rfl
      have g0 := HM.out.b0.fz 0
      have g1 := HM.out.b0.fz 1
      have g2 := HM.out.b0.fz 2
      have m0 : wr.cell? ⟨m, 0, none⟩ = some (.int .u64 (k : Nat)) := HM.out.b1.cell 0 _ rfl
      have m1 : wr.cell? ⟨m, 1, none⟩ = some (.int .u64 (cnt X 0 k : Nat)) := HM.out.b1.cell 1 _ rfl
      have m2 : wr.cell? ⟨m, 2, none⟩ = some (.slice (some ⟨sb, 0, none⟩) L L) := HM.out.b1.cell 2 _ rfl
      have FI := hide (fun (w3 : World) => HM.out.fin (w3 := w3) (x := .int .u64 (k : Nat)) (y := .int .u64 (cnt X 0 k : Nat)) (z := .slice (some ⟨sb, 0, none⟩) L L) NE.out.1.2.1 (by rw [HRB.out]; exact Nat.le_refl _))
      clear HM
      go_wp2_with fail
      obtain ⟨f1, f2, f3⟩ := FI.out _ rfl
      refine bodyPost_ret (results_c Try.results35 _ _ ⟨rb, 0, none⟩ _ rfl (load_mask f1)) rfl ?_
      rw [HR.out]
      exact ⟨sb, rfl, by rw [HRB.out]; exact NE.out.2.1, f2, f3⟩
end Go.Proofs.Ytnhllnepnpmegaa
