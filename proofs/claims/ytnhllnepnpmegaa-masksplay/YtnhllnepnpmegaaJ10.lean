/- J10 of the proof of both laws: texts Mo, Fo2, Lp, one behind the other. -/
import Derived.Test.YtnhllnepnpmegaaJ07
import Derived.Test.YtnhllnepnpmegaaJ09
/- The forms of package masks: maskOf: contract. -/
namespace Go.Proofs.Ytnhllnepnpmegaa
open Go.ChangeShapes Go.WideShapes Go.ChangeAt Go.RowKit Go.Shelf Go.Proofs.Rx Go.Maps Go.Proofs.Bt
set_option linter.unusedVariables false
set_option linter.unusedSimpArgs false

attribute [local go_sem] Oper.semAt_some

/-- The first k bits. -/
def cutF (X : Nat → Bool) (k i : Nat) : Bool := decide (i < k) && X i
theorem strips_next {X : Nat → Bool} {k : Nat} (j : Nat) : strips (cutF X (k + 1)) j = if j = k / 64 ∧ X k = true then .int .u64 ((wd (fun i => cutF X k (64 * j + i)) 64 ||| 2 ^ (k % 64) : Nat) : Int) else strips (cutF X k) j := by
  unfold strips
  split
  · rename_i h
    obtain ⟨rfl, hx⟩ := h
    rw [wd_pow _ _ (by omega)]
    congr 2
    refine wd_congr fun i hi => ?_
    unfold cutF
    by_cases e : i = k % 64
    · rw [decide_eq_true e, Bool.or_true, show 64 * (k / 64) + i = k by omega, hx, decide_eq_true (by omega)]; rfl
    · rw [decide_eq_false e, Bool.or_false]
      congr 1
      rw [Bool.eq_iff_iff]; simp; omega
  · rename_i h
    congr 2
    refine wd_congr fun i hi => ?_
    unfold cutF
    by_cases e : 64 * j + i = k
    · rw [e]
      have : X k = false := by
        cases hx : X k with
        | false => rfl
        | true => exact absurd ⟨by omega, hx⟩ h
      rw [this, Bool.and_false, Bool.and_false]
    · congr 1
      rw [Bool.eq_iff_iff]; simp; omega
/-- The mask so far. -/
structure MI (W wr : World) (rb sb m L len : Nat) (X : Nat → Bool) (k : Nat) : Prop where
  b0 : Bk wr rb 72 #[.int .u64 0, .int .u64 0, .slice none 0 0]
  b1 : Bk wr m 72 #[.int .u64 (len : Nat), .int .u64 (cnt X 0 k : Nat), .slice (some ⟨sb, 0, none⟩) L L]
  row : Vec wr sb L 31 (strips (cutF X k))
  be : Below W.heap.size W wr
theorem MI.skip {W wr : World} {rb sb m L len : Nat} {X : Nat → Bool} {k : Nat} (h : MI W wr rb sb m L len X k) (hx : X k = false) : MI W wr rb sb m L len X (k + 1) := by
  refine ⟨h.b0, ?_, h.row.congr fun j hj => ?_, h.be⟩
  · have : cnt X 0 (k + 1) = cnt X 0 k := by rw [cnt, Nat.zero_add, hx]; rfl
    rw [this]; exact h.b1
  · rw [strips_next, if_neg (fun u => by rw [hx] at u; exact absurd u.2 (by decide))]
theorem MI.bit {W wr : World} {rb sb m L len : Nat} {X : Nat → Bool} {k : Nat} (h : MI W wr rb sb m L len X k) (hx : X k = true) (hk : k / 64 < L) (ne : sb ≠ m ∧ sb ≠ rb ∧ m ≠ rb) (s0 : W.heap.size ≤ sb) (m0 : W.heap.size ≤ m) {w1 : World} (k1 : Below wr.heap.size wr w1) {w3 : World} (hw3 : (w1.setCell ⟨sb, k / 64, none⟩ (.int .u64 ((wd (fun i => cutF X k (64 * (k / 64) + i)) 64 ||| 2 ^ (k % 64) : Nat) : Int))).setCell ⟨m, 1, none⟩ (.int .u64 ((cnt X 0 k : Nat) + 1)) = w3) : MI W w3 rb sb m L len X (k + 1) := by
  subst hw3
  have c : ((cnt X 0 (k + 1) : Nat) : Int) = (cnt X 0 k : Nat) + 1 := by rw [cnt, Nat.zero_add, hx]; rfl
  refine ⟨((h.b0.below k1).other (Ne.symm ne.2.1) _ _).other (Ne.symm ne.2.2) _ _, ?_, ?_, ?_⟩
  · rw [c]
    exact ((h.b1.below k1).other (Ne.symm ne.1) _ _).set 1 _
  · refine Vec.kept (F := fun z => z = m) ?_ (kept_set _ m 1 _ rfl) ne.1
    refine ((h.row.below k1).set (k / 64) hk _).congr fun j hj => ?_
    rw [strips_next]
    by_cases e : j = k / 64
    · rw [if_pos e, if_pos ⟨e, hx⟩, e]
    · rw [if_neg e, if_neg (fun u => e u.1)]
  · exact (h.be.trans (k1.mono h.be.size)).trans ((Kept.below ((kept_set (F := fun z => z = sb ∨ z = m) w1 sb _ _ (.inl rfl)).trans (kept_set (F := fun z => z = sb ∨ z = m) _ m _ _ (.inr rfl)) (fun _ _ h => h)) (by have := h.be.size; have := k1.size; omega) (fun z hz => by rcases hz with rfl | rfl <;> assumption)))
theorem load_mask {W : World} {b : Nat} {x y z : Value} (h : Bk W b 72 #[x, y, z]) : (loadVar 72 ⟨b, 0, none⟩).run Try.prog W = .ok (.agg #[x, y, z]) W := by
  have e0 := h.cell 0 _ rfl
  have e1 := h.cell 1 _ rfl
  have e2 := h.cell 2 _ rfl
  simp [go_sem, Nat.add_assoc, e0, e1, e2, Result.andThen]
theorem MI.fin {W wr : World} {rb sb m L len : Nat} {X : Nat → Bool} {k : Nat} (h : MI W wr rb sb m L len X k) (ne : sb ≠ rb) (r0 : W.heap.size ≤ rb) {w3 : World} {x y z : Value} (hw3 : ((wr.setCell ⟨rb, 0, none⟩ x).setCell ⟨rb, 1, none⟩ y).setCell ⟨rb, 2, none⟩ z = w3) :
    Bk w3 rb 72 #[x, y, z] ∧ Vec w3 sb L 31 (strips (cutF X k)) ∧ Below W.heap.size W w3 := by
  have kk : Kept (fun q => q = rb) wr w3 := by
    rw [← hw3]
    exact ((kept_set (F := fun q => q = rb) _ rb _ _ rfl).trans (kept_set (F := fun q => q = rb) _ rb _ _ rfl) (fun _ _ h => h)).trans (kept_set (F := fun q => q = rb) _ rb _ _ rfl) (fun _ _ h => h)
  refine ⟨?_, h.row.kept kk ne, h.be.trans (kk.below h.be.size (fun q hq => by rw [hq]; exact r0))⟩
  rw [← hw3]
  exact ((h.b0.set 0 x).set 1 y).set 2 z
set_option maxRecDepth 100000 in
set_option maxHeartbeats 1000000 in
theorem maskOf_any {W : World} {o : Option Addr} {len cap : Nat} {X : Nat → Bool} (h : BoolsAt W o len cap X) (h1 : 1 ≤ len) (h2 : len ≤ 65536) :
    Calls Try.prog 35 #[.slice o len cap] W fun e W' => ∃ sb, e = .returned (.agg #[.int .u64 (len : Nat), .int .u64 (cnt X 0 len : Nat), .slice (some ⟨sb, 0, none⟩) ((len + 63) / 64) ((len + 63) / 64)]) ∧ W.heap.size ≤ sb ∧ Vec W' sb ((len + 63) / 64) 31 (strips (cutF X len)) ∧ Below W.heap.size W W' := by
  obtain ⟨R, hR⟩ : ∃ R : Ending → World → Prop, R = fun e W' => ∃ sb, e = .returned (.agg #[.int .u64 (len : Nat), .int .u64 (cnt X 0 len : Nat), .slice (some ⟨sb, 0, none⟩) ((len + 63) / 64) ((len + 63) / 64)]) ∧ W.heap.size ≤ sb ∧ Vec W' sb ((len + 63) / 64) 31 (strips (cutF X len)) ∧ Below W.heap.size W W' := ⟨_, rfl⟩
  rw [← hR]
  have HR := hide hR
  clear hR
  obtain ⟨b0, f0, rfl, hb0, hc0⟩ := h.at (show 0 < len by omega)
  have CEL := hide (show ∀ wr k, Below W.heap.size W wr → k < len → wr.cell? ⟨b0, f0 + k, none⟩ = some (.bool (X k)) from fun wr k hb hk => (hb.cell (p := ⟨b0, f0 + k, none⟩) hb0).trans (hc0 k hk))
  clear h hc0 hb0
  obtain ⟨L, hL⟩ : ∃ L, (len + 63) / 64 = L := ⟨_, rfl⟩
  rw [hL] at HR
  obtain ⟨W0, hW0⟩ : ∃ W0, W.alloc (.cells #[.int .u64 0, .int .u64 0, .slice none 0 0] 72) = W0 := ⟨_, rfl⟩
  have HW0 := hide hW0
  have e1 : (((len : Int) + 64 - 1).tdiv 64) = (L : Int) := by rw [Int.tdiv_eq_ediv_of_nonneg (by omega)]; omega
  have e2 : (((len : Int) + 64 - 1) / 64) = (L : Int) := by omega
  have i0 : (0 : Int) ≤ (len : Int) := by omega
  have i1 : (len : Int) ≤ 65536 := by omega
  have hL1 : L ≤ 1024 := by omega
  have hL0 : (L : Int) ≤ 1024 := by omega
  have hL2 : (0 : Int) ≤ (L : Int) := by omega
  obtain ⟨W1, r1, v1, bl1, s1⟩ := make_words W0 L (by omega)
  go_enter Try.func35, Try.ntmps35
  go_wp2_with fail
  have P0 := hide (show MI W (W1.alloc (.cells #[.int .u64 (len : Nat), .int .u64 0, .slice (some ⟨W0.heap.size, 0, none⟩) L L] 72)) W.heap.size W0.heap.size (W0.heap.size + 1) L len X 0 from by
    have z0 : Bk W0 W.heap.size 72 #[.int .u64 0, .int .u64 0, .slice none 0 0] := by rw [← HW0.out]; exact World.alloc_heap_new _ _
    have ba := below_alloc W1 (.cells #[.int .u64 (len : Nat), .int .u64 0, .slice (some ⟨W0.heap.size, 0, none⟩) L L] 72)
    refine ⟨(z0.below bl1).below ba, ?_, (v1.below ba).congr fun j hj => ?_, ?_⟩
    · have := World.alloc_heap_new W1 (.cells #[.int .u64 (len : Nat), .int .u64 0, .slice (some ⟨W0.heap.size, 0, none⟩) L L] 72)
      rw [s1] at this
      exact this
    · unfold strips cutF
      rw [wd_none (fun k hk => by rw [decide_eq_false (by omega)]; rfl)]; rfl
    · have b0 : Below W.heap.size W W0 := by rw [← HW0.out]; exact below_alloc _ _
      exact (b0.trans (bl1.mono b0.size)).trans (ba.mono (by have := b0.size; have := bl1.size; omega)))
  have z0 : W0.heap.size = W.heap.size + 1 := by rw [← HW0.out]; simp
  have NE := hide (show (W0.heap.size ≠ W0.heap.size + 1 ∧ W0.heap.size ≠ W.heap.size ∧ W0.heap.size + 1 ≠ W.heap.size) ∧ W.heap.size ≤ W0.heap.size ∧ W.heap.size ≤ W0.heap.size + 1 by omega)
  clear r1 v1 bl1 s1 hW0
  obtain ⟨wz, hwz⟩ : ∃ wz, W1.alloc (.cells #[.int .u64 (len : Nat), .int .u64 0, .slice (some ⟨W0.heap.size, 0, none⟩) L L] 72) = wz := ⟨_, rfl⟩
  rw [hwz] at P0 ⊢
  clear hwz
  obtain ⟨rb, hrb⟩ : ∃ rb, W.heap.size = rb := ⟨_, rfl⟩
  have HRB := hide hrb
  rw [z0] at P0 NE ⊢
  rw [hrb] at P0 NE ⊢
  obtain ⟨sb, hsb⟩ : ∃ sb, rb + 1 = sb := ⟨_, rfl⟩
  obtain ⟨m, hm⟩ : ∃ m, rb + 1 + 1 = m := ⟨_, rfl⟩
  rw [hm] at P0 NE ⊢
  rw [hsb] at P0 NE ⊢
  clear z0 hrb hsb hm HW0
  have CL := hide (show cnt X 0 len ≤ 65536 from by have := cnt_le X 0 len; omega)
  go_loopw [18] (fun vi wr => ∃ k : Nat, vi = .int .i64 (k : Nat) ∧ k ≤ len ∧ Hid (MI W wr rb sb m L len X k)) (fun vi _ => len - (zi vi).toNat)
  case atStart => exact ⟨0, rfl, Nat.zero_le _, P0⟩
  case round =>
    clear P0
    obtain ⟨k, rfl, hk, HM⟩ := hrel
    by_cases c : k < len
    · have d : decide ((k : Int) < (len : Int)) = true := decide_eq_true (by omega)
      have c0 := CEL.out wr k HM.out.be c
      have k0 : (0 : Int) ≤ (k : Int) := by omega
      have k1 : (k : Int) < 65536 := by omega
      by_cases x : X k = true
      · rw [x] at c0
        obtain ⟨q, hq⟩ : ∃ q, k / 64 = q := ⟨_, rfl⟩
        obtain ⟨r, hr⟩ : ∃ q, k % 64 = q := ⟨_, rfl⟩
        have t1 : (k : Int).tdiv 64 = (q : Int) := by rw [Int.tdiv_eq_ediv_of_nonneg (by omega)]; omega
        have t2 : (k : Int).tmod 64 = (r : Int) := by rw [Int.tmod_eq_emod_of_nonneg (by omega)]; omega
        have t3 : (k : Int) / 64 = (q : Int) := by omega
        have t4 : (k : Int) % 64 = (r : Int) := by omega
        have q0 : (0 : Int) ≤ (q : Int) := by omega
        have q1 : (q : Int) < (L : Int) := by omega
        have t5 : IntKind.i64.wrap (q : Int) = (q : Int) := by rw [IntKind.wrap_i64]; omega
        have t6 : IntKind.i64.wrap (r : Int) = (r : Int) := by rw [IntKind.wrap_i64]; omega
        have q2 : q < L := by omega
        have r64 : r < 64 := by omega
        have r0 : (0 : Int) ≤ (r : Int) := by omega
        have r1 : (r : Int) < 64 := by omega
        have FIN := hide (HM.out.bit x (by omega) NE.out.1 (by rw [HRB.out]; exact NE.out.2.1) (by rw [HRB.out]; exact NE.out.2.2) (drew_below wr) rfl)
        rw [hq, hr] at FIN
        have lt := wd_lt (fun i => cutF X k (64 * q + i)) (Nat.le_refl 64)
        have n1 : wr.cell? ⟨sb, q, none⟩ = some (.int .u64 (wd (fun i => cutF X k (64 * q + i)) 64 : Nat)) := HM.out.row.cell q q2
        have n2 := HM.out.row.fz q
        have m1 : wr.cell? ⟨m, 1, none⟩ = some (.int .u64 (cnt X 0 k : Nat)) := HM.out.b1.cell 1 _ rfl
        have m2 : wr.cell? ⟨m, 2, none⟩ = some (.slice (some ⟨sb, 0, none⟩) L L) := HM.out.b1.cell 2 _ rfl
        have cn := cnt_le X 0 k
        generalize wd (fun i => cutF X k (64 * q + i)) 64 = N at *
        have w1 := shl1 r (pow64 r64)
        have wo : bits .or .u64 (N : Int) ((2 : Int) ^ r) = ((N ||| 2 ^ r : Nat) : Int) := by rw [show ((2 : Int) ^ r) = ((2 ^ r : Nat) : Int) by simp]; exact w_or N (2 ^ r) lt (pow64 r64)
        have m1' : (wr.setCell ⟨sb, q, none⟩ (.int .u64 ((N ||| 2 ^ r : Nat) : Int))).cell? ⟨m, 1, none⟩ = some (.int .u64 (cnt X 0 k : Nat)) := (HM.out.b1.other (Ne.symm NE.out.1.1) _ _).cell 1 _ rfl
        have f1' : (wr.setCell ⟨sb, q, none⟩ (.int .u64 ((N ||| 2 ^ r : Nat) : Int))).frozen? ⟨m, 1, none⟩ = false := (HM.out.b1.other (Ne.symm NE.out.1.1) _ _).fz 1
        obtain ⟨C, hC⟩ : ∃ C : Int, ((cnt X 0 k : Nat) : Int) = C := ⟨_, rfl⟩
        rw [hC] at m1 m1' FIN
        have C0 : 0 ≤ C := by omega
        have C1 : C < 65536 := by omega
        generalize N ||| 2 ^ r = V at *
        clear hC cn hq hr HM x
        go_wp2_with fail
        refine still_tail 10 (by kernel_rfl) (by kernel_rfl) ?_
        simp only [List.take_succ_cons, List.take_zero, List.drop_succ_cons, List.drop_zero]
        repeat still_step
        refine wpStill_nil ?_
        go_wp2_with fail
        exact ⟨⟨k + 1, by rw [Int.natCast_add]; rfl, by omega, FIN⟩, by simp [zi]; omega⟩
      · have x' : X k = false := by simpa using x
        rw [x'] at c0
        have FIN := hide (HM.out.skip x')
        clear HM x x'
        go_wp2_with fail
        exact ⟨⟨k + 1, by rw [Int.natCast_add]; rfl, by omega, FIN⟩, by simp [zi]; omega⟩
    · have d : decide ((k : Int) < (len : Int)) = false := decide_eq_false (by omega)
      obtain rfl : k = len := by omega
      have y0 : wr.cell? ⟨rb, 0, none⟩ = some (.int .u64 0) := HM.out.b0.cell 0 _ rfl
      have y1 : wr.cell? ⟨rb, 1, none⟩ = some (.int .u64 0) := HM.out.b0.cell 1 _ rfl
      have y2 : wr.cell? ⟨rb, 2, none⟩ = some (.slice none 0 0) := HM.out.b0.cell 2 _ rfl
      have g0 := HM.out.b0.fz 0
      have g1 := HM.out.b0.fz 1
      have g2 := HM.out.b0.fz 2
      have m0 : wr.cell? ⟨m, 0, none⟩ = some (.int .u64 (k : Nat)) := HM.out.b1.cell 0 _ rfl
      have m1 : wr.cell? ⟨m, 1, none⟩ = some (.int .u64 (cnt X 0 k : Nat)) := HM.out.b1.cell 1 _ rfl
      have m2 : wr.cell? ⟨m, 2, none⟩ = some (.slice (some ⟨sb, 0, none⟩) L L) := HM.out.b1.cell 2 _ rfl
      have FI := hide (fun (w3 : World) => HM.out.fin (w3 := w3) (x := .int .u64 (k : Nat)) (y := .int .u64 (cnt X 0 k : Nat)) (z := .slice (some ⟨sb, 0, none⟩) L L) NE.out.1.2.1 (by rw [HRB.out]; exact Nat.le_refl _))
      clear HM
      go_wp2_with fail
      obtain ⟨f1, f2, f3⟩ := FI.out _ rfl
      refine bodyPost_ret (results_c Try.results35 _ _ ⟨rb, 0, none⟩ _ rfl (load_mask f1)) rfl ?_
      rw [HR.out]
      exact ⟨sb, rfl, by rw [HRB.out]; exact NE.out.2.1, f2, f3⟩
end Go.Proofs.Ytnhllnepnpmegaa

/- The forms of package masks: formOf: contract. -/
namespace Go.Proofs.Ytnhllnepnpmegaa
open Go.ChangeShapes Go.WideShapes Go.ChangeAt Go.RowKit Go.Shelf Go.Proofs.Rx Go.Maps Go.Proofs.Bt
set_option linter.unusedVariables false
set_option linter.unusedSimpArgs false

attribute [local go_sem] Oper.semAt_some

theorem BoolsAt.below {W W' : World} {o : Option Addr} {len cap : Nat} {X : Nat → Bool} (h : BoolsAt W o len cap X) (k : Below W.heap.size W W') : BoolsAt W' o len cap X := by
  refine ⟨h.nil, fun ad e i hi => ?_⟩
  obtain ⟨b, f, rfl, hb, hc⟩ := h.at hi
  obtain rfl : (⟨b, f, none⟩ : Addr) = ad := by injection e
  rw [addr_add0]
  exact (k.cell (p := ⟨b, f + i, none⟩) hb).trans (hc i hi)
theorem cut_cnt (X : Nat → Bool) (len : Nat) : cnt (cutF X len) 0 len = cnt X 0 len := cnt_congr fun k hk => by unfold cutF; rw [decide_eq_true (by omega)]; rfl
/-- A form of things. -/
def FormR (fi len n : Nat) (X : Nat → Bool) (W : World) (e : Ending) (W' : World) : Prop := ∃ T u g fb, e = .returned (.iface T u) ∧ FormAt W' T u g fb ∧ (∀ x, g x = thF fi len n (cutF X len) x) ∧ (∀ z ∈ fb, W.heap.size ≤ z) ∧ Below W.heap.size W W'
theorem formR_none {fi len n : Nat} {X : Nat → Bool} {W W' : World} (h : n = 0 ∨ cnt X 0 len = 0) (hl : 1 ≤ len) (k : Below W.heap.size W W') : FormR fi len n X W (.returned (.iface 65 (.agg #[]))) W' := by
  refine ⟨_, _, _, _, rfl, .none, fun x => ?_, fun z hz => (by cases hz), k⟩
  unfold thF
  rcases h with rfl | h
  · rw [Nat.zero_mul, decide_eq_false (by omega)]; rfl
  · have := cnt_zero.1 h ((x - fi) % len) (Nat.mod_lt _ (by omega))
    rw [Nat.zero_add] at this
    unfold cutF
    rw [this]; simp
set_option maxRecDepth 100000 in
theorem formOf_any {W : World} {o : Option Addr} {len cap : Nat} {X : Nat → Bool} (h : BoolsAt W o len cap X) (h1 : 1 ≤ len) (h2 : len ≤ 65536) (fi n : Nat) (lim : fi + n * len ≤ 35184372088832) (wv : Int) :
    Calls Try.prog 24 #[.int .u64 (fi : Nat), .agg #[.int .i64 wv, .slice o len cap], .int .u64 (n : Nat)] W (FormR fi len n X W) := by
  obtain ⟨WA, hWA⟩ : ∃ WA, W.alloc (.cells #[.int .i64 wv, .slice o len cap] 34) = WA := ⟨_, rfl⟩
  have kb : Bk WA W.heap.size 34 #[.int .i64 wv, .slice o len cap] := by rw [← hWA]; exact World.alloc_heap_new W _
  have bA : Below W.heap.size W WA := by rw [← hWA]; exact below_alloc W _
  have a1 := kb.cell 1 _ rfl
  have CM := hide (maskOf_any (h.below bA) h1 h2)
  have E0 := hide (show ∀ W1, Below WA.heap.size WA W1 → n = 0 ∨ cnt X 0 len = 0 → ∀ v, FormR fi len n X W (.returned (.iface 65 (.agg #[]))) (W1.alloc v) from fun W1 k c v => formR_none c h1 ((bA.trans (k.mono bA.size)).trans ((below_alloc W1 v).mono (by have := bA.size; have := k.size; omega))))
  have E1 := hide (show ∀ W1 sb v, Below WA.heap.size WA W1 → WA.heap.size ≤ sb → Vec W1 sb ((len + 63) / 64) 31 (strips (cutF X len)) → FormR fi len n X W (.returned (.iface 74 (.pointer (some ⟨W1.heap.size + 1, 0, none⟩)))) ((W1.alloc v).alloc (.cells #[.int .u64 (fi : Nat), .int .u64 (len : Nat), .int .u64 (cnt X 0 len : Nat), .slice (some ⟨sb, 0, none⟩) ((len + 63) / 64) ((len + 63) / 64), .int .u64 (n : Nat)] 76)) from fun W1 sb v k s1 vv => by
    rw [show W1.heap.size + 1 = (W1.alloc v).heap.size by simp]
    have q1 := below_alloc W1 v
    have q2 := below_alloc (W1.alloc v) (.cells #[.int .u64 (fi : Nat), .int .u64 (len : Nat), .int .u64 (cnt X 0 len : Nat), .slice (some ⟨sb, 0, none⟩) ((len + 63) / 64) ((len + 63) / 64), .int .u64 (n : Nat)] 76)
    have sA := bA.size
    have s2 := k.size
    have s3 := q1.size
    refine ⟨_, _, _, _, rfl, .things _ sb fi len n (cutF X len) ⟨?_, (vv.below q1).below q2, h1, h2, lim⟩, fun _ => rfl, fun z hz => ?_, ((bA.trans (k.mono sA)).trans (q1.mono (by omega))).trans (q2.mono (by omega))⟩
    · rw [cut_cnt]; exact World.alloc_heap_new _ _
    · simp only [List.mem_cons, List.mem_nil_iff, or_false] at hz
      rcases hz with hz | hz
      · rw [hz]; omega
      · rw [hz]; omega)
  obtain ⟨R, hR⟩ : ∃ R, FormR fi len n X W = R := ⟨_, rfl⟩
  rw [hR] at E0 E1 ⊢
  have HWA := hide hWA
  obtain ⟨ab, hab⟩ : ∃ ab, W.heap.size = ab := ⟨_, rfl⟩
  have HAB := hide hab
  rw [hab] at a1
  have pl := cnt_le X 0 len
  obtain ⟨PT, hPT⟩ : ∃ PT, cnt X 0 len = PT := ⟨_, rfl⟩
  rw [hPT] at E0 E1 CM pl
  have PT0 : (0 : Int) ≤ (PT : Int) := by omega
  have PT1 : (PT : Int) ≤ 65536 := by omega
  clear hR hWA hab kb bA h lim hPT
  by_cases c : n = 0
  · have d : (((n : Nat) : Int) == 0) = true := by rw [beq_iff_eq]; omega
    have EE := hide (fun W1 k v => E0.out W1 k (.inl c) v)
    clear c E0 E1
    go_enter Try.func24, Try.ntmps24
    go_upto_region 1 with fail
    rw [HWA.out, HAB.out]
    go_wp2_with fail
    refine CM.out.mono ?_
    rintro e W1 ⟨sb, rfl, s1, vv, k1⟩
    have FF := hide (EE.out W1 k1)
    clear s1 vv k1 CM a1 EE
    go_wp2_with fail
    first | exact FF.out _ | (go_ret; exact FF.out _)
  · have d : (((n : Nat) : Int) == 0) = false := by rw [beq_eq_false_iff_ne]; omega
    by_cases c2 : PT = 0
    · have d2 : (((PT : Nat) : Int) == 0) = true := by rw [beq_iff_eq]; omega
      have EE := hide (fun W1 k v => E0.out W1 k (.inr c2) v)
      clear c c2 E0 E1
      go_enter Try.func24, Try.ntmps24
      go_upto_region 1 with fail
      rw [HWA.out, HAB.out]
      go_wp2_with fail
      refine CM.out.mono ?_
      rintro e W1 ⟨sb, rfl, s1, vv, k1⟩
      have FF := hide (EE.out W1 k1)
      clear s1 vv k1 CM a1 EE
      go_wp2_with fail
      first | exact FF.out _ | (go_ret; exact FF.out _)
    · have d2 : (((PT : Nat) : Int) == 0) = false := by rw [beq_eq_false_iff_ne]; omega
      clear c c2 E0
      go_enter Try.func24, Try.ntmps24
      go_upto_region 1 with fail
      rw [HWA.out, HAB.out]
      go_wp2_with fail
      refine CM.out.mono ?_
      rintro e W1 ⟨sb, rfl, s1, vv, k1⟩
      have FF := hide (fun v => E1.out W1 sb v k1 s1 vv)
      clear s1 vv k1 CM a1 E1
      go_wp2_with fail
      first | exact FF.out _ | (go_ret; exact FF.out _)
end Go.Proofs.Ytnhllnepnpmegaa

/- Package masks: how masks lie; layPart: contract. -/
namespace Go.Proofs.Ytnhllnepnpmegaa
open Go.ChangeShapes Go.WideShapes Go.ChangeAt Go.RowKit Go.Shelf Go.Proofs.Rx Go.Maps Go.Proofs.Bt
set_option linter.unusedVariables false
set_option linter.unusedSimpArgs false

attribute [local go_sem] Oper.semAt_some

theorem FormAt.types {W : World} {T : Nat} {u : Value} {g : Nat → Bool} {fb : List Nat} (h : FormAt W T u g fb) : ∀ z ∈ fb, ∃ t vs, Bk W z t vs ∧ (t = 84 ∨ t = 76 ∨ t = 31) := by
  cases h with
  | none => intro z hz; cases hz
  | place b hb h =>
    intro z hz
    simp at hz
    obtain ⟨vs, b', _⟩ := h.ex
    exact ⟨_, vs, by rw [hz]; exact b', .inl rfl⟩
  | things b sb fi wds m mb h =>
    intro z hz
    simp at hz
    rcases hz with rfl | rfl
    · exact ⟨_, _, h.bk, .inr (.inl rfl)⟩
    · obtain ⟨vs, b', _⟩ := h.row.ex
      exact ⟨_, vs, b', .inr (.inr rfl)⟩
theorem bk_type {W : World} {z t t' : Nat} {vs vs' : Array Value} (h : Bk W z t vs) (k : Bk W z t' vs') : t = t' := by
  unfold Bk at h k
  rw [h] at k
  injection k with k
  injection k
/-- Masks at block m. -/
structure MkAt (W : World) (m : Nat) (t : Tr) : Prop where
  bk : Bk W m 53 #[t.ptr]
  ok : TrOk W t
section
variable {W W' : World} {m : Nat} {t : Tr}
theorem MkAt.notB (h : MkAt W m t) : ¬ inB t.list m := fun ⟨x, hx, e⟩ => by
  obtain ⟨vs, hv⟩ := h.ok.at_.type x hx
  rw [e] at hv
  exact absurd (bk_type h.bk hv) (by decide)
theorem MkAt.notF (h : MkAt W m t) {T : Nat} {u : Value} {g : Nat → Bool} {fb : List Nat} (hf : FormAt W T u g fb) : ∀ z ∈ fb, ¬ (z = m ∨ inB t.list z) := fun z hz hin => by
  obtain ⟨ty, vs, hv, ht⟩ := hf.types z hz
  rcases hin with rfl | ⟨x, hx, e⟩
  · have := bk_type h.bk hv
    rw [← this] at ht
    exact absurd ht (by decide)
  · obtain ⟨vs', hv'⟩ := h.ok.at_.type x hx
    rw [e] at hv'
    have := bk_type hv' hv
    rw [← this] at ht
    exact absurd ht (by decide)
theorem MkAt.below (h : MkAt W m t) (k : Below W.heap.size W W') : MkAt W' m t := ⟨h.bk.below k, h.ok.below k⟩
end
/-- What laying leaves. -/
def LayR (m : Nat) (t : Tr) (first en : Nat) (g : Nat → Bool) (fb : List Nat) (W : World) (e : Ending) (W' : World) : Prop := e = .returned (.tuple #[]) ∧ ∃ t', MkAt W' m t' ∧ (∀ w, fnOf t'.list w = if first ≤ w ∧ w < en then g w else fnOf t.list w) ∧
  (∀ x ∈ t'.list, (inB t.list x.b ∨ W.heap.size ≤ x.b) ∧ ((∃ y ∈ t.list, y.fb = x.fb) ∨ x.fb = fb ∨ ∀ z ∈ x.fb, W.heap.size ≤ z)) ∧ Kept (fun z => z = m ∨ inB t.list z) W W'
/-- A put and its store. -/
theorem lay_put {W0 W W1 : World} {m : Nat} {t t' : Tr} {first en : Nat} {g : Nat → Bool} {T : Nat} {u : Value} {g2 : Nat → Bool} {fb fb2 : List Nat} {f1 e1 : Nat} (h0 : MkAt W0 m t) (k0 : Below W0.heap.size W0 W) (h2 : PutR t f1 e1 (T, u, g2, fb2) W (.returned t'.ptr) W1)
    (hg : ∀ w, (if f1 ≤ w ∧ w < e1 then g2 w else fnOf t.list w) = if first ≤ w ∧ w < en then g w else fnOf t.list w) (hb : fb2 = fb ∨ ∀ z ∈ fb2, W0.heap.size ≤ z) : ∀ q, t'.ptr = .pointer q → LayR m t first en g fb W0 (.returned (.tuple #[])) (W1.setCell ⟨m, 0, none⟩ (.pointer q)) := by
  intro q hq
  obtain ⟨s, es, ok, fn, fr, k⟩ := h2
  have h := h0.below k0
  have sz := k0.size
  have bk1 : Bk W1 m 53 #[t.ptr] := h.bk.kept k h.notB
  have ks := kept_set (F := fun z => z = m) W1 m 0 (.pointer q) rfl
  have ptr : s.ptr = .pointer q := by injection es with es; rw [← es, hq]
  have nm : ∀ x ∈ s.list, ¬ x.b = m := fun x hx e => by
    obtain ⟨vs, hv⟩ := ok.at_.type x hx
    rw [e] at hv
    exact absurd (bk_type bk1 hv) (by decide)
  have nf : ∀ x ∈ s.list, ∀ z ∈ x.fb, ¬ z = m := fun x hx z hz e => by
    obtain ⟨ty, vs, hv, ht⟩ := FormAt.types (ok.fm x hx) z hz
    rw [e] at hv
    have := bk_type bk1 hv
    rw [← this] at ht
    exact absurd ht (by decide)
  refine ⟨rfl, s, ⟨?_, ok.kept ks nm nf⟩, fun w => by rw [fn w]; exact hg w, fun x hx => ?_, ?_⟩
  · have := bk1.set 0 (.pointer q)
    rw [ptr]; exact this
  · obtain ⟨a, b⟩ := fr x hx
    refine ⟨a.imp (fun h => h) (fun h => Nat.le_trans sz h), ?_⟩
    rcases b with ⟨y, hy, ey⟩ | b
    · exact .inl ⟨y, hy, by have := congrArg (fun q => q.2.2.2) ey; exact this⟩
    · have e : x.fb = fb2 := congrArg (fun q => q.2.2.2) b
      rw [e]
      exact .inr hb
  · exact ((Kept.of_below k0).trans (k.mono fun z hz => .inr hz) (fun _ _ h => h)).trans (ks.mono fun z hz => .inl hz) (fun _ _ h => h)
/-- The bits of a window, of one form in a row, else of what is there. -/
def winF (g f : Nat → Bool) (wi first en x : Nat) : Bool := if first ≤ wi + x ∧ wi + x < en then g (wi + x) else f (wi + x)
theorem win_strip (g f f0 : Nat → Bool) (wi first en i : Nat) (hi : i < 8) (hs : ∀ x, x < 512 → f0 (wi + x) = f (wi + x)) (hw : wi % 64 = 0) :
    andn (wd (fun k => f0 (64 * (wi / 64 + i) + k)) 64) (prt (wi / 64 + i) first en) ||| (wd (fun k => g (64 * (wi / 64 + i) + k)) 64 &&& prt (wi / 64 + i) first en) = wd (fun k => winF g f wi first en (64 * i + k)) 64 := by
  rw [wd_mix]
  refine wd_congr fun k hk => ?_
  unfold winF
  rw [show 64 * (wi / 64 + i) + k = wi + (64 * i + k) by omega]
  split
  · rfl
  · exact hs _ (by omega)
theorem strips_word {X : Nat → Bool} {i : Nat} (j : Nat) : strips (cutF X (64 * (i + 1))) j = if j = i then .int .u64 ((wd (fun k => X (64 * i + k)) 64 : Nat) : Int) else strips (cutF X (64 * i)) j := by
  unfold strips
  split
  · rename_i h
    subst h
    congr 2
    exact wd_congr fun k hk => by unfold cutF; rw [decide_eq_true (by omega)]; rfl
  · rename_i h
    congr 2
    exact wd_congr fun k hk => by
      unfold cutF
      congr 1
      rw [Bool.eq_iff_iff]; simp; omega
end Go.Proofs.Ytnhllnepnpmegaa
