/- Package radix: at, Sum: contracts. -/
import Derived.Test.YtnpimmjkmclkpaaDoorXy
namespace Go.Proofs.YtnpimmjkmclkpaaDoor
open Go.ChangeShapes Go.WideShapes Go.ChangeAt Go.RowKit Go.Proofs.Bt Go.Shelf Go.Proofs.Rx Go.Maps Go.Proofs.Pk
set_option linter.unusedVariables false
set_option linter.unusedSimpArgs false

/-- The row at a depth that a row further down lies in. -/
def up (D i k : Nat) : Nat := i / 2 ^ (sh k - sh D)
theorem sh_le {k D : Nat} (hD : D ≤ 6) (h : k ≤ D) : sh D ≤ sh k := by
  have : ∀ D, D ≤ 6 → ∀ k, k ≤ D → sh D ≤ sh k := by decide
  exact this D hD k h
theorem fan_sh {k : Nat} (h : k < 6) : fan k = 2 ^ (sh k - sh (k + 1)) := by
  have : ∀ k, k < 6 → fan k = 2 ^ (sh k - sh (k + 1)) := by decide
  exact this k h
theorem up_kid {D i k : Nat} (hD : D ≤ 6) (h : k < D) : fan k * up D i k ≤ up D i (k + 1) ∧ up D i (k + 1) < fan k * (up D i k + 1) := by
  have h1 := sh_le hD (show k + 1 ≤ D by omega)
  have h2 := sh_le (show k + 1 ≤ 6 by omega) (show k ≤ k + 1 by omega)
  have e : up D i k = up D i (k + 1) / fan k := by
    unfold up
    rw [fan_sh (by omega), Nat.div_div_eq_div_mul, ← Nat.pow_add]
    congr 2
    omega
  have hp := fan_pos k
  rw [e]
  constructor
  · rw [Nat.mul_comm]; exact Nat.div_mul_le_self _ _
  · rw [Nat.mul_succ, Nat.mul_comm]; exact Nat.lt_div_mul_add hp
theorem up_self (D i : Nat) : up D i D = i := by unfold up; rw [Nat.sub_self, Nat.pow_zero, Nat.div_one]
theorem up_zero {D i : Nat} (hD : D ≤ 6) (hi : (i + 1) * sz D ≤ 34359738368) : up D i 0 = 0 := by
  unfold up
  have e : sz D * 2 ^ (sh 0 - sh D) = 34359738368 := by
    have : ∀ D, D ≤ 6 → sz D * 2 ^ (sh 0 - sh D) = 34359738368 := by decide
    exact this D hD
  apply Nat.div_eq_of_lt
  have hp := sz_pos D
  rw [← e, Nat.mul_comm (sz D)] at hi
  have := Nat.le_of_mul_le_mul_right hi hp
  omega
theorem Good.down {L : Lv} {C : Ch} {st : Nat → Nat} {D i k : Nat} {r : Rw} (hD : D ≤ 6) (h : k < D) (g : Rx.Good L C st (6 - k) k (up D i k) r) : Rx.Good L C st (6 - (k + 1)) (k + 1) (up D i (k + 1)) (row L (k + 1) (up D i (k + 1)) r.rest) := by
  obtain ⟨m, hm⟩ : ∃ m, 6 - k = m + 1 := ⟨6 - k - 1, by omega⟩
  rw [hm] at g
  have := g.kid (up_kid hD h).1 (up_kid hD h).2
  rwa [show 6 - (k + 1) = m by omega]
theorem shr_nat (i n : Nat) (hn : n ≤ 40) (w : World) : Sem.run Tryd.prog (Op.shift BinOp.shr .u64 (i : Int) .i64 ((n : Nat) : Int)) w = .ok (.int .u64 ((i / 2 ^ n : Nat) : Int)) w := by
  unfold Op.shift
  rw [if_neg (by omega)]
  have e : min (((n : Nat) : Int)).toNat (IntKind.u64.bits) = n := by
    have : IntKind.u64.bits = 64 := rfl
    rw [this, Int.toNat_natCast]; omega
  simp only [e, Sem.run_pure]
  congr 2
  rw [Int.fdiv_eq_ediv_of_nonneg _ (by exact Int.pow_nonneg (by decide)), Int.natCast_ediv, Int.natCast_pow]
  rfl
/-- Where at stands between two rounds. -/
structure AtI (N V : Nat) (w X : World) (L : Lv) (C : Ch) (st : Nat → Nat) (D i k : Nat) (r : Rw) : Prop where
  be : Below N w X
  rs : Bk X N 60 #[.int .u64 0, .int .u64 0, .int .u64 0, .int .i64 0, .int .i64 0, .int .i64 0, .int .i64 0]
  rv : Bk X V 60 #[.int .u64 (r.t.p : Nat), .int .u64 (r.t.f : Nat), .int .u64 (r.t.r : Nat), .int .i64 (r.s : Nat), .int .i64 (r.m : Nat), .int .i64 (r.e : Nat), .int .i64 (r.rest : Nat)]
  gd : Rx.Good L C st (6 - k) k (up D i k) r
set_option maxRecDepth 100000 in
set_option maxHeartbeats 2000000 in
theorem at_core {w : World} {T : Tid} {L : Lv} {C : Ch} {st : Nat → Nat} (h : Tree w T L C st) (D i : Nat) (hD : 3 ≤ D ∧ D ≤ 6) (hi : (i + 1) * sz D ≤ 34359738368) :
    Calls Tryd.prog 27 #[tp T, .int .i64 (D : Nat), .int .u64 (i : Nat)] w fun e w' => (∃ r, Fact st D i r ∧ e = .returned (rwV r)) ∧ Below w.heap.size w w' := by
  obtain ⟨R, hR⟩ : ∃ R, R = (fun (e : Ending) (w' : World) => (∃ r, Fact st D i r ∧ e = .returned (rwV r)) ∧ Below w.heap.size w w') := ⟨_, rfl⟩
  rw [← hR]
  have HR := hide hR
  obtain ⟨N, hN⟩ : ∃ N, w.heap.size = N := ⟨_, rfl⟩
  have HN := hide hN
  have HH := hide h
  have i1 : i < 34359738368 := by
    have : i + 1 ≤ (i + 1) * sz D := Nat.le_mul_of_pos_right _ (sz_pos D)
    omega
  have CT := fun X (hX : Below w.heap.size w X) => hide (top_any (h.rad.below hX))
  obtain ⟨r0, hr0⟩ : ∃ r0, row L 0 0 0 = r0 := ⟨_, rfl⟩
  rw [hr0] at CT
  have G0 := hide (show Rx.Good L C st (6 - 0) 0 (up D i 0) r0 from by rw [up_zero hD.2 hi, ← hr0]; exact h.good)
  have HI := hide hi
  unfold tp at CT ⊢
  unfold rwV at CT
  clear hR h hr0 hi
  go_enter Tryd.func27, Tryd.ntmps27
  go_wp2_with fail
  refine (CT _ (grown1 w _)).out.mono ?_
  rintro e w1 ⟨rfl, b1⟩
  obtain ⟨V, hV⟩ : ∃ V, w1.heap.size = V := ⟨_, rfl⟩
  obtain ⟨X0, hX0⟩ : ∃ X0, w1.alloc (.cells #[.int .u64 (r0.t.p : Nat), .int .u64 (r0.t.f : Nat), .int .u64 (r0.t.r : Nat), .int .i64 (r0.s : Nat), .int .i64 (r0.m : Nat), .int .i64 (r0.e : Nat), .int .i64 (r0.rest : Nat)] 60) = X0 := ⟨_, rfl⟩
  have b0 : Below w1.heap.size w1 X0 := by rw [← hX0]; exact grown1 w1 _
  have lV : N < V := by have := b1.size; simp at this; omega
  have I0 := hide (show AtI N V w X0 L C st D i 0 r0 from by
    have c1 : Bk w1 N 60 #[.int .u64 0, .int .u64 0, .int .u64 0, .int .i64 0, .int .i64 0, .int .i64 0, .int .i64 0] := Bk.below (by rw [← HN.out]; exact World.alloc_heap_new w _) b1
    refine ⟨?_, c1.below b0, by rw [← hX0, ← hV]; exact World.alloc_heap_new w1 _, G0.out⟩
    have h1 : Below w.heap.size w w1 := (grown1 w _).trans (b1.mono (by simp))
    rw [← HN.out]
    exact h1.trans (b0.mono h1.size))
  clear b0 b1 CT G0
  go_wp2_with fail
  clear hX0 hV
  go_loopw [8] (fun iv wr => ∃ (k : Nat) (r : Rw), iv = .int .i64 ((k : Int) + 1) ∧ k ≤ D ∧ Hid (AtI N V w wr L C st D i k r)) (fun iv _ => D + 1 - (intOf iv).toNat)
  case atStart => exact ⟨0, r0, rfl, Nat.zero_le _, I0⟩
  case round =>
    clear I0
    obtain ⟨k, r, rfl, hk, HA⟩ := hrel
    by_cases hlt : k < D
    · have TB := hide (HH.out.rad.below (show Below w.heap.size w wr from by rw [HN.out]; exact HA.out.be))
      have t1 := TB.out.tab.2 (k + 1) (by omega)
      have t2 := TB.out.tab.2 D (by omega)
      have GK := hide (Good.down hD.2 hlt HA.out.gd)
      have FR := HA.out.gd.fact.2.2
      have CW := fun (m : Ext wr) => hide (row_any (TB.out.below m.h) (k + 1) (up D i (k + 1)) r.rest (by omega) (by unfold up; have := Nat.div_le_self i (2 ^ (sh (k + 1) - sh D)); omega) FR)
      obtain ⟨q, hq⟩ : ∃ q, row L (k + 1) (up D i (k + 1)) r.rest = q := ⟨_, rfl⟩
      rw [hq] at CW GK
      have y6 := HA.out.rv.cell 6 _ rfl
      have lv := HA.out.rv.lt
      have lt0 := cellLt t1
      have hx := @ext_cell wr
      have hne := ext_ne wr
      have ups : up D i (k + 1) = i / 2 ^ (sh (k + 1) - sh D) := rfl
      unfold tp rwV at CW
      clear hq
      have NX := hide (show ∀ (m : Ext wr) Y, Y = ((((((m.v.setCell ⟨V, 0, none⟩ (.int .u64 (q.t.p : Nat))).setCell ⟨V, 1, none⟩ (.int .u64 (q.t.f : Nat))).setCell ⟨V, 2, none⟩ (.int .u64 (q.t.r : Nat))).setCell ⟨V, 3, none⟩ (.int .i64 (q.s : Nat))).setCell ⟨V, 4, none⟩ (.int .i64 (q.m : Nat))).setCell ⟨V, 5, none⟩ (.int .i64 (q.e : Nat))).setCell ⟨V, 6, none⟩ (.int .i64 (q.rest : Nat)) → AtI N V w Y L C st D i (k + 1) q from fun m Y hY => by
        have kf := kset7 m.v V (.int .u64 (q.t.p : Nat)) (.int .u64 (q.t.f : Nat)) (.int .u64 (q.t.r : Nat)) (.int .i64 (q.s : Nat)) (.int .i64 (q.m : Nat)) (.int .i64 (q.e : Nat)) (.int .i64 (q.rest : Nat))
        have fin := (((((((HA.out.rv.below m.h).set 0 (.int .u64 (q.t.p : Nat))).set 1 (.int .u64 (q.t.f : Nat))).set 2 (.int .u64 (q.t.r : Nat))).set 3 (.int .i64 (q.s : Nat))).set 4 (.int .i64 (q.m : Nat))).set 5 (.int .i64 (q.e : Nat))).set 6 (.int .i64 (q.rest : Nat))
        rw [← hY] at kf fin
        have l9 := HA.out.rs.lt
        have l8 := m.h.size
        exact ⟨below_kept (HA.out.be.trans (m.h.mono (by omega))) kf (fun x hx => by omega) (by omega), (HA.out.rs.below m.h).kept kf (by omega), fin, GK.out⟩)
      have CEL := hide (show ∀ m : Ext wr, (∀ j, j < 7 → ∃ v, m.v.cell? ⟨V, j, none⟩ = some v) ∧ ∀ j, m.v.frozen? ⟨V, j, none⟩ = false from fun m => by
        have b := HA.out.rv.below m.h
        refine ⟨fun j hj => ?_, fun j => b.fz j⟩
        have : j = 0 ∨ j = 1 ∨ j = 2 ∨ j = 3 ∨ j = 4 ∨ j = 5 ∨ j = 6 := by omega
        rcases this with rfl | rfl | rfl | rfl | rfl | rfl | rfl <;> exact ⟨_, b.cell _ _ rfl⟩)
      have LV := hide (show ∀ m : Ext wr, V < m.v.heap.size from fun m => by have := m.h.size; omega)
      have i0 : (0 : Int) ≤ (i : Int) := by omega
      have i2 : (i : Int) < 34359738368 := by omega
      have hsh : ∀ m : Ext wr, Sem.run Tryd.prog (Op.shift BinOp.shr .u64 (i : Int) .i64 (wrap64 (((sh (k + 1) : Nat) : Int) - ((sh D : Nat) : Int)))) m.v = .ok (.int .u64 ((up D i (k + 1) : Nat) : Int)) m.v := fun m => by
        have h1 := sh_le hD.2 (show k + 1 ≤ D by omega)
        have h2 : sh (k + 1) ≤ 35 := by
          have : ∀ k, k ≤ 6 → sh k ≤ 35 := by decide
          exact this (k + 1) (by omega)
        rw [show wrap64 (((sh (k + 1) : Nat) : Int) - ((sh D : Nat) : Int)) = ((sh (k + 1) - sh D : Nat) : Int) by unfold wrap64; omega]
        exact shr_nat i (sh (k + 1) - sh D) (by omega) m.v
      have ka : (0 : Int) ≤ (k : Int) + 1 := by omega
      have kb : (k : Int) + 1 < 7 := by omega
      have kc : ((k : Int) + 1).toNat = k + 1 := by omega
      have kd : (k : Int) + 1 ≤ (D : Int) := by omega
      have ke : decide ((k : Int) + 1 ≤ (D : Int)) = true := decide_eq_true kd
      have Da : (0 : Int) ≤ (D : Int) := by omega
      have Db : (D : Int) < 7 := by omega
      rw [show ((k + 1 : Nat) : Int) = (k : Int) + 1 from rfl] at CW
      obtain ⟨U, hU⟩ : ∃ U : Int, ((up D i (k + 1) : Nat) : Int) = U := ⟨_, rfl⟩
      rw [hU] at CW hsh
      obtain ⟨S1, hS1⟩ : ∃ S1 : Int, ((sh (k + 1) : Nat) : Int) = S1 := ⟨_, rfl⟩
      obtain ⟨S2, hS2⟩ : ∃ S2 : Int, ((sh D : Nat) : Int) = S2 := ⟨_, rfl⟩
      rw [hS1, hS2] at hsh
      rw [hS1] at t1
      rw [hS2] at t2
      clear HA TB GK FR ups hU hS1 hS2
      · go_wp2_with fail
        refine (wpIn_wide (n := 3)).1 (tail_w 14 (by kernel_rfl) (by kernel_rfl) ?_)
        simp only [List.take_succ_cons, List.take_zero, List.drop_succ_cons, List.drop_zero]
        repeat (first | go_big_quiet_step (exact calm_of (CW _).out) | (refine wpQuiet_step (fun K hK => ?_); go_simp; refine hK _ ?_; clear hK K))
        refine wpQuiet_nil ?_
        rintro _ ⟨n1, rfl⟩
        have FF := NX.out n1 _ rfl
        obtain ⟨cc, fz⟩ := CEL.out n1
        obtain ⟨a0, e0⟩ := cc 0 (by decide)
        obtain ⟨a1, e1⟩ := cc 1 (by decide)
        obtain ⟨a2, e2⟩ := cc 2 (by decide)
        obtain ⟨a3, e3⟩ := cc 3 (by decide)
        obtain ⟨a4, e4⟩ := cc 4 (by decide)
        obtain ⟨a5, e5⟩ := cc 5 (by decide)
        obtain ⟨a6, e6⟩ := cc 6 (by decide)
        have l1 := LV.out n1
        have FFH := hide FF
        clear FF cc CW hx hne t1 t2 y6 NX CEL LV
        generalize n1.v = Y1 at *
        gi_wp2_with fail
        go_wp2_with fail
        go_roundw
        case rel => exact ⟨k + 1, q, by go_num, by omega, FFH⟩
        case measure => simp [intOf]; omega
    · obtain rfl : k = D := by omega
      have d0 : ¬ ((k : Int) + 1 ≤ (k : Int)) := by omega
      have d1 : decide ((k : Int) + 1 ≤ (k : Int)) = false := decide_eq_false d0
      have F := hide (show ∀ X, Below N w X → R (.returned (rwV r)) X from fun X hX => by
        rw [HR.out]
        have g := HA.out.gd
        rw [up_self] at g
        exact ⟨⟨r, g.fact, rfl⟩, by rw [HN.out]; exact hX⟩)
      have v0 := HA.out.rv.cell 0 _ rfl
      have v1 := HA.out.rv.cell 1 _ rfl
      have v2 := HA.out.rv.cell 2 _ rfl
      have v3 := HA.out.rv.cell 3 _ rfl
      have v4 := HA.out.rv.cell 4 _ rfl
      have v5 := HA.out.rv.cell 5 _ rfl
      have v6 := HA.out.rv.cell 6 _ rfl
      have x0 := HA.out.rs.cell 0 _ rfl
      have x1 := HA.out.rs.cell 1 _ rfl
      have x2 := HA.out.rs.cell 2 _ rfl
      have x3 := HA.out.rs.cell 3 _ rfl
      have x4 := HA.out.rs.cell 4 _ rfl
      have x5 := HA.out.rs.cell 5 _ rfl
      have x6 := HA.out.rs.cell 6 _ rfl
      obtain ⟨z0, z1, z2, z3, z4, z5, z6⟩ := frozen7 HA.out.rs.fz
      have l0 := HA.out.rs.lt
      go_wp2_with fail
      have fin := ((((((HA.out.rs.set 0 (.int .u64 (r.t.p : Nat))).set 1 (.int .u64 (r.t.f : Nat))).set 2 (.int .u64 (r.t.r : Nat))).set 3 (.int .i64 (r.s : Nat))).set 4 (.int .i64 (r.m : Nat))).set 5 (.int .i64 (r.e : Nat))).set 6 (.int .i64 (r.rest : Nat))
      have kf := kset7 wr N (.int .u64 (r.t.p : Nat)) (.int .u64 (r.t.f : Nat)) (.int .u64 (r.t.r : Nat)) (.int .i64 (r.s : Nat)) (.int .i64 (r.m : Nat)) (.int .i64 (r.e : Nat)) (.int .i64 (r.rest : Nat))
      exact bodyPost_ret (results_c Tryd.results27 _ _ ⟨N, 0, none⟩ (rwV r) rfl (row7 fin)) rfl (F.out _ (below_kept HA.out.be kf (fun x hx => by omega) (by omega)))
end Go.Proofs.YtnpimmjkmclkpaaDoor
