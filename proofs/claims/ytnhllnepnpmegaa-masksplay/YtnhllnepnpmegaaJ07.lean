/- J07 of the proof of both laws: texts Fp, Ty, Gd, one behind the other. -/
import Derived.Test.YtnhllnepnpmegaaJ04
import Derived.Test.YtnhllnepnpmegaaJ06
/- The forms of package masks: in place; all forms; newPiece: contracts. -/
namespace Go.Proofs.Ytnhllnepnpmegaa
open Go.ChangeShapes Go.WideShapes Go.ChangeAt Go.RowKit Go.Shelf Go.Proofs.Rx Go.Maps Go.Proofs.Bt
set_option linter.unusedVariables false
set_option linter.unusedSimpArgs false

attribute [local go_sem] Oper.semAt_some

section
variable {W W' : World} {b : Nat} {hb : Nat → Bool}
def plF (hb : Nat → Bool) (x : Nat) : Bool := hb (x % 512)
set_option maxRecDepth 100000 in
theorem plstrip_any (h : Vec W b 8 84 (strips hb)) (S : Nat) (hS : S < 549755813888) : Calls Try.prog 75 #[.pointer (some ⟨b, 0, none⟩), .int .u64 ((64 * S : Nat) : Int)] W fun e W' => e = .returned (.int .u64 (wd (fun k => plF hb (64 * S + k)) 64 : Nat)) ∧ W' = W := by
  have x1 := h.cell (S % 8) (by omega)
  have e : wd (fun k => plF hb (64 * S + k)) 64 = wd (fun i => hb (64 * (S % 8) + i)) 64 := wd_congr fun k hk => by unfold plF; congr 1; omega
  rw [e]
  unfold strips at x1
  have lt := wd_lt (fun i => hb (64 * (S % 8) + i)) (Nat.le_refl 64)
  generalize wd (fun i => hb (64 * (S % 8) + i)) 64 = N at *
  obtain ⟨q, hq⟩ : ∃ q : Nat, S % 8 = q := ⟨_, rfl⟩
  obtain ⟨X, hX⟩ : ∃ X : Int, ((64 * S : Nat) : Int) = X := ⟨_, rfl⟩
  obtain ⟨Y, hY⟩ : ∃ Y : Int, X % 512 = Y := ⟨_, rfl⟩
  have t1 : Y / 64 = (q : Int) := by omega
  have y0 : 0 ≤ Y := by omega
  have y1 : Y < 512 := by omega
  have x0 : 0 ≤ X := by omega
  have xl : X < 35184372088832 := by omega
  have q8 : q < 8 := by omega
  have q9 : (q : Int) < 8 := by omega
  have q0 : (0 : Int) ≤ (q : Int) := by omega
  rw [hX]
  rw [hq] at x1
  clear hX hq e lt h hS
  go_enter Try.func75, Try.ntmps75
  go_wp2_with fail
  go_ret
  exact ⟨rfl, rfl⟩
set_option maxRecDepth 100000 in
set_option maxHeartbeats 1000000 in
theorem plcount_any (h : Vec W b 8 84 (strips hb)) (x y : Nat) (hxy : x ≤ y) (hy : y ≤ 35184372088832) : Calls Try.prog 74 #[.pointer (some ⟨b, 0, none⟩), .int .u64 (x : Nat), .int .u64 (y : Nat)] W fun e W' => e = .returned (.int .u64 (cnt (plF hb) x (y - x) : Nat)) ∧ W' = W := by
  obtain ⟨R, hR⟩ : ∃ R : Ending → World → Prop, R = fun e W' => e = .returned (.int .u64 (cnt (plF hb) x (y - x) : Nat)) ∧ W' = W := ⟨_, rfl⟩
  rw [← hR]
  have FIN := hide (show ∀ (k : Nat), y ≤ 64 * k → R (.returned (.int .u64 (cnt (plF hb) x (min (64 * k) y - x) : Nat))) W from fun k h => by rw [hR, show min (64 * k) y = y by omega]; exact ⟨rfl, rfl⟩)
  clear hR
  have CS := hide (fun (k : Nat) (hk : k < 549755813888) => plstrip_any h k hk)
  have CW := hide (fun (k : Nat) (hk : k < 549755813888) => within_any k x y (by omega) (by omega) (by omega) W)
  have CO := hide (fun (x : Nat) (hx : x < 18446744073709551616) => ones_any x hx W)
  have CB := hide (stripOf_any x (by omega) W)
  have STEP := hide (show ∀ k, x / 64 ≤ k → 64 * k < y → cnt (plF hb) x (min (64 * k) y - x) + pc (wd (fun j => plF hb (64 * k + j)) 64 &&& prt k x y) = cnt (plF hb) x (min (64 * (k + 1)) y - x) from fun k h1 hk => by
    rw [strip_cnt]
    by_cases c : 64 * k ≤ x
    · rw [show min (64 * k) y - x = 0 by omega, show max (64 * k) x = x by omega, show 64 * (k + 1) = 64 * k + 64 by omega]
      show 0 + _ = _
      rw [Nat.zero_add]
    · rw [show max (64 * k) x = x + (64 * k - x) by omega, show min (64 * k) y - x = 64 * k - x by omega, ← cnt_add]
      congr 1; omega)
  have LE := hide (show ∀ k, cnt (plF hb) x (min (64 * k) y - x) ≤ 35184372088832 from fun k => by have := cnt_le (plF hb) x (min (64 * k) y - x); omega)
  obtain ⟨X, hX⟩ : ∃ X : Int, (x : Int) = X := ⟨_, rfl⟩
  obtain ⟨Y, hY⟩ : ∃ X : Int, (y : Int) = X := ⟨_, rfl⟩
  have HY := hide hY
  have i0 : 0 ≤ Y := by omega
  have i1 : Y ≤ 35184372088832 := by omega
  have j0 : 0 ≤ X := by omega
  have j1 : X ≤ 35184372088832 := by omega
  obtain ⟨B, hB⟩ : ∃ X : Int, ((64 * (x / 64) : Nat) : Int) = X := ⟨_, rfl⟩
  have HB := hide hB
  rw [hB, hX] at CB
  rw [hX, hY]
  simp only [hX, hY] at CW
  clear hX hY hB h
  go_enter Try.func74, Try.ntmps74
  go_wp2_with fail
  refine CB.out.mono ?_
  rintro e w' ⟨rfl, hw⟩; rw [hw]; clear hw w' CB
  go_wp2_with fail
  go_loopw [7, 8] (fun vn va wr => ∃ k : Nat, va = .int .u64 ((64 * k : Nat) : Int) ∧ vn = .int .i64 (cnt (plF hb) x (min (64 * k) y - x) : Nat) ∧ 64 * k < y + 64 ∧ x / 64 ≤ k ∧ Hid (wr = W)) (fun vn va _ => y + 64 - (zi va).toNat)
  case atStart => exact ⟨x / 64, by rw [HB.out], by rw [show min (64 * (x / 64)) y - x = 0 by omega]; rfl, by omega, Nat.le_refl _, hide rfl⟩
  case round =>
    obtain ⟨k, rfl, rfl, hk, hk2, HJ⟩ := hrel
    have hj := HJ.out
    subst hj
    clear HJ
    by_cases hlt : 64 * k < y
    · have d : decide (((64 * k : Nat) : Int) < Y) = true := decide_eq_true (by have := HY.out; omega)
      have lt := wd_lt (fun i => plF hb (64 * k + i)) (Nat.le_refl 64)
      have ST := STEP.out k hk2 hlt
      have l1 := LE.out k
      have l2 := LE.out (k + 1)
      have hbb := w_and (wd (fun i => plF hb (64 * k + i)) 64) (prt k x y) lt (prt_lt _ _ _)
      have CO1 := hide (CO.out (wd (fun i => plF hb (64 * k + i)) 64 &&& prt k x y) (and_lt _ lt))
      have CW1 := hide (CW.out k (by omega))
      have CS1 := hide (CS.out k (by omega))
      generalize wd (fun i => plF hb (64 * k + i)) 64 = N at *
      generalize prt k x y = PR at *
      generalize pc (N &&& PR) = D at *
      obtain ⟨Z, hZ⟩ : ∃ Z : Int, ((N &&& PR : Nat) : Int) = Z := ⟨_, rfl⟩
      rw [hZ] at hbb CO1
      obtain ⟨C, hC⟩ : ∃ C : Int, ((cnt (plF hb) x (min (64 * k) y - x) : Nat) : Int) = C := ⟨_, rfl⟩
      obtain ⟨C', hC'⟩ : ∃ C : Int, ((cnt (plF hb) x (min (64 * (k + 1)) y - x) : Nat) : Int) = C := ⟨_, rfl⟩
      obtain ⟨D', hD⟩ : ∃ C : Int, (D : Int) = C := ⟨_, rfl⟩
      rw [hD] at CO1
      obtain ⟨AT, hA⟩ : ∃ C : Int, ((64 * k : Nat) : Int) = C := ⟨_, rfl⟩
      rw [hA] at d CW1 CS1 ⊢
      rw [hC]
      have q2 : 0 ≤ AT := by omega
      have q3 : AT ≤ 35184372088832 := by omega
      have s0 : 0 ≤ C := by omega
      have s1 : C ≤ 35184372088832 := by omega
      have s2 : 0 ≤ D' := by omega
      have s3 : C + D' ≤ 35184372088832 := by omega
      have HC := hide (show C + D' = C' by omega)
      have HC' := hide hC'
      have HA := hide hA
      clear hC hC' hD hA hZ ST l1 l2 lt
      go_wp2_with fail
      refine CS1.out.mono ?_
      rintro e w' ⟨rfl, hw⟩; rw [hw]; clear hw w' CS1
      go_wp2_with fail
      refine CW1.out.mono ?_
      rintro e w' ⟨rfl, hw⟩; rw [hw]; clear hw w' CW1
      go_wp2_with fail
      refine CO1.out.mono ?_
      rintro e w' ⟨rfl, hw⟩; rw [hw]; clear hw w' CO1
      go_wp2_with fail
      refine ⟨⟨k + 1, ?_, ?_, by omega, by omega, hide (by first | rfl | trivial)⟩, ?_⟩
      · rw [show 64 * (k + 1) = 64 * k + 64 by omega, Int.natCast_add, HA.out]; rfl
      · rw [HC'.out, HC.out]
      · have := HA.out; simp [zi]; omega
    · have d : decide (((64 * k : Nat) : Int) < Y) = false := decide_eq_false (by have := HY.out; omega)
      have HF := hide (FIN.out k (by omega))
      have l1 := LE.out k
      obtain ⟨C, hC⟩ : ∃ C : Int, ((cnt (plF hb) x (min (64 * k) y - x) : Nat) : Int) = C := ⟨_, rfl⟩
      rw [hC] at HF ⊢
      have s0 : 0 ≤ C := by omega
      have s1 : C ≤ 35184372088832 := by omega
      have cv : IntKind.u64.wrap C = C := by rw [IntKind.wrap_u64]; omega
      obtain ⟨AT, hA⟩ : ∃ C : Int, ((64 * k : Nat) : Int) = C := ⟨_, rfl⟩
      rw [hA] at d ⊢
      clear hC l1 hA
      go_wp2_with fail
      first | exact HF.out | (go_ret; exact HF.out)
end
theorem nncount_any (W : World) (x y : Int) : Calls Try.prog 65 #[.agg #[], .int .u64 x, .int .u64 y] W fun e W' => e = .returned (.int .u64 0) ∧ Below W.heap.size W W' := by
  go_enter Try.func65, Try.ntmps65
  go_wp2_with fail
  go_ret
  exact ⟨rfl, below_alloc _ _⟩
theorem nnstrip_any (W : World) (x : Int) : Calls Try.prog 66 #[.agg #[], .int .u64 x] W fun e W' => e = .returned (.int .u64 0) ∧ Below W.heap.size W W' := by
  go_enter Try.func66, Try.ntmps66
  go_wp2_with fail
  go_ret
  exact ⟨rfl, below_alloc _ _⟩
/-! ### Forms -/
/-- A form: its dynamic type, its value, what it says of words, its blocks. -/
inductive FormAt (W : World) : Nat → Value → (Nat → Bool) → List Nat → Prop where
  | none : FormAt W 65 (.agg #[]) (fun _ => false) []
  | place (b : Nat) (hb : Nat → Bool) (h : Vec W b 8 84 (strips hb)) : FormAt W 82 (.pointer (some ⟨b, 0, none⟩)) (plF hb) [b]
  | things (b sb fi wds n : Nat) (mb : Nat → Bool) (h : ThAt W b sb fi wds n mb) : FormAt W 74 (.pointer (some ⟨b, 0, none⟩)) (thF fi wds n mb) [b, sb]
section
variable {W W' : World} {T : Nat} {u : Value} {g : Nat → Bool} {fb : List Nat}
theorem FormAt.kept {F : Nat → Prop} (h : FormAt W T u g fb) (k : Kept F W W') (n : ∀ z ∈ fb, ¬ F z) : FormAt W' T u g fb := by
  cases h with
  | none => exact .none
  | place b hb h => exact .place b hb (h.kept k (n b (by simp)))
  | things b sb fi wds m mb h => exact .things b sb fi wds m mb (h.kept k (n b (by simp)) (n sb (by simp)))
theorem FormAt.below (h : FormAt W T u g fb) (k : Below W.heap.size W W') : FormAt W' T u g fb := h.kept (F := fun _ => False) (Kept.of_below k) (fun _ _ f => f)
theorem FormAt.lt (h : FormAt W T u g fb) : ∀ z ∈ fb, z < W.heap.size := by
  cases h with
  | none => intro z hz; cases hz
  | place b hb h => intro z hz; simp at hz; rw [hz]; exact h.lt
  | things b sb fi wds m mb h =>
    intro z hz
    simp at hz
    rcases hz with rfl | rfl
    · exact h.bk.lt
    · exact h.row.lt
/-- Its blocks are no pieces. -/
theorem FormAt.type (h : FormAt W T u g fb) : ∀ z ∈ fb, ∀ vs, ¬ Bk W z 78 vs := by
  have key : ∀ (b L t : Nat) (f : Nat → Value), t ≠ 78 → Vec W b L t f → ∀ vs, ¬ Bk W b 78 vs := fun b L t f ht h vs hv => by
    obtain ⟨vs', b', _⟩ := h.ex
    unfold Bk at b' hv
    rw [b'] at hv
    injection hv with hv
    injection hv with _ hv
    exact ht hv
  cases h with
  | none => intro z hz; cases hz
  | place b hb h => intro z hz; simp at hz; rw [hz]; exact key _ _ _ _ (by decide) h
  | things b sb fi wds m mb h =>
    intro z hz
    simp at hz
    rcases hz with rfl | rfl
    · intro vs hv
      have b' := h.bk
      unfold Bk at b' hv
      rw [b'] at hv
      injection hv with hv
      injection hv with _ hv
      exact absurd hv (by decide)
    · exact key _ _ _ _ (by decide) h.row
/-- How a method of a form is found. -/
def Meth (T : Nat) (u : Value) (name : String) (K : Nat) (recv : Value) : Prop := (∀ w, (method 212 T u name).run Try.prog w = .ok (K, recv) w) ∧ (∀ args w, (callFunc K args).run Try.prog w = .ok (.enter K args) w)
def kc (T : Nat) : Nat := if T = 65 then 65 else if T = 82 then 74 else 67
def ks (T : Nat) : Nat := if T = 65 then 66 else if T = 82 then 75 else 69
theorem kept_dN {W W' : World} {j : Nat} (e : W' = W.drewN j) : Below W.heap.size W W' := by rw [e]; exact drewN_below W j
theorem form_meth (h : FormAt W T u g fb) : Meth T u "mallow/masks.count" (kc T) u ∧ Meth T u "mallow/masks.strip" (ks T) u := by
  cases h with
  | none => exact ⟨⟨fun _ => by kernel_rfl, fun _ _ => by kernel_rfl⟩, ⟨fun _ => by kernel_rfl, fun _ _ => by kernel_rfl⟩⟩
  | place b hb h => exact ⟨⟨fun _ => by kernel_rfl, fun _ _ => by kernel_rfl⟩, ⟨fun _ => by kernel_rfl, fun _ _ => by kernel_rfl⟩⟩
  | things b sb fi wds m mb h => exact ⟨⟨fun _ => by kernel_rfl, fun _ _ => by kernel_rfl⟩, ⟨fun _ => by kernel_rfl, fun _ _ => by kernel_rfl⟩⟩
theorem form_count (h : FormAt W T u g fb) (x y : Nat) (hxy : x ≤ y) (hy : y ≤ 35184372088832) : Calls Try.prog (kc T) #[u, .int .u64 (x : Nat), .int .u64 (y : Nat)] W fun e W' => e = .returned (.int .u64 (cnt g x (y - x) : Nat)) ∧ Below W.heap.size W W' := by
  cases h with
  | none =>
    rw [cnt_none (fun _ _ => rfl)]
    exact nncount_any W _ _
  | place b hb h => exact (plcount_any h x y hxy hy).mono fun e W' ⟨he, hw⟩ => ⟨he, by rw [hw]; exact Below.refl _ _⟩
  | things b sb fi wds m mb h => exact (thcount_any h x y hxy (by omega)).mono fun e W' ⟨he, j, hw⟩ => ⟨he, kept_dN hw⟩
theorem form_strip (h : FormAt W T u g fb) (S : Nat) (hS : S < 549755813888) : Calls Try.prog (ks T) #[u, .int .u64 ((64 * S : Nat) : Int)] W fun e W' => e = .returned (.int .u64 (wd (fun k => g (64 * S + k)) 64 : Nat)) ∧ Below W.heap.size W W' := by
  cases h with
  | none =>
    rw [wd_none (fun _ _ => rfl)]
    exact nnstrip_any W _
  | place b hb h => exact (plstrip_any h S hS).mono fun e W' ⟨he, hw⟩ => ⟨he, by rw [hw]; exact Below.refl _ _⟩
  | things b sb fi wds m mb h => exact (thstrip_any h S hS).mono fun e W' ⟨he, j, hw⟩ => ⟨he, kept_dN hw⟩
/-- A new piece. -/
theorem newPiece_any (h : FormAt W T u g fb) (x y : Nat) (hxy : x ≤ y) (hy : y ≤ 35184372088832) : Calls Try.prog 41 #[.int .u64 (x : Nat), .int .u64 (y : Nat), .iface T u] W fun e W' => ∃ b, e = .returned (.pointer (some ⟨b, 0, none⟩)) ∧ W.heap.size ≤ b ∧ Nd.at W' ⟨b, x, y, T, u, cnt g x (y - x), g, fb⟩ 0 0 (.pointer none) (.pointer none) ∧ Below W.heap.size W W' := by
  obtain ⟨⟨hm, he⟩, -⟩ := form_meth h
  have C := form_count h x y hxy hy
  have BK := hide (fun (W1 : World) => World.alloc_heap_new W1 (.cells #[.int .u64 (x : Nat), .int .u64 (y : Nat), .iface T u, .int .u64 (cnt g x (y - x) : Nat), .int .u64 0, .int .i64 0, .pointer none, .pointer none] 78))
  obtain ⟨V, hV⟩ : ∃ V : Int, ((cnt g x (y - x) : Nat) : Int) = V := ⟨_, rfl⟩
  rw [hV] at C
  simp only [hV] at BK
  have HV := hide hV
  obtain ⟨X, hX⟩ : ∃ V : Int, (x : Int) = V := ⟨_, rfl⟩
  obtain ⟨Y, hY⟩ : ∃ V : Int, (y : Int) = V := ⟨_, rfl⟩
  rw [hX, hY] at C ⊢
  simp only [hX, hY] at BK
  have HX := hide hX
  have HY := hide hY
  have HC := hide C
  generalize kc T = K at *
  clear C hV hX hY h
  go_enter Try.func41, Try.ntmps41
  go_wp2_with fail
  refine HC.out.mono ?_
  rintro e W1 ⟨rfl, h1⟩
  have H1 := hide h1
  clear h1 HC
  go_wp2_with fail
  go_ret
  refine ⟨W1.heap.size, rfl, H1.out.size, ?_, H1.out.alloc H1.out.size _⟩
  show Bk _ _ _ _
  unfold Nd.vs
  simp only [HX.out, HY.out, HV.out]
  exact BK.out W1
end
end Go.Proofs.Ytnhllnepnpmegaa

/- The tree of pieces: the walks of split, put. -/
namespace Go.Proofs.Ytnhllnepnpmegaa
open Go.ChangeShapes Go.WideShapes Go.ChangeAt Go.RowKit Go.Shelf Go.Proofs.Rx Go.Maps
set_option linter.unusedVariables false
set_option linter.unusedSimpArgs false

attribute [local go_sem] Oper.semAt_some

section
variable {W : World} {b : Nat} {ql qr : Option Addr} {A X Y : Int} {T : Nat} {u : Value} {R3 : Ending → World → Prop}
theorem split_0 : Calls Try.prog 39 #[.pointer none, .int .u64 A] W fun e W' => e = .returned (.tuple #[.pointer none, .pointer none]) ∧ W' = W := by
  go_enter Try.func39, Try.ntmps39
  go_wp2_with fail
  go_ret2
  exact ⟨rfl, rfl⟩
set_option maxRecDepth 100000 in
theorem split_1 (a0 : W.cell? ⟨b, 0, none⟩ = some (.int .u64 X)) (a6 : W.cell? ⟨b, 6, none⟩ = some (.pointer ql)) (d : decide (A ≤ X) = true)
    (C1 : Calls Try.prog 39 #[.pointer ql, .int .u64 A] W fun e W' => ∃ q1 q2 qd, e = .returned (.tuple #[.pointer q1, .pointer q2]) ∧ W'.cell? ⟨b, 7, none⟩ = some (.pointer qd) ∧ Calls Try.prog 40 #[.pointer q2, .pointer (some ⟨b, 0, none⟩), .pointer qd] W' fun e W'' => ∃ v, e = .returned v ∧ R3 (.returned (.tuple #[.pointer q1, v])) W'') :
    Calls Try.prog 39 #[.pointer (some ⟨b, 0, none⟩), .int .u64 A] W R3 := by
  have HC := hide C1
  clear C1
  go_enter Try.func39, Try.ntmps39
  go_wp2_with fail
  refine HC.out.mono ?_
  rintro e W2 ⟨q1, q2, qd, rfl, hd, C3⟩
  have HC3 := hide C3
  clear C3 HC
  go_wp2_with fail
  refine HC3.out.mono ?_
  rintro e W3 ⟨v3, rfl, r3⟩
  go_wp2_with fail
  first | exact r3 | (go_ret2; exact r3)
set_option maxRecDepth 100000 in
theorem split_2 (a0 : W.cell? ⟨b, 0, none⟩ = some (.int .u64 X)) (a1 : W.cell? ⟨b, 1, none⟩ = some (.int .u64 Y)) (a7 : W.cell? ⟨b, 7, none⟩ = some (.pointer qr)) (d : decide (A ≤ X) = false) (d1 : decide (Y ≤ A) = true)
    (C1 : Calls Try.prog 39 #[.pointer qr, .int .u64 A] W fun e W' => ∃ q1 q2 qd, e = .returned (.tuple #[.pointer q1, .pointer q2]) ∧ W'.cell? ⟨b, 6, none⟩ = some (.pointer qd) ∧ Calls Try.prog 40 #[.pointer qd, .pointer (some ⟨b, 0, none⟩), .pointer q1] W' fun e W'' => ∃ v, e = .returned v ∧ R3 (.returned (.tuple #[v, .pointer q2])) W'') :
    Calls Try.prog 39 #[.pointer (some ⟨b, 0, none⟩), .int .u64 A] W R3 := by
  have HC := hide C1
  clear C1
  go_enter Try.func39, Try.ntmps39
  go_wp2_with fail
  refine HC.out.mono ?_
  rintro e W2 ⟨q1, q2, qd, rfl, hd, C3⟩
  have HC3 := hide C3
  clear C3 HC
  go_wp2_with fail
  refine HC3.out.mono ?_
  rintro e W3 ⟨v3, rfl, r3⟩
  go_wp2_with fail
  first | exact r3 | (go_ret2; exact r3)
set_option maxRecDepth 100000 in
theorem split_3 (a0 : W.cell? ⟨b, 0, none⟩ = some (.int .u64 X)) (a1 : W.cell? ⟨b, 1, none⟩ = some (.int .u64 Y)) (a2 : W.cell? ⟨b, 2, none⟩ = some (.iface T u)) (d : decide (A ≤ X) = false) (d1 : decide (Y ≤ A) = false)
    (C1 : Calls Try.prog 41 #[.int .u64 X, .int .u64 A, .iface T u] W.drew fun e W1 => ∃ b1, e = .returned (.pointer (some ⟨b1, 0, none⟩)) ∧ W1.cell? ⟨b, 0, none⟩ = some (.int .u64 X) ∧ W1.cell? ⟨b, 1, none⟩ = some (.int .u64 Y) ∧ W1.cell? ⟨b, 2, none⟩ = some (.iface T u) ∧
      Calls Try.prog 41 #[.int .u64 A, .int .u64 Y, .iface T u] W1 fun e W2 => ∃ b2, e = .returned (.pointer (some ⟨b2, 0, none⟩)) ∧ W2.cell? ⟨b, 0, none⟩ = some (.int .u64 X) ∧ W2.cell? ⟨b, 1, none⟩ = some (.int .u64 Y) ∧ W2.cell? ⟨b, 2, none⟩ = some (.iface T u) ∧
      ∃ q1 q2, W2.cell? ⟨b, 6, none⟩ = some (.pointer q1) ∧ W2.cell? ⟨b, 7, none⟩ = some (.pointer q2) ∧
      Calls Try.prog 40 #[.pointer q1, .pointer (some ⟨b1, 0, none⟩), .pointer none] W2.drew fun e W3 => ∃ q3, e = .returned (.pointer q3) ∧ W3.cell? ⟨b, 6, none⟩ = some (.pointer q1) ∧ W3.cell? ⟨b, 7, none⟩ = some (.pointer q2) ∧
      Calls Try.prog 40 #[.pointer none, .pointer (some ⟨b2, 0, none⟩), .pointer q2] W3 fun e W4 => ∃ v, e = .returned v ∧ W4.cell? ⟨b, 6, none⟩ = some (.pointer q1) ∧ W4.cell? ⟨b, 7, none⟩ = some (.pointer q2) ∧ R3 (.returned (.tuple #[.pointer q3, v])) W4) :
    Calls Try.prog 39 #[.pointer (some ⟨b, 0, none⟩), .int .u64 A] W R3 := by
  have HC := hide C1
  clear C1
  go_enter Try.func39, Try.ntmps39
  go_wp2_with fail
  go_region_held3 (fun w' => w'.cell? ⟨b, 0, none⟩ = some (.int .u64 X) ∧ w'.cell? ⟨b, 1, none⟩ = some (.int .u64 Y) ∧ w'.cell? ⟨b, 2, none⟩ = some (.iface T u)) (first | (go_keep; done)) (first
    | (go_at_call 41; refine HC.out.mono ?_; rintro e W1 ⟨b1, rfl, e0, e1, e2, C2⟩; have HC2 := hide C2; clear C2 HC a0 a1 a2)
    | (go_at_call 41; refine HC2.out.mono ?_; rintro e W2 ⟨b2, rfl, g0, g1, g2, q1, q2, g6, g7, C3⟩; have HC3 := hide C3; clear C3 HC2 e0 e1 e2))
  clear g0 g1 g2
  go_wp2_with fail
  go_region_held3 (fun w' => w'.cell? ⟨b, 6, none⟩ = some (.pointer q1) ∧ w'.cell? ⟨b, 7, none⟩ = some (.pointer q2)) (first | (go_keep; done)) (first
    | (go_at_call 40; refine HC3.out.mono ?_; rintro e W3 ⟨q3, rfl, i6, i7, C4⟩; have HC4 := hide C4; clear C4 HC3 g6 g7)
    | (go_at_call 40; refine HC4.out.mono ?_; rintro e W4 ⟨v, rfl, j6, j7, r3⟩; have HR := hide r3; clear r3 HC4 i6 i7))
  go_wp2_with fail
  first | exact HR.out | (go_ret2; exact HR.out)
theorem put_core (C1 : Calls Try.prog 39 #[.pointer ql, .int .u64 X] W fun e W1 => ∃ q1 q2, e = .returned (.tuple #[.pointer q1, .pointer q2]) ∧
      Calls Try.prog 39 #[.pointer q2, .int .u64 Y] W1 fun e W2 => ∃ q3 q4, e = .returned (.tuple #[.pointer q3, .pointer q4]) ∧
      Calls Try.prog 41 #[.int .u64 X, .int .u64 Y, .iface T u] W2 fun e W3 => ∃ b1, e = .returned (.pointer (some ⟨b1, 0, none⟩)) ∧
      Calls Try.prog 40 #[.pointer q1, .pointer (some ⟨b1, 0, none⟩), .pointer q4] W3 fun e W4 => R3 e W4 ∧ ∃ v, e = .returned v) :
    Calls Try.prog 34 #[.pointer ql, .int .u64 X, .int .u64 Y, .iface T u] W R3 := by
  have HC := hide C1
  clear C1
  go_enter Try.func34, Try.ntmps34
  go_wp2_with fail
  refine HC.out.mono ?_
  rintro e W1 ⟨q1, q2, rfl, C2⟩
  have HC2 := hide C2
  clear C2 HC
  go_wp2_with fail
  refine HC2.out.mono ?_
  rintro e W2 ⟨q3, q4, rfl, C3⟩
  have HC3 := hide C3
  clear C3 HC2
  go_wp2_with fail
  refine HC3.out.mono ?_
  rintro e W3 ⟨b1, rfl, C4⟩
  have HC4 := hide C4
  clear C4 HC3
  go_wp2_with fail
  refine HC4.out.mono ?_
  rintro e W4 ⟨r4, v, rfl⟩
  go_wp2_with fail
  first | exact r4 | (go_ret; exact r4)
end
end Go.Proofs.Ytnhllnepnpmegaa

/- Rows of pieces: plain. -/
namespace Go.Proofs.Ytnhllnepnpmegaa
open Go.Proofs.Bt
set_option linter.unusedVariables false
set_option linter.unusedSimpArgs false

/-- What a row of pieces says of a word. -/
def fnOf : List Nd → Nat → Bool
  | [], _ => false
  | x :: L, w => if x.fi ≤ w ∧ w < x.en then x.g w else fnOf L w
/-- Pieces of whole windows, one behind the other, from lo on, below hi. -/
def Good : Nat → Nat → List Nd → Prop
  | lo, hi, [] => lo ≤ hi
  | lo, hi, x :: L => lo ≤ x.fi ∧ x.fi < x.en ∧ x.fi % 512 = 0 ∧ x.en % 512 = 0 ∧ x.own = cnt x.g x.fi (x.en - x.fi) ∧ x.own ≠ 0 ∧ Good x.en hi L
theorem Good.le : ∀ {lo hi : Nat} {L : List Nd}, Good lo hi L → lo ≤ hi
  | _, _, [], h => h
  | _, _, x :: L, ⟨a, b, _, _, _, _, c⟩ => by have := Good.le c; omega
theorem Good.lower {lo lo' hi : Nat} {L : List Nd} (h : Good lo hi L) (l : lo' ≤ lo) : Good lo' hi L := by
  cases L with
  | nil => exact Nat.le_trans l h
  | cons x L => exact ⟨Nat.le_trans l h.1, h.2⟩
theorem Good.upper : ∀ {lo hi hi' : Nat} {L : List Nd}, Good lo hi L → hi ≤ hi' → Good lo hi' L
  | _, _, _, [], h, l => Nat.le_trans h l
  | _, _, _, x :: L, ⟨a, b, c, d, e, f, g⟩, l => ⟨a, b, c, d, e, f, Good.upper g l⟩
theorem Good.app : ∀ {A : List Nd} {lo m hi : Nat} {B : List Nd}, Good lo m A → Good m hi B → Good lo hi (A ++ B)
  | [], lo, m, hi, B, h, k => Good.lower k h
  | x :: A, lo, m, hi, B, ⟨a, b, c, d, e, f, g⟩, k => ⟨a, b, c, d, e, f, Good.app g k⟩
theorem Good.cut : ∀ {A : List Nd} {lo hi : Nat} {x : Nd} {B : List Nd}, Good lo hi (A ++ x :: B) → Good lo x.fi A ∧ Good x.fi hi (x :: B)
  | [], lo, hi, x, B, h => ⟨h.1, Nat.le_refl _, h.2⟩
  | y :: A, lo, hi, x, B, ⟨a, b, c, d, e, f, g⟩ => ⟨⟨a, b, c, d, e, f, (Good.cut g).1⟩, (Good.cut g).2⟩
theorem Good.pos : ∀ {lo hi : Nat} {L : List Nd}, Good lo hi L → Pos L
  | _, _, [], _ => fun x hx => by cases hx
  | _, _, y :: L, ⟨_, _, _, _, _, f, g⟩ => fun x hx => by
    rcases List.mem_cons.1 hx with u | u
    · rw [u]; exact f
    · exact Good.pos g x u
theorem Good.len : ∀ {lo hi : Nat} {L : List Nd}, Good lo hi L → L.length ≤ hi - lo
  | _, _, [], _ => Nat.zero_le _
  | _, _, x :: L, ⟨a, b, _, _, _, _, g⟩ => by have := Good.len g; have := Good.le g; rw [List.length_cons]; omega
theorem Good.owns : ∀ {lo hi : Nat} {L : List Nd}, Good lo hi L → owns L ≤ hi - lo
  | _, _, [], _ => Nat.zero_le _
  | _, _, x :: L, ⟨a, b, _, _, e, _, g⟩ => by have := Good.owns g; have := Good.le g; rw [owns_cons, e]; have := cnt_le x.g x.fi (x.en - x.fi); omega
theorem Good.len512 : ∀ {lo hi : Nat} {L : List Nd}, Good lo hi L → L.length * 512 ≤ hi - lo
  | _, _, [], _ => by simp
  | _, _, x :: L, ⟨a, b, c, d, _, _, g⟩ => by
    have k := Good.len512 g
    have := Good.le g
    rw [List.length_cons, Nat.add_mul, Nat.one_mul]
    generalize L.length * 512 = z at *
    have : 512 ≤ x.en - x.fi := by clear k; omega
    omega
theorem bd_arith (n o hi : Nat) (h : n * 512 ≤ hi) (k : o ≤ hi) (l : hi ≤ 35184372088832) : n < 1099511627776 ∧ o < 1152921504606846976 :=
  ⟨by have := (Nat.le_div_iff_mul_le (show 0 < 512 by decide)).2 h; clear h; omega, by clear h; omega⟩
theorem Good.bd {lo hi : Nat} {L : List Nd} (h : Good lo hi L) (l : hi ≤ 35184372088832) : Bd L :=
  bd_arith _ _ hi (Nat.le_trans h.len512 (Nat.sub_le _ _)) (Nat.le_trans h.owns (Nat.sub_le _ _)) l
theorem fnOf_out : ∀ {lo hi : Nat} {L : List Nd}, Good lo hi L → ∀ {w : Nat}, w < lo ∨ hi ≤ w → fnOf L w = false
  | _, _, [], _, _, _ => rfl
  | _, _, x :: L, ⟨a, b, _, _, _, _, g⟩, w, h => by
    have := Good.le g
    rw [fnOf, if_neg (by omega)]
    exact fnOf_out g (by omega)
theorem fnOf_app : ∀ {A : List Nd} {lo m hi : Nat} {B : List Nd}, Good lo m A → Good m hi B → ∀ w, fnOf (A ++ B) w = if w < m then fnOf A w else fnOf B w
  | [], lo, m, hi, B, h, k, w => by
    by_cases c : w < m
    · rw [if_pos c]; exact fnOf_out k (.inl c)
    · rw [if_neg c]; rfl
  | x :: A, lo, m, hi, B, ⟨a, b, _, _, _, _, g⟩, k, w => by
    have := Good.le g
    by_cases c : x.fi ≤ w ∧ w < x.en
    · rw [List.cons_append, fnOf, if_pos c, if_pos (by omega), fnOf, if_pos c]
    · rw [List.cons_append, fnOf, if_neg c, fnOf, if_neg c]
      exact fnOf_app g k w
theorem Good.count : ∀ {lo hi : Nat} {L : List Nd}, Good lo hi L → cnt (fnOf L) lo (hi - lo) = _root_.Go.Proofs.Ytnhllnepnpmegaa.owns L
  | _, _, [], _ => cnt_none fun _ _ => rfl
  | lo, hi, x :: L, ⟨a, b, _, _, e, _, g⟩ => by
    have l := Good.le g
    rw [show hi - lo = (x.fi - lo) + ((x.en - x.fi) + (hi - x.en)) by omega, cnt_add, cnt_add, owns_cons, e]
    rw [cnt_none (n := x.fi - lo) (fun k hk => by rw [fnOf, if_neg (by omega)]; exact fnOf_out g (by omega))]
    rw [show lo + (x.fi - lo) = x.fi by omega, show x.fi + (x.en - x.fi) = x.en by omega, Nat.zero_add]
    congr 1
    · exact cnt_congr fun k hk => by rw [fnOf, if_pos (by omega)]
    · rw [← Good.count g]
      exact cnt_congr fun k hk => by rw [fnOf, if_neg (by omega)]
/-- The pieces that a piece leaves: none, if it has no pointers. -/
theorem Good.kp {lo hi : Nat} {x : Nd} (h1 : lo ≤ x.fi) (h2 : x.fi < x.en) (h3 : x.fi % 512 = 0) (h4 : x.en % 512 = 0) (h5 : x.own = cnt x.g x.fi (x.en - x.fi)) (h6 : x.en ≤ hi) : Good lo hi (keep x) ∧ ∀ w, x.fi ≤ w → w < x.en → fnOf (keep x) w = x.g w := by
  unfold keep
  by_cases c : x.own = 0
  · rw [if_pos c]
    refine ⟨by show lo ≤ hi; omega, fun w w1 w2 => ?_⟩
    rw [h5] at c
    have := cnt_zero.1 c (w - x.fi) (by omega)
    rw [show x.fi + (w - x.fi) = w by omega] at this
    rw [this]; rfl
  · rw [if_neg c]
    exact ⟨⟨h1, h2, h3, h4, h5, c, h6⟩, fun w w1 w2 => by rw [fnOf, if_pos ⟨w1, w2⟩]⟩
end Go.Proofs.Ytnhllnepnpmegaa
