/- The forms of package masks: in place; all forms; newPiece: contracts. -/
import Derived.Test.YtnhllnepnpmegaaFo
import Derived.Test.YtnhllnepnpmegaaTx
namespace Go.Proofs.Ytnhllnepnpmegaa
open Go.ChangeShapes Go.WideShapes Go.ChangeAt Go.RowKit Go.Shelf Go.Proofs.Rx Go.Maps Go.Proofs.Bt
set_option linter.unusedVariables false
set_option linter.unusedSimpArgs false

attribute [local go_sem] Oper.semAt_some

section
variable {W W' : World} {b : Nat} {hb : Nat → Bool}
def plF (hb : Nat → Bool) (x : Nat) : Bool := hb (x % 512)
set_option maxRecDepth 100000 in
theorem plstrip_any (h : Vec W b 8 84 (strips hb)) (S : Nat) (hS : S < 549755813888) : Calls Try.prog 75 #[.pointer (some ⟨b, 0, none⟩), .int .u64 ((64 * S : Nat) : Int)] W fun e W' => e = .returned (.int .u64 (wd (fun k => plF hb (64 * S + k)) 64 : Nat)) ∧ W' = W := by
  have x1 := h.cell (S % 8) (by omega)
  have e : wd (fun k => plF hb (64 * S + k)) 64 = wd (fun i => hb (64 * (S % 8) + i)) 64 := wd_congr fun k hk => by unfold plF; congr 1; omega
  rw [e]
  unfold strips at x1
  have lt := wd_lt (fun i => hb (64 * (S % 8) + i)) (Nat.le_refl 64)
  generalize wd (fun i => hb (64 * (S % 8) + i)) 64 = N at *
  obtain ⟨q, hq⟩ : ∃ q : Nat, S % 8 = q := ⟨_, rfl⟩
  obtain ⟨X, hX⟩ : ∃ X : Int, ((64 * S : Nat) : Int) = X := ⟨_, rfl⟩
  obtain ⟨Y, hY⟩ : ∃ Y : Int, X % 512 = Y := ⟨_, rfl⟩
  have t1 : Y / 64 = (q : Int) := by omega
  have y0 : 0 ≤ Y := by omega
  have y1 : Y < 512 := by omega
  have x0 : 0 ≤ X := by omega
  have xl : X < 35184372088832 := by omega
  have q8 : q < 8 := by omega
  have q9 : (q : Int) < 8 := by omega
  have q0 : (0 : Int) ≤ (q : Int) := by omega
  rw [hX]
  rw [hq] at x1
  clear hX hq e lt h hS
  go_enter Try.func75, Try.ntmps75
  go_wp2_with fail
  go_ret
  exact ⟨rfl, rfl⟩
set_option maxRecDepth 100000 in
set_option maxHeartbeats 1000000 in
theorem plcount_any (h : Vec W b 8 84 (strips hb)) (x y : Nat) (hxy : x ≤ y) (hy : y ≤ 35184372088832) : Calls Try.prog 74 #[.pointer (some ⟨b, 0, none⟩), .int .u64 (x : Nat), .int .u64 (y : Nat)] W fun e W' => e = .returned (.int .u64 (cnt (plF hb) x (y - x) : Nat)) ∧ W' = W := by
  obtain ⟨R, hR⟩ : ∃ R : Ending → World → Prop, R = fun e W' => e = .returned (.int .u64 (cnt (plF hb) x (y - x) : Nat)) ∧ W' = W := ⟨_, rfl⟩
  rw [← hR]
  have FIN := hide (show ∀ (k : Nat), y ≤ 64 * k → R (.returned (.int .u64 (cnt (plF hb) x (min (64 * k) y - x) : Nat))) W from fun k h => by rw [hR, show min (64 * k) y = y by omega]; exact ⟨rfl, rfl⟩)
  clear hR
  have CS := hide (fun (k : Nat) (hk : k < 549755813888) => plstrip_any h k hk)
  have CW := hide (fun (k : Nat) (hk : k < 549755813888) => within_any k x y (by omega) (by omega) (by omega) W)
  have CO := hide (fun (x : Nat) (hx : x < 18446744073709551616) => ones_any x hx W)
  have CB := hide (stripOf_any x (by omega) W)
  have STEP := hide (show ∀ k, x / 64 ≤ k → 64 * k < y → cnt (plF hb) x (min (64 * k) y - x) + pc (wd (fun j => plF hb (64 * k + j)) 64 &&& prt k x y) = cnt (plF hb) x (min (64 * (k + 1)) y - x) from fun k h1 hk => by
    rw [strip_cnt]
    by_cases c : 64 * k ≤ x
    · rw [show min (64 * k) y - x = 0 by omega, show max (64 * k) x = x by omega, show 64 * (k + 1) = 64 * k + 64 by omega]
      show 0 + _ = _
      rw [Nat.zero_add]
    · rw [show max (64 * k) x = x + (64 * k - x) by omega, show min (64 * k) y - x = 64 * k - x by omega, ← cnt_add]
      congr 1; omega)
  have LE := hide (show ∀ k, cnt (plF hb) x (min (64 * k) y - x) ≤ 35184372088832 from fun k => by have := cnt_le (plF hb) x (min (64 * k) y - x); omega)
  obtain ⟨X, hX⟩ : ∃ X : Int, (x : Int) = X := ⟨_, rfl⟩
  obtain ⟨Y, hY⟩ : ∃ X : Int, (y : Int) = X := ⟨_, rfl⟩
  have HY := hide hY
  have i0 : 0 ≤ Y := by omega
  have i1 : Y ≤ 35184372088832 := by omega
  have j0 : 0 ≤ X := by omega
  have j1 : X ≤ 35184372088832 := by omega
  obtain ⟨B, hB⟩ : ∃ X : Int, ((64 * (x / 64) : Nat) : Int) = X := ⟨_, rfl⟩
  have HB := hide hB
  rw [hB, hX] at CB
  rw [hX, hY]
  simp only [hX, hY] at CW
  clear hX hY hB h
  go_enter Try.func74, Try.ntmps74
  go_wp2_with fail
  refine CB.out.mono ?_
  rintro e w' ⟨rfl, hw⟩; rw [hw]; clear hw w' CB
  go_wp2_with fail
  go_loopw [7, 8] (fun vn va wr => ∃ k : Nat, va = .int .u64 ((64 * k : Nat) : Int) ∧ vn = .int .i64 (cnt (plF hb) x (min (64 * k) y - x) : Nat) ∧ 64 * k < y + 64 ∧ x / 64 ≤ k ∧ Hid (wr = W)) (fun vn va _ => y + 64 - (zi va).toNat)
  case atStart => exact ⟨x / 64, by rw [HB.out], by rw [show min (64 * (x / 64)) y - x = 0 by omega]; rfl, by omega, Nat.le_refl _, hide rfl⟩
  case round =>
    obtain ⟨k, rfl, rfl, hk, hk2, HJ⟩ := hrel
    have hj := HJ.out
    subst hj
    clear HJ
    by_cases hlt : 64 * k < y
    · have d : decide (((64 * k : Nat) : Int) < Y) = true := decide_eq_true (by have := HY.out; omega)
      have lt := wd_lt (fun i => plF hb (64 * k + i)) (Nat.le_refl 64)
      have ST := STEP.out k hk2 hlt
      have l1 := LE.out k
      have l2 := LE.out (k + 1)
      have hbb := w_and (wd (fun i => plF hb (64 * k + i)) 64) (prt k x y) lt (prt_lt _ _ _)
      have CO1 := hide (CO.out (wd (fun i => plF hb (64 * k + i)) 64 &&& prt k x y) (and_lt _ lt))
      have CW1 := hide (CW.out k (by omega))
      have CS1 := hide (CS.out k (by omega))
      generalize wd (fun i => plF hb (64 * k + i)) 64 = N at *
      generalize prt k x y = PR at *
      generalize pc (N &&& PR) = D at *
      obtain ⟨Z, hZ⟩ : ∃ Z : Int, ((N &&& PR : Nat) : Int) = Z := ⟨_, rfl⟩
      rw [hZ] at hbb CO1
      obtain ⟨C, hC⟩ : ∃ C : Int, ((cnt (plF hb) x (min (64 * k) y - x) : Nat) : Int) = C := ⟨_, rfl⟩
      obtain ⟨C', hC'⟩ : ∃ C : Int, ((cnt (plF hb) x (min (64 * (k + 1)) y - x) : Nat) : Int) = C := ⟨_, rfl⟩
      obtain ⟨D', hD⟩ : ∃ C : Int, (D : Int) = C := ⟨_, rfl⟩
      rw [hD] at CO1
      obtain ⟨AT, hA⟩ : ∃ C : Int, ((64 * k : Nat) : Int) = C := ⟨_, rfl⟩
      rw [hA] at d CW1 CS1 ⊢
      rw [hC]
      have q2 : 0 ≤ AT := by omega
      have q3 : AT ≤ 35184372088832 := by omega
      have s0 : 0 ≤ C := by omega
      have s1 : C ≤ 35184372088832 := by omega
      have s2 : 0 ≤ D' := by omega
      have s3 : C + D' ≤ 35184372088832 := by omega
      have HC := hide (show C + D' = C' by omega)
      have HC' := hide hC'
      have HA := hide hA
      clear hC hC' hD hA hZ ST l1 l2 lt
      go_wp2_with fail
      refine CS1.out.mono ?_
      rintro e w' ⟨rfl, hw⟩; rw [hw]; clear hw w' CS1
      go_wp2_with fail
      refine CW1.out.mono ?_
      rintro e w' ⟨rfl, hw⟩; rw [hw]; clear hw w' CW1
      go_wp2_with fail
      refine CO1.out.mono ?_
      rintro e w' ⟨rfl, hw⟩; rw [hw]; clear hw w' CO1
      go_wp2_with fail
      refine ⟨⟨k + 1, ?_, ?_, by omega, by omega, hide (by first | rfl | trivial)⟩, ?_⟩
      · rw [show 64 * (k + 1) = 64 * k + 64 by omega, Int.natCast_add, HA.out]; rfl
      · rw [HC'.out, HC.out]
      · have := HA.out; simp [zi]; omega
    · have d : decide (((64 * k : Nat) : Int) < Y) = false := decide_eq_false (by have := HY.out; omega)
      have HF := hide (FIN.out k (by omega))
      have l1 := LE.out k
      obtain ⟨C, hC⟩ : ∃ C : Int, ((cnt (plF hb) x (min (64 * k) y - x) : Nat) : Int) = C := ⟨_, rfl⟩
      rw [hC] at HF ⊢
      have s0 : 0 ≤ C := by omega
      have s1 : C ≤ 35184372088832 := by omega
      have cv : IntKind.u64.wrap C = C := by rw [IntKind.wrap_u64]; omega
      obtain ⟨AT, hA⟩ : ∃ C : Int, ((64 * k : Nat) : Int) = C := ⟨_, rfl⟩
      rw [hA] at d ⊢
      clear hC l1 hA
      go_wp2_with fail
      first | exact HF.out | (go_ret; exact HF.out)
end
theorem nncount_any (W : World) (x y : Int) : Calls Try.prog 65 #[.agg #[], .int .u64 x, .int .u64 y] W fun e W' => e = .returned (.int .u64 0) ∧ Below W.heap.size W W' := by
  go_enter Try.func65, Try.ntmps65
  go_wp2_with fail
  go_ret
  exact ⟨rfl, below_alloc _ _⟩
theorem nnstrip_any (W : World) (x : Int) : Calls Try.prog 66 #[.agg #[], .int .u64 x] W fun e W' => e = .returned (.int .u64 0) ∧ Below W.heap.size W W' := by
  go_enter Try.func66, Try.ntmps66
  go_wp2_with fail
  go_ret
  exact ⟨rfl, below_alloc _ _⟩
/-! ### Forms -/
/-- A form: its dynamic type, its value, what it says of words, its blocks. -/
inductive FormAt (W : World) : Nat → Value → (Nat → Bool) → List Nat → Prop where
  | none : FormAt W 65 (.agg #[]) (fun _ => false) []
  | place (b : Nat) (hb : Nat → Bool) (h : Vec W b 8 84 (strips hb)) : FormAt W 82 (.pointer (some ⟨b, 0, none⟩)) (plF hb) [b]
  | things (b sb fi wds n : Nat) (mb : Nat → Bool) (h : ThAt W b sb fi wds n mb) : FormAt W 74 (.pointer (some ⟨b, 0, none⟩)) (thF fi wds n mb) [b, sb]
section
variable {W W' : World} {T : Nat} {u : Value} {g : Nat → Bool} {fb : List Nat}
theorem FormAt.kept {F : Nat → Prop} (h : FormAt W T u g fb) (k : Kept F W W') (n : ∀ z ∈ fb, ¬ F z) : FormAt W' T u g fb := by
  cases h with
  | none => exact .none
  | place b hb h => exact .place b hb (h.kept k (n b (by simp)))
  | things b sb fi wds m mb h => exact .things b sb fi wds m mb (h.kept k (n b (by simp)) (n sb (by simp)))
theorem FormAt.below (h : FormAt W T u g fb) (k : Below W.heap.size W W') : FormAt W' T u g fb := h.kept (F := fun _ => False) (Kept.of_below k) (fun _ _ f => f)
theorem FormAt.lt (h : FormAt W T u g fb) : ∀ z ∈ fb, z < W.heap.size := by
  cases h with
  | none => intro z hz; cases hz
  | place b hb h => intro z hz; simp at hz; rw [hz]; exact h.lt
  | things b sb fi wds m mb h =>
    intro z hz
    simp at hz
    rcases hz with rfl | rfl
    · exact h.bk.lt
    · exact h.row.lt
/-- Its blocks are no pieces. -/
theorem FormAt.type (h : FormAt W T u g fb) : ∀ z ∈ fb, ∀ vs, ¬ Bk W z 78 vs := by
  have key : ∀ (b L t : Nat) (f : Nat → Value), t ≠ 78 → Vec W b L t f → ∀ vs, ¬ Bk W b 78 vs := fun b L t f ht h vs hv => by
    obtain ⟨vs', b', _⟩ := h.ex
    unfold Bk at b' hv
    rw [b'] at hv
    injection hv with hv
    injection hv with _ hv
    exact ht hv
  cases h with
  | none => intro z hz; cases hz
  | place b hb h => intro z hz; simp at hz; rw [hz]; exact key _ _ _ _ (by decide) h
  | things b sb fi wds m mb h =>
    intro z hz
    simp at hz
    rcases hz with rfl | rfl
    · intro vs hv
      have b' := h.bk
      unfold Bk at b' hv
      rw [b'] at hv
      injection hv with hv
      injection hv with _ hv
      exact absurd hv (by decide)
    · exact key _ _ _ _ (by decide) h.row
/-- How a method of a form is found. -/
def Meth (T : Nat) (u : Value) (name : String) (K : Nat) (recv : Value) : Prop := (∀ w, (method 212 T u name).run Try.prog w = .ok (K, recv) w) ∧ (∀ args w, (callFunc K args).run Try.prog w = .ok (.enter K args) w)
def kc (T : Nat) : Nat := if T = 65 then 65 else if T = 82 then 74 else 67
def ks (T : Nat) : Nat := if T = 65 then 66 else if T = 82 then 75 else 69
theorem kept_dN {W W' : World} {j : Nat} (e : W' = W.drewN j) : Below W.heap.size W W' := by rw [e]; exact drewN_below W j
theorem form_meth (h : FormAt W T u g fb) : Meth T u "mallow/masks.count" (kc T) u ∧ Meth T u "mallow/masks.strip" (ks T) u := by
  cases h with
  | none => exact ⟨⟨fun _ => by kernel_rfl, fun _ _ => by kernel_rfl⟩, ⟨fun _ => by kernel_rfl, fun _ _ => by kernel_rfl⟩⟩
  | place b hb h => exact ⟨⟨fun _ => by kernel_rfl, fun _ _ => by kernel_rfl⟩, ⟨fun _ => by kernel_rfl, fun _ _ => by kernel_rfl⟩⟩
  | things b sb fi wds m mb h => exact ⟨⟨fun _ => by kernel_rfl, fun _ _ => by kernel_rfl⟩, ⟨fun _ => by kernel_rfl, fun _ _ => by kernel_rfl⟩⟩
theorem form_count (h : FormAt W T u g fb) (x y : Nat) (hxy : x ≤ y) (hy : y ≤ 35184372088832) : Calls Try.prog (kc T) #[u, .int .u64 (x : Nat), .int .u64 (y : Nat)] W fun e W' => e = .returned (.int .u64 (cnt g x (y - x) : Nat)) ∧ Below W.heap.size W W' := by
  cases h with
  | none =>
    rw [cnt_none (fun _ _ => rfl)]
    exact nncount_any W _ _
  | place b hb h => exact (plcount_any h x y hxy hy).mono fun e W' ⟨he, hw⟩ => ⟨he, by rw [hw]; exact Below.refl _ _⟩
  | things b sb fi wds m mb h => exact (thcount_any h x y hxy (by omega)).mono fun e W' ⟨he, j, hw⟩ => ⟨he, kept_dN hw⟩
theorem form_strip (h : FormAt W T u g fb) (S : Nat) (hS : S < 549755813888) : Calls Try.prog (ks T) #[u, .int .u64 ((64 * S : Nat) : Int)] W fun e W' => e = .returned (.int .u64 (wd (fun k => g (64 * S + k)) 64 : Nat)) ∧ Below W.heap.size W W' := by
  cases h with
  | none =>
    rw [wd_none (fun _ _ => rfl)]
    exact nnstrip_any W _
  | place b hb h => exact (plstrip_any h S hS).mono fun e W' ⟨he, hw⟩ => ⟨he, by rw [hw]; exact Below.refl _ _⟩
  | things b sb fi wds m mb h => exact (thstrip_any h S hS).mono fun e W' ⟨he, j, hw⟩ => ⟨he, kept_dN hw⟩
/-- A new piece. -/
theorem newPiece_any (h : FormAt W T u g fb) (x y : Nat) (hxy : x ≤ y) (hy : y ≤ 35184372088832) : Calls Try.prog 41 #[.int .u64 (x : Nat), .int .u64 (y : Nat), .iface T u] W fun e W' => ∃ b, e = .returned (.pointer (some ⟨b, 0, none⟩)) ∧ W.heap.size ≤ b ∧ Nd.at W' ⟨b, x, y, T, u, cnt g x (y - x), g, fb⟩ 0 0 (.pointer none) (.pointer none) ∧ Below W.heap.size W W' := by
  obtain ⟨⟨hm, he⟩, -⟩ := form_meth h
  have C := form_count h x y hxy hy
  have BK := hide (fun (W1 : World) => World.alloc_heap_new W1 (.cells #[.int .u64 (x : Nat), .int .u64 (y : Nat), .iface T u, .int .u64 (cnt g x (y - x) : Nat), .int .u64 0, .int .i64 0, .pointer none, .pointer none] 78))
  obtain ⟨V, hV⟩ : ∃ V : Int, ((cnt g x (y - x) : Nat) : Int) = V := ⟨_, rfl⟩
  rw [hV] at C
  simp only [hV] at BK
  have HV := hide hV
  obtain ⟨X, hX⟩ : ∃ V : Int, (x : Int) = V := ⟨_, rfl⟩
  obtain ⟨Y, hY⟩ : ∃ V : Int, (y : Int) = V := ⟨_, rfl⟩
  rw [hX, hY] at C ⊢
  simp only [hX, hY] at BK
  have HX := hide hX
  have HY := hide hY
  have HC := hide C
  generalize kc T = K at *
  clear C hV hX hY h
  go_enter Try.func41, Try.ntmps41
  go_wp2_with fail
  refine HC.out.mono ?_
  rintro e W1 ⟨rfl, h1⟩
  have H1 := hide h1
  clear h1 HC
  go_wp2_with fail
  go_ret
  refine ⟨W1.heap.size, rfl, H1.out.size, ?_, H1.out.alloc H1.out.size _⟩
  show Bk _ _ _ _
  unfold Nd.vs
  simp only [HX.out, HY.out, HV.out]
  exact BK.out W1
end
end Go.Proofs.Ytnhllnepnpmegaa
