/- The law's own 'awake': its contract. -/
import Derived.Test.YtnpimmjkmclkpaaDoorYh
namespace Go.Proofs.YtnpimmjkmclkpaaDoor
open Go.ChangeShapes Go.WideShapes Go.ChangeAt Go.RowKit Go.Proofs.Bt Go.Shelf Go.Proofs.Rx Go.Maps Go.Proofs.Pk
set_option linter.unusedVariables false
set_option linter.unusedSimpArgs false

theorem t9_sum {N : Nat} {O : Nat → Prop} {w W : World} {tb : Nat} {st : Nat → Nat} (h : T9 N O w W tb st) (lv i : Nat) (hl : lv ≤ 3) (hi : (i + 1) * sz (3 + lv) ≤ 34359738368) (s m e : Nat) (hs : SumN (bsy st (i * sz (3 + lv))) (sz (3 + lv)) s m e) :
    Calls Tryd.prog 16 #[.pointer (some ⟨tb, 0, none⟩), .int .i64 (lv : Nat), .int .u64 (i : Nat)] W fun en W' => en = .returned (.tuple #[.agg #[.int .i64 (s : Nat), .int .i64 (m : Nat), .int .i64 (e : Nat)], .int .i64 0]) ∧ T9 N O w W' tb st ∧ Left9 N O W W' := by
  have hp := sz_pos (3 + lv)
  have : i + 1 ≤ (i + 1) * sz (3 + lv) := Nat.le_mul_of_pos_right _ hp
  refine (sumT_any h.tr (lv : Nat) i (by omega)).mono ?_
  rintro en W' ⟨⟨_, h2⟩, b⟩
  rw [Int.toNat_natCast] at h2
  obtain ⟨s', m', e', h3, h4⟩ := h2 (by omega) hi
  obtain ⟨rfl, rfl, rfl⟩ := h4.one hs
  exact ⟨h3, h.read b⟩
/-- Two chunks in use. -/
def aw1 : Nat → Nat := setSt (fun _ => 0) (1 * 512) (1 * 512 + 2 * 512) 3
def aw2 : Nat → Nat := setSt aw1 512 (512 + 600) 1
theorem aw1_at (q : Nat) : aw1 q = if 512 ≤ q ∧ q < 1536 then 3 else 0 := by unfold aw1 setSt; rfl
theorem aw2_at (q : Nat) : aw2 q = if 512 ≤ q ∧ q < 1112 then 1 else if 512 ≤ q ∧ q < 1536 then 3 else 0 := by unfold aw2 aw1 setSt; rfl
theorem aw1_first : First aw1 600 512 := by
  refine ⟨fun q q1 q2 => ?_, fun p hp hR => ?_⟩
  · rw [aw1_at, if_pos (by omega)]; omega
  · have := hR p (Nat.le_refl _) (by omega)
    rw [aw1_at, if_neg (by omega)] at this
    omega
theorem aw1_rel : (tl aw1 512 600).r = 600 := by
  rw [tl_all (s := 3) fun q q1 q2 => by rw [aw1_at, if_pos (by omega)]]; rfl
theorem aw2_first : First aw2 1 1112 := by
  refine ⟨fun q q1 q2 => ?_, fun p hp hR => ?_⟩
  · rw [aw2_at, if_neg (by omega), if_pos (by omega)]; omega
  · have := hR p (Nat.le_refl _) (by omega)
    rw [aw2_at] at this
    split at this
    · omega
    · rw [if_neg (by omega)] at this; omega
theorem aw2_free : frT aw2 = 424 := by
  have h1 := (tot_set (st := fun _ => 0) (a := 512) (n := 1024) (s := 3) (by omega)).1
  have h2 := (tot_set (st := aw1) (a := 512) (n := 600) (s := 1) (by omega)).1
  have e1 : (tl (fun _ => 0) 512 1024).f = 0 := by rw [tl_all (s := 0) fun q _ _ => rfl]; rfl
  have e2 : (tl aw1 512 600).f = 600 := by rw [tl_all (s := 3) fun q q1 q2 => by rw [aw1_at, if_pos (by omega)]]; rfl
  have e3 : setSt (fun _ => 0) 512 (512 + 1024) 3 = aw1 := rfl
  have e4 : setSt aw1 512 (512 + 600) 1 = aw2 := rfl
  rw [e1, tot_zero.1, e3] at h1
  rw [e2, e4] at h2
  clear e1 e2 e3 e4
  generalize frT aw1 = x at *
  generalize frT aw2 = y at *
  rw [if_pos (by omega)] at h1
  rw [if_neg (by omega)] at h2
  omega
theorem aw2_sum : SumN (bsy aw2 (1 * sz (3 + 3))) (sz (3 + 3)) 0 0 0 := by
  have e : sz (3 + 3) = 512 := rfl
  rw [e]
  refine sumN_none _ _ fun k hk => ?_
  unfold bsy fre
  rw [aw2_at, if_pos (by omega)]
  rfl
end Go.Proofs.YtnpimmjkmclkpaaDoor
