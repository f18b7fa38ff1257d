/- A chunk and the reference's beside one another: act, same: contracts. -/
import Derived.Test.YtgjgcdbhppaigaaDoorEq
namespace Go.Proofs.YtgjgcdbhppaigaaDoor
open Go.ChangeShapes Go.WideShapes Go.ChangeAt Go.RowKit Go.Proofs.Bt Go.Shelf
set_option linter.unusedVariables false
set_option linter.unusedSimpArgs false

/-- A chunk and the reference's, with the same pages. -/
structure Pr (W : World) (c r : Nat) (u g : Nat → Bool) : Prop where
  l : ChF W c u g
  q : RcF W r u g
  ap : Apart u g
  ne : c ≠ r
  c0 : c ≠ 0
  r0 : r ≠ 0
theorem Pr.below {W W' : World} {c r : Nat} {u g : Nat → Bool} (h : Pr W c r u g) (k : Below W.heap.size W W') : Pr W' c r u g := ⟨h.l.below k, h.q.below k, h.ap, h.ne, h.c0, h.r0⟩
theorem Pr.kept {F : Nat → Prop} {W W' : World} {c r : Nat} {u g : Nat → Bool} (h : Pr W c r u g) (k : Kept F W W') (hc : ¬ F c) (hr : ¬ F r) : Pr W' c r u g := ⟨h.l.kept k hc, h.q.kept k hr, h.ap, h.ne, h.c0, h.r0⟩
/-- What act leaves. -/
def ActR (W : World) (c r : Nat) (e : Ending) (W' : World) : Prop := e = .returned (.bool true) ∧ (∃ u g, Pr W' c r u g) ∧ Kept (fun x => x = c ∨ x = r) W W'
theorem kept_both {W W1 W2 : World} {c r : Nat} (h : Kept (fun x => x = c) W W1) (k : Kept (fun x => x = r) W1 W2) : Kept (fun x => x = c ∨ x = r) W W2 :=
  (h.mono (fun _ e => .inl e)).trans k (fun _ _ e => .inr e)
/-- What is to be done, in a block of its own. -/
def ActB (W : World) (A : Nat) (a i n : Int) : Prop := W.heap[A]? = some (.cells #[.int .i64 a, .int .i64 i, .int .i64 n] 29 (0, 0))
theorem ActB.kept {F : Nat → Prop} {W W' : World} {A : Nat} {a i n : Int} (h : ActB W A a i n) (k : Kept F W W') (hF : ¬ F A) : ActB W' A a i n := kept_at k h hF
theorem ActB.below {W W' : World} {A : Nat} {a i n : Int} (h : ActB W A a i n) (k : Below W.heap.size W W') : ActB W' A a i n := (k.block A (Array.getElem?_eq_some_iff.1 h).1).trans h
theorem ActB.c0 {W : World} {A : Nat} {a i n : Int} (h : ActB W A a i n) : W.cell? ⟨A, 0, none⟩ = some (.int .i64 a) := by unfold ActB at h; simp [World.cell?, h]
theorem ActB.c1 {W : World} {A : Nat} {a i n : Int} (h : ActB W A a i n) : W.cell? ⟨A, 1, none⟩ = some (.int .i64 i) := by unfold ActB at h; simp [World.cell?, h]
theorem ActB.c2 {W : World} {A : Nat} {a i n : Int} (h : ActB W A a i n) : W.cell? ⟨A, 2, none⟩ = some (.int .i64 n) := by unfold ActB at h; simp [World.cell?, h]
theorem below_drewN {B : Nat} {w0 w : World} (h : Below B w0 w) (k : Nat) : Below B w0 (w.drewN k) := ⟨h.os, h.tape, h.output, h.size, h.block⟩
set_option maxRecDepth 100000 in
set_option maxHeartbeats 4000000 in
theorem act_any (W : World) (c r : Nat) (u g : Nat → Bool) (h : Pr W c r u g) (ht : TabW W) (a i n : Int) (i0 : -9223372036854775808 ≤ i) (i1 : i ≤ 9223372036854775807) (n1 : n ≤ 9223372036854775807) :
    Calls Tryd.prog 10 #[.pointer (some ⟨c, 0, none⟩), .pointer (some ⟨r, 0, none⟩), .agg #[.int .i64 a, .int .i64 i, .int .i64 n]] W (ActR W c r) := by
  obtain ⟨w0, hw0⟩ : ∃ w0, w0 = W.alloc (.cells #[.int .i64 a, .int .i64 i, .int .i64 n] 29) := ⟨_, rfl⟩
  obtain ⟨A, hA⟩ : ∃ A, W.heap.size = A := ⟨_, rfl⟩
  have k0 : Below W.heap.size W w0 := by rw [hw0]; exact (Below.refl _ W).alloc (Nat.le_refl _) _
  have hB : ActB w0 A a i n := by unfold ActB; rw [hw0, ← hA, alloc_at, if_pos rfl]
  have nc : c ≠ A := by have := h.l.lt; omega
  have nr : r ≠ A := by have := h.q.lt; omega
  have HP := hide (h.below k0)
  have HT := hide (ht.below k0)
  have K0 := hide k0
  have HB := hide hB
  have W0 := hide hw0
  have NC := hide nc
  have NR := hide nr
  obtain ⟨R, hR⟩ : ∃ R, R = ActR W c r := ⟨_, rfl⟩
  rw [← hR]
  have HR := hide hR
  have HI := hide (And.intro i0 (And.intro i1 n1))
  -- what is left behind a change of both
  have FIN2 := hide (show ∀ (w1 w2 : World) (u' g' : Nat → Bool), Kept (fun x => x = c) w0 w1 → ChF w1 c u' g' → Kept (fun x => x = r) w1 w2 → RcF w2 r u' g' → Apart u' g' → R (.returned (.bool true)) w2 from fun w1 w2 u' g' k1 h1 k2 h2 ap => by
    rw [hR]
    exact ⟨rfl, ⟨_, _, ⟨h1.kept k2 h.ne, h2, ap, h.ne, h.c0, h.r0⟩⟩, (Kept.of_below k0).trans (kept_both k1 k2) (fun _ _ e => e)⟩)
  have FIN0 := hide (show ∀ w1 : World, Below w0.heap.size w0 w1 → R (.returned (.bool true)) w1 from fun w1 k1 => by
    rw [hR]
    exact ⟨rfl, ⟨_, _, (h.below k0).below k1⟩, Kept.of_below (k0.trans (k1.mono k0.size))⟩)
  clear hB k0 hw0 nc nr hR h ht i0 i1 n1
  have b0 := HB.out.c0
  have b1 := HB.out.c1
  have b2 := HB.out.c2
  by_cases a1 : a = 1
  · subst a1
    have AP := hide (apart_take HP.out.ap i n)
    go_enter Tryd.func10, Tryd.ntmps10
    go_wp2_with fail
    go_at_call 13
    rw [← W0.out]
    clear W0
    refine (take_any c u g w0 HP.out.l i n HI.out.2.1).mono ?_
    rintro e w1 ⟨rfl, h1, k1⟩
    have d1 := (HB.out.kept k1 (fun e => NC.out e.symm)).c1
    have d2 := (HB.out.kept k1 (fun e => NC.out e.symm)).c2
    have H1 := hide h1
    have Q1 := hide (HP.out.q.kept k1 (fun e => HP.out.ne e.symm))
    have K1 := hide k1
    clear h1 k1 b0 b1 b2
    go_wp2_with fail
    go_at_call 26
    refine (takeR_any r u g w1 Q1.out i n HI.out.1).mono ?_
    rintro e w2 ⟨rfl, h2, k2⟩
    have FIN := hide (FIN2.out w1 w2 _ _ K1.out H1.out k2 h2 AP.out)
    clear h2 k2
    go_wp2_with fail
    exact FIN.out
  by_cases a2 : a = 2
  · subst a2
    clear a1
    have AP := hide (apart_give HP.out.ap i n false)
    go_enter Tryd.func10, Tryd.ntmps10
    go_wp2_with fail
    rw [← W0.out]
    clear W0
    have HPd := hide (HP.out.below (drew_below w0))
    have HBd := hide (HB.out.below (drew_below w0))
    go_region_held3 (fun w' => w'.cell? ⟨A, 1, none⟩ = some (.int .i64 i) ∧ w'.cell? ⟨A, 2, none⟩ = some (.int .i64 n)) (go_keep) (first
      | (go_at_call 14; refine (give_any c u g w0.drew HPd.out.l i n HI.out.2.1).mono ?_; rintro e w1 ⟨rfl, h1, k1⟩; have d1 := (HBd.out.kept k1 (fun e => NC.out e.symm)).c1; have d2 := (HBd.out.kept k1 (fun e => NC.out e.symm)).c2; have H1 := hide h1; have Q1 := hide (HPd.out.q.kept k1 (fun e => HP.out.ne e.symm)); have K1 := hide k1; clear h1 k1)
      | (go_at_call 27; refine (giveR_any r u g HP.out.ap w1 Q1.out i n HI.out.1 false).mono ?_; rintro e w2 ⟨rfl, h2, k2⟩; have d3 := ((HBd.out.kept K1.out (fun e => NC.out e.symm)).kept k2 (fun e => NR.out e.symm)).c1; have d4 := ((HBd.out.kept K1.out (fun e => NC.out e.symm)).kept k2 (fun e => NR.out e.symm)).c2; have FIN := hide (FIN2.out w1 w2 _ _ ((Kept.of_below (F := fun x => x = c) (drew_below w0)).trans K1.out (fun _ _ e => e)) H1.out k2 h2 AP.out); clear h2 k2))
    go_wp2_with fail
    exact FIN.out
  by_cases a3 : a = 3
  · subst a3
    clear a1 a2
    have AP := hide (apart_give HP.out.ap i n true)
    go_enter Tryd.func10, Tryd.ntmps10
    go_wp2_with fail
    rw [← W0.out]
    clear W0
    have HPd := hide (HP.out.below (drew_below w0))
    have HBd := hide (HB.out.below (drew_below w0))
    go_region_held3 (fun w' => w'.cell? ⟨A, 1, none⟩ = some (.int .i64 i) ∧ w'.cell? ⟨A, 2, none⟩ = some (.int .i64 n)) (go_keep) (first
      | (go_at_call 15; refine (back_any c u g w0.drew HPd.out.l i n HI.out.2.1).mono ?_; rintro e w1 ⟨rfl, h1, k1⟩; have d1 := (HBd.out.kept k1 (fun e => NC.out e.symm)).c1; have d2 := (HBd.out.kept k1 (fun e => NC.out e.symm)).c2; have H1 := hide h1; have Q1 := hide (HPd.out.q.kept k1 (fun e => HP.out.ne e.symm)); have K1 := hide k1; clear h1 k1)
      | (go_at_call 27; refine (giveR_any r u g HP.out.ap w1 Q1.out i n HI.out.1 true).mono ?_; rintro e w2 ⟨rfl, h2, k2⟩; have d3 := ((HBd.out.kept K1.out (fun e => NC.out e.symm)).kept k2 (fun e => NR.out e.symm)).c1; have d4 := ((HBd.out.kept K1.out (fun e => NC.out e.symm)).kept k2 (fun e => NR.out e.symm)).c2; have FIN := hide (FIN2.out w1 w2 _ _ ((Kept.of_below (F := fun x => x = c) (drew_below w0)).trans K1.out (fun _ _ e => e)) H1.out k2 h2 AP.out); clear h2 k2))
    go_wp2_with fail
    exact FIN.out
  by_cases a4 : a = 4
  · subst a4
    clear a1 a2 a3
    go_enter Tryd.func10, Tryd.ntmps10
    go_wp2_with fail
    go_at_call 23
    rw [← W0.out]
    clear W0
    refine (findC_any c u g w0 HP.out.l HT.out n i HI.out.2.2 HI.out.2.1).mono ?_
    rintro e w1 ⟨x, ok, rfl, p1, k1⟩
    have d1 := (HB.out.below k1).c1
    have d2 := (HB.out.below k1).c2
    have P1 := hide p1
    have H1 := hide (HP.out.below k1)
    have K1 := hide k1
    clear k1 p1
    go_wp2_with fail
    have HBd := hide ((HB.out.below K1.out).below (drew_below w1))
    have H1d := hide (H1.out.below (drew_below w1))
    have FIN := hide (FIN0.out w1.drew (K1.out.trans ((drew_below w1).mono K1.out.size)))
    go_region_held3 (fun w' => w'.cell? ⟨A, 1, none⟩ = some (.int .i64 i) ∧ w'.cell? ⟨A, 2, none⟩ = some (.int .i64 n)) (go_keep) (first
      | (go_at_call 28; refine (findRef_any r 0 u w1.drew H1d.out.q.used n i).mono ?_; rintro e w2 ⟨y, is, rfl, p2, hw2⟩; obtain ⟨rfl, rfl⟩ := P1.out.one p2; rw [hw2]; clear p2 hw2 w2))
    go_wp2_with fail
    exact FIN.out
  by_cases a5 : a = 5
  · subst a5
    clear a1 a2 a3 a4
    go_enter Tryd.func10, Tryd.ntmps10
    go_wp2_with fail
    go_at_call 18
    rw [← W0.out]
    clear W0
    refine (scav_any c u g w0 HP.out.l HT.out HP.out.c0 n HI.out.2.2).mono ?_
    rintro e w1 ⟨x, k, rfl, p1, h1, k1⟩
    have d1 := (HB.out.kept k1 (fun e => NC.out e.symm)).c1
    have d2 := (HB.out.kept k1 (fun e => NC.out e.symm)).c2
    have P1 := hide p1
    have H1 := hide h1
    have Q1 := hide (HP.out.q.kept k1 (fun e => HP.out.ne e.symm))
    have K1 := hide k1
    clear h1 k1 p1
    go_wp2_with fail
    go_at_call 29
    refine (scavR_any r u g w1 Q1.out n HI.out.2.2).mono ?_
    rintro e w2 ⟨y, m, rfl, p2, h2, k2⟩
    obtain ⟨rfl, rfl⟩ := P1.out.one p2
    have FIN := hide (FIN2.out w1 w2 _ _ K1.out H1.out k2 h2 (apart_scav HP.out.ap p2))
    clear h2 k2 p2
    go_wp2_with fail
    exact FIN.out
  have q1 : (a == 1) = false := by simpa using a1
  have q2 : (a == 2) = false := by simpa using a2
  have q3 : (a == 3) = false := by simpa using a3
  have q4 : (a == 4) = false := by simpa using a4
  have q5 : (a == 5) = false := by simpa using a5
  clear a1 a2 a3 a4 a5
  go_enter Tryd.func10, Tryd.ntmps10
  go_wp2_with fail
  rw [← W0.out]
  exact FIN0.out _ (Below.refl _ _)
end Go.Proofs.YtgjgcdbhppaigaaDoor
