/- Count and Release at the face. -/
import Derived.Test.YtpceigglilgelaaVmU
import Derived.Test.YtpceigglilgelaaVmK
namespace Go.Proofs.Ytpceigglilgelaa
open Go.ChangeShapes Go.WideShapes Go.ChangeAt Go.RowKit Go.Proofs.Sp

theorem cnt_list (f : Nat → Nat) (k : Nat) : ∀ (n a : Nat) (l : List Nat), l.Pairwise (· < ·) → (∀ p ∈ l, a ≤ p ∧ p < a + n) → (∀ p, a ≤ p → p < a + n → f p = k → p ∈ l) → cntI f a n k = l.countP fun p => decide (f p = k)
  | 0, a, l, _, h2, _ => by
    cases l with
    | nil => rfl
    | cons x r => have := h2 x (List.mem_cons_self); omega
  | n + 1, a, l, h1, h2, h3 => by
    have e : cntI f a (n + 1) k = (if f a = k then 1 else 0) + cntI f (a + 1) n k := by
      unfold cntI
      rw [List.range'_succ, List.countP_cons]
      by_cases z : f a = k <;> simp [z]; omega
    rw [e]
    cases l with
    | nil =>
      rw [if_neg (fun z => by have := h3 a (by omega) (by omega) z; cases this), cnt_list f k n (a + 1) [] List.Pairwise.nil (fun p h => by cases h) (fun p p1 p2 p3 => h3 p (by omega) (by omega) p3)]
      rfl
    | cons x r =>
      obtain ⟨q1, q2⟩ := List.pairwise_cons.1 h1
      have hx := h2 x List.mem_cons_self
      by_cases z : x = a
      · subst z
        rw [cnt_list f k n (x + 1) r q2 (fun p hp => ⟨q1 p hp, by have := h2 p (List.mem_cons_of_mem _ hp); omega⟩) (fun p p1 p2 p3 => by
          rcases List.mem_cons.1 (h3 p (by omega) (by omega) p3) with e | e
          · omega
          · exact e), List.countP_cons]
        by_cases y : f x = k <;> simp [y]; omega
      · rw [if_neg (fun y => by
          rcases List.mem_cons.1 (h3 a (by omega) (by omega) y) with e | e
          · exact z e.symm
          · have := q1 a e; omega), Nat.zero_add]
        exact cnt_list f k n (a + 1) (x :: r) h1 (fun p hp => ⟨by
          rcases List.mem_cons.1 hp with e | e
          · omega
          · have := q1 p e; omega, by have := h2 p hp; omega⟩) (fun p p1 p2 p3 => h3 p (by omega) (by omega) p3)
theorem count_rows {S : Sp} (h : WF S) (k : Nat) (hk : k ≠ 0) : countS S (k : Int) = cntI S.st 0 34359738368 k := by
  rw [cnt_list S.st k 34359738368 0 S.pgs h.rising (fun p hp => ⟨by omega, by have := h.below p hp; omega⟩) (fun p _ _ e => (h.mem p).1 (by omega))]
  unfold countS
  congr 1
  funext p
  congr 1
  exact propext ⟨fun z => by omega, fun z => by omega⟩
theorem count_other {S : Sp} (h : WF S) (k : Int) (hk : k ≠ 1 ∧ k ≠ 2 ∧ k ≠ 3) : countS S k = 0 := by
  unfold countS
  rw [List.countP_eq_zero]
  intro p hp z
  have z := of_decide_eq_true z
  have a := (h.mem p).2 hp
  have b := h.le3 p
  omega
theorem vcount {w : World} {m : Addr} {S : Sp} {F : Nat → Prop} {K : Nat} (k : Int) (k1 : -9223372036854775808 ≤ k) (k2 : k ≤ 9223372036854775807) (h : VI w m S F K) :
    Calls Try.prog vm.count #[.pointer (some m), .int .i64 k] w fun e w' => e = .returned (.int .u64 (countS S k : Nat)) ∧ Step VI F w w' m S K := by
  have V := hide h
  obtain ⟨b, g0, g1, g2, g, cap, R, bp, bf, n, MP, MF, A, rfl, e, l, kf⟩ := h
  have c1 := l.rows.cnt 1 (by omega)
  have c2 := l.rows.cnt 2 (by omega)
  have c3 := l.rows.cnt 3 (by omega)
  rw [← count_rows kf.wf 1 (by omega)] at c1
  rw [← count_rows kf.wf 2 (by omega)] at c2
  rw [← count_rows kf.wf 3 (by omega)] at c3
  obtain ⟨x, hx⟩ : ∃ x : Nat, x = countS S k := ⟨_, rfl⟩
  rw [← hx]
  have T := hide (V.out.below (Below.refl _ _))
  by_cases z1 : k = 1
  · subst z1
    rw [show ((1 : Nat) : Int) = 1 by rfl, ← hx] at c1
    clear e l kf c2 c3 hx V
    show Calls Try.prog 14 _ w _
    go_enter Try.func14, Try.ntmps14
    go_wp2_with fail
    go_ret
    exact ⟨rfl, T.out⟩
  · by_cases z2 : k = 2
    · subst z2
      rw [show ((2 : Nat) : Int) = 2 by rfl, ← hx] at c2
      clear e l kf c1 c3 hx V
      show Calls Try.prog 14 _ w _
      go_enter Try.func14, Try.ntmps14
      go_wp2_with fail
      go_ret
      exact ⟨rfl, T.out⟩
    · by_cases z3 : k = 3
      · subst z3
        rw [show ((3 : Nat) : Int) = 3 by rfl, ← hx] at c3
        clear e l kf c1 c2 hx V
        show Calls Try.prog 14 _ w _
        go_enter Try.func14, Try.ntmps14
        go_wp2_with fail
        go_ret
        exact ⟨rfl, T.out⟩
      · have hx0 : x = 0 := hx.trans (count_other kf.wf k ⟨z1, z2, z3⟩)
        subst hx0
        have y1 : (k == 1) = false := beq_eq_false_iff_ne.2 z1
        have y2 : (k == 2) = false := beq_eq_false_iff_ne.2 z2
        have y3 : (k == 3) = false := beq_eq_false_iff_ne.2 z3
        clear e l kf c1 c2 c3 hx V z1 z2 z3
        show Calls Try.prog 14 _ w _
        go_enter Try.func14, Try.ntmps14
        go_wp2_with fail
        go_ret
        exact ⟨rfl, T.out⟩
end Go.Proofs.Ytpceigglilgelaa
