/- Last: its contract. -/
import Derived.Test.YtnclicdnncgdiaaDoorFi
namespace Go.Proofs.YtnclicdnncgdiaaDoor
open Go.ChangeShapes Go.WideShapes Go.ChangeAt Go.RowKit Go.Proofs.Bt Go.Shelf
set_option linter.unusedVariables false
set_option linter.unusedSimpArgs false

attribute [local go_sem] Oper.semAt_some

/-- What is known of the two behind some rows. -/
def LastI (n : Int) (pre : List (Nat × Nat)) (at_ long : Int) : Prop :=
  (pre = [] ∧ at_ = 0 ∧ long = 0) ∨ ∃ p x, pre = p ++ [x] ∧ long = min ((x.2 : Int) - x.1) n ∧ at_ = (x.2 : Int) - min ((x.2 : Int) - x.1) n
/-- Between two rounds of Last. -/
structure LI (N : Nat) (w : World) (b ro : Nat) (f : Nat → Bool) (n : Int) (e : Nat) (pre : List (Nat × Nat)) (W : World) : Prop where
  bn : Boxed W N 3 (.int .i64 n)
  ba : ∃ at_ long, Boxed W (N + 1) 3 (.int .i64 at_) ∧ Boxed W (N + 2) 3 (.int .i64 long) ∧ LastI n pre at_ long
  rd : Rd b ro (N + 3) (N + 4) (N + 5) f 0 e W
  be : Below N w W
theorem LI.kept {F : Nat → Prop} {N : Nat} {w : World} {b ro : Nat} {f : Nat → Bool} {n : Int} {e : Nat} {pre : List (Nat × Nat)} {W W' : World} (h : LI N w b ro f n e pre W) (k : Kept F W W') (hN : 0 < N) (hb : b < N) (hF : ∀ x, F x → N + 6 ≤ x) : LI N w b ro f n e pre W' := by
  obtain ⟨at_, long, h1, h2, h3⟩ := h.ba
  exact ⟨boxed_kept h.bn k (fun x => by have := hF _ x; omega), ⟨at_, long, boxed_kept h1 k (fun x => by have := hF _ x; omega), boxed_kept h2 k (fun x => by have := hF _ x; omega), h3⟩,
    h.rd.kept k ⟨fun x => by have := hF _ x; omega, fun x => by have := hF _ x; omega⟩ (fun x => by have := hF _ x; omega) (fun x => by have := hF _ x; omega) (fun x => by have := hF _ x; omega) (fun x => by have := hF _ x; omega),
    below_kept h.be k (fun x f => by have := hF _ f; omega) (by have := box_lt h.bn; omega)⟩
def LastR (w : World) (f : Nat → Bool) (n to : Int) (e : Ending) (w' : World) : Prop := ∃ i k, e = .returned (.tuple #[.int .i64 i, .int .i64 k]) ∧ LastP f n to i k ∧ Below w.heap.size w w'

set_option maxRecDepth 100000 in
set_option maxHeartbeats 2000000 in
theorem last_core (b ro : Nat) (f : Nat → Bool) (n to : Int) (hn : 1 ≤ n) (hn' : n ≤ 9223372036854775807) (w : World) (h : RowF w b ro f) (ht : TabW w) :
    Calls Tryd.prog 44 #[.pointer (some ⟨b, ro, none⟩), .int .i64 n, .int .i64 to] w (LastR w f n to) := by
  obtain ⟨N, hN⟩ : ∃ N, w.heap.size = N := ⟨_, rfl⟩
  have hb := h.lt
  have h0 := ht.lt
  obtain ⟨R, hR⟩ : ∃ R, R = LastR w f n to := ⟨_, rfl⟩
  rw [← hR]
  have HR := hide hR
  have H := hide h
  have HT := hide ht
  obtain ⟨e, hae⟩ : ∃ e, e = min to.toNat 512 := ⟨_, rfl⟩
  have HE := hide hae
  have hm : (to < 0 ∧ Hid ((0 : Int) = (e : Int))) ∨ (0 ≤ to ∧ to ≤ 512 ∧ Hid (to = (e : Int))) ∨ (0 ≤ to ∧ 512 < to ∧ Hid ((512 : Int) = (e : Int))) := by
    by_cases x : to < 0
    · exact .inl ⟨x, hide (by omega)⟩
    · by_cases y : to ≤ 512
      · exact .inr (.inl ⟨by omega, y, hide (by omega)⟩)
      · exact .inr (.inr ⟨by omega, by omega, hide (by omega)⟩)
  clear hR h ht hae
  refine (callsIn_wide (n := 3)).1 ?_
  refine callsIn_of_wp_marks Tryd.func44 rfl trivial ?_ rfl
  simp only [Tryd.ntmps44, List.size_toArray, List.length_cons, List.length_nil, Nat.reduceAdd, Nat.reduceSub, Array.replicate_succ, Array.replicate_zero, List.push_toArray, List.append_toArray, List.nil_append, List.cons_append]
  rcases hm with ⟨m1, hA⟩ | ⟨m1, m2, hA⟩ | ⟨m1, m2, hA⟩
  all_goals
    gi_wp2_with fail
    refine wcall2 (clears_any _ _ _ _ _) ?_
    rintro e' w6 ⟨rfl, h6⟩
    obtain ⟨s6, b6, q0, q1, q2, q3, q4, q5⟩ := allocs6 w _ _ _ _ _ _ w6 h6 N hN
    rw [hA.out] at q5
    have f0 : LI N w b ro f n e [] w6 := ⟨q0, ⟨0, 0, q1, q2, .inl ⟨rfl, rfl, rfl⟩⟩, ⟨q3, q4, q5, H.out.below (by rw [hN]; exact b6), HT.out.below (by rw [hN]; exact b6)⟩, b6⟩
    have F0 := hide f0
    clear f0 q0 q1 q2 q3 q4 q5 b6 h6
    gi_wp2_with fail
    simp only [Nat.add_assoc, Nat.reduceAdd]
    have seq := iter_seq b ro (N + 3) (N + 4) (N + 5) f 0 e (by omega) (by have := HE.out; omega) (3 - 1)
    refine range_law (w := w6) rfl (enters_of Tryd.func77 (by kernel_rfl) rfl) seq (fun _ => rfl) (LI N w b ro f n e) (fun c pre W => False) (fun s A h => h.rd) ?hI ?hIx F0.out ?round ?done ?stop
    case hI =>
      intro s A A' h k
      rw [s6] at k
      exact h.kept k (by omega) (by omega) (fun x hx => by omega)
    case hIx =>
      rintro c s A o' h hl
      exact h
    case round =>
      rintro pre x W ⟨r0, hr0⟩ _ h hp
      rw [s6] at hr0 ⊢
      have hx := (runs_facts (blk f 0 e)).1 x (hp.subset (by simp))
      have x1 := hx.lt
      have x2 := hx.le
      have H := hide h
      have HR0 := hide hr0
      clear h hr0 seq hx hp
      simp only [encs2]
      gi_wp2_with fail
      refine ⟨keepsFrom_of (Kept.refl (fun _ => False) W) (fun b hb e => e), fun r => ?_⟩
      have k2 := Kept.put (F := fun b => b = N + 7) W (N + 6 + 1) (.loop r) rfl
      obtain ⟨W2, hW2⟩ : ∃ W2, W.putObj (N + 6 + 1) (.loop r) = W2 := ⟨_, rfl⟩
      rw [hW2] at k2 ⊢
      have H2 := hide (H.out.kept k2 (by omega) (by omega) (fun b hb => by omega))
      clear k2 hW2
      obtain ⟨at_, long, B1, B2, _⟩ := H2.out.ba
      have cn := H2.out.bn.cell
      have ci := B1.cell
      have fi := B1.frozen
      have co := B2.cell
      have fo := B2.frozen
      have HB1 := hide B1
      have HB2 := hide B2
      clear B1 B2
      obtain ⟨X1, hX1⟩ : ∃ X1 : Int, (x.1 : Int) = X1 := ⟨_, rfl⟩
      obtain ⟨X2, hX2⟩ : ∃ X2 : Int, (x.2 : Int) = X2 := ⟨_, rfl⟩
      rw [hX1, hX2]
      have y0 : 0 ≤ X1 := by omega
      have y1 : X1 < X2 := by omega
      have y2 : X2 ≤ 512 := by omega
      have HX1 := hide hX1
      have HX2 := hide hX2
      clear hX1 hX2 x1 x2
      by_cases hl : X2 - X1 ≤ n
      · gi_wp2_with fail
        have k3 := kept_set (F := fun b => b = N + 1 ∨ b = N + 2) W2 (N + 2) 0 (.int .i64 (X2 - X1)) (.inr rfl)
        have k4 := kept_set (F := fun b => b = N + 1 ∨ b = N + 2) (W2.setCell ⟨N + 2, 0, none⟩ (.int .i64 (X2 - X1))) (N + 1) 0 (.int .i64 (X2 - (X2 - X1))) (.inl rfl)
        have k5 := k3.trans k4 (fun _ _ h => h)
        have b3 := (HB2.out).set (.int .i64 (X2 - X1))
        have b4 := boxed_kept b3 (kept_set (F := fun b => b = N + 1) (W2.setCell ⟨N + 2, 0, none⟩ (.int .i64 (X2 - X1))) (N + 1) 0 (.int .i64 (X2 - (X2 - X1))) rfl) (by omega)
        have o4 := (boxed_kept HB1.out (kept_set (F := fun b => b = N + 2) W2 (N + 2) 0 (.int .i64 (X2 - X1)) rfl) (by omega)).set (.int .i64 (X2 - (X2 - X1)))
        refine ⟨keepsFrom_of k5 (fun b hb e => by omega), boxed_kept H2.out.bn k5 (by omega), ⟨_, _, o4, b4, .inr ⟨pre, x, rfl, ?_, ?_⟩⟩, H2.out.rd.kept k5 ⟨by omega, by omega⟩ (by omega) (by omega) (by omega) (by omega), below_kept H2.out.be k5 (fun b hb => by omega) (by have := box_lt H2.out.bn; omega)⟩
        · rw [HX1.out, HX2.out]; omega
        · rw [HX1.out, HX2.out]; omega
      · have hl' : n < X2 - X1 := by omega
        clear hl
        gi_wp2_with fail
        have k3 := kept_set (F := fun b => b = N + 1 ∨ b = N + 2) W2 (N + 2) 0 (.int .i64 (n)) (.inr rfl)
        have k4 := kept_set (F := fun b => b = N + 1 ∨ b = N + 2) (W2.setCell ⟨N + 2, 0, none⟩ (.int .i64 (n))) (N + 1) 0 (.int .i64 (X2 - n)) (.inl rfl)
        have k5 := k3.trans k4 (fun _ _ h => h)
        have b3 := (HB2.out).set (.int .i64 (n))
        have b4 := boxed_kept b3 (kept_set (F := fun b => b = N + 1) (W2.setCell ⟨N + 2, 0, none⟩ (.int .i64 (n))) (N + 1) 0 (.int .i64 (X2 - n)) rfl) (by omega)
        have o4 := (boxed_kept HB1.out (kept_set (F := fun b => b = N + 2) W2 (N + 2) 0 (.int .i64 (n)) rfl) (by omega)).set (.int .i64 (X2 - n))
        refine ⟨keepsFrom_of k5 (fun b hb e => by omega), boxed_kept H2.out.bn k5 (by omega), ⟨_, _, o4, b4, .inr ⟨pre, x, rfl, ?_, ?_⟩⟩, H2.out.rd.kept k5 ⟨by omega, by omega⟩ (by omega) (by omega) (by omega) (by omega), below_kept H2.out.be k5 (fun b hb => by omega) (by have := box_lt H2.out.bn; omega)⟩
        · rw [HX1.out, HX2.out]; omega
        · rw [HX1.out, HX2.out]; omega
    case done =>
      rintro W h hd
      rw [s6] at hd ⊢
      obtain ⟨at_, long, B1, B2, hL⟩ := h.ba
      have ci := B1.cell
      have co := B2.cell
      have HH := hide h
      have HD := hide hd
      have HL := hide hL
      have hlt := box_lt h.bn
      clear h hd seq B1 B2 hL
      gi_wp2_with fail
      refine wpIn_wide.2 (still_all (by kernel_rfl) (by kernel_rfl) ?_)
      repeat still_step
      refine wpStill_nil ?_
      gi_wp2_with fail
      have k6 := Kept.put (F := fun b => b = N + 6) W.drew (N + 6) (.deferred none) rfl
      have B6 := below_kept HH.out.be.drew k6 (fun b hb => by omega) (by have : W.drew.heap.size = W.heap.size := rfl; omega)
      refine ⟨by simp, .inl ⟨_, _, rfl, run_takeDeferred (show W.drew.heap[N + 6]? = _ from HD.out), ?_⟩⟩
      refine ⟨.tuple #[.int .i64 at_, .int .i64 long], ?_, ?_⟩
      · simp [results, Tryd.results44, go_sem, Result.andThen]
      · rw [HR.out]
        refine ⟨at_, long, rfl, ?_, by rw [hN]; exact B6⟩
        rcases HL.out with ⟨h1, rfl, rfl⟩ | ⟨p, x, h1, rfl, rfl⟩
        · rw [HE.out] at h1
          exact last_none h1
        · rw [HE.out] at h1
          exact last_some hn h1
    case stop =>
      rintro c pre x W hpre h hd
      exact h.elim
/-- Last, of whatever numbers. -/
theorem last_any (b ro : Nat) (f : Nat → Bool) (n to : Int) (hn' : n ≤ 9223372036854775807) (w : World) (h : RowF w b ro f) (ht : TabW w) :
    Calls Tryd.prog 44 #[.pointer (some ⟨b, ro, none⟩), .int .i64 n, .int .i64 to] w (LastR w f n to) := by
  by_cases hn : 1 ≤ n
  · exact last_core b ro f n to hn hn' w h ht
  · have hn2 : n < 1 := by omega
    have HH := hide h
    have HT := hide ht
    clear hn h ht
    obtain ⟨R, hR⟩ : ∃ R, R = LastR w f n to := ⟨_, rfl⟩
    rw [← hR]
    have HR := hide hR
    clear hR
    refine (callsIn_wide (n := 3)).1 ?_
    refine callsIn_of_wp_marks Tryd.func44 rfl trivial ?_ rfl
    simp only [Tryd.ntmps44, List.size_toArray, List.length_cons, List.length_nil, Nat.reduceAdd, Nat.reduceSub, Array.replicate_succ, Array.replicate_zero, List.push_toArray, List.append_toArray, List.nil_append, List.cons_append]
    gi_wp2_with fail
    refine ⟨.tuple #[.int .i64 0, .int .i64 0], ?_, ?_⟩
    · simp [results, Tryd.results44, go_sem, Nat.add_assoc, Result.andThen]
    · rw [HR.out]
      exact ⟨0, 0, rfl, .inl ⟨rfl, rfl, .inl hn2⟩, (Below.refl _ w).alloc (Nat.le_refl _) _⟩
end Go.Proofs.YtnclicdnncgdiaaDoor
