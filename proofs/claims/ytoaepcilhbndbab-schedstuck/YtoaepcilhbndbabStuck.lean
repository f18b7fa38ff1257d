/- SchedStuck, walked. -/
import Derived.Test.YtoaepcilhbndbabStu
import Derived.Test.YtoaepcilhbndbabArg
namespace Go.Proofs.Ytoaepcilhbndbab
open Go.ChangeShapes Go.WideShapes Go.ChangeAt Go.RowKit Go.Proofs.Sc Go.Maps
set_option linter.unusedVariables false
set_option linter.unusedSimpArgs false

theorem IntsAt.at {w w' : World} {o : Option Addr} {len cap : Nat} {l : List Int} (h : IntsAt w (.slice o len cap) l) (hb : Below w.heap.size w w') {i : Nat} (hi : i < len) : ∃ g off x, o = some ⟨g, off, none⟩ ∧ l[i]? = some x ∧ i64 x ∧ w'.cell? ⟨g, off + i, none⟩ = some (.int .i64 x) := by
  obtain ⟨o', cap', e, h2, h3, h4, h5, h6⟩ := h
  injection e with e1 e2 e3
  subst e1 e2 e3
  obtain ⟨g, off, rfl, hg, hc⟩ := h6 (fun z => by rw [z] at hi; simp at hi)
  have hx := List.getElem?_eq_getElem hi
  exact ⟨g, off, _, rfl, hx, h5 _ (List.mem_of_getElem? hx), (hb.cell (p := ⟨g, off + i, none⟩) hg).trans (hc i _ hx)⟩
theorem IntsAt.shape {w : World} {v : Value} {l : List Int} (h : IntsAt w v l) : ∃ o cap, v = .slice o l.length cap ∧ l.length ≤ 9223372036854775807 := by
  obtain ⟨o, cap, e, h2, h3, _⟩ := h
  exact ⟨o, cap, e, by omega⟩
theorem stu_ok : (∀ t ∈ [aT, bT], ∀ s ∈ t, s.Ok) ∧ AllKnown [aT, bT] := by
  have key : ∀ t ∈ [aT, bT], ∀ s ∈ t, s.Ok ∧ Known s := by
    intro t ht s hs
    simp at ht
    rcases ht with rfl | rfl
    · simp [aT] at hs
      rcases hs with rfl | rfl | rfl | rfl <;> exact ⟨⟨by unfold i64; decide, by unfold i64; decide, by unfold i64; decide⟩, by decide, by decide⟩
    · simp [bT] at hs
      rcases hs with rfl | rfl | rfl | rfl <;> exact ⟨⟨by unfold i64; decide, by unfold i64; decide, by unfold i64; decide⟩, by decide, by decide⟩
  exact ⟨fun t ht s hs => (key t ht s hs).1, fun t ht s hs => (key t ht s hs).2⟩
def caA : Array Value := #[.int .i64 1, .int .i64 1, .int .i64 0, .int .i64 1, .int .i64 2, .int .i64 0, .int .i64 2, .int .i64 2, .int .i64 0, .int .i64 2, .int .i64 1, .int .i64 0]
def caB : Array Value := #[.int .i64 1, .int .i64 2, .int .i64 0, .int .i64 1, .int .i64 1, .int .i64 0, .int .i64 2, .int .i64 1, .int .i64 0, .int .i64 2, .int .i64 2, .int .i64 0]
theorem stu_tasks (w : World) : TasksAt (((w.alloc (.cells caA 24)).alloc (.cells caB 24)).alloc (.cells #[.slice (some ⟨w.heap.size, 0, none⟩) 4 4, .slice (some ⟨w.heap.size + 1, 0, none⟩) 4 4] 25)) (.slice (some ⟨w.heap.size + 1 + 1, 0, none⟩) 2 2) [aT, bT] := by
  obtain ⟨W1, hW1⟩ : ∃ W1, W1 = w.alloc (.cells caA 24) := ⟨_, rfl⟩
  obtain ⟨W2, hW2⟩ : ∃ W2, W2 = W1.alloc (.cells caB 24) := ⟨_, rfl⟩
  rw [← hW1, ← hW2]
  have s1 : W1.heap.size = w.heap.size + 1 := by rw [hW1]; simp
  have s2 : W2.heap.size = w.heap.size + 1 + 1 := by rw [hW2]; simp; exact s1
  refine tasks_block (cs := #[.slice (some ⟨w.heap.size, 0, none⟩) 4 4, .slice (some ⟨w.heap.size + 1, 0, none⟩) 4 4]) (fr := (0, 0)) (ty := 25) (by rw [← s2]; exact heap_alloc_new _ _) rfl (Nat.le_refl _) (by omega) (fun i t hi => ?_)
  match i, hi with
  | 0, hi => cases hi; exact ⟨_, rfl, steps_block (cs := caA) (by rw [Below.heap_alloc _ _ _ (by omega), hW2, Below.heap_alloc _ _ _ (by omega), hW1]; exact heap_alloc_new _ _) rfl rfl (by omega)⟩
  | 1, hi => cases hi; exact ⟨_, rfl, steps_block (cs := caB) (by rw [Below.heap_alloc _ _ _ (by omega), ← s1, hW2]; exact heap_alloc_new _ _) rfl rfl (by omega)⟩
  | i + 2, hi => simp at hi
set_option maxRecDepth 100000 in
set_option maxHeartbeats 2000000 in
theorem stuck_core (v : Value) (l : List Int) (w : World) (h : IntsAt w v l) : Calls Try.prog 3 #[v] w fun e w' => e = .returned (.bool true) ∧ Below w.heap.size w w' := by
  obtain ⟨o, cap, rfl, hlm⟩ := h.shape
  have H := hide h
  obtain ⟨n, hn⟩ : ∃ n, l.length = n := ⟨_, rfl⟩
  rw [hn] at hlm H ⊢
  clear h hn
  by_cases c : 100 < n
  · have d : decide ((n : Int) > 100) = true := decide_eq_true (by omega)
    clear H
    go_enter Try.func3, Try.ntmps3
    go_wp2_with fail
    go_ret
    exact ⟨rfl, Below.refl _ _⟩
  · have d : decide ((n : Int) > 100) = false := decide_eq_false (by omega)
    obtain ⟨W, hW⟩ : ∃ W, W = ((w.alloc (.cells caA 24)).alloc (.cells caB 24)).alloc (.cells #[.slice (some ⟨w.heap.size, 0, none⟩) 4 4, .slice (some ⟨w.heap.size + 1, 0, none⟩) 4 4] 25) := ⟨_, rfl⟩
    have ta := stu_tasks w
    rw [← hW] at ta
    have BW : Below w.heap.size w W := by rw [hW]; exact (((Below.refl _ _).alloc (Nat.le_refl _) _).alloc (by simp) _).alloc (by simp; omega) _
    have N := hide (J.new _ _ ta (by decide) stu_ok.1 (new_ok (by decide) (by decide) stu_ok.2) BW)
    have HW := hide hW
    unfold caA caB at HW
    clear ta BW hW
    go_enter Try.func3, Try.ntmps3
    go_wp2_with fail
    rw [← HW.out]
    refine N.out.mono ?_
    rintro e w1 ⟨m, rfl, j1⟩
    clear N HW
    go_wp2_with fail
    go_loopw [7] (fun iv wr => ∃ (t i j : Nat) (S : Sc), iv = .int .i64 (t : Int) ∧ t ≤ 8 ∧ Hid (t = i + j ∧ reach i j = true ∧ X S i j) ∧ J w m wr S) (fun iv _ => 20 - (intOf iv).toNat)
    case atStart => exact ⟨0, 0, 0, _, rfl, by omega, hide ⟨rfl, rfl, stu_start⟩, j1⟩
    case round =>
      obtain ⟨t, i, j, S, rfl, ht, hX, jr⟩ := hrel
      clear j1
      obtain ⟨htj, hr, x⟩ := hX.out
      obtain ⟨hi4, hj4⟩ := reach_le hr
      obtain ⟨la, lb⟩ := x.left hi4 hj4
      have LA := hide la
      have LB := hide lb
      have t20 : (t : Int) < 20 := by omega
      obtain ⟨k, hk64, hkw⟩ : ∃ k : Int, i64 k ∧ ((¬ t < n ∧ k = 0) ∨ (t < n ∧ ∃ g off, o = some ⟨g, off, none⟩ ∧ wr.cell? ⟨g, off + t, none⟩ = some (.int .i64 k))) := by
        by_cases z : t < n
        · obtain ⟨g, off, y, e1, _, e3, e4⟩ := H.out.at jr.below z
          exact ⟨y, e3, Or.inr ⟨z, g, off, e1, e4⟩⟩
        · exact ⟨0, by unfold i64; decide, Or.inl ⟨z, rfl⟩⟩
      obtain ⟨p, hp⟩ : ∃ p, 4 - i = p := ⟨_, rfl⟩
      obtain ⟨q, hq⟩ : ∃ q, 4 - j = q := ⟨_, rfl⟩
      rw [hp] at LA
      rw [hq] at LB
      by_cases c44 : i = 4 ∧ j = 4
      · obtain ⟨rfl, rfl⟩ := c44
        have G := hide (x.done k)
        obtain rfl : p = 0 := by omega
        obtain rfl : q = 0 := by omega
        clear hX htj hr x la lb hp hq
        rcases hkw with ⟨z, rfl⟩ | ⟨z, g, off, rfl, hc⟩
        · have dz : decide ((t : Int) < (n : Int)) = false := decide_eq_false (by omega)
          go_wp2_with fail
          refine (jr.left (by unfold i64; decide) LA.out).mono ?_
          rintro e w2 ⟨rfl, j2, _⟩
          clear jr
          go_wp2_with fail
          refine (j2.left (by unfold i64; decide) LB.out).mono ?_
          rintro e w3 ⟨rfl, j3, _⟩
          clear j2
          go_wp2_with fail
          refine (j3.go hk64 G.out).mono ?_
          rintro e w4 ⟨rfl, j4⟩
          have J4 := hide j4.below
          clear j3 j4
          go_wp2_with fail
          refine (awake_core _).mono ?_
          rintro e w9 ⟨rfl, b9⟩
          go_wp2_with fail
          go_ret
          exact ⟨rfl, J4.out.trans (b9.mono J4.out.size)⟩
        · have dz : decide ((t : Int) < (n : Int)) = true := decide_eq_true (by omega)
          have dz' : (t : Int) < (n : Int) := by omega
          go_wp2_with fail
          refine (jr.left (by unfold i64; decide) LA.out).mono ?_
          rintro e w2 ⟨rfl, j2, _⟩
          clear jr
          go_wp2_with fail
          refine (j2.left (by unfold i64; decide) LB.out).mono ?_
          rintro e w3 ⟨rfl, j3, _⟩
          clear j2
          go_wp2_with fail
          refine (j3.go hk64 G.out).mono ?_
          rintro e w4 ⟨rfl, j4⟩
          have J4 := hide j4.below
          clear j3 j4
          go_wp2_with fail
          refine (awake_core _).mono ?_
          rintro e w9 ⟨rfl, b9⟩
          go_wp2_with fail
          go_ret
          exact ⟨rfl, J4.out.trans (b9.mono J4.out.size)⟩
      · by_cases c11 : i = 1 ∧ j = 1
        · obtain ⟨rfl, rfl⟩ := c11
          obtain ⟨gg, aa⟩ := x.stuck k
          have G := hide gg
          have A := hide aa
          obtain rfl : p = 3 := by omega
          obtain rfl : q = 3 := by omega
          clear hX htj hr x la lb hp hq gg aa c44
          rcases hkw with ⟨z, rfl⟩ | ⟨z, g, off, rfl, hc⟩
          all_goals
            first
              | have dz : decide ((t : Int) < (n : Int)) = false := decide_eq_false (by omega)
              | (have dz : decide ((t : Int) < (n : Int)) = true := decide_eq_true (by omega)
                 have dz' : (t : Int) < (n : Int) := by omega)
            go_wp2_with fail
            refine (jr.left (by unfold i64; decide) LA.out).mono ?_
            rintro e w2 ⟨rfl, j2, _⟩
            clear jr
            go_wp2_with fail
            refine (j2.left (by unfold i64; decide) LB.out).mono ?_
            rintro e w3 ⟨rfl, j3, _⟩
            clear j2
            go_wp2_with fail
            refine (j3.go hk64 G.out).mono ?_
            rintro e w4 ⟨rfl, j4⟩
            clear j3
            go_wp2_with fail
            refine (j4.enabled A.out).mono ?_
            rintro e w5 ⟨o5, cap5, rfl, _, _, _, j5, _⟩
            have J5 := hide j5.below
            clear j4 j5
            go_wp2_with fail
            refine (awake_core _).mono ?_
            rintro e w9 ⟨rfl, b9⟩
            go_wp2_with fail
            go_ret
            exact ⟨rfl, J5.out.trans (b9.mono J5.out.size)⟩
        · obtain ⟨kk, S', i', j', gg, hkk, x', r', hs'⟩ := x.go hr k c44 c11
          have G := hide gg
          have NX : Hid (t + 1 = i' + j' ∧ reach i' j' = true ∧ X S' i' j') := hide ⟨by omega, r', x'⟩
          have t8 : t + 1 ≤ 8 := by have := reach_le r'; omega
          have e44 : ((p : Int) == 0) = false ∨ ((p : Int) == 0) = true ∧ ((q : Int) == 0) = false := by
            by_cases z : p = 0
            · right
              exact ⟨by rw [beq_iff_eq]; omega, beq_eq_false_iff_ne.2 (by omega)⟩
            · left; exact beq_eq_false_iff_ne.2 (by omega)
          have e11 : ((p : Int) == 3) = false ∨ ((p : Int) == 3) = true ∧ ((q : Int) == 3) = false := by
            by_cases z : p = 3
            · right
              exact ⟨by rw [beq_iff_eq]; omega, beq_eq_false_iff_ne.2 (by omega)⟩
            · left; exact beq_eq_false_iff_ne.2 (by omega)
          clear hX htj hr x la lb gg c44 c11 x' r' hs' hp hq
          rcases hkw with ⟨z, rfl⟩ | ⟨z, g, off, rfl, hc⟩
          all_goals
            first
              | have dz : decide ((t : Int) < (n : Int)) = false := decide_eq_false (by omega)
              | (have dz : decide ((t : Int) < (n : Int)) = true := decide_eq_true (by omega)
                 have dz' : (t : Int) < (n : Int) := by omega)
            rcases e44 with e44 | ⟨e44, e44'⟩ <;> rcases e11 with e11 | ⟨e11, e11'⟩
            all_goals
              go_wp2_with fail
              refine (jr.left (by unfold i64; decide) LA.out).mono ?_
              rintro e w2 ⟨rfl, j2, _⟩
              clear jr
              go_wp2_with fail
              refine (j2.left (by unfold i64; decide) LB.out).mono ?_
              rintro e w3 ⟨rfl, j3, _⟩
              clear j2
              go_wp2_with fail
              refine (j3.go hk64 G.out).mono ?_
              rintro e w4 ⟨rfl, j4⟩
              clear j3
              go_wp2_with fail
              go_roundw
              case rel => exact ⟨t + 1, i', j', S', by go_num, by omega, NX, j4⟩
              case measure => simp [intOf]; omega
end Go.Proofs.Ytoaepcilhbndbab
