/- SchedEnds, walked. -/
import Derived.Test.YtoaepcilhbndbabEn
namespace Go.Proofs.Ytoaepcilhbndbab
open Go.ChangeShapes Go.WideShapes Go.ChangeAt Go.RowKit Go.Proofs.Sc Go.Maps
set_option linter.unusedVariables false
set_option linter.unusedSimpArgs false

theorem tasks_one {w : World} {base : Nat} {v : Value} {t : List Stp} (h : w.ownsRow base 24 3 v t.length (flat t)) : TasksAt (w.alloc (.cells #[v] 25)) (.slice (some ⟨w.heap.size, 0, none⟩) 1 1) [t] :=
  tasks_block (heap_alloc_new w _) rfl (Nat.le_refl _) (by omega) (fun i t' hi => by
    match i, hi with
    | 0, hi => cases hi; exact ⟨_, rfl, ((steps_of_owns h).1.mono (fun _ _ => trivial)).kept (by simp) (fun x _ hx => Below.heap_alloc _ _ _ hx)⟩
    | i + 1, hi => simp at hi)
theorem ends_all (n : Nat) : (∀ t ∈ [endsT n], ∀ s ∈ t, s.Ok) ∧ AllKnown [endsT n] := by
  refine ⟨fun t ht s hs => ?_, fun t ht s hs => ?_⟩
  · have : t = endsT n := by simpa using ht
    subst this
    exact (ends_okS hs).1
  · have : t = endsT n := by simpa using ht
    subst this
    exact (ends_okS hs).2
theorem ends_lens (n : Nat) : lens [endsT n] = n + 2 := by simp [lens, ends_len]
set_option maxRecDepth 100000 in
theorem ends_core (n p : Int) (hn : i64 n) (hp : i64 p) (w : World) : Calls Try.prog 4 #[.int .i64 n, .int .i64 p] w fun e w' => e = .returned (.bool true) ∧ Below w.heap.size w w' := by
  have n0 := hn.1
  have n1 := hn.2
  by_cases c1 : n < 0
  · have d1 : decide (n < 0) = true := decide_eq_true c1
    go_enter Try.func4, Try.ntmps4
    go_wp2_with fail
    go_ret
    exact ⟨rfl, Below.refl _ _⟩
  · have d1 : decide (n < 0) = false := decide_eq_false c1
    by_cases c2 : n > 30
    · have d2 : decide (n > 30) = true := decide_eq_true c2
      go_enter Try.func4, Try.ntmps4
      go_wp2_with fail
      go_ret
      exact ⟨rfl, Below.refl _ _⟩
    · have d2 : decide (n > 30) = false := decide_eq_false c2
      obtain ⟨k, rfl⟩ : ∃ k : Nat, n = (k : Int) := ⟨n.toNat, by omega⟩
      have hk : k ≤ 30 := by omega
      clear c1 c2 hn n0 n1
      go_enter Try.func4, Try.ntmps4
      go_wp2_with fail
      go_loopw [5, 6] (fun vv iv wr => ∃ (i : Nat), iv = .int .i64 (i : Int) ∧ i ≤ k ∧ Hid (wr.ownsRow w.heap.size 24 3 vv i (flat (List.replicate i ⟨3, 1, 2⟩))) ∧ Hid (Below w.heap.size w wr)) (fun _ iv _ => k - (intOf iv).toNat)
      case atStart => exact ⟨0, rfl, Nat.zero_le _, hide (World.ownsRow_nil w w.heap.size 24 3), hide (Below.refl _ _)⟩
      case round =>
        obtain ⟨i, rfl, hi, hown, hB⟩ := hrel
        by_cases hlt : i < k
        · have i1 : (i : Int) < (k : Int) := by omega
          have hl : (List.replicate i (⟨3, 1, 2⟩ : Stp)).length = i := by simp
          obtain ⟨g, c, w1, r1, o1, b1, _⟩ := snoc_run wr w.heap.size 25 (t := List.replicate i ⟨3, 1, 2⟩) (r := [⟨3, 1, 2⟩]) (by rw [hl]; exact hown.out) #[.int .i64 3, .int .i64 1, .int .i64 2] rfl (by decide) (by rw [hl]; show i + 1 ≤ _; omega) hB.out.size
          have e1 : List.replicate i (⟨3, 1, 2⟩ : Stp) ++ [⟨3, 1, 2⟩] = List.replicate (i + 1) ⟨3, 1, 2⟩ := by rw [List.replicate_succ']
          rw [e1] at o1
          simp only [List.length_replicate] at o1 r1
          have O1 := hide o1
          have B1 := hide (hB.out.trans b1)
          have R1 := hide r1
          clear hown hB o1 b1 e1 hl r1
          go_wp2_with (first | (at_builtin; refine list_append_run (by rfl) (.tmp 29) (.tmp 31) 25 (by rfl) (by rfl) (by rfl) R1.out ?_))
          go_roundw
          case rel => exact ⟨i + 1, by go_num, by omega, hide O1.out, B1⟩
          case measure => simp [intOf]; omega
        · obtain rfl : i = k := by omega
          have hl : (List.replicate i (⟨3, 1, 2⟩ : Stp)).length = i := by simp
          obtain ⟨g, c, w1, r1, o1, b1, _⟩ := snoc_run wr w.heap.size 25 (t := List.replicate i ⟨3, 1, 2⟩) (r := [⟨2, 1, 0⟩, ⟨5, 9, 0⟩]) (by rw [hl]; exact hown.out) #[.int .i64 2, .int .i64 1, .int .i64 0, .int .i64 5, .int .i64 9, .int .i64 0] rfl (by decide) (by rw [hl]; show i + 2 ≤ _; omega) hB.out.size
          have ta := tasks_one o1
          have B1 := hB.out.trans b1
          rw [show List.replicate i (⟨3, 1, 2⟩ : Stp) ++ [⟨2, 1, 0⟩, ⟨5, 9, 0⟩] = endsT i from rfl] at ta
          have N := hide (J.new _ _ ta (by rw [ends_lens]; omega) (ends_all i).1 (new_ok (Nat.le_add_left 1 63) (by rw [ends_lens]; omega) (ends_all i).2) (B1.alloc B1.size _))
          rw [ends_init] at N
          simp only [List.length_replicate] at r1 N
          have R1 := hide r1
          clear hown hB o1 b1 hl r1 ta B1
          go_wp2_with (first | (at_builtin; refine list_append_run (by rfl) (.tmp 33) (.tmp 36) 25 (by rfl) (by rfl) (by rfl) R1.out ?_))
          refine N.out.mono ?_
          rintro e w2 ⟨m, rfl, j2⟩
          clear N R1
          go_wp2_with fail
          go_loopw [9] (fun iv wr => ∃ (q : Nat), iv = .int .i64 (q : Int) ∧ q ≤ i ∧ J w m wr (endsS (i - q) q)) (fun iv _ => i - (intOf iv).toNat)
          case atStart => exact ⟨0, rfl, Nat.zero_le _, j2⟩
          case round =>
            obtain ⟨q, rfl, hq, jq⟩ := hrel
            clear j2
            by_cases hql : q < i
            · have i1 : (q : Int) < (i : Int) := by omega
              have G := hide (ends_go (i - q - 1) q p (by omega))
              rw [show i - q - 1 + 1 = i - q by omega] at G
              go_wp2_with fail
              refine (jq.go hp G.out).mono ?_
              rintro e w3 ⟨rfl, j3⟩
              clear jq G
              go_wp2_with fail
              go_roundw
              case rel => exact ⟨q + 1, by go_num, by omega, by rw [show i - (q + 1) = i - q - 1 by omega]; exact j3⟩
              case measure => simp [intOf]; omega
            · obtain rfl : q = i := by omega
              rw [Nat.sub_self] at jq
              have G1 := hide (ends_last q p)
              have G2 := hide (ends_over q p)
              have A := hide (show ableS { endsS 0 q with over := true } = [] by unfold ableS; rw [if_pos rfl])
              have Lf := hide (show leftS { endsS 0 q with over := true } 0 = (2, 0) by rfl)
              have C := hide (show ({ endsS 0 q with over := true } : Sc).cell 1 = 2 * (q : Int) by rfl)
              go_wp2_with fail
              refine (jq.go hp G1.out).mono ?_
              rintro e w3 ⟨rfl, j3⟩
              clear jq G1
              go_wp2_with fail
              refine (j3.go hp G2.out).mono ?_
              rintro e w4 ⟨rfl, j4⟩
              clear j3 G2
              go_wp2_with fail
              refine (j4.left (by unfold i64; decide) Lf.out).mono ?_
              rintro e w5 ⟨rfl, j5, _⟩
              clear j4 Lf
              go_wp2_with fail
              refine (j5.enabled A.out).mono ?_
              rintro e w6 ⟨o6, cap6, rfl, _, _, _, j6, _⟩
              clear j5 A
              go_wp2_with fail
              refine (j6.said (l := []) rfl).mono ?_
              rintro e w7 ⟨o7, cap7, rfl, _, _, _, j7, _⟩
              clear j6
              go_wp2_with fail
              refine (j7.cellAt (by unfold i64; decide) C.out).mono ?_
              rintro e w8 ⟨rfl, j8, _⟩
              clear j7 C
              have J8 := hide j8.below
              clear j8
              go_wp2_with fail
              refine (awake_core _).mono ?_
              rintro e w9 ⟨rfl, b9⟩
              go_wp2_with fail
              go_ret
              exact ⟨rfl, J8.out.trans (b9.mono J8.out.size)⟩
end Go.Proofs.Ytoaepcilhbndbab
