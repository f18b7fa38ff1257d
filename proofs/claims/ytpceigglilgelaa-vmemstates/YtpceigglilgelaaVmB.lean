/- The landed package's parts of rows: the two questions that are asked of them. -/
import Derived.Test.YtpceigglilgelaaVmA
namespace Go.Proofs.Ytpceigglilgelaa
open Go.ChangeShapes Go.WideShapes Go.ChangeAt Go.RowKit Go.Proofs.Sp

/-- A slice of parts (three cells each) reads as Ps. -/
def PartsAt (w : World) (v : Value) (Ps : List (Nat × Nat × Nat)) : Prop :=
  (v = .slice none 0 0 ∧ Ps = []) ∨ ∃ g cap, v = .slice (some ⟨g, 0, none⟩) Ps.length cap ∧ g < w.heap.size ∧ ∀ i (h : i < Ps.length), w.cell? ⟨g, i * 3, none⟩ = some (.int .u64 (Ps[i].1 : Int)) ∧ w.cell? ⟨g, i * 3 + 1, none⟩ = some (.int .u64 (Ps[i].2.1 : Int)) ∧ w.cell? ⟨g, i * 3 + 2, none⟩ = some (.int .i64 (Ps[i].2.2 : Int))
theorem PartsAt.below {w w' : World} {v : Value} {Ps : List (Nat × Nat × Nat)} (h : PartsAt w v Ps) (hb : Below w.heap.size w w') : PartsAt w' v Ps := by
  rcases h with h | ⟨g, cap, h1, h2, h3⟩
  · exact Or.inl h
  · refine Or.inr ⟨g, cap, h1, Nat.lt_of_lt_of_le h2 hb.size, fun i hi => ?_⟩
    rw [hb.cell (p := ⟨g, i * 3, none⟩) h2, hb.cell (p := ⟨g, i * 3 + 1, none⟩) h2, hb.cell (p := ⟨g, i * 3 + 2, none⟩) h2]
    exact h3 i hi

theorem none_test (a b s : Int) (w : World) : Calls Try.prog 62 #[.agg #[.int .u64 a, .int .u64 b, .int .i64 s]] w fun e w' => e = .returned (.bool (s == 0)) ∧ Below w.heap.size w w' := by
  go_enter Try.func62, Try.ntmps62
  go_wp2_with fail
  go_ret
  exact ⟨rfl, (Below.refl _ _).alloc (Nat.le_refl _) _⟩
theorem ready_test (a b s : Int) (w : World) : Calls Try.prog 63 #[.agg #[.int .u64 a, .int .u64 b, .int .i64 s]] w fun e w' => e = .returned (.bool (s != 2)) ∧ Below w.heap.size w w' := by
  go_enter Try.func63, Try.ntmps63
  go_wp2_with fail
  go_ret
  exact ⟨rfl, (Below.refl _ _).alloc (Nat.le_refl _) _⟩

theorem index_none (v : Value) (Ps : List (Nat × Nat × Nat)) (hn : Ps.length ≤ 70368744177664) (w : World) (hP : PartsAt w v Ps) :
    Calls Try.prog 86 #[v, .func (.func 62) #[] #[]] w fun e w' => (∃ k : Int, e = .returned (.int .i64 k) ∧ ((k = -1 ∧ ∀ x ∈ Ps, ((x.2.2 : Int) == 0) = false) ∨ (0 ≤ k ∧ ∃ x ∈ Ps, ((x.2.2 : Int) == 0) = true))) ∧ Below w.heap.size w w' := by
  rcases hP with ⟨rfl, rfl⟩ | ⟨g, cap, rfl, hg, hc⟩
  · go_enter Try.func86, Try.ntmps86
    go_wp2_with fail
    refine wp_loop_rounds 1 ?_
    rw [rounds_succ]
    go_wp2_with fail
    go_ret
    exact ⟨⟨-1, rfl, Or.inl ⟨rfl, fun x hx => by cases hx⟩⟩, Below.refl _ _⟩
  · have HC := hide hc
    clear hc
    go_enter Try.func86, Try.ntmps86
    go_wp2_with fail
    go_loopw [8] (fun iv wr => ∃ k : Nat, k ≤ Ps.length ∧ iv = .int .i64 (k : Int) ∧ Hid (∀ j (h : j < Ps.length), j < k → ((Ps[j].2.2 : Int) == 0) = false) ∧ Below w.heap.size w wr) (fun iv _ => Ps.length - (intOf iv).toNat)
    case atStart => exact ⟨0, Nat.zero_le _, rfl, fun j h hj => absurd hj (by omega), Below.refl _ _⟩
    case round =>
      obtain ⟨k, hk, rfl, hrs, hb⟩ := hrel
      by_cases hlt : k < Ps.length
      · obtain ⟨c1, c2, c3⟩ := HC.out k hlt
        rw [← hb.cell (p := ⟨g, k * 3, none⟩) hg] at c1
        rw [← hb.cell (p := ⟨g, k * 3 + 1, none⟩) hg] at c2
        rw [← hb.cell (p := ⟨g, k * 3 + 2, none⟩) hg] at c3
        obtain ⟨x, hx⟩ : ∃ x, x = Ps[k] := ⟨_, rfl⟩
        rw [← hx] at c1 c2 c3
        have HX := hide hx
        clear hx
        by_cases ht : ((x.2.2 : Int) == 0) = true
        · go_wp2_with fail
          go_at_call 62
          refine (none_test _ _ _ _).mono ?_
          rintro e w1 ⟨rfl, b1⟩
          rw [ht]
          go_wp2_with fail
          go_ret
          exact ⟨⟨k, rfl, Or.inr ⟨by omega, x, by rw [HX.out]; exact List.getElem_mem hlt, ht⟩⟩, hb.trans (b1.mono hb.size)⟩
        · have ht' : ((x.2.2 : Int) == 0) = false := by simpa using ht
          go_wp2_with fail
          go_at_call 62
          refine (none_test _ _ _ _).mono ?_
          rintro e w1 ⟨rfl, b1⟩
          rw [ht']
          go_wp2_with fail
          go_roundw
          case rel => exact ⟨k + 1, by omega, by go_num, fun j h hj => by
              by_cases e : j = k
              · subst e; rw [← HX.out]; exact ht'
              · exact hrs.out j h (by omega), hb.trans (b1.mono hb.size)⟩
          case measure => simp [intOf]; omega
      · go_wp2_with fail
        go_ret
        exact ⟨⟨-1, rfl, Or.inl ⟨rfl, fun x hx => by obtain ⟨j, hj, rfl⟩ := List.getElem_of_mem hx; exact hrs.out j hj (by omega)⟩⟩, hb⟩
theorem contains_none (v : Value) (Ps : List (Nat × Nat × Nat)) (hn : Ps.length ≤ 70368744177664) (w : World) (hP : PartsAt w v Ps) :
    Calls Try.prog 61 #[v, .func (.func 62) #[] #[]] w fun e w' => e = .returned (.bool (Ps.any fun x => ((x.2.2 : Int) == 0))) ∧ Below w.heap.size w w' := by
  have HP := hide hP
  clear hP
  go_enter Try.func61, Try.ntmps61
  go_wp2_with fail
  refine (index_none v Ps hn _ HP.out).mono ?_
  rintro e w1 ⟨⟨k, rfl, hk⟩, b1⟩
  have HK := hide hk
  have hk' : k = -1 ∨ 0 ≤ k := hk.imp And.left And.left
  clear hk HP
  rcases hk' with hk' | hk'
  · have e0 : (Ps.any fun x => ((x.2.2 : Int) == 0)) = false := by
      rw [List.any_eq_false]
      intro x hx
      rcases HK.out with ⟨_, h⟩ | ⟨h, _⟩
      · rw [h x hx]; decide
      · omega
    have E0 := hide e0
    clear HK e0
    subst hk'
    go_wp2_with fail
    go_ret
    exact ⟨by rw [E0.out]; rfl, b1⟩
  · have e0 : (Ps.any fun x => ((x.2.2 : Int) == 0)) = true := by
      rw [List.any_eq_true]
      rcases HK.out with ⟨h, _⟩ | ⟨_, h⟩
      · omega
      · exact h
    have E0 := hide e0
    clear HK e0
    go_wp2_with fail
    go_ret
    exact ⟨by rw [E0.out]; rfl, b1⟩

theorem index_ready (v : Value) (Ps : List (Nat × Nat × Nat)) (hn : Ps.length ≤ 70368744177664) (w : World) (hP : PartsAt w v Ps) :
    Calls Try.prog 86 #[v, .func (.func 63) #[] #[]] w fun e w' => (∃ k : Int, e = .returned (.int .i64 k) ∧ ((k = -1 ∧ ∀ x ∈ Ps, ((x.2.2 : Int) != 2) = false) ∨ (0 ≤ k ∧ ∃ x ∈ Ps, ((x.2.2 : Int) != 2) = true))) ∧ Below w.heap.size w w' := by
  rcases hP with ⟨rfl, rfl⟩ | ⟨g, cap, rfl, hg, hc⟩
  · go_enter Try.func86, Try.ntmps86
    go_wp2_with fail
    refine wp_loop_rounds 1 ?_
    rw [rounds_succ]
    go_wp2_with fail
    go_ret
    exact ⟨⟨-1, rfl, Or.inl ⟨rfl, fun x hx => by cases hx⟩⟩, Below.refl _ _⟩
  · have HC := hide hc
    clear hc
    go_enter Try.func86, Try.ntmps86
    go_wp2_with fail
    go_loopw [8] (fun iv wr => ∃ k : Nat, k ≤ Ps.length ∧ iv = .int .i64 (k : Int) ∧ Hid (∀ j (h : j < Ps.length), j < k → ((Ps[j].2.2 : Int) != 2) = false) ∧ Below w.heap.size w wr) (fun iv _ => Ps.length - (intOf iv).toNat)
    case atStart => exact ⟨0, Nat.zero_le _, rfl, fun j h hj => absurd hj (by omega), Below.refl _ _⟩
    case round =>
      obtain ⟨k, hk, rfl, hrs, hb⟩ := hrel
      by_cases hlt : k < Ps.length
      · obtain ⟨c1, c2, c3⟩ := HC.out k hlt
        rw [← hb.cell (p := ⟨g, k * 3, none⟩) hg] at c1
        rw [← hb.cell (p := ⟨g, k * 3 + 1, none⟩) hg] at c2
        rw [← hb.cell (p := ⟨g, k * 3 + 2, none⟩) hg] at c3
        obtain ⟨x, hx⟩ : ∃ x, x = Ps[k] := ⟨_, rfl⟩
        rw [← hx] at c1 c2 c3
        have HX := hide hx
        clear hx
        by_cases ht : ((x.2.2 : Int) != 2) = true
        · go_wp2_with fail
          go_at_call 63
          refine (ready_test _ _ _ _).mono ?_
          rintro e w1 ⟨rfl, b1⟩
          rw [ht]
          go_wp2_with fail
          go_ret
          exact ⟨⟨k, rfl, Or.inr ⟨by omega, x, by rw [HX.out]; exact List.getElem_mem hlt, ht⟩⟩, hb.trans (b1.mono hb.size)⟩
        · have ht' : ((x.2.2 : Int) != 2) = false := by simpa using ht
          go_wp2_with fail
          go_at_call 63
          refine (ready_test _ _ _ _).mono ?_
          rintro e w1 ⟨rfl, b1⟩
          rw [ht']
          go_wp2_with fail
          go_roundw
          case rel => exact ⟨k + 1, by omega, by go_num, fun j h hj => by
              by_cases e : j = k
              · subst e; rw [← HX.out]; exact ht'
              · exact hrs.out j h (by omega), hb.trans (b1.mono hb.size)⟩
          case measure => simp [intOf]; omega
      · go_wp2_with fail
        go_ret
        exact ⟨⟨-1, rfl, Or.inl ⟨rfl, fun x hx => by obtain ⟨j, hj, rfl⟩ := List.getElem_of_mem hx; exact hrs.out j hj (by omega)⟩⟩, hb⟩
theorem contains_ready (v : Value) (Ps : List (Nat × Nat × Nat)) (hn : Ps.length ≤ 70368744177664) (w : World) (hP : PartsAt w v Ps) :
    Calls Try.prog 61 #[v, .func (.func 63) #[] #[]] w fun e w' => e = .returned (.bool (Ps.any fun x => ((x.2.2 : Int) != 2))) ∧ Below w.heap.size w w' := by
  have HP := hide hP
  clear hP
  go_enter Try.func61, Try.ntmps61
  go_wp2_with fail
  refine (index_ready v Ps hn _ HP.out).mono ?_
  rintro e w1 ⟨⟨k, rfl, hk⟩, b1⟩
  have HK := hide hk
  have hk' : k = -1 ∨ 0 ≤ k := hk.imp And.left And.left
  clear hk HP
  rcases hk' with hk' | hk'
  · have e0 : (Ps.any fun x => ((x.2.2 : Int) != 2)) = false := by
      rw [List.any_eq_false]
      intro x hx
      rcases HK.out with ⟨_, h⟩ | ⟨h, _⟩
      · rw [h x hx]; decide
      · omega
    have E0 := hide e0
    clear HK e0
    subst hk'
    go_wp2_with fail
    go_ret
    exact ⟨by rw [E0.out]; rfl, b1⟩
  · have e0 : (Ps.any fun x => ((x.2.2 : Int) != 2)) = true := by
      rw [List.any_eq_true]
      rcases HK.out with ⟨h, _⟩ | ⟨_, h⟩
      · omega
      · exact h
    have E0 := hide e0
    clear HK e0
    go_wp2_with fail
    go_ret
    exact ⟨by rw [E0.out]; rfl, b1⟩

theorem anyNone_core (v : Value) (Ps : List (Nat × Nat × Nat)) (hn : Ps.length ≤ 70368744177664) (w : World) (hP : PartsAt w v Ps) :
    Calls Try.prog 33 #[v] w fun e w' => e = .returned (.bool (Ps.any fun x => ((x.2.2 : Int) == 0))) ∧ Below w.heap.size w w' := by
  have HP := hide hP
  clear hP
  go_enter Try.func33, Try.ntmps33
  go_wp2_with fail
  refine (contains_none v Ps hn _ HP.out).mono ?_
  rintro e w1 ⟨rfl, b1⟩
  go_wp2_with fail
  go_ret
  exact ⟨rfl, b1⟩
theorem allReady_core (v : Value) (Ps : List (Nat × Nat × Nat)) (hn : Ps.length ≤ 70368744177664) (w : World) (hP : PartsAt w v Ps) :
    Calls Try.prog 34 #[v] w fun e w' => e = .returned (.bool (!(Ps.any fun x => ((x.2.2 : Int) != 2)))) ∧ Below w.heap.size w w' := by
  have HP := hide hP
  clear hP
  go_enter Try.func34, Try.ntmps34
  go_wp2_with fail
  refine (contains_ready v Ps hn _ HP.out).mono ?_
  rintro e w1 ⟨rfl, b1⟩
  have hnot : ∀ (x : Bool) (w : World), (Op.unary .not (.bool x)).run Try.prog w = .ok (.bool (!x)) w := fun _ _ => rfl
  go_wp2_with fail
  go_ret
  exact ⟨rfl, b1⟩
end Go.Proofs.Ytpceigglilgelaa
