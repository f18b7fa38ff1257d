/- heavy: contract. -/
import Derived.Test.YtnhllnepnpmegaaJ18
import Derived.Test.YtnhllnepnpmegaaJ19
namespace Go.Proofs.Ytnhllnepnpmegaa
open Go.ChangeShapes Go.WideShapes Go.ChangeAt Go.RowKit Go.Shelf Go.Proofs.Rx Go.Maps Go.Proofs.Bt
set_option linter.unusedVariables false
set_option linter.unusedSimpArgs false

attribute [local go_sem] Oper.semAt_some

/-- An act that is not too much. -/
def ActV.light (x : ActV) : Prop := x.l ≤ 20000 ∧ ¬ (x.what = 3 ∧ 40000 < x.b ∧ x.b ≤ 1048576)
/-- What heavy answers. -/
def HeavyR (W : World) (len : Nat) (X : Nat → ActV) (e : Ending) (w' : World) : Prop := (e = .returned (.bool true) ∨ (e = .returned (.bool false) ∧ len ≤ 60 ∧ ∀ i, i < len → (X i).light)) ∧ Below W.heap.size W w'
set_option maxRecDepth 100000 in
set_option maxHeartbeats 1000000 in
theorem heavy_any (W : World) (o : Option Addr) (len cap : Nat) (X : Nat → ActV) (h : ActsAt W o len cap X) (hr : ∀ i, (X i).l ≤ reachBytes) (hlen : len ≤ maxLen) :
    Calls Try.prog 7 #[.slice o len cap] W (HeavyR W len X) := by
  obtain ⟨R, hR⟩ : ∃ R, R = HeavyR W len X := ⟨_, rfl⟩
  rw [← hR]
  have YES := hide (show ∀ j, R (.returned (.bool true)) (W.drewN j) from fun j => by rw [hR]; exact ⟨.inl rfl, drewN_below W j⟩)
  have NO := hide (show ∀ j, len ≤ 60 → (∀ i, i < len → (X i).light) → R (.returned (.bool false)) (W.drewN j) from fun j h1 h2 => by rw [hR]; exact ⟨.inr ⟨rfl, h1, h2⟩, drewN_below W j⟩)
  have HH := hide h
  have HR := hide (show ∀ i, ((X i).l : Int) ≤ 140737488355328 from fun i => by have := hr i; have : reachBytes ≤ 140737488355328 := by decide
                                                                                omega)
  obtain ⟨LN, hLN⟩ : ∃ L : Int, (len : Int) = L := ⟨_, rfl⟩
  have l0 : 0 ≤ LN := by omega
  have l1 : LN ≤ 9223372036854775807 := by unfold maxLen at hlen; omega
  have HL := hide hLN
  clear hR h hlen hr
  go_enter Try.func7, Try.ntmps7
  go_wp2_with fail
  go_loopw [3, 4] (fun nv iv wr => ∃ (n i : Nat), nv = .int .i64 (n : Nat) ∧ iv = .int .i64 (i : Nat) ∧ i ≤ len ∧ n ≤ 20000 ∧ Hid (∀ k, k < i → (X k).light) ∧ Hid (∃ j, wr = W.drewN j)) (fun _ iv _ => len - (zi iv).toNat)
  case atStart => exact ⟨0, 0, rfl, rfl, by omega, by omega, hide (fun k hk => absurd hk (Nat.not_lt_zero k)), hide ⟨0, rfl⟩⟩
  case round =>
    obtain ⟨n, i, rfl, rfl, i1, n1, HN, HJ⟩ := hrel
    by_cases c : i < len
    · have d : decide ((i : Int) < LN) = true := decide_eq_true (by omega)
      obtain ⟨b, off, rfl, hb, hcl⟩ := HH.out.at c
      obtain ⟨d0, d1, d2, d3, d4, d5⟩ := hcl i c
      obtain ⟨j, hj⟩ := HJ.out
      have be : Below W.heap.size W wr := by rw [hj]; exact drewN_below W j
      have d0 := (be.cell (p := ⟨b, off + i * 6, none⟩) hb).trans d0
      have d2 := (be.cell (p := ⟨b, off + i * 6 + 2, none⟩) hb).trans d2
      have d4 := (be.cell (p := ⟨b, off + i * 6 + 4, none⟩) hb).trans d4
      have ok := HH.out.ok i
      have rr := HR.out i
      have i9 : (i : Int) < LN := by omega
      have i8 : (0 : Int) ≤ (i : Int) := by omega
      have pw : IntKind.i64.wrap ((i : Int) + 1) = (i : Int) + 1 := by rw [IntKind.wrap_i64]; omega
      have ab := ok.bb
      have HT := hide (show (X i).light → ∀ k, k < i + 1 → (X k).light from fun q k hk => by
        rcases Nat.lt_or_ge k i with u | u
        · exact HN.out k u
        · obtain rfl : k = i := by omega
          exact q)
      unfold ActV.light at HT
      obtain ⟨L, hL⟩ : ∃ L, (X i).l = L := ⟨_, rfl⟩
      obtain ⟨A, hA⟩ : ∃ L, (X i).what = L := ⟨_, rfl⟩
      obtain ⟨B, hB⟩ : ∃ L, (X i).b = L := ⟨_, rfl⟩
      generalize (X i).o = oo at *
      generalize (X i).c = cc at *
      rw [hL] at d4 rr
      rw [hA] at d0
      rw [hB] at d2 ab
      have HT2 := hide (show L ≤ 20000 ∧ ¬ (A = 3 ∧ 40000 < B ∧ B ≤ 1048576) → ∀ k, k < i + 1 → (X k).light from fun q => HT.out (by rw [hL, hA, hB]; exact q))
      obtain ⟨LI, hLI⟩ : ∃ z : Int, (L : Int) = z := ⟨_, rfl⟩
      obtain ⟨BI, hBI⟩ : ∃ z : Int, (B : Int) = z := ⟨_, rfl⟩
      obtain ⟨NI, hNI⟩ : ∃ z : Int, (n : Int) = z := ⟨_, rfl⟩
      rw [hLI] at rr
      rw [hBI] at d2
      rw [hNI]
      have pn : IntKind.i64.wrap (NI + LI) = NI + LI := by rw [IntKind.wrap_i64]; omega
      have z0 : 0 ≤ LI := by omega
      have z1 : 0 ≤ BI := by omega
      have z2 : BI < 18446744073709551616 := by omega
      have z3 : 0 ≤ NI := by omega
      have z4 : NI ≤ 20000 := by omega
      have Y1 := hide (fun q : Nat => YES.out (j + q))
      have HJ2 := hide hj
      have HNI := hide hNI
      have HLI := hide hLI
      by_cases h2 : 20000 < NI + LI
      · have e2 : decide (20000 < NI + LI) = true := decide_eq_true h2
        have F1 := hide (show R (.returned (.bool true)) wr by rw [hj]; exact YES.out j)
        clear HT HT2 NO HN HJ hj Y1 YES hL hA hB hBI hNI be hcl hb d1 d3 d5 ok HH HR h2
        go_wp2_with fail
        try go_quiet (fail)
        try go_wp2_with fail
        first | exact F1.out | (go_ret; exact F1.out)
      · have e2 : decide (20000 < NI + LI) = false := decide_eq_false h2
        by_cases h3 : A = 3
        · subst h3
          by_cases h4 : 40000 < BI
          · have e4 : decide (40000 < BI) = true := decide_eq_true h4
            by_cases h5 : BI ≤ 1048576
            · have e5 : decide (BI ≤ 1048576) = true := decide_eq_true h5
              have F1 := hide (show R (.returned (.bool true)) wr by rw [hj]; exact YES.out j)
              clear HT HT2 NO HN HJ hj Y1 YES hL hA hB hBI hNI be hcl hb d1 d3 d5 ok HH HR h2
              go_wp2_with fail
              first | exact F1.out | (go_ret; exact F1.out)
            · have e5 : decide (BI ≤ 1048576) = false := decide_eq_false h5
              have HT3 := hide (HT2.out ⟨by omega, by omega⟩)
              clear HT HT2 NO HN HJ hj Y1 YES hL hA hB hBI hNI be hcl hb d1 d3 d5 ok HH HR
              go_wp2_with fail
              have := HNI.out; have := HLI.out
              exact ⟨⟨n + L, i + 1, by rw [Int.natCast_add, HNI.out, HLI.out], by push_cast; rfl, by omega, by omega, HT3, hide ⟨_, HJ2.out⟩⟩, by simp [zi]; omega⟩
          · have e4 : decide (40000 < BI) = false := decide_eq_false h4
            have HT3 := hide (HT2.out ⟨by omega, by omega⟩)
            clear HT HT2 NO HN HJ hj Y1 YES hL hA hB hBI hNI be hcl hb d1 d3 d5 ok HH HR
            go_wp2_with fail
            have := HNI.out; have := HLI.out
            exact ⟨⟨n + L, i + 1, by rw [Int.natCast_add, HNI.out, HLI.out], by push_cast; rfl, by omega, by omega, HT3, hide ⟨_, HJ2.out⟩⟩, by simp [zi]; omega⟩
        · have e3 : (A == 3) = false := beq_eq_false_iff_ne.2 h3
          have HT3 := hide (HT2.out ⟨by omega, fun q => h3 q.1⟩)
          clear HT HT2 NO HN HJ hj Y1 YES hL hA hB hBI hNI be hcl hb d1 d3 d5 ok HH HR h3
          go_wp2_with fail
          have := HNI.out; have := HLI.out
          exact ⟨⟨n + L, i + 1, by rw [Int.natCast_add, HNI.out, HLI.out], by push_cast; rfl, by omega, by omega, HT3, hide ⟨_, HJ2.out⟩⟩, by simp [zi]; omega⟩
    · have d : decide ((i : Int) < LN) = false := decide_eq_false (by omega)
      have e0 : i = len := by omega
      obtain ⟨j, hj⟩ := HJ.out
      by_cases h5 : 60 < LN
      · have e5 : decide ((60 : Int) < LN) = true := decide_eq_true (by omega)
        have F1 := hide (show R (.returned (.bool true)) wr by rw [hj]; exact YES.out j)
        clear e0 hj
        go_wp2_with fail
        first | exact F1.out | (go_ret; exact F1.out)
      · have e5 : decide ((60 : Int) < LN) = false := decide_eq_false (by omega)
        have F1 := hide (show R (.returned (.bool false)) wr by rw [hj]; exact NO.out j (by omega) (by rw [← e0]; exact HN.out))
        clear e0 hj
        go_wp2_with fail
        first | exact F1.out | (go_ret; exact F1.out)
end Go.Proofs.Ytnhllnepnpmegaa
