/- The reference's Last: its contract. -/
import Derived.Test.YtgjgcdbhppaigaaDoorRf
namespace Go.Proofs.YtgjgcdbhppaigaaDoor
open Go.ChangeShapes Go.WideShapes Go.ChangeAt Go.RowKit Go.Proofs.Bt Go.Shelf
set_option linter.unusedVariables false
set_option linter.unusedSimpArgs false

def LastR0 (w : World) (f : Nat → Bool) (n to : Int) (e : Ending) (w' : World) : Prop := ∃ i k, e = .returned (.tuple #[.int .i64 i, .int .i64 k]) ∧ LastP f n to i k ∧ w' = w

set_option maxRecDepth 100000 in
set_option maxHeartbeats 1000000 in
theorem lastRef_in (b ro : Nat) (f : Nat → Bool) (w : World) (h : BoolAt w b ro f) (n to : Int) (h1 : 1 ≤ n) (hn' : n ≤ 9223372036854775807) (T : Int) (hT : (512 < to ∧ T = 512) ∨ (to ≤ 512 ∧ T = to)) (hT1 : 1 ≤ T) :
    Calls Tryd.prog 45 #[.pointer (some ⟨b, ro, none⟩), .int .i64 n, .int .i64 to] w (LastR0 w f n to) := by
  have hF : min to.toNat 512 = T.toNat := by omega
  have hT2 : T ≤ 512 := by omega
  have HF := hide hF
  have HH := hide h
  obtain ⟨R, hR⟩ : ∃ R, R = LastR0 w f n to := ⟨_, rfl⟩
  rw [← hR]
  have HR := hide hR
  clear h hF hR
  have e1 : decide (n < 1) = false := decide_eq_false (by omega)
  have e2 : decide (T < 1) = false := decide_eq_false (by omega)
  have fin0 : (∀ c : Nat, (c : Int) < T → f c = true) → R (.returned (.tuple #[.int .i64 0, .int .i64 0])) w := fun hc => by
    rw [HR.out]
    exact ⟨0, 0, rfl, .inl ⟨rfl, rfl, .inr fun c hc' => hc c (by have := HF.out; omega)⟩, rfl⟩
  have FIN0 := hide fin0
  have fin1 : ∀ E i : Int, 0 ≤ i → i ≤ E → E < T → f E.toNat = false → (∀ c : Nat, E < (c : Int) → (c : Int) < T → f c = true) → (∀ c : Nat, i ≤ (c : Int) → (c : Int) ≤ E → f c = false) → E - i + 1 ≤ n → (i = 0 ∨ f (i.toNat - 1) = true ∨ E - i + 1 = n) → R (.returned (.tuple #[.int .i64 i, .int .i64 (E - i + 1)])) w := fun E i q0 q1 q2 q3 q4 q5 q6 q7 => by
    rw [HR.out]
    have hF := HF.out
    refine ⟨i, E - i + 1, rfl, .inr ⟨h1, i.toNat, (E - i + 1).toNat, by omega, by omega, by omega, by omega, by omega, fun k hk => q5 _ (by omega) (by omega), fun c c1 c2 => q4 c (by omega) (by omega), ?_⟩, rfl⟩
    rcases q7 with q7 | q7 | q7
    · exact .inr (.inl (by omega))
    · exact .inr (.inr q7)
    · exact .inl (by omega)
  have FIN1 := hide fin1
  clear fin0 fin1
  rcases hT with ⟨m1, rfl⟩ | ⟨m1, hTe⟩
  · skip
    go_enter Tryd.func45, Tryd.ntmps45
    go_wp2_with fail
    go_loop [8] (fun ev => ∃ E : Int, ev = .int .i64 E ∧ -1 ≤ E ∧ E < 512 ∧ Hid (∀ c : Nat, E < (c : Int) → (c : Int) < 512 → f c = true)) (fun ev => (intOf ev + 1).toNat)
    case atStart => exact ⟨512 - 1, rfl, by omega, by omega, hide (fun c c1 c2 => by omega)⟩
    case round =>
      obtain ⟨E, rfl, E0, E1, HA⟩ := hrel
      by_cases hE : 0 ≤ E
      · have c1 := HH.out.cell E.toNat (by omega)
        cases hx : f E.toNat with
        | true =>
          rw [hx] at c1
          have HB : Hid (∀ c : Nat, E - 1 < (c : Int) → (c : Int) < 512 → f c = true) := hide (fun c q1 q2 => by
            by_cases e : (c : Int) = E
            · rw [show c = E.toNat by omega]; exact hx
            · exact HA.out c (by omega) q2)
          clear hx HA
          go_wp2_with fail
          refine ⟨⟨E - 1, rfl, by omega, by omega, HB⟩, ?_⟩
          simp [intOf]; omega
        | false =>
          rw [hx] at c1
          have HX := hide hx
          clear hx
          go_wp2_with fail
          go_loop [9] (fun iv => ∃ i : Int, iv = .int .i64 i ∧ 0 ≤ i ∧ i ≤ E ∧ Hid (E - i + 1 ≤ n ∧ ∀ c : Nat, i ≤ (c : Int) → (c : Int) ≤ E → f c = false)) (fun iv => (intOf iv).toNat)
          case atStart => exact ⟨E, rfl, by omega, by omega, hide ⟨by omega, fun c q1 q2 => by rw [show c = E.toNat by omega]; exact HX.out⟩⟩
          case round =>
            obtain ⟨i, rfl, i0, i1, HC⟩ := hrel
            by_cases hi : 0 < i
            · have c2 := HH.out.cell (i.toNat - 1) (by omega)
              cases hy : f (i.toNat - 1) with
              | true =>
                rw [hy] at c2
                have HFI := hide (FIN1.out E i i0 i1 E1 HX.out HA.out HC.out.2 HC.out.1 (.inr (.inl hy)))
                clear hy HC
                go_wp2_with fail
                exact HFI.out
              | false =>
                rw [hy] at c2
                by_cases hl : E - i + 1 < n
                · have HD : Hid (E - (i - 1) + 1 ≤ n ∧ ∀ c : Nat, i - 1 ≤ (c : Int) → (c : Int) ≤ E → f c = false) := hide ⟨by omega, fun c q1 q2 => by
                    by_cases e : (c : Int) = i - 1
                    · rw [show c = i.toNat - 1 by omega]; exact hy
                    · exact HC.out.2 c (by omega) q2⟩
                  clear hy HC
                  go_wp2_with fail
                  refine ⟨⟨i - 1, rfl, by omega, by omega, HD⟩, ?_⟩
                  simp [intOf]; omega
                · have HFI := hide (FIN1.out E i i0 i1 E1 HX.out HA.out HC.out.2 HC.out.1 (.inr (.inr (by have := HC.out.1; omega))))
                  have hl' : decide (E - i + 1 < n) = false := decide_eq_false hl
                  clear hy HC hl
                  go_wp2_with fail
                  exact HFI.out
            · have HFI := hide (FIN1.out E i i0 i1 E1 HX.out HA.out HC.out.2 HC.out.1 (.inl (by omega)))
              have hi' : decide (0 < i) = false := decide_eq_false hi
              clear HC hi
              go_wp2_with fail
              exact HFI.out
      · have hE' : decide (0 ≤ E) = false := decide_eq_false hE
        have hE2 : E < 0 := by omega
        have HFI := hide (FIN0.out (fun c hc => HA.out c (by omega) hc))
        clear hE HA
        go_wp2_with fail
        exact HFI.out
  · rw [hTe] at e2 HF FIN0 FIN1
    have m2 : 1 ≤ to := by omega
    clear hTe hT1 hT2
    go_enter Tryd.func45, Tryd.ntmps45
    go_wp2_with fail
    go_loop [8] (fun ev => ∃ E : Int, ev = .int .i64 E ∧ -1 ≤ E ∧ E < to ∧ Hid (∀ c : Nat, E < (c : Int) → (c : Int) < to → f c = true)) (fun ev => (intOf ev + 1).toNat)
    case atStart => exact ⟨to - 1, rfl, by omega, by omega, hide (fun c c1 c2 => by omega)⟩
    case round =>
      obtain ⟨E, rfl, E0, E1, HA⟩ := hrel
      by_cases hE : 0 ≤ E
      · have c1 := HH.out.cell E.toNat (by omega)
        cases hx : f E.toNat with
        | true =>
          rw [hx] at c1
          have HB : Hid (∀ c : Nat, E - 1 < (c : Int) → (c : Int) < to → f c = true) := hide (fun c q1 q2 => by
            by_cases e : (c : Int) = E
            · rw [show c = E.toNat by omega]; exact hx
            · exact HA.out c (by omega) q2)
          clear hx HA
          go_wp2_with fail
          refine ⟨⟨E - 1, rfl, by omega, by omega, HB⟩, ?_⟩
          simp [intOf]; omega
        | false =>
          rw [hx] at c1
          have HX := hide hx
          clear hx
          go_wp2_with fail
          go_loop [9] (fun iv => ∃ i : Int, iv = .int .i64 i ∧ 0 ≤ i ∧ i ≤ E ∧ Hid (E - i + 1 ≤ n ∧ ∀ c : Nat, i ≤ (c : Int) → (c : Int) ≤ E → f c = false)) (fun iv => (intOf iv).toNat)
          case atStart => exact ⟨E, rfl, by omega, by omega, hide ⟨by omega, fun c q1 q2 => by rw [show c = E.toNat by omega]; exact HX.out⟩⟩
          case round =>
            obtain ⟨i, rfl, i0, i1, HC⟩ := hrel
            by_cases hi : 0 < i
            · have c2 := HH.out.cell (i.toNat - 1) (by omega)
              cases hy : f (i.toNat - 1) with
              | true =>
                rw [hy] at c2
                have HFI := hide (FIN1.out E i i0 i1 E1 HX.out HA.out HC.out.2 HC.out.1 (.inr (.inl hy)))
                clear hy HC
                go_wp2_with fail
                exact HFI.out
              | false =>
                rw [hy] at c2
                by_cases hl : E - i + 1 < n
                · have HD : Hid (E - (i - 1) + 1 ≤ n ∧ ∀ c : Nat, i - 1 ≤ (c : Int) → (c : Int) ≤ E → f c = false) := hide ⟨by omega, fun c q1 q2 => by
                    by_cases e : (c : Int) = i - 1
                    · rw [show c = i.toNat - 1 by omega]; exact hy
                    · exact HC.out.2 c (by omega) q2⟩
                  clear hy HC
                  go_wp2_with fail
                  refine ⟨⟨i - 1, rfl, by omega, by omega, HD⟩, ?_⟩
                  simp [intOf]; omega
                · have HFI := hide (FIN1.out E i i0 i1 E1 HX.out HA.out HC.out.2 HC.out.1 (.inr (.inr (by have := HC.out.1; omega))))
                  have hl' : decide (E - i + 1 < n) = false := decide_eq_false hl
                  clear hy HC hl
                  go_wp2_with fail
                  exact HFI.out
            · have HFI := hide (FIN1.out E i i0 i1 E1 HX.out HA.out HC.out.2 HC.out.1 (.inl (by omega)))
              have hi' : decide (0 < i) = false := decide_eq_false hi
              clear HC hi
              go_wp2_with fail
              exact HFI.out
      · have hE' : decide (0 ≤ E) = false := decide_eq_false hE
        have hE2 : E < 0 := by omega
        have HFI := hide (FIN0.out (fun c hc => HA.out c (by omega) hc))
        clear hE HA
        go_wp2_with fail
        exact HFI.out
theorem lastRef_out (b ro : Nat) (f : Nat → Bool) (w : World) (n to : Int) (h : to < 1 ∨ (1 ≤ to ∧ n < 1)) :
    Calls Tryd.prog 45 #[.pointer (some ⟨b, ro, none⟩), .int .i64 n, .int .i64 to] w (LastR0 w f n to) := by
  have hp : LastP f n to 0 0 := by
    refine .inl ⟨rfl, rfl, ?_⟩
    rcases h with h | h
    · exact .inr fun c hc => by omega
    · exact .inl h.2
  have q : (to ≤ 512 ∧ decide (to < 1) = true) ∨ (512 < to ∧ decide (n < 1) = true) ∨ (to ≤ 512 ∧ decide (to < 1) = false ∧ decide (n < 1) = true) := by
    rcases h with h | ⟨h, h'⟩
    · exact .inl ⟨by omega, decide_eq_true h⟩
    · by_cases a : to ≤ 512
      · exact .inr (.inr ⟨a, decide_eq_false (by omega), decide_eq_true h'⟩)
      · exact .inr (.inl ⟨by omega, decide_eq_true h'⟩)
  have HP := hide hp
  clear h hp
  obtain ⟨R, hR⟩ : ∃ R, R = LastR0 w f n to := ⟨_, rfl⟩
  rw [← hR]
  have HR := hide hR
  clear hR
  rcases q with ⟨e0, e1⟩ | ⟨e0, e1⟩ | ⟨e0, e1, e2⟩
  all_goals
    go_enter Tryd.func45, Tryd.ntmps45
    go_wp2_with fail
    rw [HR.out]
    exact ⟨0, 0, rfl, HP.out, rfl⟩
theorem lastRef_any (b ro : Nat) (f : Nat → Bool) (w : World) (h : BoolAt w b ro f) (n to : Int) (hn' : n ≤ 9223372036854775807) :
    Calls Tryd.prog 45 #[.pointer (some ⟨b, ro, none⟩), .int .i64 n, .int .i64 to] w (LastR0 w f n to) := by
  by_cases hn : to < 1 ∨ (1 ≤ to ∧ n < 1)
  · exact lastRef_out b ro f w n to hn
  · by_cases hf : 512 < to
    · exact lastRef_in b ro f w h n to (by omega) hn' 512 (.inl ⟨hf, rfl⟩) (by omega)
    · exact lastRef_in b ro f w h n to (by omega) hn' to (.inr ⟨by omega, rfl⟩) (by omega)
end Go.Proofs.YtgjgcdbhppaigaaDoor
