/- J07 of the proof of both laws: texts Rl, Ru, Cd, one behind the other. -/
import Derived.Test.YtnclicdnncgdiaaGreatDoorJ06
/- The reference's Last: its contract. -/
namespace Go.Proofs.YtnclicdnncgdiaaGreatDoor
open Go.ChangeShapes Go.WideShapes Go.ChangeAt Go.RowKit Go.Proofs.Bt Go.Shelf
set_option linter.unusedVariables false
set_option linter.unusedSimpArgs false

def LastR0 (w : World) (f : Nat → Bool) (n to : Int) (e : Ending) (w' : World) : Prop := ∃ i k, e = .returned (.tuple #[.int .i64 i, .int .i64 k]) ∧ LastP f n to i k ∧ w' = w

set_option maxRecDepth 100000 in
set_option maxHeartbeats 1000000 in
theorem lastRef_in (b ro : Nat) (f : Nat → Bool) (w : World) (h : BoolAt w b ro f) (n to : Int) (h1 : 1 ≤ n) (hn' : n ≤ 9223372036854775807) (T : Int) (hT : (512 < to ∧ T = 512) ∨ (to ≤ 512 ∧ T = to)) (hT1 : 1 ≤ T) :
    Calls Tryz.prog 90 #[.pointer (some ⟨b, ro, none⟩), .int .i64 n, .int .i64 to] w (LastR0 w f n to) := by
  have hF : min to.toNat 512 = T.toNat := by omega
  have hT2 : T ≤ 512 := by omega
  have HF := hide hF
  have HH := hide h
  obtain ⟨R, hR⟩ : ∃ R, R = LastR0 w f n to := ⟨_, rfl⟩
  rw [← hR]
  have HR := hide hR
  clear h hF hR
  have e1 : decide (n < 1) = false := decide_eq_false (by omega)
  have e2 : decide (T < 1) = false := decide_eq_false (by omega)
  have fin0 : (∀ c : Nat, (c : Int) < T → f c = true) → R (.returned (.tuple #[.int .i64 0, .int .i64 0])) w := fun hc => by
    rw [HR.out]
    exact ⟨0, 0, rfl, .inl ⟨rfl, rfl, .inr fun c hc' => hc c (by have := HF.out; omega)⟩, rfl⟩
  have FIN0 := hide fin0
  have fin1 : ∀ E i : Int, 0 ≤ i → i ≤ E → E < T → f E.toNat = false → (∀ c : Nat, E < (c : Int) → (c : Int) < T → f c = true) → (∀ c : Nat, i ≤ (c : Int) → (c : Int) ≤ E → f c = false) → E - i + 1 ≤ n → (i = 0 ∨ f (i.toNat - 1) = true ∨ E - i + 1 = n) → R (.returned (.tuple #[.int .i64 i, .int .i64 (E - i + 1)])) w := fun E i q0 q1 q2 q3 q4 q5 q6 q7 => by
    rw [HR.out]
    have hF := HF.out
    refine ⟨i, E - i + 1, rfl, .inr ⟨h1, i.toNat, (E - i + 1).toNat, by omega, by omega, by omega, by omega, by omega, fun k hk => q5 _ (by omega) (by omega), fun c c1 c2 => q4 c (by omega) (by omega), ?_⟩, rfl⟩
    rcases q7 with q7 | q7 | q7
    · exact .inr (.inl (by omega))
    · exact .inr (.inr q7)
    · exact .inl (by omega)
  have FIN1 := hide fin1
  clear fin0 fin1
  rcases hT with ⟨m1, rfl⟩ | ⟨m1, hTe⟩
  · skip
    go_enter Tryz.func90, Tryz.ntmps90
    go_wp2_with fail
    go_loop [8] (fun ev => ∃ E : Int, ev = .int .i64 E ∧ -1 ≤ E ∧ E < 512 ∧ Hid (∀ c : Nat, E < (c : Int) → (c : Int) < 512 → f c = true)) (fun ev => (intOf ev + 1).toNat)
    case atStart => exact ⟨512 - 1, rfl, by omega, by omega, hide (fun c c1 c2 => by omega)⟩
    case round =>
      obtain ⟨E, rfl, E0, E1, HA⟩ := hrel
      by_cases hE : 0 ≤ E
      · have c1 := HH.out.cell E.toNat (by omega)
        cases hx : f E.toNat with
        | true =>
          rw [hx] at c1
          have HB : Hid (∀ c : Nat, E - 1 < (c : Int) → (c : Int) < 512 → f c = true) := hide (fun c q1 q2 => by
            by_cases e : (c : Int) = E
            · rw [show c = E.toNat by omega]; exact hx
            · exact HA.out c (by omega) q2)
          clear hx HA
          go_wp2_with fail
          refine ⟨⟨E - 1, rfl, by omega, by omega, HB⟩, ?_⟩
          simp [intOf]; omega
        | false =>
          rw [hx] at c1
          have HX := hide hx
          clear hx
          go_wp2_with fail
          go_loop [9] (fun iv => ∃ i : Int, iv = .int .i64 i ∧ 0 ≤ i ∧ i ≤ E ∧ Hid (E - i + 1 ≤ n ∧ ∀ c : Nat, i ≤ (c : Int) → (c : Int) ≤ E → f c = false)) (fun iv => (intOf iv).toNat)
          case atStart => exact ⟨E, rfl, by omega, by omega, hide ⟨by omega, fun c q1 q2 => by rw [show c = E.toNat by omega]; exact HX.out⟩⟩
          case round =>
            obtain ⟨i, rfl, i0, i1, HC⟩ := hrel
            by_cases hi : 0 < i
            · have c2 := HH.out.cell (i.toNat - 1) (by omega)
              cases hy : f (i.toNat - 1) with
              | true =>
                rw [hy] at c2
                have HFI := hide (FIN1.out E i i0 i1 E1 HX.out HA.out HC.out.2 HC.out.1 (.inr (.inl hy)))
                clear hy HC
                go_wp2_with fail
                exact HFI.out
              | false =>
                rw [hy] at c2
                by_cases hl : E - i + 1 < n
                · have HD : Hid (E - (i - 1) + 1 ≤ n ∧ ∀ c : Nat, i - 1 ≤ (c : Int) → (c : Int) ≤ E → f c = false) := hide ⟨by omega, fun c q1 q2 => by
                    by_cases e : (c : Int) = i - 1
                    · rw [show c = i.toNat - 1 by omega]; exact hy
                    · exact HC.out.2 c (by omega) q2⟩
                  clear hy HC
                  go_wp2_with fail
                  refine ⟨⟨i - 1, rfl, by omega, by omega, HD⟩, ?_⟩
                  simp [intOf]; omega
                · have HFI := hide (FIN1.out E i i0 i1 E1 HX.out HA.out HC.out.2 HC.out.1 (.inr (.inr (by have := HC.out.1; omega))))
                  have hl' : decide (E - i + 1 < n) = false := decide_eq_false hl
                  clear hy HC hl
                  go_wp2_with fail
                  exact HFI.out
            · have HFI := hide (FIN1.out E i i0 i1 E1 HX.out HA.out HC.out.2 HC.out.1 (.inl (by omega)))
              have hi' : decide (0 < i) = false := decide_eq_false hi
              clear HC hi
              go_wp2_with fail
              exact HFI.out
      · have hE' : decide (0 ≤ E) = false := decide_eq_false hE
        have hE2 : E < 0 := by omega
        have HFI := hide (FIN0.out (fun c hc => HA.out c (by omega) hc))
        clear hE HA
        go_wp2_with fail
        exact HFI.out
  · rw [hTe] at e2 HF FIN0 FIN1
    have m2 : 1 ≤ to := by omega
    clear hTe hT1 hT2
    go_enter Tryz.func90, Tryz.ntmps90
    go_wp2_with fail
    go_loop [8] (fun ev => ∃ E : Int, ev = .int .i64 E ∧ -1 ≤ E ∧ E < to ∧ Hid (∀ c : Nat, E < (c : Int) → (c : Int) < to → f c = true)) (fun ev => (intOf ev + 1).toNat)
    case atStart => exact ⟨to - 1, rfl, by omega, by omega, hide (fun c c1 c2 => by omega)⟩
    case round =>
      obtain ⟨E, rfl, E0, E1, HA⟩ := hrel
      by_cases hE : 0 ≤ E
      · have c1 := HH.out.cell E.toNat (by omega)
        cases hx : f E.toNat with
        | true =>
          rw [hx] at c1
          have HB : Hid (∀ c : Nat, E - 1 < (c : Int) → (c : Int) < to → f c = true) := hide (fun c q1 q2 => by
            by_cases e : (c : Int) = E
            · rw [show c = E.toNat by omega]; exact hx
            · exact HA.out c (by omega) q2)
          clear hx HA
          go_wp2_with fail
          refine ⟨⟨E - 1, rfl, by omega, by omega, HB⟩, ?_⟩
          simp [intOf]; omega
        | false =>
          rw [hx] at c1
          have HX := hide hx
          clear hx
          go_wp2_with fail
          go_loop [9] (fun iv => ∃ i : Int, iv = .int .i64 i ∧ 0 ≤ i ∧ i ≤ E ∧ Hid (E - i + 1 ≤ n ∧ ∀ c : Nat, i ≤ (c : Int) → (c : Int) ≤ E → f c = false)) (fun iv => (intOf iv).toNat)
          case atStart => exact ⟨E, rfl, by omega, by omega, hide ⟨by omega, fun c q1 q2 => by rw [show c = E.toNat by omega]; exact HX.out⟩⟩
          case round =>
            obtain ⟨i, rfl, i0, i1, HC⟩ := hrel
            by_cases hi : 0 < i
            · have c2 := HH.out.cell (i.toNat - 1) (by omega)
              cases hy : f (i.toNat - 1) with
              | true =>
                rw [hy] at c2
                have HFI := hide (FIN1.out E i i0 i1 E1 HX.out HA.out HC.out.2 HC.out.1 (.inr (.inl hy)))
                clear hy HC
                go_wp2_with fail
                exact HFI.out
              | false =>
                rw [hy] at c2
                by_cases hl : E - i + 1 < n
                · have HD : Hid (E - (i - 1) + 1 ≤ n ∧ ∀ c : Nat, i - 1 ≤ (c : Int) → (c : Int) ≤ E → f c = false) := hide ⟨by omega, fun c q1 q2 => by
                    by_cases e : (c : Int) = i - 1
                    · rw [show c = i.toNat - 1 by omega]; exact hy
                    · exact HC.out.2 c (by omega) q2⟩
                  clear hy HC
                  go_wp2_with fail
                  refine ⟨⟨i - 1, rfl, by omega, by omega, HD⟩, ?_⟩
                  simp [intOf]; omega
                · have HFI := hide (FIN1.out E i i0 i1 E1 HX.out HA.out HC.out.2 HC.out.1 (.inr (.inr (by have := HC.out.1; omega))))
                  have hl' : decide (E - i + 1 < n) = false := decide_eq_false hl
                  clear hy HC hl
                  go_wp2_with fail
                  exact HFI.out
            · have HFI := hide (FIN1.out E i i0 i1 E1 HX.out HA.out HC.out.2 HC.out.1 (.inl (by omega)))
              have hi' : decide (0 < i) = false := decide_eq_false hi
              clear HC hi
              go_wp2_with fail
              exact HFI.out
      · have hE' : decide (0 ≤ E) = false := decide_eq_false hE
        have hE2 : E < 0 := by omega
        have HFI := hide (FIN0.out (fun c hc => HA.out c (by omega) hc))
        clear hE HA
        go_wp2_with fail
        exact HFI.out
theorem lastRef_out (b ro : Nat) (f : Nat → Bool) (w : World) (n to : Int) (h : to < 1 ∨ (1 ≤ to ∧ n < 1)) :
    Calls Tryz.prog 90 #[.pointer (some ⟨b, ro, none⟩), .int .i64 n, .int .i64 to] w (LastR0 w f n to) := by
  have hp : LastP f n to 0 0 := by
    refine .inl ⟨rfl, rfl, ?_⟩
    rcases h with h | h
    · exact .inr fun c hc => by omega
    · exact .inl h.2
  have q : (to ≤ 512 ∧ decide (to < 1) = true) ∨ (512 < to ∧ decide (n < 1) = true) ∨ (to ≤ 512 ∧ decide (to < 1) = false ∧ decide (n < 1) = true) := by
    rcases h with h | ⟨h, h'⟩
    · exact .inl ⟨by omega, decide_eq_true h⟩
    · by_cases a : to ≤ 512
      · exact .inr (.inr ⟨a, decide_eq_false (by omega), decide_eq_true h'⟩)
      · exact .inr (.inl ⟨by omega, decide_eq_true h'⟩)
  have HP := hide hp
  clear h hp
  obtain ⟨R, hR⟩ : ∃ R, R = LastR0 w f n to := ⟨_, rfl⟩
  rw [← hR]
  have HR := hide hR
  clear hR
  rcases q with ⟨e0, e1⟩ | ⟨e0, e1⟩ | ⟨e0, e1, e2⟩
  all_goals
    go_enter Tryz.func90, Tryz.ntmps90
    go_wp2_with fail
    rw [HR.out]
    exact ⟨0, 0, rfl, HP.out, rfl⟩
theorem lastRef_any (b ro : Nat) (f : Nat → Bool) (w : World) (h : BoolAt w b ro f) (n to : Int) (hn' : n ≤ 9223372036854775807) :
    Calls Tryz.prog 90 #[.pointer (some ⟨b, ro, none⟩), .int .i64 n, .int .i64 to] w (LastR0 w f n to) := by
  by_cases hn : to < 1 ∨ (1 ≤ to ∧ n < 1)
  · exact lastRef_out b ro f w n to hn
  · by_cases hf : 512 < to
    · exact lastRef_in b ro f w h n to (by omega) hn' 512 (.inl ⟨hf, rfl⟩) (by omega)
    · exact lastRef_in b ro f w h n to (by omega) hn' to (.inr ⟨by omega, rfl⟩) (by omega)
end Go.Proofs.YtnclicdnncgdiaaGreatDoor

/- The reference's Sum: its contract. -/
namespace Go.Proofs.YtnclicdnncgdiaaGreatDoor
open Go.ChangeShapes Go.WideShapes Go.ChangeAt Go.RowKit Go.Proofs.Bt Go.Shelf
set_option linter.unusedVariables false
set_option linter.unusedSimpArgs false

/-- How the reference's Sum lies: what it answers, what it reckons, the row. -/
structure RS (N : Nat) (w : World) (b ro : Nat) (f : Nat → Bool) (S M E : Int) (W : World) : Prop where
  s0 : SumAt W N 0 0 0
  s1 : SumAt W (N + 1) S M E
  row : BoolAt W b ro f
  be : Below N w W
  lb : b < N
theorem RS.of {N : Nat} {w : World} {b ro : Nat} {f : Nat → Bool} {S M E S' M' E' : Int} {W W' : World} (h : RS N w b ro f S M E W) (k : Kept (fun x => x = N + 1) W W') (s : SumAt W' (N + 1) S' M' E') : RS N w b ro f S' M' E' W' :=
  ⟨h.s0.kept k (by omega), s, h.row.kept k (by have := h.lb; omega), below_kept h.be k (fun x hx => by omega) (by have := h.s0.lt; omega), h.lb⟩
theorem RS.drew {N : Nat} {w : World} {b ro : Nat} {f : Nat → Bool} {S M E : Int} {W : World} (h : RS N w b ro f S M E W) : RS N w b ro f S M E W.drew :=
  ⟨h.s0.below (drew_below W), h.s1.below (drew_below W), h.row.below (drew_below W), h.be.drew, h.lb⟩
theorem RS.set0 {N : Nat} {w : World} {b ro : Nat} {f : Nat → Bool} {S M E : Int} {W : World} (h : RS N w b ro f S M E W) (v : Int) : RS N w b ro f v M E (W.setCell ⟨N + 1, 0, none⟩ (.int .i64 v)) := h.of (kept_set W (N + 1) 0 _ rfl) (h.s1.set0 v)
theorem RS.set1 {N : Nat} {w : World} {b ro : Nat} {f : Nat → Bool} {S M E : Int} {W : World} (h : RS N w b ro f S M E W) (v : Int) : RS N w b ro f S v E (W.setCell ⟨N + 1, 1, none⟩ (.int .i64 v)) := h.of (kept_set W (N + 1) 1 _ rfl) (h.s1.set1 v)
theorem RS.set2 {N : Nat} {w : World} {b ro : Nat} {f : Nat → Bool} {S M E : Int} {W : World} (h : RS N w b ro f S M E W) (v : Int) : RS N w b ro f S M v (W.setCell ⟨N + 1, 2, none⟩ (.int .i64 v)) := h.of (kept_set W (N + 1) 2 _ rfl) (h.s1.set2 v)
theorem RS.drewN {N : Nat} {w : World} {b ro : Nat} {f : Nat → Bool} {S M E : Int} {W : World} (h : RS N w b ro f S M E W) (k : Nat) : RS N w b ro f S M E (W.drewN k) :=
  ⟨h.s0, h.s1, ⟨h.row.cell, h.row.fz⟩, ⟨h.be.os, h.be.tape, h.be.output, h.be.size, h.be.block⟩, h.lb⟩
theorem RS.to_drewN {N : Nat} {w : World} {b ro : Nat} {f : Nat → Bool} {S M E : Int} {W : World} {k : Nat} (h : RS N w b ro f S M E (W.drewN k)) : RS N w b ro f S M E W :=
  ⟨h.s0, h.s1, ⟨h.row.cell, h.row.fz⟩, ⟨h.be.os, h.be.tape, h.be.output, h.be.size, h.be.block⟩, h.lb⟩
/-- What a cell of the summary holds. -/
def held (N k : Nat) (W : World) : Nat := (intOf ((W.cell? ⟨N + 1, k, none⟩).getD undef)).toNat
theorem held0 {N : Nat} {w : World} {b ro : Nat} {f : Nat → Bool} {S M E : Int} {W : World} (h : RS N w b ro f S M E W) : held N 0 W = S.toNat := by unfold held; rw [h.s1.c0]; rfl
theorem held2 {N : Nat} {w : World} {b ro : Nat} {f : Nat → Bool} {S M E : Int} {W : World} (h : RS N w b ro f S M E W) : held N 2 W = E.toNat := by unfold held; rw [h.s1.c2]; rfl
/-- What the third loop knows at i. -/
structure MR (f : Nat → Bool) (i r m : Nat) : Prop where
  le : r ≤ i
  cl : Clr f (i - r) r
  st : i - r = 0 ∨ f (i - r - 1) = true
  rm : r ≤ m
  mx : ∃ c, c + m ≤ i ∧ Clr f c m
  mn : ∀ c, c + (m + 1) ≤ i → ¬ Clr f c (m + 1)
theorem MR.zero (f : Nat → Bool) : MR f 0 0 0 := ⟨by omega, (fun k hk => by omega), .inl rfl, by omega, ⟨0, by omega, fun k hk => by omega⟩, fun c hc => by omega⟩
theorem MR.set {f : Nat → Bool} {i r m : Nat} (h : MR f i r m) (hf : f i = true) : MR f (i + 1) 0 m := by
  obtain ⟨c, c1, c2⟩ := h.mx
  refine ⟨by omega, (fun k hk => by omega), .inr (by simpa using hf), by omega, ⟨c, by omega, c2⟩, fun d d1 hd => ?_⟩
  by_cases l : d + (m + 1) ≤ i
  · exact h.mn d l hd
  · have := hd (i - d) (by omega)
    rw [show d + (i - d) = i by omega, hf] at this
    cases this
theorem MR.more {f : Nat → Bool} {i r m : Nat} (h : MR f i r m) (hf : f i = false) : Clr f (i + 1 - (r + 1)) (r + 1) := fun k hk => by
  have := h.le
  by_cases l : k < r
  · rw [show i + 1 - (r + 1) + k = i - r + k by omega]; exact h.cl k l
  · rw [show i + 1 - (r + 1) + k = i by omega]; exact hf
theorem MR.clr {f : Nat → Bool} {i r m : Nat} (h : MR f i r m) (hf : f i = false) (hr : r + 1 ≤ m) : MR f (i + 1) (r + 1) m := by
  obtain ⟨c, c1, c2⟩ := h.mx
  have hl := h.le
  refine ⟨by omega, h.more hf, by rw [show i + 1 - (r + 1) = i - r by omega]; exact h.st, hr, ⟨c, by omega, c2⟩, fun d d1 hd => ?_⟩
  by_cases l : d + (m + 1) ≤ i
  · exact h.mn d l hd
  · rcases h.st with hs | hs
    · omega
    · have := hd (i - r - 1 - d) (by omega)
      rw [show d + (i - r - 1 - d) = i - r - 1 by omega, hs] at this
      cases this
theorem MR.grow {f : Nat → Bool} {i r m : Nat} (h : MR f i r m) (hf : f i = false) (hr : r + 1 = m + 1) : MR f (i + 1) (r + 1) (r + 1) := by
  have hl := h.le
  refine ⟨by omega, h.more hf, by rw [show i + 1 - (r + 1) = i - r by omega]; exact h.st, by omega, ⟨i + 1 - (r + 1), by omega, h.more hf⟩, fun d d1 hd => ?_⟩
  by_cases l : d + (m + 1) ≤ i
  · exact h.mn d l (fun k hk => hd k (by omega))
  · omega

def SumR0 (w : World) (f : Nat → Bool) (r : Ending) (w' : World) : Prop := ∃ s m e : Nat, r = .returned (sumV (s : Nat) (m : Nat) (e : Nat)) ∧ SumP f s m e ∧ Below w.heap.size w w'

end Go.Proofs.YtnclicdnncgdiaaGreatDoor

/- The reference's chunk: how it lies, and what its methods answer: contracts. -/
namespace Go.Proofs.YtnclicdnncgdiaaGreatDoor
open Go.ChangeShapes Go.WideShapes Go.ChangeAt Go.RowKit Go.Proofs.Bt Go.Shelf
set_option linter.unusedVariables false
set_option linter.unusedSimpArgs false

/-- The reference's chunk in a block. -/
structure RcF (w : World) (b : Nat) (u g : Nat → Bool) : Prop where
  used : BoolAt w b 0 u
  gone : BoolAt w b 512 g
theorem RcF.lt {w : World} {b : Nat} {u g : Nat → Bool} (h : RcF w b u g) : b < w.heap.size := h.used.lt
theorem RcF.kept {F : Nat → Prop} {w w' : World} {b : Nat} {u g : Nat → Bool} (h : RcF w b u g) (k : Kept F w w') (hF : ¬ F b) : RcF w' b u g := ⟨h.used.kept k hF, h.gone.kept k hF⟩
theorem RcF.below {w w' : World} {b : Nat} {u g : Nat → Bool} (h : RcF w b u g) (k : Below w.heap.size w w') : RcF w' b u g := ⟨h.used.below k, h.gone.below k⟩
theorem RcF.setU {w w' : World} {b : Nat} {u u' g : Nat → Bool} (h : RcF w b u g) (k : Only b 0 512 w w') (r : BoolAt w' b 0 u') : RcF w' b u' g := ⟨r, h.gone.other k (by omega)⟩
theorem RcF.setG {w w' : World} {b : Nat} {u g g' : Nat → Bool} (h : RcF w b u g) (k : Only b 512 512 w w') (r : BoolAt w' b 512 g') : RcF w' b u g' := ⟨h.used.other k (by omega), r⟩
theorem RcF.congr {w : World} {b : Nat} {u g u' g' : Nat → Bool} (h : RcF w b u g) (e : ∀ k, k < 512 → u k = u' k) (e' : ∀ k, k < 512 → g k = g' k) : RcF w b u' g' := ⟨h.used.congr e, h.gone.congr e'⟩
theorem put_true (f : Nat → Bool) (i n : Nat) (k : Nat) : putF f i n true k = setF f i n k := by
  unfold putF setF
  by_cases h : i ≤ k ∧ k < i + n
  · rw [if_pos h, decide_eq_true h, Bool.or_true]
  · rw [if_neg h, decide_eq_false h, Bool.or_false]
theorem put_false (f : Nat → Bool) (i n : Nat) (k : Nat) : putF f i n false k = clrF f i n k := by
  unfold putF clrF
  by_cases h : i ≤ k ∧ k < i + n
  · rw [if_pos h, decide_eq_true h]; simp
  · rw [if_neg h, decide_eq_false h]; simp
theorem put_int (b ro : Nat) (f : Nat → Bool) (x : Bool) (w : World) (h : BoolAt w b ro f) (i n : Int) (hi : 0 ≤ i) (hn : 0 ≤ n) (hin : i + n ≤ 512) :
    Calls Tryz.prog 43 #[.pointer (some ⟨b, ro, none⟩), .int .i64 i, .int .i64 n, .bool x] w fun e w' => e = .returned (.int .i64 0) ∧ BoolAt w' b ro (if x then setF f i.toNat n.toNat else clrF f i.toNat n.toNat) ∧ Only b ro 512 w w' := by
  have := put_core b ro f x w h i.toNat n.toNat (by omega)
  rw [show ((i.toNat : Nat) : Int) = i by omega, show ((n.toNat : Nat) : Int) = n by omega] at this
  refine this.mono ?_
  rintro e w' ⟨rfl, r, k⟩
  refine ⟨rfl, r.congr (fun j _ => ?_), k⟩
  cases x
  · exact put_false _ _ _ _
  · exact put_true _ _ _ _
theorem countR_int (b ro : Nat) (f : Nat → Bool) (w : World) (h : BoolAt w b ro f) (i n : Int) (hi : 0 ≤ i) (hn : 0 ≤ n) (hin : i + n ≤ 512) :
    Calls Tryz.prog 91 #[.pointer (some ⟨b, ro, none⟩), .int .i64 i, .int .i64 n] w fun e w' => e = .returned (.int .i64 (cnt f i.toNat n.toNat : Nat)) ∧ w' = w := by
  have := countRef_core b ro f w h i.toNat n.toNat (by omega)
  rw [show ((i.toNat : Nat) : Int) = i by omega, show ((n.toNat : Nat) : Int) = n by omega] at this
  exact this
theorem right_of (i n : Int) : RightC i n ↔ (Right i n ∧ n ≠ 0) := by unfold RightC Right; omega
end Go.Proofs.YtnclicdnncgdiaaGreatDoor
