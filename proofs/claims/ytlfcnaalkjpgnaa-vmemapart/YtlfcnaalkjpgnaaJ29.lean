/- J29 of the proof of both laws: texts Hvy, St, Two, one behind the other. -/
import Derived.Test.YtlfcnaalkjpgnaaJ28
import Derived.Test.YtlfcnaalkjpgnaaJ01
import Derived.Test.YtlfcnaalkjpgnaaJ16
/- Which lists of acts a law turns away. -/
namespace Go.Proofs.Ytlfcnaalkjpgnaa
open Go.ChangeShapes Go.WideShapes Go.ChangeAt Go.RowKit Go.Proofs.Sp

/-- How many pages are asked for. -/
def sumR (X : Nat → ActV) : Nat → Nat
  | 0 => 0
  | i + 1 => sumR X i + if (X i).what = 1 ∧ (X i).n ≤ 134217728 then (X i).n else 0
structure Light (X : Nat → ActV) (i : Nat) : Prop where
  sum : sumR X i ≤ 12000
  one : ∀ j, j < i → (X j).what = 1 → (X j).n ≤ 134217728 → (X j).n ≤ 4096
  six : ∀ j, j < i → (X j).what = 6 → ¬ (131072 < (X j).n ∧ (X j).n < 140737488355328)
theorem Light.start (X : Nat → ActV) : Light X 0 := ⟨by simp [sumR], fun j h => by omega, fun j h => by omega⟩
theorem Light.next {X : Nat → ActV} {i : Nat} (h : Light X i) (hs : sumR X (i + 1) ≤ 12000) (h1 : (X i).what = 1 → (X i).n ≤ 134217728 → (X i).n ≤ 4096) (h6 : (X i).what = 6 → ¬ (131072 < (X i).n ∧ (X i).n < 140737488355328)) : Light X (i + 1) :=
  ⟨hs, fun j hj => by
    by_cases e : j = i
    · rw [e]; exact h1
    · exact h.one j (by omega), fun j hj => by
    by_cases e : j = i
    · rw [e]; exact h6
    · exact h.six j (by omega)⟩
theorem sum_same {X : Nat → ActV} {i : Nat} (h : ¬ ((X i).what = 1 ∧ (X i).n ≤ 134217728)) : sumR X (i + 1) = sumR X i := by simp only [sumR]; rw [if_neg h]; rfl
theorem sum_more {X : Nat → ActV} {i : Nat} (h1 : (X i).what = 1) (h2 : (X i).n ≤ 134217728) : sumR X (i + 1) = sumR X i + (X i).n := by simp only [sumR]; rw [if_pos ⟨h1, h2⟩]
theorem sum_mono (X : Nat → ActV) (i j : Nat) : sumR X i ≤ sumR X (i + j) := by
  induction j with
  | zero => exact Nat.le_refl _
  | succ j ih => exact Nat.le_trans ih (Nat.le_add_right _ _)
theorem sum_le {X : Nat → ActV} {len i : Nat} (h : Light X len) (hi : i ≤ len) : sumR X i ≤ 12000 := by
  have := sum_mono X i (len - i)
  rw [show i + (len - i) = len by omega] at this
  exact Nat.le_trans this h.sum
/-- What 'heavy' answers. -/
def HvyP (X : Nat → ActV) (len lp lr lf : Nat) (w : World) (e : Ending) (w' : World) : Prop := ∃ hv, e = .returned (.bool hv) ∧ (hv = false → len ≤ 120 ∧ lp ≤ 120 ∧ lr ≤ 120 ∧ lf ≤ 2000 ∧ Light X len) ∧ Below w.heap.size w w'
theorem HvyP.yes {X : Nat → ActV} {len lp lr lf : Nat} {w w' : World} {e : Ending} (he : e = .returned (.bool true)) (h : Below w.heap.size w w') : HvyP X len lp lr lf w e w' := ⟨true, he, fun z => by (cases z), h⟩
theorem HvyP.no {X : Nat → ActV} {len lp lr lf : Nat} {w w' : World} {e : Ending} (he : e = .returned (.bool false)) (k : false = false → len ≤ 120 ∧ lp ≤ 120 ∧ lr ≤ 120 ∧ lf ≤ 2000 ∧ Light X len) (h : Below w.heap.size w w') : HvyP X len lp lr lf w e w' := ⟨false, he, k, h⟩
set_option maxRecDepth 100000 in
set_option maxHeartbeats 2000000 in
theorem heavy_core (p0 r0 f0 o : Option Addr) (lp cp lr cr lf cf len cap : Nat) (X : Nat → ActV) (w : World) (hA : ActsAt w o len cap X) (m1 : lp ≤ 9223372036854775807) (m2 : lr ≤ 9223372036854775807) (m3 : lf ≤ 9223372036854775807) (m4 : len ≤ 9223372036854775807) :
    Calls Try.prog 5 #[.agg #[.slice p0 lp cp, .slice r0 lr cr, .slice f0 lf cf], .slice o len cap] w (HvyP X len lp lr lf w) := by
  have HA := hide hA
  clear hA
  by_cases h1 : (120 : Int) < (len : Int)
  · have d1 : decide ((120 : Int) < (len : Int)) = true := decide_eq_true h1
    go_enter Try.func5, Try.ntmps5
    go_wp2_with fail
    go_ret
    exact HvyP.yes rfl ((Below.refl _ _).alloc (Nat.le_refl _) _)
  · have d1 : decide ((120 : Int) < (len : Int)) = false := decide_eq_false h1
    by_cases h2 : (120 : Int) < (lp : Int)
    · have d2 : decide ((120 : Int) < (lp : Int)) = true := decide_eq_true h2
      go_enter Try.func5, Try.ntmps5
      go_wp2_with fail
      go_ret
      exact HvyP.yes rfl ((Below.refl _ _).alloc (Nat.le_refl _) _)
    · have d2 : decide ((120 : Int) < (lp : Int)) = false := decide_eq_false h2
      by_cases h3 : (120 : Int) < (lr : Int)
      · have d3 : decide ((120 : Int) < (lr : Int)) = true := decide_eq_true h3
        go_enter Try.func5, Try.ntmps5
        go_wp2_with fail
        go_ret
        exact HvyP.yes rfl ((Below.refl _ _).alloc (Nat.le_refl _) _)
      · have d3 : decide ((120 : Int) < (lr : Int)) = false := decide_eq_false h3
        by_cases h4 : (2000 : Int) < (lf : Int)
        · have d4 : decide ((2000 : Int) < (lf : Int)) = true := decide_eq_true h4
          go_enter Try.func5, Try.ntmps5
          go_wp2_with fail
          go_ret
          exact HvyP.yes rfl ((Below.refl _ _).alloc (Nat.le_refl _) _)
        · have d4 : decide ((2000 : Int) < (lf : Int)) = false := decide_eq_false h4
          have hl : len ≤ 120 := by omega
          have FN : Hid (Light X len → (false = false → len ≤ 120 ∧ lp ≤ 120 ∧ lr ≤ 120 ∧ lf ≤ 2000 ∧ Light X len)) := hide (fun h _ => ⟨by omega, by omega, by omega, by omega, h⟩)
          go_enter Try.func5, Try.ntmps5
          go_wp2_with fail
          have hB : Below w.heap.size w (w.alloc (.cells #[.slice p0 lp cp, .slice r0 lr cr, .slice f0 lf cf] 25)) := (Below.refl _ _).alloc (Nat.le_refl _) _
          generalize w.alloc (.cells #[.slice p0 lp cp, .slice r0 lr cr, .slice f0 lf cf] 25) = W at *
          have HB := hide hB
          clear hB d1 d2 d3 d4 h1 h2 h3 h4
          go_loopw [5, 6] (fun pv iv wr => ∃ (i s : Nat), pv = .int .u64 (s : Int) ∧ iv = .int .i64 (i : Int) ∧ i ≤ len ∧ s ≤ 12000 ∧ Hid (s = sumR X i) ∧ wr = W ∧ Hid (Light X i)) (fun _ iv _ => len - (intOf iv).toNat)
          case atStart => exact ⟨0, 0, rfl, rfl, Nat.zero_le _, by omega, hide rfl, rfl, hide (Light.start X)⟩
          case round =>
            obtain ⟨i, s, rfl, rfl, hi, hs, hse, hwr, hL⟩ := hrel
            subst hwr
            by_cases hlt : i < len
            · have dl : (i : Int) < (len : Int) := by omega
              obtain ⟨b, off, rfl, hb, hc⟩ := HA.out.at hlt
              obtain ⟨k0, k1, k2, k3⟩ := hc i hlt
              rw [← HB.out.cell (p := ⟨b, off + i * 4, none⟩) hb] at k0
              rw [← HB.out.cell (p := ⟨b, off + i * 4 + 2, none⟩) hb] at k2
              have ok := HA.out.ok i
              have o1 := ok.lo
              have o2 := ok.hi
              have o3 := ok.n
              obtain ⟨a, ha⟩ : ∃ a, a = (X i).what := ⟨_, rfl⟩
              obtain ⟨z, hz⟩ : ∃ z : Int, z = ((X i).n : Int) := ⟨_, rfl⟩
              have z0 : 0 ≤ z := by omega
              have z1 : z < 18446744073709551616 := by omega
              rw [← ha] at k0 o1 o2
              rw [← hz] at k2
              have HAW := hide ha
              have HZ := hide hz
              clear hc k1 k3 ok o3 ha hz
              by_cases c1 : a = 1
              · have e1 : (a == 1) = true := beq_iff_eq.2 c1
                have e6 : (a == 6) = false := beq_eq_false_iff_ne.2 (by omega)
                by_cases c2 : z ≤ 134217728
                · have e2 : decide (z ≤ 134217728) = true := decide_eq_true c2
                  by_cases c3 : 4096 < z
                  · have e3 : decide (4096 < z) = true := decide_eq_true c3
                    clear c1
                    go_wp2_with fail
                    go_ret
                    exact HvyP.yes rfl HB.out
                  · have e3 : decide (4096 < z) = false := decide_eq_false c3
                    by_cases c4 : 12000 < (s : Int) + z
                    · have e4 : decide (12000 < (s : Int) + z) = true := decide_eq_true c4
                      clear c1
                      go_wp2_with fail
                      go_ret
                      exact HvyP.yes rfl HB.out
                    · have e4 : decide (12000 < (s : Int) + z) = false := decide_eq_false c4
                      have NX : Hid (sumR X (i + 1) = s + z.toNat ∧ Light X (i + 1)) := hide (by
                        have a1 := HAW.out
                        have a2 := HZ.out
                        have e := sum_more (X := X) (i := i) (by omega) (by omega)
                        rw [← hse.out] at e
                        exact ⟨by omega, hL.out.next (by omega) (fun _ _ => by omega) (fun q => by omega)⟩)
                      clear c1
                      go_wp2_with fail
                      refine ⟨⟨i + 1, s + z.toNat, ?_, by go_num, by omega, by omega, hide NX.out.1.symm, trivial, hide NX.out.2⟩, by simp [intOf]; omega⟩
                      rw [show ((s + z.toNat : Nat) : Int) = (s : Int) + z by omega]
                · have e2 : decide (z ≤ 134217728) = false := decide_eq_false c2
                  have NX : Hid (sumR X (i + 1) = s ∧ Light X (i + 1)) := hide (by
                    have a1 := HAW.out
                    have a2 := HZ.out
                    have e := sum_same (X := X) (i := i) (by omega)
                    rw [← hse.out] at e
                    exact ⟨e, hL.out.next (by omega) (fun _ _ => by omega) (fun q => by omega)⟩)
                  clear c1
                  go_wp2_with fail
                  exact ⟨⟨i + 1, s, rfl, by go_num, by omega, by omega, hide NX.out.1.symm, trivial, hide NX.out.2⟩, by simp [intOf]; omega⟩
              · have e1 : (a == 1) = false := beq_eq_false_iff_ne.2 c1
                have SM : Hid (sumR X (i + 1) = s) := hide (by
                  have a1 := HAW.out
                  have e := sum_same (X := X) (i := i) (by omega)
                  rw [← hse.out] at e
                  exact e)
                by_cases c6 : a = 6
                · have e6 : (a == 6) = true := beq_iff_eq.2 c6
                  by_cases c7 : 131072 < z
                  · have e7 : decide (131072 < z) = true := decide_eq_true c7
                    by_cases c8 : z < 140737488355328
                    · have e8 : decide (z < 140737488355328) = true := decide_eq_true c8
                      clear c6 c1
                      go_wp2_with fail
                      go_ret
                      exact HvyP.yes rfl HB.out
                    · have e8 : decide (z < 140737488355328) = false := decide_eq_false c8
                      have NX : Hid (Light X (i + 1)) := hide (by
                        have a1 := HAW.out
                        have a2 := HZ.out
                        have e := SM.out
                        exact hL.out.next (by omega) (fun _ _ => by omega) (fun q => by omega))
                      clear c6 c1
                      go_wp2_with fail
                      exact ⟨⟨i + 1, s, rfl, by go_num, by omega, by omega, hide SM.out.symm, trivial, NX⟩, by simp [intOf]; omega⟩
                  · have e7 : decide (131072 < z) = false := decide_eq_false c7
                    have NX : Hid (Light X (i + 1)) := hide (by
                      have a1 := HAW.out
                      have a2 := HZ.out
                      have e := SM.out
                      exact hL.out.next (by omega) (fun _ _ => by omega) (fun q => by omega))
                    clear c6 c1
                    go_wp2_with fail
                    exact ⟨⟨i + 1, s, rfl, by go_num, by omega, by omega, hide SM.out.symm, trivial, NX⟩, by simp [intOf]; omega⟩
                · have e6 : (a == 6) = false := beq_eq_false_iff_ne.2 c6
                  have NX : Hid (Light X (i + 1)) := hide (by
                    have a1 := HAW.out
                    have a2 := HZ.out
                    have e := SM.out
                    exact hL.out.next (by omega) (fun _ _ => by omega) (fun q => by omega))
                  clear c6 c1
                  go_wp2_with fail
                  exact ⟨⟨i + 1, s, rfl, by go_num, by omega, by omega, hide SM.out.symm, trivial, NX⟩, by simp [intOf]; omega⟩
            · obtain rfl : i = len := by omega
              go_wp2_with fail
              go_ret
              exact HvyP.no rfl (fun _ => FN.out hL.out trivial) HB.out
end Go.Proofs.Ytlfcnaalkjpgnaa

/- Acts on a space, as plain data: how its pages' states go. No program is spoken of. -/
namespace Go.Proofs.Sp

/-- What an act makes of a space: 1 reserve, 2 commit, 3 release, 5 store, 6 zero. -/
def actS (S : Sp) (what : Int) (page n x : Nat) : Sp :=
  if what = 1 then (reserveS S page n).2.2 else if what = 2 then (commitS S page n).2 else if what = 3 then (releaseS S page n).2 else if what = 5 then (storeS S x n).2 else if what = 6 then (zeroS S x n).2 else S
/-- The ways in which a page's state goes. -/
def goesR (what : Int) (a b : Nat) : Prop := a = b ∨ (what = 1 ∧ a = 0 ∧ b = 1) ∨ (what = 2 ∧ a ≠ 0 ∧ b = 2) ∨ (what = 3 ∧ a = 2 ∧ b = 3)
theorem act_goes (S : Sp) (what : Int) (page n x p : Nat) : goesR what (S.st p) ((actS S what page n x).st p) := by
  unfold actS
  by_cases h1 : what = 1
  · rw [if_pos h1]
    unfold reserveS
    split
    · exact Or.inl rfl
    · split
      · exact Or.inl rfl
      · split
        · exact Or.inl rfl
        · rename_i q hq
          obtain ⟨f1, f2, f3, f4⟩ := or_free hq
          show goesR what (S.st p) (if q ≤ p ∧ p < q + n then 1 else S.st p)
          by_cases z : q ≤ p ∧ p < q + n
          · rw [if_pos z]
            have := f4 (p - q) (by omega)
            rw [show q + (p - q) = p by omega] at this
            exact Or.inr (Or.inl ⟨h1, this, rfl⟩)
          · rw [if_neg z]; exact Or.inl rfl
  · rw [if_neg h1]
    by_cases h2 : what = 2
    · rw [if_pos h2]
      unfold commitS
      split
      · exact Or.inl rfl
      · split
        · exact Or.inl rfl
        · split
          · exact Or.inl rfl
          · split
            · exact Or.inl rfl
            · rename_i q _ _
              have q := Classical.not_not.1 q
              show goesR what (S.st p) ((readyN (takeRefuse S) page n).st p)
              rw [readyN_st]
              by_cases z : page ≤ p ∧ p < page + n
              · rw [if_pos z]
                have := q (p - page) (by omega)
                rw [show page + (p - page) = p by omega] at this
                exact Or.inr (Or.inr (Or.inl ⟨h2, this, rfl⟩))
              · rw [if_neg z]; exact Or.inl rfl
    · rw [if_neg h2]
      by_cases h3 : what = 3
      · rw [if_pos h3]
        unfold releaseS
        split
        · exact Or.inl rfl
        · split
          · exact Or.inl rfl
          · rename_i q
            have q := Classical.not_not.1 q
            show goesR what (S.st p) (if page ≤ p ∧ p < page + n then 3 else S.st p)
            by_cases z : page ≤ p ∧ p < page + n
            · rw [if_pos z]
              have := q (p - page) (by omega)
              rw [show page + (p - page) = p by omega] at this
              exact Or.inr (Or.inr (Or.inr ⟨h3, this, rfl⟩))
            · rw [if_neg z]; exact Or.inl rfl
      · rw [if_neg h3]
        left
        split
        · unfold storeS; split
          · rfl
          · split <;> rfl
        · split
          · unfold zeroS; split
            · rfl
            · split
              · rfl
              · split <;> rfl
          · rfl
theorem lay_length (S : Sp) (q n : Nat) : (lay S q n).pgs.length = S.pgs.length + n := by
  show (S.pgs.filter (· < q) ++ (List.range' q n ++ S.pgs.filter (q ≤ ·))).length = _
  have e : (S.pgs.filter (· < q)).length + (S.pgs.filter (q ≤ ·)).length = S.pgs.length := by
    induction S.pgs with
    | nil => rfl
    | cons a r ih =>
      by_cases z : a < q
      · have y : ¬ q ≤ a := by omega
        simp [z, y]; omega
      · have y : q ≤ a := by omega
        simp [z, y]; omega
  simp only [List.length_append, List.length_range']
  omega
theorem act_pages (S : Sp) (what : Int) (page n x : Nat) : (actS S what page n x).pgs.length ≤ S.pgs.length + if what = 1 ∧ n ≤ 134217728 then n else 0 := by
  unfold actS
  by_cases h1 : what = 1
  · rw [if_pos h1]
    unfold reserveS
    split
    · exact Nat.le_add_right _ _
    · rename_i hn
      split
      · exact Nat.le_add_right _ _
      · split
        · exact Nat.le_add_right _ _
        · rename_i q hq
          show (lay (takePlace (takeRefuse S)) q n).pgs.length ≤ _
          rw [lay_length, if_pos ⟨h1, by omega⟩]
          exact Nat.le_refl _
  · rw [if_neg h1]
    have e : ∀ T : Sp, T.pgs = S.pgs → T.pgs.length ≤ S.pgs.length + if what = 1 ∧ n ≤ 134217728 then n else 0 := fun T h => by rw [h]; exact Nat.le_add_right _ _
    split
    · apply e
      unfold commitS
      split
      · rfl
      · split
        · rfl
        · split
          · rfl
          · split
            · rfl
            · exact (readyN_keeps (takeRefuse S) page n).1
    · split
      · apply e
        unfold releaseS
        split
        · rfl
        · split <;> rfl
      · split
        · apply e
          unfold storeS
          split
          · rfl
          · split <;> rfl
        · split
          · apply e
            unfold zeroS
            split
            · rfl
            · split
              · rfl
              · split <;> rfl
          · exact Nat.le_add_right _ _
theorem pigeonS (p : Nat) : ∀ (n : Nat) (Q : List Nat), (∀ k, k < n → p + k ∈ Q) → n ≤ Q.length
  | 0, Q, _ => Nat.zero_le _
  | n + 1, Q, h => by
    have hm := h n (by omega)
    have := pigeonS p n (Q.erase (p + n)) (fun k hk => (List.mem_erase_of_ne (by omega)).2 (h k (by omega)))
    rw [List.length_erase_of_mem hm] at this
    have := List.length_pos_of_mem hm
    omega
theorem row_le {S : Sp} (h : WF S) {p n : Nat} (hr : ∀ i, i < n → S.st (p + i) ≠ 0) : n ≤ S.pgs.length := pigeonS p n S.pgs (fun k hk => (h.mem _).1 (hr k hk))
end Go.Proofs.Sp

/- The landed space and the reference's beside one another, with the same pages and words: what each call answers in both. -/
namespace Go.Proofs.Ytlfcnaalkjpgnaa
open Go.ChangeShapes Go.WideShapes Go.ChangeAt Go.RowKit Go.Proofs.Sp Go.Maps
set_option linter.unusedVariables false
set_option linter.unusedSimpArgs false

theorem cost_le {er n : Nat} (h : er = 0 → n < 100000000) : cost er n ≤ 100000000 := by
  unfold cost
  split
  · have := h (by assumption); omega
  · decide
theorem cost_res {S : Sp} {p n : Nat} (hl : n ≤ 134217728 → n ≤ 4096) : cost (reserveS S p n).2.1 n ≤ 100000000 := cost_le fun z => by
  unfold reserveS at z
  split at z
  · cases z
  · have := hl (by omega); omega
theorem cost_com {S : Sp} (wf : WF S) {p n : Nat} (hl : S.pgs.length ≤ 12000) : cost (commitS S p n).1 n ≤ 100000000 := cost_le fun z => by
  unfold commitS at z
  split at z
  · cases z
  · split at z
    · cases z
    · rename_i q
      have := row_le wf (Classical.not_not.1 q)
      omega
theorem cost_rel {S : Sp} (wf : WF S) {p n : Nat} (hl : S.pgs.length ≤ 12000) : cost (releaseS S p n).1 n ≤ 100000000 := cost_le fun z => by
  unfold releaseS at z
  split at z
  · cases z
  · split at z
    · cases z
    · rename_i q
      have := row_le wf (fun i hi => by rw [Classical.not_not.1 q i hi]; decide)
      omega
theorem cost_zer {S : Sp} (wf : WF S) {x n : Nat} (hl : S.pgs.length ≤ 12000) : cost (zeroS S x n).1 n ≤ 100000000 := cost_le fun z => by
  unfold zeroS at z
  split at z
  · cases z
  · split at z
    · omega
    · split at z
      · cases z
      · rename_i q
        have := row_le wf (fun i hi => by rw [Classical.not_not.1 q i hi]; decide)
        omega
theorem great_not {S : Sp} (wf : WF S) {x n : Nat} (hl : S.pgs.length ≤ 12000) (hn : 140737488355328 ≤ n) : ¬ allReady S x n := fun q => by
  have := row_le wf (fun i hi => by rw [q i hi]; decide)
  omega

/-- Both, with the same space. -/
def T (W : World) (m r : Addr) (S : Sp) (F G : Nat → Prop) (K : Nat) : Prop := ∃ K1 K2, K1 ≤ K ∧ K2 ≤ K ∧ VI W m S F K1 ∧ RI W r S G K2 ∧ ∀ b, F b → ¬ G b
theorem T.wf {W : World} {m r : Addr} {S : Sp} {F G : Nat → Prop} {K : Nat} (h : T W m r S F G K) : WF S := by obtain ⟨_, _, _, _, h, _⟩ := h; exact vface.wf h
theorem T.ltF {W : World} {m r : Addr} {S : Sp} {F G : Nat → Prop} {K : Nat} (h : T W m r S F G K) {b : Nat} (hb : F b) : b < W.heap.size := by obtain ⟨_, _, _, _, h, _⟩ := h; exact vface.lt h b hb
theorem T.ltG {W : World} {m r : Addr} {S : Sp} {F G : Nat → Prop} {K : Nat} (h : T W m r S F G K) {b : Nat} (hb : G b) : b < W.heap.size := by obtain ⟨_, _, _, _, _, h, _⟩ := h; exact RI.lt h b hb
theorem T.kept {W W' : World} {m r : Addr} {S : Sp} {F G : Nat → Prop} {K : Nat} (h : T W m r S F G K) (hs : W.heap.size ≤ W'.heap.size) (hb : ∀ b, F b ∨ G b → W'.heap[b]? = W.heap[b]?) : T W' m r S F G K := by
  obtain ⟨K1, K2, k1, k2, a, b, d⟩ := h
  exact ⟨K1, K2, k1, k2, vface.kept a hs (fun x hx => hb x (.inl hx)), RI.kept b hs (fun x hx => hb x (.inr hx)), d⟩
theorem T.below {W W' : World} {m r : Addr} {S : Sp} {F G : Nat → Prop} {K : Nat} (h : T W m r S F G K) (k : Below W.heap.size W W') : T W' m r S F G K :=
  h.kept k.size (fun b hb => k.block b (hb.elim (fun x => h.ltF x) (fun x => h.ltG x)))
theorem T.mono {W : World} {m r : Addr} {S : Sp} {F G : Nat → Prop} {K K' : Nat} (h : T W m r S F G K) (hk : K ≤ K') : T W m r S F G K' := by
  obtain ⟨K1, K2, k1, k2, a⟩ := h
  exact ⟨K1, K2, Nat.le_trans k1 hk, Nat.le_trans k2 hk, a⟩
/-- Between the two calls: the landed one has been made. -/
structure Mid (W W1 : World) (m r : Addr) (S S' : Sp) (F G : Nat → Prop) (K : Nat) : Prop where
  v : ∃ F' K1, K1 ≤ K ∧ VI W1 m S' F' K1 ∧ ∀ b, F' b → F b ∨ W.heap.size ≤ b
  q : ∃ K2, K2 + 100000000 ≤ K ∧ RI W1 r S G K2
  kept : Kept F W W1
  dis : ∀ b, F b → ¬ G b
  lt : ∀ b, G b → b < W.heap.size
/-- Behind both. -/
def TR (W W2 : World) (m r : Addr) (S' : Sp) (F G : Nat → Prop) (K : Nat) : Prop := ∃ F' G', T W2 m r S' F' G' K ∧ Kept (fun b => F b ∨ G b) W W2 ∧ ∀ b, F' b ∨ G' b → (F b ∨ G b) ∨ W.heap.size ≤ b
theorem T.mid {W W1 : World} {m r : Addr} {S S' : Sp} {F G : Nat → Prop} {K K1 K1' : Nat} (h : T W m r S F G K) (s : Step VI F W W1 m S' K1') (hk : K1' ≤ K + 100000000) : Mid W W1 m r S S' F G (K + 100000000) := by
  obtain ⟨_, K2, _, k2, _, q, d⟩ := h
  obtain ⟨F', v, kp, hf⟩ := s
  refine ⟨⟨F', K1', hk, v, hf⟩, ⟨K2, by omega, RI.kept q kp.size (fun b hb => kp.block b (RI.lt q b hb) (fun z => d b z hb))⟩, kp, d, fun b hb => RI.lt q b hb⟩
theorem Mid.done {W W1 W2 : World} {m r : Addr} {S S' : Sp} {F G : Nat → Prop} {K K2' : Nat} (h : Mid W W1 m r S S' F G K) (s : Step RI G W1 W2 r S' K2') (hk : K2' ≤ K) : TR W W2 m r S' F G K := by
  obtain ⟨F', K1, k1, v, hf⟩ := h.v
  obtain ⟨G', q, kp, hg⟩ := s
  have hz := h.kept.size
  have nf : ∀ b, F' b → ¬ G b := fun b hb hG => by
    rcases hf b hb with z | z
    · exact h.dis b z hG
    · have := h.lt b hG; omega
  refine ⟨F', G', ⟨K1, K2', k1, hk, vface.kept v kp.size (fun b hb => kp.block b (vface.lt v b hb) (nf b hb)), q, fun b hb hG => ?_⟩, ?_, fun b hb => ?_⟩
  · rcases hg b hG with z | z
    · exact nf b hb z
    · have := vface.lt v b hb; omega
  · exact ⟨kp.os.trans h.kept.os, kp.tape.trans h.kept.tape, kp.output.trans h.kept.output, Nat.le_trans hz kp.size, fun b hb hn => (kp.block b (by omega) (fun z => hn (.inr z))).trans (h.kept.block b hb (fun z => hn (.inl z)))⟩
  · rcases hb with z | z
    · rcases hf b z with y | y
      · exact .inl (.inl y)
      · exact .inr y
    · rcases hg b z with y | y
      · exact .inl (.inr y)
      · exact .inr (by omega)
def K9 : Nat := 900000000000
theorem lim9 {K K1 : Nat} (h : K ≤ K9) (h1 : K1 ≤ K) : K1 ≤ lim ∧ K1 ≤ 1000000000000 := by unfold K9 at h; unfold lim; omega
theorem lim8 {K K1 : Nat} (h : K ≤ K9) (h1 : K1 + 100000000 ≤ K + 100000000) : K1 ≤ lim ∧ K1 ≤ 1000000000000 := by unfold K9 at h; unfold lim; omega
section
variable {W W1 : World} {m r : Addr} {S : Sp} {F G : Nat → Prop} {K : Nat}
theorem l_reserve {a b : Int} (h : T W m r S F G K) (hK : K ≤ K9) (ha : two64 a) (hb : two64 b) (hl : b.toNat ≤ 134217728 → b.toNat ≤ 4096) :
    Calls Try.prog vm.reserve #[.pointer (some m), .int .u64 a, .int .u64 b] W fun e w' => e = .returned (.tuple #[.int .u64 ((reserveS S a.toNat b.toNat).1 : Nat), .int .i64 ((reserveS S a.toNat b.toNat).2.1 : Nat)]) ∧ Mid W w' m r S (reserveS S a.toNat b.toNat).2.2 F G (K + 100000000) := by
  have h' := h
  obtain ⟨K1, K2, k1, k2, v, q, d⟩ := h
  exact (vface.reserve a b ha hb v (lim9 hK k1).1).mono fun e w' ⟨he, hs⟩ => ⟨he, h'.mid (K1 := 0) hs (Nat.add_le_add k1 (cost_res hl))⟩
theorem r_reserve {a b : Int} (h : Mid W W1 m r S (reserveS S a.toNat b.toNat).2.2 F G (K + 100000000)) (hK : K ≤ K9) (ha : two64 a) (hb : two64 b) (hl : b.toNat ≤ 134217728 → b.toNat ≤ 4096) :
    Calls Try.prog rf.reserve #[.pointer (some r), .int .u64 a, .int .u64 b] W1 fun e w' => e = .returned (.tuple #[.int .u64 ((reserveS S a.toNat b.toNat).1 : Nat), .int .i64 ((reserveS S a.toNat b.toNat).2.1 : Nat)]) ∧ TR W w' m r (reserveS S a.toNat b.toNat).2.2 F G (K + 100000000) := by
  obtain ⟨K2, k2, q⟩ := h.q
  exact (RI.reserve a b ha hb q (lim8 hK k2).1).mono fun e w' ⟨he, hs⟩ => ⟨he, h.done hs (by have := cost_res (S := S) (p := a.toNat) hl; omega)⟩
theorem l_commit {a b : Int} (h : T W m r S F G K) (hK : K ≤ K9) (ha : two64 a) (hb : two64 b) (hl : S.pgs.length ≤ 12000) :
    Calls Try.prog vm.commit #[.pointer (some m), .int .u64 a, .int .u64 b] W fun e w' => e = .returned (.int .i64 ((commitS S a.toNat b.toNat).1 : Nat)) ∧ Mid W w' m r S (commitS S a.toNat b.toNat).2 F G (K + 100000000) := by
  have h' := h
  obtain ⟨K1, K2, k1, k2, v, q, d⟩ := h
  exact (vface.commit a b ha hb v (lim9 hK k1).1).mono fun e w' ⟨he, hs⟩ => ⟨he, h'.mid (K1 := 0) hs (Nat.add_le_add k1 (cost_com h'.wf hl))⟩
theorem r_commit {a b : Int} (h : Mid W W1 m r S (commitS S a.toNat b.toNat).2 F G (K + 100000000)) (hK : K ≤ K9) (ha : two64 a) (hb : two64 b) (hl : S.pgs.length ≤ 12000) :
    Calls Try.prog rf.commit #[.pointer (some r), .int .u64 a, .int .u64 b] W1 fun e w' => e = .returned (.int .i64 ((commitS S a.toNat b.toNat).1 : Nat)) ∧ TR W w' m r (commitS S a.toNat b.toNat).2 F G (K + 100000000) := by
  obtain ⟨K2, k2, q⟩ := h.q
  exact (RI.commit a b ha hb q (lim8 hK k2).1).mono fun e w' ⟨he, hs⟩ => ⟨he, h.done hs (by have := cost_com (RI.wf q) (p := a.toNat) (n := b.toNat) hl; omega)⟩
theorem l_release {a b : Int} (h : T W m r S F G K) (hK : K ≤ K9) (ha : two64 a) (hb : two64 b) (hl : S.pgs.length ≤ 12000) :
    Calls Try.prog vm.release #[.pointer (some m), .int .u64 a, .int .u64 b] W fun e w' => e = .returned (.int .i64 ((releaseS S a.toNat b.toNat).1 : Nat)) ∧ Mid W w' m r S (releaseS S a.toNat b.toNat).2 F G (K + 100000000) := by
  have h' := h
  obtain ⟨K1, K2, k1, k2, v, q, d⟩ := h
  exact (vface.release a b ha hb v (lim9 hK k1).1).mono fun e w' ⟨he, hs⟩ => ⟨he, h'.mid (K1 := 0) hs (Nat.add_le_add k1 (cost_rel h'.wf hl))⟩
theorem r_release {a b : Int} (h : Mid W W1 m r S (releaseS S a.toNat b.toNat).2 F G (K + 100000000)) (hK : K ≤ K9) (ha : two64 a) (hb : two64 b) (hl : S.pgs.length ≤ 12000) :
    Calls Try.prog rf.release #[.pointer (some r), .int .u64 a, .int .u64 b] W1 fun e w' => e = .returned (.int .i64 ((releaseS S a.toNat b.toNat).1 : Nat)) ∧ TR W w' m r (releaseS S a.toNat b.toNat).2 F G (K + 100000000) := by
  obtain ⟨K2, k2, q⟩ := h.q
  exact (RI.release a b ha hb q (lim8 hK k2).1).mono fun e w' ⟨he, hs⟩ => ⟨he, h.done hs (by have := cost_rel (RI.wf q) (p := a.toNat) (n := b.toNat) hl; omega)⟩
theorem l_load {a : Int} (h : T W m r S F G K) (hK : K ≤ K9) (ha : two64 a) :
    Calls Try.prog vm.load #[.pointer (some m), .int .u64 a] W fun e w' => e = .returned (.tuple #[.int .u64 ((loadS S a.toNat).1 : Nat), .int .i64 ((loadS S a.toNat).2 : Nat)]) ∧ Mid W w' m r S S F G (K + 100000000) := by
  have h' := h
  obtain ⟨K1, K2, k1, k2, v, q, d⟩ := h
  exact (vface.load a ha v (lim9 hK k1).1).mono fun e w' ⟨he, hs⟩ => ⟨he, h'.mid (K1 := 0) hs (by omega)⟩
theorem r_load {a : Int} (h : Mid W W1 m r S S F G (K + 100000000)) (hK : K ≤ K9) (ha : two64 a) :
    Calls Try.prog rf.load #[.pointer (some r), .int .u64 a] W1 fun e w' => e = .returned (.tuple #[.int .u64 ((loadS S a.toNat).1 : Nat), .int .i64 ((loadS S a.toNat).2 : Nat)]) ∧ TR W w' m r S F G (K + 100000000) := by
  obtain ⟨K2, k2, q⟩ := h.q
  exact (RI.load a ha q (lim8 hK k2).1).mono fun e w' ⟨he, hs⟩ => ⟨he, h.done hs (by omega)⟩
theorem l_store {a b : Int} (h : T W m r S F G K) (hK : K ≤ K9) (ha : two64 a) (hb : two64 b) :
    Calls Try.prog vm.store #[.pointer (some m), .int .u64 a, .int .u64 b] W fun e w' => e = .returned (.int .i64 ((storeS S a.toNat b.toNat).1 : Nat)) ∧ Mid W w' m r S (storeS S a.toNat b.toNat).2 F G (K + 100000000) := by
  have h' := h
  obtain ⟨K1, K2, k1, k2, v, q, d⟩ := h
  exact (vface.store a b ha hb v (lim9 hK k1).1).mono fun e w' ⟨he, hs⟩ => ⟨he, h'.mid (K1 := 0) hs (by omega)⟩
theorem r_store {a b : Int} (h : Mid W W1 m r S (storeS S a.toNat b.toNat).2 F G (K + 100000000)) (hK : K ≤ K9) (ha : two64 a) (hb : two64 b) :
    Calls Try.prog rf.store #[.pointer (some r), .int .u64 a, .int .u64 b] W1 fun e w' => e = .returned (.int .i64 ((storeS S a.toNat b.toNat).1 : Nat)) ∧ TR W w' m r (storeS S a.toNat b.toNat).2 F G (K + 100000000) := by
  obtain ⟨K2, k2, q⟩ := h.q
  exact (RI.store a b ha hb q (lim8 hK k2).1).mono fun e w' ⟨he, hs⟩ => ⟨he, h.done hs (by omega)⟩
theorem l_zero {a b : Int} (h : T W m r S F G K) (hK : K ≤ K9) (ha : two64 a) (hb : two64 b) (hl : S.pgs.length ≤ 12000) :
    Calls Try.prog vm.zero #[.pointer (some m), .int .u64 a, .int .u64 b] W fun e w' => e = .returned (.int .i64 ((zeroS S a.toNat b.toNat).1 : Nat)) ∧ Mid W w' m r S (zeroS S a.toNat b.toNat).2 F G (K + 100000000) := by
  have h' := h
  obtain ⟨K1, K2, k1, k2, v, q, d⟩ := h
  exact (vface.zero a b (by decide) ha hb v (lim9 hK k1).1).mono fun e w' ⟨he, hs⟩ => ⟨he, h'.mid (K1 := 0) hs (Nat.add_le_add k1 (cost_zer h'.wf hl))⟩
theorem r_zero {a b : Int} (h : Mid W W1 m r S (zeroS S a.toNat b.toNat).2 F G (K + 100000000)) (hK : K ≤ K9) (ha : two64 a) (hb : two64 b) (hl : S.pgs.length ≤ 12000) (hn : b ≤ 131072 ∨ 140737488355328 ≤ b) :
    Calls Try.prog rf.zero #[.pointer (some r), .int .u64 a, .int .u64 b] W1 fun e w' => e = .returned (.int .i64 ((zeroS S a.toNat b.toNat).1 : Nat)) ∧ TR W w' m r (zeroS S a.toNat b.toNat).2 F G (K + 100000000) := by
  obtain ⟨K2, k2, q⟩ := h.q
  exact (RI.zero a b ha hb q (lim8 hK k2).2 (hn.elim (fun z => .inl (by omega)) (fun z => .inr (great_not (RI.wf q) hl (by omega))))).mono fun e w' ⟨he, hs⟩ => ⟨he, h.done hs (by have := cost_zer (RI.wf q) (x := a.toNat) (n := b.toNat) hl; omega)⟩
theorem l_count {k : Int} (h : T W m r S F G K) (hK : K ≤ K9) (h1 : -9223372036854775808 ≤ k) (h2 : k ≤ 9223372036854775807) :
    Calls Try.prog vm.count #[.pointer (some m), .int .i64 k] W fun e w' => e = .returned (.int .u64 (countS S k : Nat)) ∧ Mid W w' m r S S F G (K + 100000000) := by
  have h' := h
  obtain ⟨K1, K2, k1, k2, v, q, d⟩ := h
  exact (vface.count k h1 h2 v (lim9 hK k1).1).mono fun e w' ⟨he, hs⟩ => ⟨he, h'.mid (K1 := 0) hs (by omega)⟩
theorem r_count {k : Int} (h : Mid W W1 m r S S F G (K + 100000000)) (hK : K ≤ K9) (h1 : -9223372036854775808 ≤ k) (h2 : k ≤ 9223372036854775807) :
    Calls Try.prog rf.count #[.pointer (some r), .int .i64 k] W1 fun e w' => e = .returned (.int .u64 (countS S k : Nat)) ∧ TR W w' m r S F G (K + 100000000) := by
  obtain ⟨K2, k2, q⟩ := h.q
  exact (RI.count k h1 h2 q (lim8 hK k2).1).mono fun e w' ⟨he, hs⟩ => ⟨he, h.done hs (by omega)⟩
theorem l_state {a : Int} (h : T W m r S F G K) (hK : K ≤ K9) (ha : two64 a) :
    Calls Try.prog vm.state #[.pointer (some m), .int .u64 a] W fun e w' => e = .returned (.int .i64 (S.st a.toNat : Nat)) ∧ Mid W w' m r S S F G (K + 100000000) := by
  have h' := h
  obtain ⟨K1, K2, k1, k2, v, q, d⟩ := h
  exact (vface.state a ha v (lim9 hK k1).1).mono fun e w' ⟨he, hs⟩ => ⟨he, h'.mid (K1 := 0) hs (by omega)⟩
theorem r_state {a : Int} (h : Mid W W1 m r S S F G (K + 100000000)) (hK : K ≤ K9) (ha : two64 a) :
    Calls Try.prog rf.state #[.pointer (some r), .int .u64 a] W1 fun e w' => e = .returned (.int .i64 (S.st a.toNat : Nat)) ∧ TR W w' m r S F G (K + 100000000) := by
  obtain ⟨K2, k2, q⟩ := h.q
  exact (RI.state a ha q (lim8 hK k2).1).mono fun e w' ⟨he, hs⟩ => ⟨he, h.done hs (by omega)⟩
end
end Go.Proofs.Ytlfcnaalkjpgnaa
