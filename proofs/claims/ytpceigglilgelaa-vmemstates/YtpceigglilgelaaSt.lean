/- Acts on a space, as plain data: how its pages' states go. No program is spoken of. -/
import Derived.Test.YtpceigglilgelaaSp
namespace Go.Proofs.Sp

/-- What an act makes of a space: 1 reserve, 2 commit, 3 release, 5 store, 6 zero. -/
def actS (S : Sp) (what : Int) (page n x : Nat) : Sp :=
  if what = 1 then (reserveS S page n).2.2 else if what = 2 then (commitS S page n).2 else if what = 3 then (releaseS S page n).2 else if what = 5 then (storeS S x n).2 else if what = 6 then (zeroS S x n).2 else S
/-- The ways in which a page's state goes. -/
def goesR (what : Int) (a b : Nat) : Prop := a = b ∨ (what = 1 ∧ a = 0 ∧ b = 1) ∨ (what = 2 ∧ a ≠ 0 ∧ b = 2) ∨ (what = 3 ∧ a = 2 ∧ b = 3)
theorem act_goes (S : Sp) (what : Int) (page n x p : Nat) : goesR what (S.st p) ((actS S what page n x).st p) := by
  unfold actS
  by_cases h1 : what = 1
  · rw [if_pos h1]
    unfold reserveS
    split
    · exact Or.inl rfl
    · split
      · exact Or.inl rfl
      · split
        · exact Or.inl rfl
        · rename_i q hq
          obtain ⟨f1, f2, f3, f4⟩ := or_free hq
          show goesR what (S.st p) (if q ≤ p ∧ p < q + n then 1 else S.st p)
          by_cases z : q ≤ p ∧ p < q + n
          · rw [if_pos z]
            have := f4 (p - q) (by omega)
            rw [show q + (p - q) = p by omega] at this
            exact Or.inr (Or.inl ⟨h1, this, rfl⟩)
          · rw [if_neg z]; exact Or.inl rfl
  · rw [if_neg h1]
    by_cases h2 : what = 2
    · rw [if_pos h2]
      unfold commitS
      split
      · exact Or.inl rfl
      · split
        · exact Or.inl rfl
        · split
          · exact Or.inl rfl
          · split
            · exact Or.inl rfl
            · rename_i q _ _
              have q := Classical.not_not.1 q
              show goesR what (S.st p) ((readyN (takeRefuse S) page n).st p)
              rw [readyN_st]
              by_cases z : page ≤ p ∧ p < page + n
              · rw [if_pos z]
                have := q (p - page) (by omega)
                rw [show page + (p - page) = p by omega] at this
                exact Or.inr (Or.inr (Or.inl ⟨h2, this, rfl⟩))
              · rw [if_neg z]; exact Or.inl rfl
    · rw [if_neg h2]
      by_cases h3 : what = 3
      · rw [if_pos h3]
        unfold releaseS
        split
        · exact Or.inl rfl
        · split
          · exact Or.inl rfl
          · rename_i q
            have q := Classical.not_not.1 q
            show goesR what (S.st p) (if page ≤ p ∧ p < page + n then 3 else S.st p)
            by_cases z : page ≤ p ∧ p < page + n
            · rw [if_pos z]
              have := q (p - page) (by omega)
              rw [show page + (p - page) = p by omega] at this
              exact Or.inr (Or.inr (Or.inr ⟨h3, this, rfl⟩))
            · rw [if_neg z]; exact Or.inl rfl
      · rw [if_neg h3]
        left
        split
        · unfold storeS; split
          · rfl
          · split <;> rfl
        · split
          · unfold zeroS; split
            · rfl
            · split
              · rfl
              · split <;> rfl
          · rfl
theorem lay_length (S : Sp) (q n : Nat) : (lay S q n).pgs.length = S.pgs.length + n := by
  show (S.pgs.filter (· < q) ++ (List.range' q n ++ S.pgs.filter (q ≤ ·))).length = _
  have e : (S.pgs.filter (· < q)).length + (S.pgs.filter (q ≤ ·)).length = S.pgs.length := by
    induction S.pgs with
    | nil => rfl
    | cons a r ih =>
      by_cases z : a < q
      · have y : ¬ q ≤ a := by omega
        simp [z, y]; omega
      · have y : q ≤ a := by omega
        simp [z, y]; omega
  simp only [List.length_append, List.length_range']
  omega
theorem act_pages (S : Sp) (what : Int) (page n x : Nat) : (actS S what page n x).pgs.length ≤ S.pgs.length + if what = 1 ∧ n ≤ 134217728 then n else 0 := by
  unfold actS
  by_cases h1 : what = 1
  · rw [if_pos h1]
    unfold reserveS
    split
    · exact Nat.le_add_right _ _
    · rename_i hn
      split
      · exact Nat.le_add_right _ _
      · split
        · exact Nat.le_add_right _ _
        · rename_i q hq
          show (lay (takePlace (takeRefuse S)) q n).pgs.length ≤ _
          rw [lay_length, if_pos ⟨h1, by omega⟩]
          exact Nat.le_refl _
  · rw [if_neg h1]
    have e : ∀ T : Sp, T.pgs = S.pgs → T.pgs.length ≤ S.pgs.length + if what = 1 ∧ n ≤ 134217728 then n else 0 := fun T h => by rw [h]; exact Nat.le_add_right _ _
    split
    · apply e
      unfold commitS
      split
      · rfl
      · split
        · rfl
        · split
          · rfl
          · split
            · rfl
            · exact (readyN_keeps (takeRefuse S) page n).1
    · split
      · apply e
        unfold releaseS
        split
        · rfl
        · split <;> rfl
      · split
        · apply e
          unfold storeS
          split
          · rfl
          · split <;> rfl
        · split
          · apply e
            unfold zeroS
            split
            · rfl
            · split
              · rfl
              · split <;> rfl
          · exact Nat.le_add_right _ _
theorem pigeonS (p : Nat) : ∀ (n : Nat) (Q : List Nat), (∀ k, k < n → p + k ∈ Q) → n ≤ Q.length
  | 0, Q, _ => Nat.zero_le _
  | n + 1, Q, h => by
    have hm := h n (by omega)
    have := pigeonS p n (Q.erase (p + n)) (fun k hk => (List.mem_erase_of_ne (by omega)).2 (h k (by omega)))
    rw [List.length_erase_of_mem hm] at this
    have := List.length_pos_of_mem hm
    omega
theorem row_le {S : Sp} (h : WF S) {p n : Nat} (hr : ∀ i, i < n → S.st (p + i) ≠ 0) : n ≤ S.pgs.length := pigeonS p n S.pgs (fun k hk => (h.mem _).1 (hr k hk))
end Go.Proofs.Sp
