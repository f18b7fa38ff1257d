/- Rows of pieces: plain. -/
import Derived.Test.YtnhllnepnpmegaaTy
namespace Go.Proofs.Ytnhllnepnpmegaa
open Go.Proofs.Bt
set_option linter.unusedVariables false
set_option linter.unusedSimpArgs false

/-- What a row of pieces says of a word. -/
def fnOf : List Nd → Nat → Bool
  | [], _ => false
  | x :: L, w => if x.fi ≤ w ∧ w < x.en then x.g w else fnOf L w
/-- Pieces of whole windows, one behind the other, from lo on, below hi. -/
def Good : Nat → Nat → List Nd → Prop
  | lo, hi, [] => lo ≤ hi
  | lo, hi, x :: L => lo ≤ x.fi ∧ x.fi < x.en ∧ x.fi % 512 = 0 ∧ x.en % 512 = 0 ∧ x.own = cnt x.g x.fi (x.en - x.fi) ∧ x.own ≠ 0 ∧ Good x.en hi L
theorem Good.le : ∀ {lo hi : Nat} {L : List Nd}, Good lo hi L → lo ≤ hi
  | _, _, [], h => h
  | _, _, x :: L, ⟨a, b, _, _, _, _, c⟩ => by have := Good.le c; omega
theorem Good.lower {lo lo' hi : Nat} {L : List Nd} (h : Good lo hi L) (l : lo' ≤ lo) : Good lo' hi L := by
  cases L with
  | nil => exact Nat.le_trans l h
  | cons x L => exact ⟨Nat.le_trans l h.1, h.2⟩
theorem Good.upper : ∀ {lo hi hi' : Nat} {L : List Nd}, Good lo hi L → hi ≤ hi' → Good lo hi' L
  | _, _, _, [], h, l => Nat.le_trans h l
  | _, _, _, x :: L, ⟨a, b, c, d, e, f, g⟩, l => ⟨a, b, c, d, e, f, Good.upper g l⟩
theorem Good.app : ∀ {A : List Nd} {lo m hi : Nat} {B : List Nd}, Good lo m A → Good m hi B → Good lo hi (A ++ B)
  | [], lo, m, hi, B, h, k => Good.lower k h
  | x :: A, lo, m, hi, B, ⟨a, b, c, d, e, f, g⟩, k => ⟨a, b, c, d, e, f, Good.app g k⟩
theorem Good.cut : ∀ {A : List Nd} {lo hi : Nat} {x : Nd} {B : List Nd}, Good lo hi (A ++ x :: B) → Good lo x.fi A ∧ Good x.fi hi (x :: B)
  | [], lo, hi, x, B, h => ⟨h.1, Nat.le_refl _, h.2⟩
  | y :: A, lo, hi, x, B, ⟨a, b, c, d, e, f, g⟩ => ⟨⟨a, b, c, d, e, f, (Good.cut g).1⟩, (Good.cut g).2⟩
theorem Good.pos : ∀ {lo hi : Nat} {L : List Nd}, Good lo hi L → Pos L
  | _, _, [], _ => fun x hx => by cases hx
  | _, _, y :: L, ⟨_, _, _, _, _, f, g⟩ => fun x hx => by
    rcases List.mem_cons.1 hx with u | u
    · rw [u]; exact f
    · exact Good.pos g x u
theorem Good.len : ∀ {lo hi : Nat} {L : List Nd}, Good lo hi L → L.length ≤ hi - lo
  | _, _, [], _ => Nat.zero_le _
  | _, _, x :: L, ⟨a, b, _, _, _, _, g⟩ => by have := Good.len g; have := Good.le g; rw [List.length_cons]; omega
theorem Good.owns : ∀ {lo hi : Nat} {L : List Nd}, Good lo hi L → owns L ≤ hi - lo
  | _, _, [], _ => Nat.zero_le _
  | _, _, x :: L, ⟨a, b, _, _, e, _, g⟩ => by have := Good.owns g; have := Good.le g; rw [owns_cons, e]; have := cnt_le x.g x.fi (x.en - x.fi); omega
theorem Good.len512 : ∀ {lo hi : Nat} {L : List Nd}, Good lo hi L → L.length * 512 ≤ hi - lo
  | _, _, [], _ => by simp
  | _, _, x :: L, ⟨a, b, c, d, _, _, g⟩ => by
    have k := Good.len512 g
    have := Good.le g
    rw [List.length_cons, Nat.add_mul, Nat.one_mul]
    generalize L.length * 512 = z at *
    have : 512 ≤ x.en - x.fi := by clear k; omega
    omega
theorem bd_arith (n o hi : Nat) (h : n * 512 ≤ hi) (k : o ≤ hi) (l : hi ≤ 35184372088832) : n < 1099511627776 ∧ o < 1152921504606846976 :=
  ⟨by have := (Nat.le_div_iff_mul_le (show 0 < 512 by decide)).2 h; clear h; omega, by clear h; omega⟩
theorem Good.bd {lo hi : Nat} {L : List Nd} (h : Good lo hi L) (l : hi ≤ 35184372088832) : Bd L :=
  bd_arith _ _ hi (Nat.le_trans h.len512 (Nat.sub_le _ _)) (Nat.le_trans h.owns (Nat.sub_le _ _)) l
theorem fnOf_out : ∀ {lo hi : Nat} {L : List Nd}, Good lo hi L → ∀ {w : Nat}, w < lo ∨ hi ≤ w → fnOf L w = false
  | _, _, [], _, _, _ => rfl
  | _, _, x :: L, ⟨a, b, _, _, _, _, g⟩, w, h => by
    have := Good.le g
    rw [fnOf, if_neg (by omega)]
    exact fnOf_out g (by omega)
theorem fnOf_app : ∀ {A : List Nd} {lo m hi : Nat} {B : List Nd}, Good lo m A → Good m hi B → ∀ w, fnOf (A ++ B) w = if w < m then fnOf A w else fnOf B w
  | [], lo, m, hi, B, h, k, w => by
    by_cases c : w < m
    · rw [if_pos c]; exact fnOf_out k (.inl c)
    · rw [if_neg c]; rfl
  | x :: A, lo, m, hi, B, ⟨a, b, _, _, _, _, g⟩, k, w => by
    have := Good.le g
    by_cases c : x.fi ≤ w ∧ w < x.en
    · rw [List.cons_append, fnOf, if_pos c, if_pos (by omega), fnOf, if_pos c]
    · rw [List.cons_append, fnOf, if_neg c, fnOf, if_neg c]
      exact fnOf_app g k w
theorem Good.count : ∀ {lo hi : Nat} {L : List Nd}, Good lo hi L → cnt (fnOf L) lo (hi - lo) = _root_.Go.Proofs.Ytnhllnepnpmegaa.owns L
  | _, _, [], _ => cnt_none fun _ _ => rfl
  | lo, hi, x :: L, ⟨a, b, _, _, e, _, g⟩ => by
    have l := Good.le g
    rw [show hi - lo = (x.fi - lo) + ((x.en - x.fi) + (hi - x.en)) by omega, cnt_add, cnt_add, owns_cons, e]
    rw [cnt_none (n := x.fi - lo) (fun k hk => by rw [fnOf, if_neg (by omega)]; exact fnOf_out g (by omega))]
    rw [show lo + (x.fi - lo) = x.fi by omega, show x.fi + (x.en - x.fi) = x.en by omega, Nat.zero_add]
    congr 1
    · exact cnt_congr fun k hk => by rw [fnOf, if_pos (by omega)]
    · rw [← Good.count g]
      exact cnt_congr fun k hk => by rw [fnOf, if_neg (by omega)]
/-- The pieces that a piece leaves: none, if it has no pointers. -/
theorem Good.kp {lo hi : Nat} {x : Nd} (h1 : lo ≤ x.fi) (h2 : x.fi < x.en) (h3 : x.fi % 512 = 0) (h4 : x.en % 512 = 0) (h5 : x.own = cnt x.g x.fi (x.en - x.fi)) (h6 : x.en ≤ hi) : Good lo hi (keep x) ∧ ∀ w, x.fi ≤ w → w < x.en → fnOf (keep x) w = x.g w := by
  unfold keep
  by_cases c : x.own = 0
  · rw [if_pos c]
    refine ⟨by show lo ≤ hi; omega, fun w w1 w2 => ?_⟩
    rw [h5] at c
    have := cnt_zero.1 c (w - x.fi) (by omega)
    rw [show x.fi + (w - x.fi) = w by omega] at this
    rw [this]; rfl
  · rw [if_neg c]
    exact ⟨⟨h1, h2, h3, h4, h5, c, h6⟩, fun w w1 w2 => by rw [fnOf, if_pos ⟨w1, w2⟩]⟩
end Go.Proofs.Ytnhllnepnpmegaa
