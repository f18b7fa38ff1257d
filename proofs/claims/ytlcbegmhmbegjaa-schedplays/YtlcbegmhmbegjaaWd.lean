/- What a step does. -/
import Derived.Test.YtlcbegmhmbegjaaWc
namespace Go.Proofs.Ytlcbegmhmbegjaa
open Go.ChangeShapes Go.WideShapes Go.ChangeAt Go.RowKit Go.Proofs.Sc Go.Maps
set_option linter.unusedVariables false
set_option linter.unusedSimpArgs false

variable {w w' : World} {b : Nat} {S : Sc} {v0 v3 : Value} {bh bc n : Nat} {vs : List Value} {T : Nat → Prop}
theorem held_put (h : Int → Option Nat) (a : Int) (i : Nat) : heldOf (fun l => if l = a then some i else h l) = fun q => if q = a then some (i : Int) else heldOf h q := by
  funext q
  unfold heldOf
  by_cases e : q = a
  · simp only [if_pos e]; rfl
  · simp only [if_neg e]
theorem held_del (h : Int → Option Nat) (a : Int) : heldOf (fun l => if l = a then none else h l) = fun q => if q = a then none else heldOf h q := by
  funext q
  unfold heldOf
  by_cases e : q = a
  · simp only [if_pos e]; rfl
  · simp only [if_neg e]
theorem unlock_ok (l : Lies w b S v0 v3 bh bc n vs T) (i : Nat) (hi : (i : Int) ≤ 64) (a : Int) (ha : i64 a) (hh : S.hold a = some i) :
    Calls Try.prog 37 #[.pointer (some ⟨b, 0, none⟩), .int .i64 (i : Int), .int .i64 a] w fun e w' => e = .returned (.tuple #[]) ∧ Lies w' b { S with hold := fun l => if l = a then none else S.hold l } v0 v3 bh bc n vs T ∧ w.grownBy w' (some bh) := by
  have c1 := l.c1
  have hl := l.look_hold (Below.refl _ _) a ha
  rw [show heldOf S.hold a = some (i : Int) by unfold heldOf; rw [hh]; rfl, hh] at hl
  simp only [Option.getD_some, Option.isSome_some] at hl
  obtain ⟨w1, hrun, hm, hg⟩ := l.hold.del 0 a ha
  have L := hide l
  have HM := hide hm
  have HG := hide hg
  clear l hm hg
  go_enter Try.func37, Try.ntmps37
  go_wp2_with fail
  go_end0
  exact ⟨rfl, L.out.locks HG.out (Nat.le_refl _) (by rw [held_del]; exact HM.out), HG.out⟩
theorem unlock_bad (l : Lies w b S v0 v3 bh bc n vs T) (i : Nat) (hi : (i : Int) ≤ 64) (a : Int) (ha : i64 a) (hh : S.hold a ≠ some i) (hT : ∀ l j, S.hold l = some j → j < 64) :
    Calls Try.prog 37 #[.pointer (some ⟨b, 0, none⟩), .int .i64 (i : Int), .int .i64 a] w fun e w' => e = .panicked [{ v := .iface 61 (.agg #[]), recovered := false }] ∧ w' = w := by
  have c1 := l.c1
  have hl := l.look_hold (Below.refl _ _) a ha
  cases hq : S.hold a with
  | none =>
    rw [show heldOf S.hold a = none by unfold heldOf; rw [hq]; rfl, hq] at hl
    simp only [Option.getD_none, Option.isSome_none] at hl
    clear l hh hq hT
    go_enter Try.func37, Try.ntmps37
    go_wp2_with fail
    exact ⟨rfl, rfl, rfl⟩
  | some j =>
    rw [show heldOf S.hold a = some (j : Int) by unfold heldOf; rw [hq]; rfl, hq] at hl
    simp only [Option.getD_some, Option.isSome_some] at hl
    have hj := hT a j hq
    rw [hq] at hh
    have hne : ((j : Int) != (i : Int)) = true := by rw [bne_iff_ne]; intro z; exact hh (by congr 1; omega)
    clear l hh hq hT
    go_enter Try.func37, Try.ntmps37
    go_wp2_with fail
    exact ⟨rfl, rfl, rfl⟩
theorem add_core (l : Lies w b S v0 v3 bh bc n vs T) (hn : n ≤ 20000) (a x : Int) (ha : i64 a) (hx : i64 x) (hc : i64 (S.cell a)) :
    Calls Try.prog 38 #[.pointer (some ⟨b, 0, none⟩), .int .i64 a, .int .i64 x] w fun e w' => e = .returned (.tuple #[]) ∧ Lies w' b { S with cell := fun c => if c = a then IntKind.i64.wrap (S.cell c + x) else S.cell c } v0 v3 bh bc (n + 1) vs T ∧ w.grownBy w' (some bc) := by
  have c2 := l.c2
  have L := hide l
  have hl := l.look_cell (Below.refl _ _) a ha
  obtain ⟨H, k1, k2⟩ := l.cell
  obtain ⟨y, hy⟩ : ∃ y, S.cell a = y := ⟨_, rfl⟩
  rw [hy] at hl hc
  obtain ⟨z, hz⟩ : ∃ z, IntKind.i64.wrap (y + x) = z := ⟨_, rfl⟩
  obtain ⟨w1, hrun, hm, hg⟩ := k1.put (by unfold maxLen; omega) a ha z
  have hl2 := hm.look a ha
  simp only [if_true, Option.getD_some] at hl2
  have nb : some b ≠ some bc := fun e => l.nc (by injection e with e; exact e.symm)
  have c2' := hg.cell c2 nb
  have L1 := hide (L.out.cells hg (by omega) hm (f := fun c => if c = a then IntKind.i64.wrap (S.cell c + x) else S.cell c) (fun c => by
    by_cases e : c = a
    · subst e; simp only [if_true, Option.getD_some]; rw [hy, hz]
    · simp only [if_neg e]; exact k2 c))
  by_cases e0 : z = 0
  · subst e0
    obtain ⟨w2, hrun2, hm2, hg2⟩ := hm.del 0 a ha
    have L2 := hide (L.out.cells (w' := w2) (⟨hg2.os.trans hg.os, hg2.tape.trans hg.tape, hg2.output.trans hg.output, Nat.le_trans hg.size hg2.size, fun k h1 h2 => (hg2.block k (Nat.lt_of_lt_of_le h1 hg.size) h2).trans (hg.block k h1 h2)⟩ : w.grownBy w2 (some bc)) (by omega) hm2 (f := fun c => if c = a then IntKind.i64.wrap (S.cell c + x) else S.cell c) (fun c => by
      by_cases e : c = a
      · subst e; simp only [if_true, Option.getD_none]; rw [hy, hz]
      · simp only [if_neg e]; exact k2 c))
    have G := hide (⟨hg2.os.trans hg.os, hg2.tape.trans hg.tape, hg2.output.trans hg.output, Nat.le_trans hg.size hg2.size, fun k h1 h2 => (hg2.block k (Nat.lt_of_lt_of_le h1 hg.size) h2).trans (hg.block k h1 h2)⟩ : w.grownBy w2 (some bc))
    clear hm hg hm2 hg2 k1 k2 l L L1
    go_enter Try.func38, Try.ntmps38
    go_wp2_with fail
    go_end0
    exact ⟨rfl, L2.out, G.out⟩
  · have d0 : (z == 0) = false := beq_eq_false_iff_ne.2 e0
    have G := hide hg
    clear hm hg k1 k2 l L
    go_enter Try.func38, Try.ntmps38
    go_wp2_with fail
    go_end0
    exact ⟨rfl, L1.out, G.out⟩
end Go.Proofs.Ytlcbegmhmbegjaa
