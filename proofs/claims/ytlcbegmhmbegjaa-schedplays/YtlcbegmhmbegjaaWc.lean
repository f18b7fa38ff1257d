/- What was said; which tasks are taken. -/
import Derived.Test.YtlcbegmhmbegjaaWb
namespace Go.Proofs.Ytlcbegmhmbegjaa
open Go.ChangeShapes Go.WideShapes Go.ChangeAt Go.RowKit Go.Proofs.Sc Go.Maps
set_option linter.unusedVariables false
set_option linter.unusedSimpArgs false

variable {w : World} {b : Nat} {S : Sc} {v0 v3 : Value} {bh bc n : Nat} {vs : List Value} {T : Nat → Prop}
theorem ints_len (l : List Int) : (ints l).length = l.length := by simp [ints]
def RowP (l : List Value) (w : World) (e : Ending) (w' : World) : Prop := ∃ v, e = .returned v ∧ w'.ownsRow w.heap.size 3 1 v l.length l ∧ Below w.heap.size w w'
theorem own_empty (w : World) (e : TypeId) (size : Nat) : (w.alloc (.cells #[] e)).ownsRow w.heap.size e size (.slice (some ⟨w.heap.size, 0, none⟩) 0 0) 0 [] :=
  ⟨by simp, Or.inr ⟨w.heap.size, 0, #[], rfl, Nat.le_refl _, by show (w.heap.push _)[w.heap.size]? = _; simp, Nat.le_refl _, Nat.zero_le _, by simp, by simp⟩⟩
theorem clone_core (v : Value) (l : List Value) (h1 : ∀ u ∈ l, u.oneCell' = true) (hn : l.length ≤ 20000) (w : World) (h : w.ownsRow 0 3 1 v l.length l) :
    Calls Try.prog 36 #[v] w (RowP l w) := by
  have hq0 : ∀ w : World, (binOp .eql 23 (.slice none 0 0) (.slice none 0 0)).run Try.prog w = .ok (.bool true) w := fun _ => rfl
  have hq1 : ∀ (ad : Addr) (n c : Nat) (w : World), (binOp .eql 23 (.slice (some ad) n c) (.slice none 0 0)).run Try.prog w = .ok (.bool false) w := fun _ _ _ _ => rfl
  obtain ⟨i0, hi0, hz0, hz1, hz2⟩ := info_parts infoI
  have H := hide h
  obtain ⟨_, ⟨rfl, z⟩ | ⟨g, cap, cur, rfl, _, hh, hnc, hcm, hcs, ht⟩⟩ := h
  · have FN : Hid (RowP l w (.returned (.slice none 0 0)) w) := hide ⟨_, rfl, by rw [List.eq_nil_of_length_eq_zero z]; exact World.ownsRow_nil w w.heap.size 3 1, Below.refl _ _⟩
    clear H z
    go_enter Try.func36, Try.ntmps36
    go_wp2_with fail
    first | exact FN.out | (go_ret; exact FN.out)
  · have hg : g < w.heap.size := (H.out.lt g rfl).2
    have hnews : ∀ j u, l[j]? = some u → (w.alloc (.cells #[] 3)).cell? ((⟨g, 0, none⟩ : Addr).add j) = some u := by
      intro j u hu
      rw [World.cell?_alloc_lt _ _ _ (by rw [addr_add0]; exact hg)]
      exact H.out.cells rfl j u hu
    obtain ⟨m, hm⟩ : ∃ m, l.length = m := ⟨_, rfl⟩
    have HN := hide hnews
    have HM := hide hm
    have H1 := hide h1
    rw [hm] at hn hnc ⊢
    clear H hh hcs ht hnews hm h1 hnc hcm
    go_enter Try.func36, Try.ntmps36
    go_wp2_with (first | (at_builtin; refine wpList_append_own _ rfl (.tmp 5) (.tmp 6) 23 rfl w.heap.size 3 i0 (.int .i64 0) 1 8 Try.underlying23 hi0 hz0 hz1 hz2 rfl (by decide) (.slice (some ⟨w.heap.size, 0, none⟩) 0 0) 0 [] rfl (own_empty w 3 1) ⟨g, 0, none⟩ m cap l rfl (by rw [HM.out]; omega) HN.out H1.out (by unfold maxLen; omega) (by omega) (by simp) ?_; intro v' w1 hown hgrow hnil; have O1 := hide hown; have G1 := hide hgrow; clear hown hgrow hnil))
    go_ret
    refine ⟨_, rfl, ?_, ((Below.refl _ _).alloc (Nat.le_refl _) _).grown G1.out (by simp) (by intro k hk; simp [Value.ownBlock] at hk; omega)⟩
    have := O1.out
    rw [Nat.zero_add] at this
    rw [HM.out]
    exact this
theorem SI.said {m : Addr} {F : Nat → Prop} (h : SI w m S F) :
    Calls Try.prog 28 #[.pointer (some m)] w (RowP (ints S.said) w) := by
  obtain ⟨b, v0, v3, bh, bc, n, vs, T, rfl, rfl, k, wf, _⟩ := h
  have c3 := k.c3
  have hs := k.said
  rw [← ints_len S.said] at hs
  have C := hide (clone_core v3 (ints S.said) (ints_one _) (by have := wf.steps; rw [ints_len]; omega) w hs)
  obtain ⟨o, m, cap, rfl⟩ : ∃ o m cap, v3 = .slice o m cap := by
    obtain ⟨_, ⟨rfl, z⟩ | ⟨g, cap, cur, rfl, _⟩⟩ := hs
    · exact ⟨_, _, _, rfl⟩
    · exact ⟨_, _, _, rfl⟩
  obtain ⟨l, hl⟩ : ∃ l, l = ints S.said := ⟨_, rfl⟩
  rw [← hl] at C ⊢
  clear k hs wf hl
  go_enter Try.func28, Try.ntmps28
  go_wp2_with fail
  refine C.out.mono ?_
  rintro e w1 ⟨v, rfl, h1, h2⟩
  have F := hide (⟨v, rfl, h1, h2⟩ : RowP l w (.returned v) w1)
  clear h1 h2 C
  go_wp2_with fail
  first | exact F.out | (go_ret; exact F.out)
end Go.Proofs.Ytlcbegmhmbegjaa
