/- New. -/
import Derived.Test.YtlcbegmhmbegjaaNb
namespace Go.Proofs.Ytlcbegmhmbegjaa
open Go.ChangeShapes Go.WideShapes Go.ChangeAt Go.RowKit Go.Proofs.Sc Go.Maps
set_option linter.unusedVariables false
set_option linter.unusedSimpArgs false

variable {w : World}
/-- What New answers, and leaves. -/
def NewP (L : List (List Stp)) (w : World) (e : Ending) (w' : World) : Prop :=
  (newS L ≠ 0 ∧ e = .returned (.tuple #[.pointer none, .int .i64 (newS L : Nat)]) ∧ Below w.heap.size w w') ∨
  (newS L = 0 ∧ ∃ m F, e = .returned (.tuple #[.pointer (some m), .int .i64 0]) ∧ SI w' m (initS L) F ∧ Below w.heap.size w w' ∧ ∀ x, F x → w.heap.size ≤ x)
theorem TasksAt.belowEl {v : Value} {L : List (List Stp)} {w' : World} (h : TasksAt w v L) (hb : Below w.heap.size w w') : TasksAt w' v L := h.below hb
open Classical in
set_option maxRecDepth 100000 in
theorem new_core (v : Value) (L : List (List Stp)) (h : TasksAt w v L) (hm : lens L ≤ 1000000) (hok : ∀ t ∈ L, ∀ s ∈ t, s.Ok) :
    Calls Try.prog 7 #[v] w (NewP L w) := by
  have HT := hide h
  have OK := hide hok
  have HM := hide hm
  obtain ⟨o, cap, rfl, h1, h2⟩ := h.shape
  have A := hide (long_core _ L h hm)
  by_cases c : 64 < L.length ∨ 10000 < lens L
  · have e : newS L = 2 := by unfold newS; rw [if_pos c]
    have FN : Hid (NewP L w (.returned (.tuple #[.pointer none, .int .i64 2])) w) := hide (Or.inl ⟨by rw [e]; decide, by rw [e]; rfl, Below.refl _ _⟩)
    unfold LongP at A
    rw [decide_eq_true c] at A
    obtain ⟨k, hk⟩ : ∃ k, L.length = k := ⟨_, rfl⟩
    rw [hk] at A h1 ⊢
    clear h c e hk HT hok
    go_enter Try.func7, Try.ntmps7
    go_wp2_with fail
    refine A.out.mono ?_
    rintro e w' ⟨rfl, hw'⟩
    rw [hw']
    clear hw' w' A
    go_wp2_with fail
    first | exact FN.out | (go_ret2; exact FN.out)
  · unfold LongP at A
    rw [decide_eq_false c] at A
    have K := hide (known_core _ L h hm (by omega) hok)
    have hl64 : L.length ≤ 64 := by omega
    obtain ⟨k, hk⟩ : ∃ k, L.length = k := ⟨_, rfl⟩
    have HK := hide hk
    by_cases kn : AllKnown L
    · have e : newS L = 0 := by unfold newS; rw [if_neg c, if_pos kn]
      have FN : Hid (∀ (m : Addr) (F : Nat → Prop) (w' : World), SI w' m (initS L) F → Below w.heap.size w w' → (∀ x, F x → w.heap.size ≤ x) → NewP L w (.returned (.tuple #[.pointer (some m), .int .i64 0])) w') := hide (fun m F w' a b cc => Or.inr ⟨e, m, F, rfl, a, b, cc⟩)
      have E0 := hide e
      unfold KnownP at K
      rw [decide_eq_true kn] at K
      rw [hk] at A K h1 hl64 ⊢
      clear h c e hk kn hok hm
      go_enter Try.func7, Try.ntmps7
      go_wp2_with fail
      refine A.out.mono ?_
      rintro e w' ⟨rfl, hw'⟩
      rw [hw']
      clear hw' w' A
      go_wp2_with fail
      refine K.out.mono ?_
      rintro e w1 ⟨rfl, B1⟩
      have HB1 := hide B1
      clear B1 K
      have hmk : ∀ w : World, (Instr.makeMap 45 none).run Try.prog w = .ok (.map (some w.heap.size)) (w.alloc (.map #[] 0)) := fun _ => rfl
      go_wp2_with fail
      clear hmk
      have H0 := hide (Half.start w1)
      obtain ⟨b, hb⟩ : ∃ b, b = w1.heap.size + 1 + 1 := ⟨_, rfl⟩
      obtain ⟨W, hW⟩ : ∃ W, W = (((w1.alloc (.map #[] 0)).alloc (.map #[] 0)).alloc (.cells #[.slice none 0 0, .map (some w1.heap.size), .map (some (w1.heap.size + 1)), .slice none 0 0, .bool false] 47)) := ⟨_, rfl⟩
      rw [← hW, ← hb] at H0
      rw [← hW, ← hb]
      clear hW hb
      go_loopw [18] (fun iv wr => ∃ (i : Nat) (v0 : Value) (vs : List Value), iv = .int .i64 (i : Int) ∧ i ≤ k ∧ Hid (Half w1 wr b (L.take i) v0 vs)) (fun iv _ => k - (intOf iv).toNat)
      case atStart => exact ⟨0, _, _, rfl, Nat.zero_le _, H0⟩
      case round =>
        obtain ⟨i, v0, vs, rfl, hi, hH⟩ := hrel
        by_cases hlt : i < k
        · have hil : i < L.length := by rw [HK.out]; exact hlt
          have hpt := lens_part hil
          have htk := List.take_succ_eq_append_getElem hil
          have hB : Below w.heap.size w wr := HB1.out.trans (hH.out.below.mono HB1.out.size)
          obtain ⟨t, ht⟩ : ∃ t, L[i] = t := ⟨_, rfl⟩
          obtain ⟨g, off, cap', o2, n2, c2, e1, _, hg, cv, hn2, h5, h6, hst⟩ := HT.out.at (List.getElem?_eq_getElem hil)
          injection e1 with e1 e2 e3
          subst e1 e3
          rw [ht] at hpt htk hn2 hst
          have cv' := (hB.cell (p := ⟨g, off + i, none⟩) hg).trans cv
          have i1 : (i : Int) < (k : Int) := by omega
          have i2 : (0 : Int) ≤ (i : Int) := by omega
          have tl : (L.take i).length = i := by rw [List.length_take]; omega
          obtain ⟨o, c, w2, g3, cap3, w3, r1, r3, d1, d2, d3, d4, nx⟩ := hH.out.next (by omega) (hst.kept hB.size (fun x _ hx => hB.block x hx)) (by have := HM.out; omega)
          rw [← htk] at nx
          rw [← hn2] at r1 r3 d4 nx
          rw [tl] at r3 nx
          have NX := hide nx
          have c0 := hH.out.c0
          have hbl := cell_lt c0
          have hbl2 := cell_lt d1
          have hbl3 := cell_lt d2
          clear nx hB hst hn2 ht e2 tl htk hil hpt hH cv
          go_wp2_with fail
          go_region_law (first | (refine step_append_run (by rfl) (.const (.slice none 0 0)) (.tmp 27) 34 (by rfl) (by rfl) (by rfl) r1 ?_) | (refine step_append_run (by rfl) (.tmp 26) (.tmp 29) 22 (by rfl) (by rfl) (by rfl) r3 ?_))
          all_goals
            go_wp2_with fail
            go_roundw
            case rel => exact ⟨i + 1, _, _, by go_num, by omega, NX⟩
            case measure => simp [intOf]; omega
        · obtain rfl : i = k := by omega
          have hh := hH.out
          rw [show L.take i = L by rw [← HK.out, List.take_length]] at hh
          obtain ⟨F, a1, a2, a3⟩ := hh.done E0.out OK.out
          have Y := hide (FN.out _ F wr a1 (HB1.out.trans (a2.mono HB1.out.size)) (fun x hx => by have := a3 x hx; have := HB1.out.size; omega))
          clear hh a1 a2 a3 hH FN
          go_wp2_with fail
          first | exact Y.out | (go_ret2; exact Y.out)
    · have e : newS L = 1 := by unfold newS; rw [if_neg c, if_neg kn]
      have FN : Hid (∀ (w' : World), Below w.heap.size w w' → NewP L w (.returned (.tuple #[.pointer none, .int .i64 1])) w') := hide (fun w' hb => Or.inl ⟨by rw [e]; decide, by rw [e]; rfl, hb⟩)
      unfold KnownP at K
      rw [decide_eq_false kn] at K
      rw [hk] at A K h1 hl64 ⊢
      clear h c e hk kn HT hok hm
      go_enter Try.func7, Try.ntmps7
      go_wp2_with fail
      refine A.out.mono ?_
      rintro e w' ⟨rfl, hw'⟩
      rw [hw']
      clear hw' w' A
      go_wp2_with fail
      refine K.out.mono ?_
      rintro e w1 ⟨rfl, B1⟩
      have Y := hide (FN.out w1 B1)
      clear B1 K FN
      go_wp2_with fail
      first | exact Y.out | (go_ret2; exact Y.out)
end Go.Proofs.Ytlcbegmhmbegjaa
