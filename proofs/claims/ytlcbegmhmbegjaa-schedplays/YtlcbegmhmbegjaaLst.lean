/- The law's own list: are two lists of numbers the same? -/
import Derived.Test.YtlcbegmhmbegjaaArg
import Derived.Test.YtlcbegmhmbegjaaJ
namespace Go.Proofs.Ytlcbegmhmbegjaa
open Go.ChangeShapes Go.WideShapes Go.ChangeAt Go.RowKit Go.Proofs.Sc Go.Maps
set_option linter.unusedVariables false
set_option linter.unusedSimpArgs false

/-- A list that a machine made is a list of numbers. -/
theorem IntsAt.of_owns {w : World} {base : Nat} {v : Value} {l : List Int} (h : w.ownsRow base 3 1 v l.length (ints l)) (hl : ∀ x ∈ l, i64 x) : IntsAt w v l := by
  have H := h
  obtain ⟨h0, ⟨e, hn⟩ | ⟨g, cap, cur, e, hb, hh, hc, hm, hs, ht⟩⟩ := h
  · refine ⟨none, 0, by rw [e, hn], by omega, by omega, fun _ => rfl, hl, fun z => absurd (List.eq_nil_of_length_eq_zero hn) z⟩
  · refine ⟨_, cap, e, hc, by unfold maxLen at hm; omega, (fun z => by cases z), hl, fun z => ⟨g, 0, rfl, (H.lt g (by rw [e]; rfl)).2, fun i x hi => ?_⟩⟩
    subst e
    have hil : i < l.length := (List.getElem?_eq_some_iff.1 hi).1
    rw [show 0 + i = i by omega, H.cellAt i (by omega)]
    unfold ints
    rw [List.getElem?_map, hi]
    rfl
/-- What list answers. -/
def ListP (l m : List Int) (w : World) (e : Ending) (w' : World) : Prop := e = .returned (.bool (decide (l = m))) ∧ Below w.heap.size w w'
theorem ListP.yes {l m : List Int} {w w' : World} (h : l = m) (hb : Below w.heap.size w w') : ListP l m w (.returned (.bool true)) w' := ⟨by rw [decide_eq_true h], hb⟩
theorem ListP.no {l m : List Int} {w w' : World} (h : ¬ l = m) (hb : Below w.heap.size w w') : ListP l m w (.returned (.bool false)) w' := ⟨by rw [decide_eq_false h], hb⟩
theorem list_core {w : World} {v u : Value} {l m : List Int} (h : IntsAt w v l) (k : IntsAt w u m) : Calls Try.prog 15 #[v, u] w (ListP l m w) := by
  obtain ⟨o, cap, rfl, h1⟩ := h.shape
  obtain ⟨o2, cap2, rfl, k1⟩ := k.shape
  have H := hide h
  have K := hide k
  obtain ⟨PO, hPO⟩ : ∃ PO, PO = ListP l m w := ⟨_, rfl⟩
  rw [← hPO]
  have HP := hide hPO
  obtain ⟨n, hn⟩ : ∃ n, l.length = n := ⟨_, rfl⟩
  obtain ⟨n2, hn2⟩ : ∃ n, m.length = n := ⟨_, rfl⟩
  have HN := hide hn
  have HN2 := hide hn2
  rw [hn] at H h1 ⊢
  rw [hn2] at K k1 ⊢
  clear h k hPO hn hn2
  by_cases e : n = n2
  · subst e
    go_enter Try.func15, Try.ntmps15
    go_wp2_with fail
    go_loopw [5] (fun iv wr => ∃ (i : Nat), iv = .int .i64 (i : Int) ∧ i ≤ n ∧ Hid (l.take i = m.take i) ∧ Hid (Below w.heap.size w wr)) (fun iv _ => n - (intOf iv).toNat)
    case atStart => exact ⟨0, rfl, Nat.zero_le _, hide (by simp), hide (Below.refl _ _)⟩
    case round =>
      obtain ⟨i, rfl, hi, ha, hB⟩ := hrel
      by_cases hlt : i < n
      · obtain ⟨g, off, x, rfl, hx, ⟨x1, x2⟩, cx⟩ := H.out.at hB.out hlt
        obtain ⟨g2, off2, y, rfl, hy, ⟨y1, y2⟩, cy⟩ := K.out.at hB.out hlt
        have i1 : (i : Int) < (n : Int) := by omega
        have i2 : (0 : Int) ≤ (i : Int) := by omega
        have bc : n ≤ cap := by obtain ⟨_, _, z, h2, _⟩ := H.out; injection z with z1 z2 z3; omega
        have bc2 : n ≤ cap2 := by obtain ⟨_, _, z, h2, _⟩ := K.out; injection z with z1 z2 z3; omega
        by_cases e : x = y
        · subst e
          have ha' : Hid (l.take (i + 1) = m.take (i + 1)) := hide (by rw [List.take_add_one, List.take_add_one, ha.out, hx, hy])
          clear hx hy ha
          go_wp2_with fail
          first
            | refine still_all (by kernel_rfl) (by kernel_rfl) ?_
          repeat still_step
          refine wpStill_nil ?_
          go_wp2_with fail
          first
            | (go_roundw
               case rel => exact ⟨i + 1, by go_num, by omega, ha', hide hB.out.drew⟩
               case measure => simp [intOf]; omega)
        · have d : (x == y) = false := beq_eq_false_iff_ne.2 e
          have FN : Hid (PO (.returned (.bool false)) wr.drew) := hide (by
            rw [HP.out]
            refine ListP.no (fun z => e ?_) hB.out.drew
            rw [z, hy] at hx
            exact (Option.some.inj hx).symm)
          clear hx hy ha HP
          go_wp2_with fail
          refine still_all (by kernel_rfl) (by kernel_rfl) ?_
          repeat still_step
          refine wpStill_nil ?_
          go_wp2_with fail
          first | exact FN.out | (go_ret; exact FN.out)
      · obtain rfl : i = n := by omega
        have FN : Hid (PO (.returned (.bool true)) wr) := hide (by
          rw [HP.out]
          refine ListP.yes ?_ hB.out
          have := ha.out
          rw [List.take_of_length_le (by rw [HN.out]; exact Nat.le_refl _), List.take_of_length_le (by rw [HN2.out]; exact Nat.le_refl _)] at this
          exact this)
        have d0 : ¬ (i : Int) < (i : Int) := by omega
        clear ha HP
        go_wp2_with fail
        first | exact FN.out | (go_ret; exact FN.out)
  · have FN : Hid (PO (.returned (.bool false)) w) := hide (by rw [HP.out]; exact ListP.no (fun z => e (by rw [← HN.out, ← HN2.out, z])) (Below.refl _ _))
    have d : ((n : Int) == (n2 : Int)) = false := by simp; omega
    clear HP H K
    go_enter Try.func15, Try.ntmps15
    go_wp2_with fail
    first | exact FN.out | (go_ret; exact FN.out)
end Go.Proofs.Ytlcbegmhmbegjaa
