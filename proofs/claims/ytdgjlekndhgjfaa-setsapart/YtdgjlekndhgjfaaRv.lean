/- The reference's sets: Flip: contract; all of the calls as functions of the list. -/
import Derived.Test.YtdgjlekndhgjfaaRu
namespace Go.Proofs.Ytdgjlekndhgjfaa
open Go.ChangeShapes Go.WideShapes Go.ChangeAt Go.RowKit Go.Shelf Go.Proofs.Rx Go.Maps Go.Proofs.Hm
set_option linter.unusedVariables false
set_option linter.unusedSimpArgs false

attribute [local go_sem] Oper.semAt_some

def off (x : On) : On := { x with sw := false }
theorem flat_set : ∀ {L : List On} {i : Nat} {x : On}, L[i]? = some x → (flat L).set (i * 6 + 5) (.bool false) = flat (L.set i (off x))
  | [], i, x, h => by simp at h
  | y :: L, 0, x, h => by
    have e : y = x := by simpa using h
    rw [e, List.set_cons_zero, flat_cons, flat_cons, List.set_append_left _ _ (by show 5 < 6; omega)]
    rfl
  | y :: L, i + 1, x, h => by
    have h' : L[i]? = some x := by simpa using h
    rw [List.set_cons_succ, flat_cons, flat_cons, List.set_append_right _ _ (by show 6 ≤ _; omega), show (oneV y).length = 6 from rfl, show (i + 1) * 6 + 5 - 6 = i * 6 + 5 by omega, flat_set h']
/-- The first i turned. -/
def half (L : List On) (i : Nat) : List On := (L.take i).map off ++ L.drop i
theorem half_len (L : List On) (i : Nat) : (half L i).length = L.length := by
  unfold half
  rw [List.length_append, List.length_map, List.length_take, List.length_drop]
  omega
theorem half_at {L : List On} {i : Nat} {x : On} (h : L[i]? = some x) : (half L i)[i]? = some x := by
  have hi := (List.getElem?_eq_some_iff.1 h).1
  unfold half
  rw [List.getElem?_append_right (by rw [List.length_map, List.length_take]; omega), List.length_map, List.length_take, List.getElem?_drop, show min i L.length = i by omega, show i + (i - i) = i by omega]
  exact h
theorem half_next {L : List On} {i : Nat} {x : On} (h : L[i]? = some x) : (half L i).set i (off x) = half L (i + 1) := by
  have hi := (List.getElem?_eq_some_iff.1 h).1
  unfold half
  rw [List.set_append_right _ _ (by rw [List.length_map, List.length_take]; omega), List.length_map, List.length_take, show i - min i L.length = 0 by omega, List.take_add_one, h, Option.toList_some, List.map_append, List.append_assoc]
  congr 1
  have e : L.drop i = x :: L.drop (i + 1) := by
    rw [List.drop_eq_getElem_cons hi]
    rw [List.getElem?_eq_getElem hi] at h
    rw [Option.some.inj h]
  rw [e, List.set_cons_zero]
  rfl
theorem half_zero (L : List On) : half L 0 = L := by simp [half]
theorem half_all (L : List On) : half L L.length = L.map off := by simp [half]
theorem all_cnt (L : List On) : allS L = true ↔ cnt L false = 0 := by
  unfold allS cnt
  rw [List.all_eq_true, List.countP_eq_zero]
  constructor
  · intro h x hx
    rw [h x hx]
    decide
  · intro h x hx
    have := h x hx
    cases e : x.sw with
    | true => rfl
    | false => rw [e] at this; simp at this
section
variable {W W' : World} {r : Nat} {v : Value} {L : List On} {F : Nat → Prop}
set_option maxRecDepth 100000 in
theorem rflip_any (h : (tRef r L).P W F) (hl : L.length ≤ 10000) :
    Calls Try.prog 22 #[.pointer (some ⟨r, 0, none⟩)] W fun e W' => e = .returned (.int .i64 (flipE L)) ∧ RTurn r (flipL L) W W' F := by
  have HP := hide h
  obtain ⟨v, h, hF⟩ := h
  have C1 := hide (rcount_any h hl false)
  obtain ⟨R, hR⟩ : ∃ R : Ending → World → Prop, R = fun e W' => e = .returned (.int .i64 (flipE L)) ∧ RTurn r (flipL L) W W' F := ⟨_, rfl⟩
  rw [← hR]
  cases al : allS L with
  | false =>
    have FN := hide (show ∀ W1, Below W.heap.size W W1 → R (.returned (.int .i64 33)) W1 from fun W1 b => by
      rw [hR]
      unfold flipE flipL
      rw [al]
      exact ⟨rfl, RTurn.same HP.out b⟩)
    have hp : 0 < cnt L false := by
      refine Nat.pos_of_ne_zero (fun e => ?_)
      rw [(all_cnt L).2 e] at al
      cases al
    obtain ⟨q, hq⟩ : ∃ q, cnt L false = q := ⟨_, rfl⟩
    rw [hq] at C1 hp
    have e0 : decide ((0 : Int) < (q : Int)) = true := decide_eq_true (by omega)
    have e1 : decide (0 < q) = true := decide_eq_true hp
    clear hR h hF HP hq al
    go_enter Try.func22, Try.ntmps22
    go_wp2_with fail
    refine C1.out.mono ?_
    rintro e W1 ⟨rfl, b1⟩
    have FF := hide (FN.out W1 b1)
    clear C1 FN b1
    go_wp2_with fail
    first | exact FF.out | (go_ret; exact FF.out)
  | true =>
    rw [(all_cnt L).1 al] at C1
    have FN := hide (show ∀ W1 W2, Below W.heap.size W W1 → RefAt W2 r v (half L L.length) → Kept (fun z => v.ownBlock = some z) W1 W2 → R (.returned (.int .i64 0)) W2 from fun W1 W2 b a k => by
      rw [hR]
      unfold flipE flipL
      rw [al]
      rw [half_all] at a
      exact ⟨rfl, F, ⟨v, a, hF⟩, (Kept.of_below b).trans k (fun z hz hz' => (hF z).2 (.inr hz')), fun z hz => .inl hz⟩)
    have nr : v.ownBlock ≠ some r := fun e => by
      rcases h.row.2 with ⟨a, _⟩ | ⟨g', cap', cur, a, _, c, _⟩
      · rw [a] at e; cases e
      · rw [a] at e
        have e' : g' = r := by simpa [Value.ownBlock] using e
        rw [e'] at c
        have := h.bk
        unfold Bk at this
        rw [this] at c
        injection c with c
        injection c with _ c _
        exact absurd c (by decide)
    have H := hide h
    obtain ⟨ov, cap0, rfl⟩ := row_form6 h.row
    obtain ⟨n, hn⟩ : ∃ n : Nat, L.length = n := ⟨_, rfl⟩
    have HN := hide hn
    have NR := hide nr
    clear hR h hF HP al nr
    rw [hn] at hl FN
    clear hn
    go_enter Try.func22, Try.ntmps22
    go_wp2_with fail
    refine C1.out.mono ?_
    rintro e W1 ⟨rfl, b1⟩
    have B1 := hide b1
    have H1 := hide (H.out.below b1)
    have c0 := (H.out.below b1).bk.cell 0 _ rfl
    rw [HN.out] at c0 NR H1
    clear C1 b1 H
    go_wp2_with fail
    go_loopw [3] (fun vi wr => ∃ (i : Nat), vi = .int .i64 (i : Nat) ∧ i ≤ n ∧ Hid (RefAt wr r (.slice ov n cap0) (half L i)) ∧ Hid (Kept (fun z => (Value.slice ov n cap0).ownBlock = some z) W1 wr)) (fun vi _ => n - (zi vi).toNat)
    case atStart => exact ⟨0, rfl, by omega, hide (by rw [half_zero]; exact H1.out), hide (Kept.refl _ _)⟩
    case round =>
      clear c0 H1
      obtain ⟨i, rfl, hi, HA, HK⟩ := hrel
      have pi : IntKind.i64.wrap ((i : Int) + 1) = (i : Int) + 1 := by rw [IntKind.wrap_i64]; omega
      have c0 := HA.out.bk.cell 0 _ rfl
      by_cases c : i < n
      · have d : decide ((i : Int) < (n : Int)) = true := decide_eq_true (by omega)
        have d' : decide (i < n) = true := decide_eq_true c
        obtain ⟨x, hx⟩ : ∃ x, L[i]? = some x := ⟨_, List.getElem?_eq_getElem (by rw [HN.out]; exact c)⟩
        obtain ⟨g, cap, ev, x0, x1, x2, x3, x4, x5, fz, _⟩ := HA.out.at (half_at hx)
        rw [half_len, HN.out] at ev
        obtain ⟨rfl, rfl⟩ : ov = some ⟨g, 0, none⟩ ∧ cap0 = cap := by simpa using ev
        have f5 := fz (i * 6 + 5)
        have i0 : 0 ≤ (i : Int) := by omega
        have i1 : (i : Int) < (n : Int) := by omega
        have gr : g ≠ r := fun e => NR.out (by rw [e]; rfl)
        have FA : Hid (RefAt (wr.setCell ⟨g, i * 6 + 5, none⟩ (.bool false)) r (.slice (some ⟨g, 0, none⟩) n cap0) (half L (i + 1)) ∧ Kept (fun z => (Value.slice (some ⟨g, 0, none⟩) n cap0).ownBlock = some z) W1 (wr.setCell ⟨g, i * 6 + 5, none⟩ (.bool false))) := hide (by
          have k1 := kept_set (F := fun z => (Value.slice (some ⟨g, 0, none⟩) n cap0).ownBlock = some z) wr g (i * 6 + 5) (.bool false) rfl
          refine ⟨⟨HA.out.bk.kept k1 (fun e => gr (by simpa [Value.ownBlock] using e)), ?_⟩, HK.out.trans k1 (fun _ _ h => h)⟩
          have hr := HA.out.row
          rw [half_len, HN.out] at hr
          have := (hr.stored (i * 6 + 5) (.bool false)).1
          rw [flat_set (half_at hx), half_next hx] at this
          rw [half_len, HN.out]
          exact this)
        clear ev x0 x1 x2 x3 x4 fz gr hx
        go_wp2_with fail
        exact ⟨⟨i + 1, by push_cast; rfl, by omega, hide FA.out.1, hide FA.out.2⟩, by simp only [zi]; omega⟩
      · have d : decide ((i : Int) < (n : Int)) = false := decide_eq_false (by omega)
        have d' : decide (i < n) = false := decide_eq_false c
        obtain rfl : i = n := by omega
        have FF := hide (FN.out W1 wr B1.out HA.out HK.out)
        clear FN
        go_wp2_with fail
        first | exact FF.out | (go_ret; exact FF.out)
theorem gput (h : (tRef r L).P W F) (hl : L.length ≤ 10000) (id : Int) (bs : Nat) (cl : Int) (a b sw : Bool) :
    Calls Try.prog 18 #[.pointer (some ⟨r, 0, none⟩), .agg #[.int .i64 id, .int .u64 (bs : Nat), .int .i64 cl, .bool a, .bool b, .bool sw]] W fun e W' => e = .returned (.int .i64 (putE L id bs cl)) ∧ RTurn r (putL L id bs cl a b sw) W W' F := by
  unfold putE putL
  cases hA : argB id cl with
  | false =>
    simp only [Bool.false_and, Bool.false_eq_true, if_false]
    exact (rput_arg ⟨id, bs, ⟨cl, a, b⟩, sw⟩ hA r W).mono fun e W' ⟨he, hb⟩ => ⟨he, RTurn.same h hb⟩
  | true =>
    have := rput_right h hl ⟨id, bs, ⟨cl, a, b⟩, sw⟩ hA
    cases hT : twice L id bs with
    | true =>
      rw [show twice L (⟨id, bs, ⟨cl, a, b⟩, sw⟩ : On).id (⟨id, bs, ⟨cl, a, b⟩, sw⟩ : On).base = true from hT] at this
      simp only [if_true] at this
      simp only [if_true, Bool.not_true, Bool.and_false, Bool.false_eq_true, if_false]
      exact this
    | false =>
      rw [show twice L (⟨id, bs, ⟨cl, a, b⟩, sw⟩ : On).id (⟨id, bs, ⟨cl, a, b⟩, sw⟩ : On).base = false from hT] at this
      simp only [Bool.false_eq_true, if_false] at this
      simp only [if_true, Bool.not_false, Bool.and_self, Bool.false_eq_true, if_false]
      exact this
theorem gleast (h : (tRef r L).P W F) (hl : L.length ≤ 10000) :
    Calls Try.prog 21 #[.pointer (some ⟨r, 0, none⟩)] W fun e W' => e = .returned (.tuple #[.int .i64 (lowI (low uns L)), .bool (low uns L).isSome]) ∧ RTurn r L W W' F := by
  have HP := hide h
  obtain ⟨v, h, hF⟩ := h
  exact (rleast_any h hl).mono fun e W' ⟨he, b⟩ => ⟨he, RTurn.same HP.out b⟩
theorem gcount (h : (tRef r L).P W F) (hl : L.length ≤ 10000) (sw : Bool) :
    Calls Try.prog 10 #[.pointer (some ⟨r, 0, none⟩), .bool sw] W fun e W' => e = .returned (.int .i64 (cnt L sw : Nat)) ∧ RTurn r L W W' F := by
  have HP := hide h
  obtain ⟨v, h, hF⟩ := h
  exact (rcount_any h hl sw).mono fun e W' ⟨he, b⟩ => ⟨he, RTurn.same HP.out b⟩
end
end Go.Proofs.Ytdgjlekndhgjfaa
