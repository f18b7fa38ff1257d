/- Package sets: the calls as functions of the list, beside whatever else a law has; awake. -/
import Derived.Test.YtdgjlekndhgjfaaSi
namespace Go.Proofs.Ytdgjlekndhgjfaa
open Go.ChangeShapes Go.WideShapes Go.ChangeAt Go.RowKit Go.Shelf Go.Proofs.Rx Go.Maps Go.Proofs.Hm
set_option linter.unusedVariables false
set_option linter.unusedSimpArgs false

attribute [local go_sem] Oper.semAt_some

/-! ### Functions of the list -/
def twice (L : List On) (id : Int) (bs : Nat) : Bool := L.any fun x => decide (x.id = id) || decide (x.base = bs)
def putE (L : List On) (id : Int) (bs : Nat) (cl : Int) : Int := if argB id cl then (if twice L id bs then 34 else 0) else 1
def putL (L : List On) (id : Int) (bs : Nat) (cl : Int) (a b sw : Bool) : List On := if argB id cl && !twice L id bs then L ++ [⟨id, bs, ⟨cl, a, b⟩, sw⟩] else L
def low1 (f : On → Bool) (best : Option On) (x : On) : Option On := if f x && (match best with | none => true | some y => decide (x.base < y.base)) then some x else best
def low (f : On → Bool) (L : List On) : Option On := L.foldl (low1 f) none
def lowI : Option On → Int
  | none => 0
  | some x => x.id
def takeL (L : List On) (o : Option On) : List On := match o with
  | none => L
  | some x => L.erase x
def removeE (L : List On) (id : Int) : Int := if L.any fun x => decide (x.id = id) then 0 else 35
def removeL (L : List On) (id : Int) : List On := takeL L (L.find? fun x => decide (x.id = id))
def allS (L : List On) : Bool := L.all fun x => x.sw
def flipE (L : List On) : Int := if allS L then 0 else 33
def flipL (L : List On) : List On := if allS L then L.map (fun x => { x with sw := false }) else L
def cnt (L : List On) (sw : Bool) : Nat := L.countP fun x => x.sw == sw
/-- What low finds, from the front on. -/
def LowO (L : List On) (f : On → Bool) : Option On → Prop
  | none => ∀ y, y ∈ L → f y = false
  | some x => Low L f x
theorem low_app {L : List On} {f : On → Bool} {o : Option On} (h : LowO L f o) (x : On) : LowO (L ++ [x]) f (low1 f o x) := by
  have memk : ∀ y, y ∈ L ++ [x] → y ∈ L ∨ y = x := fun y hy => by simpa using hy
  unfold low1
  cases hf : f x with
  | false =>
    simp only [Bool.false_and, Bool.false_eq_true, if_false]
    cases o with
    | none =>
      intro y hy
      rcases memk y hy with u | u
      · exact h y u
      · rw [u]; exact hf
    | some z =>
      refine ⟨List.mem_append_left _ h.1, h.2.1, fun y hy hfy => ?_⟩
      rcases memk y hy with u | u
      · exact h.2.2 y u hfy
      · rw [u, hf] at hfy; cases hfy
  | true =>
    cases o with
    | none =>
      simp only [Bool.and_self, if_true]
      refine ⟨List.mem_append_right _ (List.mem_singleton.2 rfl), hf, fun y hy hfy => ?_⟩
      rcases memk y hy with u | u
      · have := h y u
        rw [hfy] at this; cases this
      · rw [u]; exact Nat.le_refl _
    | some z =>
      simp only [Bool.true_and]
      by_cases c : x.base < z.base
      · rw [if_pos (by simpa using c)]
        refine ⟨List.mem_append_right _ (List.mem_singleton.2 rfl), hf, fun y hy hfy => ?_⟩
        rcases memk y hy with u | u
        · exact Nat.le_trans (Nat.le_of_lt c) (h.2.2 y u hfy)
        · rw [u]; exact Nat.le_refl _
      · rw [if_neg (by simpa using c)]
        refine ⟨List.mem_append_left _ h.1, h.2.1, fun y hy hfy => ?_⟩
        rcases memk y hy with u | u
        · exact h.2.2 y u hfy
        · rw [u]; omega
theorem low_from (f : On → Bool) : ∀ (R : List On) {L : List On} {o : Option On}, LowO L f o → LowO (L ++ R) f (R.foldl (low1 f) o)
  | [], L, o, h => by rw [List.append_nil]; exact h
  | x :: R, L, o, h => by
    have := low_from f R (low_app h x)
    rw [List.append_assoc] at this
    exact this
theorem low_ok (f : On → Bool) (L : List On) : LowO L f (low f L) := by
  have := low_from f L (L := []) (o := none) (fun y hy => by cases hy)
  exact this
theorem twice_iff {L : List On} {id : Int} {bs : Nat} : twice L id bs = true ↔ ∃ x, x ∈ L ∧ (x.id = id ∨ x.base = bs) := by
  unfold twice
  rw [List.any_eq_true]
  constructor
  · rintro ⟨x, hx, e⟩
    exact ⟨x, hx, by simpa using e⟩
  · rintro ⟨x, hx, e⟩
    exact ⟨x, hx, by simpa using e⟩
theorem len_take (L : List On) (o : Option On) : (takeL L o).length ≤ L.length := by
  cases o with
  | none => exact Nat.le_refl _
  | some x => exact List.length_erase_le
section
variable {N : Nat} {w W W' : World} {s c : Nat} {L : List On} {F : Nat → Prop} {l : List Thing}
theorem tSets_mono {c' : Nat} (hc : c ≤ c') (h : (tSets s c L).P W F) : (tSets s c' L).P W F := by
  obtain ⟨G, p, R, hF⟩ := h
  exact ⟨G, p.mono hc, R.mono hc, hF⟩
theorem Turn.mono {c' : Nat} (hc : c ≤ c') (h : Turn s c L W W' F) : Turn s c' L W W' F := by
  obtain ⟨F', a, b⟩ := h
  exact ⟨F', tSets_mono hc a, b⟩
theorem fput (h : (tSets s c L).P W F) (hc : c ≤ 5000) (id : Int) (bs : Nat) (cl : Int) (a b sw : Bool) (h1 : id ≤ 9223372036854775807) (hb : bs < 18446744073709551616) :
    Calls Try.prog 12 #[.pointer (some ⟨s, 0, none⟩), .int .i64 id, .int .u64 (bs : Nat), .int .i64 cl, .bool a, .bool b, .bool sw] W fun e W' => e = .returned (.int .i64 (putE L id bs cl)) ∧ Turn s (c + 3) (putL L id bs cl a b sw) W W' F := by
  unfold putE putL
  cases hA : argB id cl with
  | false =>
    simp only [Bool.false_and, Bool.false_eq_true, if_false]
    refine (put_arg id bs cl a b sw hA s W).mono ?_
    rintro e W' ⟨he, rfl⟩
    exact ⟨he, (Turn.same h (Below.refl _ _)).mono (by omega)⟩
  | true =>
    cases hT : twice L id bs with
    | true =>
      simp only [Bool.not_true, Bool.and_false, Bool.false_eq_true, if_false, if_true]
      refine (put_twice h id bs cl a b sw hA h1 hb (twice_iff.1 hT)).mono ?_
      rintro e W' ⟨he, hb⟩
      exact ⟨he, (Turn.same h hb).mono (by omega)⟩
    | false =>
      simp only [Bool.not_false, Bool.and_self, Bool.false_eq_true, if_false, if_true]
      refine put_ok h hc id bs cl a b sw hA h1 hb (fun x hx => ⟨fun e => ?_, fun e => ?_⟩)
      · have := (twice_iff (id := id) (bs := bs)).2 ⟨x, hx, .inl e⟩
        rw [hT] at this; cases this
      · have := (twice_iff (id := id) (bs := bs)).2 ⟨x, hx, .inr e⟩
        rw [hT] at this; cases this
theorem ftake (h : (tSets s c L).P W F) (hc : c ≤ 5000) (cl : Int) (a b sw : Bool) (hk : -9223372036854775808 ≤ cl ∧ cl ≤ 9223372036854775807) :
    Calls Try.prog 15 #[.pointer (some ⟨s, 0, none⟩), .int .i64 cl, .bool a, .bool b, .bool sw] W fun e W' => e = .returned (.tuple #[.int .i64 (lowI (low (fits ⟨cl, a, b⟩ sw) L)), .bool (low (fits ⟨cl, a, b⟩ sw) L).isSome]) ∧ Turn s c (takeL L (low (fits ⟨cl, a, b⟩ sw) L)) W W' F := by
  have ok := low_ok (fits ⟨cl, a, b⟩ sw) L
  cases e : low (fits ⟨cl, a, b⟩ sw) L with
  | none =>
    rw [e] at ok
    exact (take_none h cl a b sw hk ok).mono fun e W' ⟨he, hb⟩ => ⟨he, Turn.same h hb⟩
  | some x =>
    rw [e] at ok
    exact take_ok h hc cl a b sw hk ok
theorem fremove (h : (tSets s c L).P W F) (hc : c ≤ 5000) (id : Int) (hi : -9223372036854775808 ≤ id ∧ id ≤ 9223372036854775807) :
    Calls Try.prog 16 #[.pointer (some ⟨s, 0, none⟩), .int .i64 id] W fun e W' => e = .returned (.int .i64 (removeE L id)) ∧ Turn s c (removeL L id) W W' F := by
  unfold removeE removeL
  cases e : L.find? fun x => decide (x.id = id) with
  | none =>
    have hn := List.find?_eq_none.1 e
    rw [if_neg (by
      rw [List.any_eq_true]
      rintro ⟨x, hx, u⟩
      exact hn x hx u)]
    refine (remove_none h id hi (fun y hy u => hn y hy (by simpa using u))).mono ?_
    rintro e W' ⟨he, rfl⟩
    exact ⟨he, Turn.same h (Below.refl _ _)⟩
  | some x =>
    have h1 := List.mem_of_find?_eq_some e
    have h2 := List.find?_some e
    have h2' : x.id = id := by simpa using h2
    rw [if_pos (List.any_eq_true.2 ⟨x, h1, h2⟩), ← h2']
    exact remove_ok h hc h1
theorem fleast (h : (tSets s c L).P W F) :
    Calls Try.prog 14 #[.pointer (some ⟨s, 0, none⟩)] W fun e W' => e = .returned (.tuple #[.int .i64 (lowI (low uns L)), .bool (low uns L).isSome]) ∧ Turn s c L W W' F := by
  have ok := low_ok uns L
  cases e : low uns L with
  | none =>
    rw [e] at ok
    refine (least_none h (fun y hy => ?_)).mono fun e W' ⟨he, hb⟩ => ⟨he, Turn.same h hb⟩
    have := ok y hy
    unfold uns at this
    simpa using this
  | some x =>
    rw [e] at ok
    exact (least_ok h ok).mono fun e W' ⟨he, hb⟩ => ⟨he, Turn.same h hb⟩
theorem fcount (h : (tSets s c L).P W F) (sw : Bool) :
    Calls Try.prog 9 #[.pointer (some ⟨s, 0, none⟩), .bool sw] W fun e W' => e = .returned (.int .i64 (cnt L sw : Nat)) ∧ Turn s c L W W' F :=
  (count_ok h sw).mono fun e W' ⟨he, hb⟩ => ⟨he, Turn.same h hb⟩
theorem fflip (h : (tSets s c L).P W F) :
    Calls Try.prog 13 #[.pointer (some ⟨s, 0, none⟩)] W fun e W' => e = .returned (.int .i64 (flipE L)) ∧ Turn s c (flipL L) W W' F := by
  unfold flipE flipL
  cases e : allS L with
  | true =>
    simp only [if_true]
    exact flip_ok h (fun x hx => List.all_eq_true.1 e x hx)
  | false =>
    simp only [Bool.false_eq_true, if_false]
    have : ¬ ∀ x, x ∈ L → x.sw = true := fun u => by
      have := List.all_eq_true.2 u
      unfold allS at e
      rw [e] at this; cases this
    obtain ⟨x, hx⟩ := Classical.not_forall.1 this
    obtain ⟨h1, h2⟩ := Classical.not_imp.1 hx
    exact (flip_no h h1 (by simpa using h2)).mono fun e W' ⟨he, hb⟩ => ⟨he, Turn.same h hb⟩
/-! ### Beside others -/
theorem fnew (h : Sep N w W l) : Calls Try.prog 7 #[] W fun e W' => ∃ s, e = .returned (.pointer (some ⟨s, 0, none⟩)) ∧ Sep N w W' (l ++ [tSets s 0 []]) :=
  (New_any W).mono fun e W' ⟨s, F, he, p, b, n⟩ => ⟨s, he, h.more b _ p n⟩
theorem Sep.call (h : Sep N w W l) (i : Nat) (hi : i < l.length) {s c c' : Nat} {L L' : List On} (he : l[i] = tSets s c L) {f : FuncId} {args : Array Value} {v : Value}
    (k : ∀ F, (tSets s c L).P W F → Calls Try.prog f args W fun e W' => e = .returned v ∧ Turn s c' L' W W' F) : Calls Try.prog f args W fun e W' => e = .returned v ∧ Sep N w W' (l.set i (tSets s c' L')) :=
  h.step i hi (tSets s c' L') (R := fun e _ => e = .returned v) (fun F hF => k F (by rw [← he]; exact hF))
end
set_option maxRecDepth 100000 in
theorem awake14 (W : World) : Calls Try.prog 11 #[] W fun e W' => e = .returned (.bool true) ∧ Below W.heap.size W W' := by
  obtain ⟨R, hR⟩ : ∃ R : Ending → World → Prop, R = fun e W' => e = .returned (.bool true) ∧ Below W.heap.size W W' := ⟨_, rfl⟩
  rw [← hR]
  have FIN := hide (show ∀ W' l, Sep W.heap.size W W' l → R (.returned (.bool true)) W' from fun W' l h => by rw [hR]; exact ⟨rfl, h.be⟩)
  clear hR
  have C0 := hide (fnew (Sep.start W))
  have C1 := hide (fun (s : Nat) W1 (h : Sep W.heap.size W W1 [tSets s 0 []]) => h.call 0 (Nat.zero_lt_succ _) rfl (fun F hF => fput hF (by decide) 1 90 5 false false true (by decide) (by decide)))
  have C2 := hide (fun (s : Nat) W1 (h : Sep W.heap.size W W1 [tSets s 3 [⟨1, 90, ⟨5, false, false⟩, true⟩]]) => h.call 0 (Nat.zero_lt_succ _) rfl (fun F hF => fput hF (by decide) 2 50 5 false false true (by decide) (by decide)))
  have C3 := hide (fun (s : Nat) W1 (h : Sep W.heap.size W W1 [tSets s 6 [⟨1, 90, ⟨5, false, false⟩, true⟩, ⟨2, 50, ⟨5, false, false⟩, true⟩]]) => h.call 0 (Nat.zero_lt_succ _) rfl (fun F hF => ftake hF (by decide) 5 false false true (by decide)))
  have C4 := hide (fun (s : Nat) W1 (h : Sep W.heap.size W W1 [tSets s 6 [⟨1, 90, ⟨5, false, false⟩, true⟩]]) => h.call 0 (Nat.zero_lt_succ _) rfl (fun F hF => ftake hF (by decide) 5 true false true (by decide)))
  have C5 := hide (fun (s : Nat) W1 (h : Sep W.heap.size W W1 [tSets s 6 [⟨1, 90, ⟨5, false, false⟩, true⟩]]) => h.call 0 (Nat.zero_lt_succ _) rfl (fun F hF => fcount hF true))
  have C6 := hide (fun (s : Nat) W1 (h : Sep W.heap.size W W1 [tSets s 6 [⟨1, 90, ⟨5, false, false⟩, true⟩]]) => h.call 0 (Nat.zero_lt_succ _) rfl (fun F hF => fcount hF false))
  rw [show putE [] 1 90 5 = 0 by decide] at C1
  rw [show putE [⟨1, 90, ⟨5, false, false⟩, true⟩] 2 50 5 = 0 by decide] at C2
  rw [show lowI (low (fits ⟨5, false, false⟩ true) [⟨1, 90, ⟨5, false, false⟩, true⟩, ⟨2, 50, ⟨5, false, false⟩, true⟩]) = 2 by decide, show (low (fits ⟨5, false, false⟩ true) [⟨1, 90, ⟨5, false, false⟩, true⟩, ⟨2, 50, ⟨5, false, false⟩, true⟩]).isSome = true by decide] at C3
  rw [show lowI (low (fits ⟨5, true, false⟩ true) [⟨1, 90, ⟨5, false, false⟩, true⟩]) = 0 by decide, show (low (fits ⟨5, true, false⟩ true) [⟨1, 90, ⟨5, false, false⟩, true⟩]).isSome = false by decide] at C4
  rw [show ((cnt [⟨1, 90, ⟨5, false, false⟩, true⟩] true : Nat) : Int) = 1 by decide] at C5
  rw [show ((cnt [⟨1, 90, ⟨5, false, false⟩, true⟩] false : Nat) : Int) = 0 by decide] at C6
  go_enter Try.func11, Try.ntmps11
  go_wp2_with fail
  refine C0.out.mono ?_
  rintro e W1 ⟨s, rfl, h1⟩
  have D1 := hide (C1.out s W1 h1)
  clear C0 C1 h1
  go_wp2_with fail
  refine D1.out.mono ?_
  rintro e W2 ⟨rfl, h2⟩
  have D2 := hide (C2.out s W2 h2)
  clear D1 C2 h2
  go_wp2_with fail
  refine D2.out.mono ?_
  rintro e W3 ⟨rfl, h3⟩
  have D3 := hide (C3.out s W3 h3)
  clear D2 C3 h3
  go_wp2_with fail
  refine D3.out.mono ?_
  rintro e W4 ⟨rfl, h4⟩
  have D4 := hide (C4.out s W4 h4)
  clear D3 C4 h4
  go_wp2_with fail
  refine D4.out.mono ?_
  rintro e W5 ⟨rfl, h5⟩
  have D5 := hide (C5.out s W5 h5)
  clear D4 C5 h5
  go_wp2_with fail
  refine D5.out.mono ?_
  rintro e W6 ⟨rfl, h6⟩
  have D6 := hide (C6.out s W6 h6)
  clear D5 C6 h6
  go_wp2_with fail
  refine D6.out.mono ?_
  rintro e W7 ⟨rfl, h7⟩
  have FF := hide (FIN.out W7 _ h7)
  clear D6 h7
  go_wp2_with fail
  first | exact FF.out | (go_ret; exact FF.out)
end Go.Proofs.Ytdgjlekndhgjfaa
