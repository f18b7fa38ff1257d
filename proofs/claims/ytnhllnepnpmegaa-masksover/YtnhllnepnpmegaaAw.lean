/- Masks among other things: calls; awake. -/
import Derived.Test.YtnhllnepnpmegaaMr
namespace Go.Proofs.Ytnhllnepnpmegaa
open Go.ChangeShapes Go.WideShapes Go.ChangeAt Go.RowKit Go.Shelf Go.Proofs.Rx Go.Maps Go.Proofs.Bt
set_option linter.unusedVariables false
set_option linter.unusedSimpArgs false

attribute [local go_sem] Oper.semAt_some

section
variable {N : Nat} {w W W' : World} {l : List Thing} {m : Nat} {f : Nat → Bool}
theorem Sep.new (h : Sep N w W l) : Calls Try.prog 8 #[] W fun e W' => ∃ m, e = .returned (.pointer (some ⟨m, 0, none⟩)) ∧ Sep N w W' (l ++ [tMk m (fun _ => false)]) :=
  (new_any W).mono fun e W' ⟨he, hp, hb⟩ => ⟨_, he, h.more hb _ hp (fun z hz => by rw [hz]; exact Nat.le_refl _)⟩
theorem Sep.write (h : Sep N w W l) (i : Nat) (hi : i < l.length) (e : l[i] = tMk m f) (a b n : Nat) (ha : a < 18446744073709551616) (hb : b < 18446744073709551616) (hn : n < 18446744073709551616) (wd : Int) (h0 : -9223372036854775808 ≤ wd) (h9 : wd ≤ 9223372036854775807) {o : Option Addr} {len cap : Nat} {X : Nat → Bool} (hl : len ≤ 9223372036854775807) (hX : BoolsAt W o len cap X) :
    Calls Try.prog 11 #[.pointer (some ⟨m, 0, none⟩), .int .u64 (a : Nat), .int .u64 (b : Nat), .agg #[.int .i64 wd, .slice o len cap], .int .u64 (n : Nat)] W fun e W' => e = .returned (.int .i64 (writeE a b wd len n)) ∧ Sep N w W' (l.set i (tMk m (writeF f a b wd len n X))) :=
  h.step i hi _ (R := fun e _ => e = .returned (.int .i64 (writeE a b wd len n))) (fun F hF => (write_any (by rw [← e]; exact hF) a b n ha hb hn wd h0 h9 hl hX).mono fun _ _ ⟨x, F', y, z⟩ => ⟨x, F', y, z⟩)
theorem Sep.clear (h : Sep N w W l) (i : Nat) (hi : i < l.length) (e : l[i] = tMk m f) (a b : Nat) (ha : a < 18446744073709551616) (hb : b < 18446744073709551616) :
    Calls Try.prog 14 #[.pointer (some ⟨m, 0, none⟩), .int .u64 (a : Nat), .int .u64 (b : Nat)] W fun e W' => e = .returned (.int .i64 (clearE a b)) ∧ Sep N w W' (l.set i (tMk m (clearF f a b))) :=
  h.step i hi _ (R := fun e _ => e = .returned (.int .i64 (clearE a b))) (fun F hF => (clear_any (by rw [← e]; exact hF) a b ha hb).mono fun _ _ ⟨x, F', y, z⟩ => ⟨x, F', y, z⟩)
theorem Sep.points (h : Sep N w W l) (i : Nat) (hi : i < l.length) (e : l[i] = tMk m f) (a b : Nat) (ha : a < 18446744073709551616) (hb : b < 18446744073709551616) :
    Calls Try.prog 13 #[.pointer (some ⟨m, 0, none⟩), .int .u64 (a : Nat), .int .u64 (b : Nat)] W fun e W' => e = .returned (.tuple #[.int .u64 (pointsV f a b : Nat), .int .i64 (clearE a b)]) ∧ Below W.heap.size W W' ∧ Sep N w W' l := by
  obtain ⟨F, hF⟩ := h.have i hi
  rw [e] at hF
  exact (pointers_all hF a b ha hb).mono fun _ _ ⟨x, y⟩ => ⟨x, y, h.read y⟩
/-- A row of truths as a thing. -/
def tVb (U L : Nat) (f : Nat → Bool) : Thing := ⟨fun W F => Vec W U L 4 (fun k => .bool (f k)) ∧ ∀ z, F z ↔ z = U, fun ⟨h, hF⟩ k n => ⟨h.kept k (n U ((hF U).2 rfl)), hF⟩, fun ⟨h, hF⟩ z hz => by rw [(hF z).1 hz]; exact h.lt⟩
theorem Sep.rd (h : Sep N w W l) (i : Nat) (hi : i < l.length) (e : l[i] = tMk m f) (a b : Nat) (ha : a < 18446744073709551616) (hb : b < 18446744073709551616) :
    Calls Try.prog 12 #[.pointer (some ⟨m, 0, none⟩), .int .u64 (a : Nat), .int .u64 (b : Nat)] W fun e W' => ∃ v, e = .returned (.tuple #[v, .int .i64 (readE a b)]) ∧ ReadV f a b W W' v ∧ Below W.heap.size W W' ∧ Sep N w W' l := by
  obtain ⟨F, hF⟩ := h.have i hi
  rw [e] at hF
  exact (read_any hF a b ha hb).mono fun _ _ ⟨⟨v, x, y⟩, z⟩ => ⟨v, x, y, z, h.read z⟩
theorem Sep.rd_ok (h : Sep N w W l) (i : Nat) (hi : i < l.length) (e : l[i] = tMk m f) (a b : Nat) (ha : a < 18446744073709551616) (hb : b < 18446744073709551616) (hr : readE a b = 0) :
    Calls Try.prog 12 #[.pointer (some ⟨m, 0, none⟩), .int .u64 (a : Nat), .int .u64 (b : Nat)] W fun e W' => ∃ U, e = .returned (.tuple #[.slice (some ⟨U, 0, none⟩) (b / 8) (b / 8), .int .i64 0]) ∧ Vec W' U (b / 8) 4 (fun k => .bool (f (a / 8 + k))) ∧ Below W.heap.size W W' ∧ Sep N w W' (l ++ [tVb U (b / 8) (fun k => f (a / 8 + k))]) := by
  refine (h.rd i hi e a b ha hb).mono ?_
  rintro e W' ⟨v, rfl, hv, hbl, hs⟩
  unfold ReadV at hv
  rw [if_pos hr] at hv
  obtain ⟨U, rfl, hU, vec⟩ := hv
  exact ⟨U, by rw [hr], vec, hbl, h.more hbl (tVb U (b / 8) (fun k => f (a / 8 + k))) (F' := fun z => z = U) ⟨vec, fun z => Iff.rfl⟩ (fun z hz => by rw [hz]; exact hU)⟩
end
theorem bools_vec {W : World} {U L : Nat} {f : Nat → Bool} (h : Vec W U L 4 (fun k => .bool (f k))) : BoolsAt W (some ⟨U, 0, none⟩) L L f :=
  ⟨fun z => (by cases z), fun ad e i hi => by
    obtain rfl : (⟨U, 0, none⟩ : Addr) = ad := by injection e
    rw [addr_add0, Nat.zero_add]; exact h.cell i hi⟩
/-! ### awake -/
def awX (k : Nat) : Bool := k == 0
set_option maxRecDepth 100000 in
theorem awake15 (W : World) : Calls Try.prog 10 #[] W fun e W' => e = .returned (.bool true) ∧ Below W.heap.size W W' := by
  obtain ⟨R, hR⟩ : ∃ R : Ending → World → Prop, R = fun e W' => e = .returned (.bool true) ∧ Below W.heap.size W W' := ⟨_, rfl⟩
  rw [← hR]
  have FIN := hide (show ∀ W' l, Sep W.heap.size W W' l → R (.returned (.bool true)) W' from fun W' l h => by rw [hR]; exact ⟨rfl, h.be⟩)
  clear hR
  have C0 := hide ((Sep.start W).new)
  have C1 := hide (show ∀ (m : Nat) (W1 : World), Sep W.heap.size W W1 [tMk m (fun _ => false)] → Calls Try.prog 11 #[.pointer (some ⟨m, 0, none⟩), .int .u64 4194304, .int .u64 48, .agg #[.int .i64 2, .slice (some ⟨W1.heap.size, 0, none⟩) 2 2], .int .u64 2] ((W1.alloc (.cells #[.bool true, .bool false] 4)).alloc (.cells #[.int .i64 2, .slice (some ⟨W1.heap.size, 0, none⟩) 2 2] 34)) fun e W' => e = .returned (.int .i64 0) ∧ Sep W.heap.size W W' [tMk m (writeF (fun _ => false) 4194304 48 2 2 2 awX)] from fun m W1 h => by
    have b1 := below_alloc W1 (.cells #[.bool true, .bool false] 4)
    have b2 := below_alloc (W1.alloc (.cells #[.bool true, .bool false] 4)) (.cells #[.int .i64 2, .slice (some ⟨W1.heap.size, 0, none⟩) 2 2] 34)
    have v : Vec (W1.alloc (.cells #[.bool true, .bool false] 4)) W1.heap.size 2 4 (fun k => .bool (awX k)) := ⟨_, World.alloc_heap_new W1 _, rfl, fun k hk => by
      rcases (show k = 0 ∨ k = 1 by omega) with rfl | rfl <;> rfl⟩
    have C := ((h.read b1).read b2).write 0 (Nat.zero_lt_succ _) rfl 4194304 48 2 (by decide) (by decide) (by decide) 2 (by decide) (by decide) (len := 2) (by decide) (bools_vec (v.below b2))
    rw [show writeE 4194304 48 2 2 2 = 0 by decide +kernel] at C
    exact C)
  have C2 := hide (show ∀ (m : Nat) (W1 : World), Sep W.heap.size W W1 [tMk m (writeF (fun _ => false) 4194304 48 2 2 2 awX)] → Calls Try.prog 12 #[.pointer (some ⟨m, 0, none⟩), .int .u64 4194304, .int .u64 40] W1 fun e W' => ∃ U, e = .returned (.tuple #[.slice (some ⟨U, 0, none⟩) 5 5, .int .i64 0]) ∧ (W'.cell? ⟨U, 0, none⟩ = some (.bool true) ∧ W'.cell? ⟨U, 1, none⟩ = some (.bool false) ∧ W'.cell? ⟨U, 2, none⟩ = some (.bool true) ∧ W'.cell? ⟨U, 3, none⟩ = some (.bool false) ∧ W'.cell? ⟨U, 4, none⟩ = some (.bool false)) ∧ U < W'.heap.size ∧ Sep W.heap.size W W' [tMk m (writeF (fun _ => false) 4194304 48 2 2 2 awX)] from fun m W1 h => by
    refine (h.rd_ok 0 (Nat.zero_lt_succ _) rfl 4194304 40 (by decide) (by decide) (by decide +kernel)).mono ?_
    rintro e W' ⟨U, rfl, v, hb, hs⟩
    have c : ∀ k, k < 5 → W'.cell? ⟨U, k, none⟩ = some (.bool (writeF (fun _ => false) 4194304 48 2 2 2 awX (4194304 / 8 + k))) := fun k hk => v.cell k hk
    refine ⟨U, rfl, ⟨(c 0 (by decide)).trans ?_, (c 1 (by decide)).trans ?_, (c 2 (by decide)).trans ?_, (c 3 (by decide)).trans ?_, (c 4 (by decide)).trans ?_⟩, v.lt, h.read hb⟩
    all_goals congr 2)
  have C3 := hide (show ∀ (m : Nat) (W1 : World), Sep W.heap.size W W1 [tMk m (writeF (fun _ => false) 4194304 48 2 2 2 awX)] → Calls Try.prog 13 #[.pointer (some ⟨m, 0, none⟩), .int .u64 4194304, .int .u64 48] W1 fun e W' => e = .returned (.tuple #[.int .u64 2, .int .i64 0]) ∧ Below W1.heap.size W1 W' ∧ Sep W.heap.size W W' [tMk m (writeF (fun _ => false) 4194304 48 2 2 2 awX)] from fun m W1 h => by
    have C := h.points 0 (Nat.zero_lt_succ _) rfl 4194304 48 (by decide) (by decide)
    rw [show pointsV (writeF (fun _ => false) 4194304 48 2 2 2 awX) 4194304 48 = 2 by decide +kernel, show clearE 4194304 48 = 0 by decide +kernel] at C
    exact C)
  go_enter Try.func10, Try.ntmps10
  go_wp2_with fail
  refine C0.out.mono ?_
  rintro e W1 ⟨m, rfl, h1⟩
  have D1 := hide (C1.out m W1 h1)
  clear C0 C1 h1
  go_wp2_with fail
  refine D1.out.mono ?_
  rintro e W2 ⟨rfl, h2⟩
  have D2 := hide (C2.out m W2 h2)
  clear D1 C2 h2
  go_wp2_with fail
  refine D2.out.mono ?_
  rintro e W3 ⟨U, rfl, ⟨c0, c1, c2, c3, c4⟩, ul, h3⟩
  have D3 := hide (C3.out m W3 h3)
  have KK := hide (show ∀ W4, Below W3.heap.size W3 W4 → W4.cell? ⟨U, 0, none⟩ = some (.bool true) ∧ W4.cell? ⟨U, 1, none⟩ = some (.bool false) ∧ W4.cell? ⟨U, 2, none⟩ = some (.bool true) ∧ W4.cell? ⟨U, 3, none⟩ = some (.bool false) ∧ W4.cell? ⟨U, 4, none⟩ = some (.bool false) from fun W4 hb =>
    ⟨(hb.cell (p := ⟨U, 0, none⟩) ul).trans c0, (hb.cell (p := ⟨U, 1, none⟩) ul).trans c1, (hb.cell (p := ⟨U, 2, none⟩) ul).trans c2, (hb.cell (p := ⟨U, 3, none⟩) ul).trans c3, (hb.cell (p := ⟨U, 4, none⟩) ul).trans c4⟩)
  clear D2 C3 h3 c0 c1 c2 c3 c4 ul
  go_wp2_with fail
  refine D3.out.mono ?_
  rintro e W4 ⟨rfl, hb, h4⟩
  have FF := hide (FIN.out W4 _ h4)
  obtain ⟨c0, c1, c2, c3, c4⟩ := KK.out W4 hb
  clear D3 h4 hb KK FIN
  go_wp2_with fail
  first | exact FF.out | (go_ret; exact FF.out)
end Go.Proofs.Ytnhllnepnpmegaa
