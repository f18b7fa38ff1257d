/- J13 of the proof of both laws: texts Aw, Gt, Ra, one behind the other. -/
import Derived.Test.YtnhllnepnpmegaaJ12
/- Masks among other things: calls; awake. -/
namespace Go.Proofs.Ytnhllnepnpmegaa
open Go.ChangeShapes Go.WideShapes Go.ChangeAt Go.RowKit Go.Shelf Go.Proofs.Rx Go.Maps Go.Proofs.Bt
set_option linter.unusedVariables false
set_option linter.unusedSimpArgs false

attribute [local go_sem] Oper.semAt_some

section
variable {N : Nat} {w W W' : World} {l : List Thing} {m : Nat} {f : Nat → Bool}
theorem Sep.new (h : Sep N w W l) : Calls Try.prog 8 #[] W fun e W' => ∃ m, e = .returned (.pointer (some ⟨m, 0, none⟩)) ∧ Sep N w W' (l ++ [tMk m (fun _ => false)]) :=
  (new_any W).mono fun e W' ⟨he, hp, hb⟩ => ⟨_, he, h.more hb _ hp (fun z hz => by rw [hz]; exact Nat.le_refl _)⟩
theorem Sep.write (h : Sep N w W l) (i : Nat) (hi : i < l.length) (e : l[i] = tMk m f) (a b n : Nat) (ha : a < 18446744073709551616) (hb : b < 18446744073709551616) (hn : n < 18446744073709551616) (wd : Int) (h0 : -9223372036854775808 ≤ wd) (h9 : wd ≤ 9223372036854775807) {o : Option Addr} {len cap : Nat} {X : Nat → Bool} (hl : len ≤ 9223372036854775807) (hX : BoolsAt W o len cap X) :
    Calls Try.prog 11 #[.pointer (some ⟨m, 0, none⟩), .int .u64 (a : Nat), .int .u64 (b : Nat), .agg #[.int .i64 wd, .slice o len cap], .int .u64 (n : Nat)] W fun e W' => e = .returned (.int .i64 (writeE a b wd len n)) ∧ Sep N w W' (l.set i (tMk m (writeF f a b wd len n X))) :=
  h.step i hi _ (R := fun e _ => e = .returned (.int .i64 (writeE a b wd len n))) (fun F hF => (write_any (by rw [← e]; exact hF) a b n ha hb hn wd h0 h9 hl hX).mono fun _ _ ⟨x, F', y, z⟩ => ⟨x, F', y, z⟩)
theorem Sep.clear (h : Sep N w W l) (i : Nat) (hi : i < l.length) (e : l[i] = tMk m f) (a b : Nat) (ha : a < 18446744073709551616) (hb : b < 18446744073709551616) :
    Calls Try.prog 14 #[.pointer (some ⟨m, 0, none⟩), .int .u64 (a : Nat), .int .u64 (b : Nat)] W fun e W' => e = .returned (.int .i64 (clearE a b)) ∧ Sep N w W' (l.set i (tMk m (clearF f a b))) :=
  h.step i hi _ (R := fun e _ => e = .returned (.int .i64 (clearE a b))) (fun F hF => (clear_any (by rw [← e]; exact hF) a b ha hb).mono fun _ _ ⟨x, F', y, z⟩ => ⟨x, F', y, z⟩)
theorem Sep.points (h : Sep N w W l) (i : Nat) (hi : i < l.length) (e : l[i] = tMk m f) (a b : Nat) (ha : a < 18446744073709551616) (hb : b < 18446744073709551616) :
    Calls Try.prog 13 #[.pointer (some ⟨m, 0, none⟩), .int .u64 (a : Nat), .int .u64 (b : Nat)] W fun e W' => e = .returned (.tuple #[.int .u64 (pointsV f a b : Nat), .int .i64 (clearE a b)]) ∧ Below W.heap.size W W' ∧ Sep N w W' l := by
  obtain ⟨F, hF⟩ := h.have i hi
  rw [e] at hF
  exact (pointers_all hF a b ha hb).mono fun _ _ ⟨x, y⟩ => ⟨x, y, h.read y⟩
/-- A row of truths as a thing. -/
def tVb (U L : Nat) (f : Nat → Bool) : Thing := ⟨fun W F => Vec W U L 4 (fun k => .bool (f k)) ∧ ∀ z, F z ↔ z = U, fun ⟨h, hF⟩ k n => ⟨h.kept k (n U ((hF U).2 rfl)), hF⟩, fun ⟨h, hF⟩ z hz => by rw [(hF z).1 hz]; exact h.lt⟩
theorem Sep.rd (h : Sep N w W l) (i : Nat) (hi : i < l.length) (e : l[i] = tMk m f) (a b : Nat) (ha : a < 18446744073709551616) (hb : b < 18446744073709551616) :
    Calls Try.prog 12 #[.pointer (some ⟨m, 0, none⟩), .int .u64 (a : Nat), .int .u64 (b : Nat)] W fun e W' => ∃ v, e = .returned (.tuple #[v, .int .i64 (readE a b)]) ∧ ReadV f a b W W' v ∧ Below W.heap.size W W' ∧ Sep N w W' l := by
  obtain ⟨F, hF⟩ := h.have i hi
  rw [e] at hF
  exact (read_any hF a b ha hb).mono fun _ _ ⟨⟨v, x, y⟩, z⟩ => ⟨v, x, y, z, h.read z⟩
theorem Sep.rd_ok (h : Sep N w W l) (i : Nat) (hi : i < l.length) (e : l[i] = tMk m f) (a b : Nat) (ha : a < 18446744073709551616) (hb : b < 18446744073709551616) (hr : readE a b = 0) :
    Calls Try.prog 12 #[.pointer (some ⟨m, 0, none⟩), .int .u64 (a : Nat), .int .u64 (b : Nat)] W fun e W' => ∃ U, e = .returned (.tuple #[.slice (some ⟨U, 0, none⟩) (b / 8) (b / 8), .int .i64 0]) ∧ Vec W' U (b / 8) 4 (fun k => .bool (f (a / 8 + k))) ∧ Below W.heap.size W W' ∧ Sep N w W' (l ++ [tVb U (b / 8) (fun k => f (a / 8 + k))]) := by
  refine (h.rd i hi e a b ha hb).mono ?_
  rintro e W' ⟨v, rfl, hv, hbl, hs⟩
  unfold ReadV at hv
  rw [if_pos hr] at hv
  obtain ⟨U, rfl, hU, vec⟩ := hv
  exact ⟨U, by rw [hr], vec, hbl, h.more hbl (tVb U (b / 8) (fun k => f (a / 8 + k))) (F' := fun z => z = U) ⟨vec, fun z => Iff.rfl⟩ (fun z hz => by rw [hz]; exact hU)⟩
end
theorem bools_vec {W : World} {U L : Nat} {f : Nat → Bool} (h : Vec W U L 4 (fun k => .bool (f k))) : BoolsAt W (some ⟨U, 0, none⟩) L L f :=
  ⟨fun z => (by cases z), fun ad e i hi => by
    obtain rfl : (⟨U, 0, none⟩ : Addr) = ad := by injection e
    rw [addr_add0, Nat.zero_add]; exact h.cell i hi⟩
/-! ### awake -/
def awX (k : Nat) : Bool := k == 0
set_option maxRecDepth 100000 in
theorem awake15 (W : World) : Calls Try.prog 10 #[] W fun e W' => e = .returned (.bool true) ∧ Below W.heap.size W W' := by
  obtain ⟨R, hR⟩ : ∃ R : Ending → World → Prop, R = fun e W' => e = .returned (.bool true) ∧ Below W.heap.size W W' := ⟨_, rfl⟩
  rw [← hR]
  have FIN := hide (show ∀ W' l, Sep W.heap.size W W' l → R (.returned (.bool true)) W' from fun W' l h => by rw [hR]; exact ⟨rfl, h.be⟩)
  clear hR
  have C0 := hide ((Sep.start W).new)
  have C1 := hide (show ∀ (m : Nat) (W1 : World), Sep W.heap.size W W1 [tMk m (fun _ => false)] → Calls Try.prog 11 #[.pointer (some ⟨m, 0, none⟩), .int .u64 4194304, .int .u64 48, .agg #[.int .i64 2, .slice (some ⟨W1.heap.size, 0, none⟩) 2 2], .int .u64 2] ((W1.alloc (.cells #[.bool true, .bool false] 4)).alloc (.cells #[.int .i64 2, .slice (some ⟨W1.heap.size, 0, none⟩) 2 2] 34)) fun e W' => e = .returned (.int .i64 0) ∧ Sep W.heap.size W W' [tMk m (writeF (fun _ => false) 4194304 48 2 2 2 awX)] from fun m W1 h => by
    have b1 := below_alloc W1 (.cells #[.bool true, .bool false] 4)
    have b2 := below_alloc (W1.alloc (.cells #[.bool true, .bool false] 4)) (.cells #[.int .i64 2, .slice (some ⟨W1.heap.size, 0, none⟩) 2 2] 34)
    have v : Vec (W1.alloc (.cells #[.bool true, .bool false] 4)) W1.heap.size 2 4 (fun k => .bool (awX k)) := ⟨_, World.alloc_heap_new W1 _, rfl, fun k hk => by
      rcases (show k = 0 ∨ k = 1 by omega) with rfl | rfl <;> rfl⟩
    have C := ((h.read b1).read b2).write 0 (Nat.zero_lt_succ _) rfl 4194304 48 2 (by decide) (by decide) (by decide) 2 (by decide) (by decide) (len := 2) (by decide) (bools_vec (v.below b2))
    rw [show writeE 4194304 48 2 2 2 = 0 by decide +kernel] at C
    exact C)
  have C2 := hide (show ∀ (m : Nat) (W1 : World), Sep W.heap.size W W1 [tMk m (writeF (fun _ => false) 4194304 48 2 2 2 awX)] → Calls Try.prog 12 #[.pointer (some ⟨m, 0, none⟩), .int .u64 4194304, .int .u64 40] W1 fun e W' => ∃ U, e = .returned (.tuple #[.slice (some ⟨U, 0, none⟩) 5 5, .int .i64 0]) ∧ (W'.cell? ⟨U, 0, none⟩ = some (.bool true) ∧ W'.cell? ⟨U, 1, none⟩ = some (.bool false) ∧ W'.cell? ⟨U, 2, none⟩ = some (.bool true) ∧ W'.cell? ⟨U, 3, none⟩ = some (.bool false) ∧ W'.cell? ⟨U, 4, none⟩ = some (.bool false)) ∧ U < W'.heap.size ∧ Sep W.heap.size W W' [tMk m (writeF (fun _ => false) 4194304 48 2 2 2 awX)] from fun m W1 h => by
    refine (h.rd_ok 0 (Nat.zero_lt_succ _) rfl 4194304 40 (by decide) (by decide) (by decide +kernel)).mono ?_
    rintro e W' ⟨U, rfl, v, hb, hs⟩
    have c : ∀ k, k < 5 → W'.cell? ⟨U, k, none⟩ = some (.bool (writeF (fun _ => false) 4194304 48 2 2 2 awX (4194304 / 8 + k))) := fun k hk => v.cell k hk
    refine ⟨U, rfl, ⟨(c 0 (by decide)).trans ?_, (c 1 (by decide)).trans ?_, (c 2 (by decide)).trans ?_, (c 3 (by decide)).trans ?_, (c 4 (by decide)).trans ?_⟩, v.lt, h.read hb⟩
    all_goals congr 2)
  have C3 := hide (show ∀ (m : Nat) (W1 : World), Sep W.heap.size W W1 [tMk m (writeF (fun _ => false) 4194304 48 2 2 2 awX)] → Calls Try.prog 13 #[.pointer (some ⟨m, 0, none⟩), .int .u64 4194304, .int .u64 48] W1 fun e W' => e = .returned (.tuple #[.int .u64 2, .int .i64 0]) ∧ Below W1.heap.size W1 W' ∧ Sep W.heap.size W W' [tMk m (writeF (fun _ => false) 4194304 48 2 2 2 awX)] from fun m W1 h => by
    have C := h.points 0 (Nat.zero_lt_succ _) rfl 4194304 48 (by decide) (by decide)
    rw [show pointsV (writeF (fun _ => false) 4194304 48 2 2 2 awX) 4194304 48 = 2 by decide +kernel, show clearE 4194304 48 = 0 by decide +kernel] at C
    exact C)
  go_enter Try.func10, Try.ntmps10
  go_wp2_with fail
  refine C0.out.mono ?_
  rintro e W1 ⟨m, rfl, h1⟩
  have D1 := hide (C1.out m W1 h1)
  clear C0 C1 h1
  go_wp2_with fail
  refine D1.out.mono ?_
  rintro e W2 ⟨rfl, h2⟩
  have D2 := hide (C2.out m W2 h2)
  clear D1 C2 h2
  go_wp2_with fail
  refine D2.out.mono ?_
  rintro e W3 ⟨U, rfl, ⟨c0, c1, c2, c3, c4⟩, ul, h3⟩
  have D3 := hide (C3.out m W3 h3)
  have KK := hide (show ∀ W4, Below W3.heap.size W3 W4 → W4.cell? ⟨U, 0, none⟩ = some (.bool true) ∧ W4.cell? ⟨U, 1, none⟩ = some (.bool false) ∧ W4.cell? ⟨U, 2, none⟩ = some (.bool true) ∧ W4.cell? ⟨U, 3, none⟩ = some (.bool false) ∧ W4.cell? ⟨U, 4, none⟩ = some (.bool false) from fun W4 hb =>
    ⟨(hb.cell (p := ⟨U, 0, none⟩) ul).trans c0, (hb.cell (p := ⟨U, 1, none⟩) ul).trans c1, (hb.cell (p := ⟨U, 2, none⟩) ul).trans c2, (hb.cell (p := ⟨U, 3, none⟩) ul).trans c3, (hb.cell (p := ⟨U, 4, none⟩) ul).trans c4⟩)
  clear D2 C3 h3 c0 c1 c2 c3 c4 ul
  go_wp2_with fail
  refine D3.out.mono ?_
  rintro e W4 ⟨rfl, hb, h4⟩
  have FF := hide (FIN.out W4 _ h4)
  obtain ⟨c0, c1, c2, c3, c4⟩ := KK.out W4 hb
  clear D3 h4 hb KK FIN
  go_wp2_with fail
  first | exact FF.out | (go_ret; exact FF.out)
end Go.Proofs.Ytnhllnepnpmegaa

/- MasksGreat. -/
namespace Go.Proofs.Ytnhllnepnpmegaa
open Go.ChangeShapes Go.WideShapes Go.ChangeAt Go.RowKit Go.Shelf Go.Proofs.Rx Go.Maps Go.Proofs.Bt
set_option linter.unusedVariables false
set_option linter.unusedSimpArgs false

attribute [local go_sem] Oper.semAt_some

theorem own_empty (w : World) (e : TypeId) (size : Nat) : (w.alloc (.cells #[] e)).ownsRow w.heap.size e size (.slice (some ⟨w.heap.size, 0, none⟩) 0 0) 0 [] :=
  ⟨by simp, Or.inr ⟨w.heap.size, 0, #[], rfl, Nat.le_refl _, by show (w.heap.push _)[w.heap.size]? = _; simp, Nat.le_refl _, Nat.zero_le _, by simp, by simp⟩⟩
/-- append([]bool{}, list...). -/
theorem copy_bools {W : World} {o : Option Addr} {len cap : Nat} {X : Nat → Bool} (h : BoolsAt W o len cap X) (h1 : 1 ≤ len) (h2 : len ≤ 100000) :
    ∃ g cap' W', (Builtin.append_ #[32, 32] 32 #[.slice (some ⟨W.heap.size, 0, none⟩) 0 0, .slice o len cap]).run Try.prog (W.alloc (.cells #[] 4)) = .ok (.slice (some ⟨g, 0, none⟩) len cap') W' ∧ W'.ownsRow W.heap.size 4 1 (.slice (some ⟨g, 0, none⟩) len cap') len ((List.range len).map fun k => .bool (X k)) ∧ Below W.heap.size W W' ∧ W.heap.size ≤ g ∧ g < W'.heap.size := by
  obtain ⟨b0, f0, rfl, hb0, hc0⟩ := h.at (show 0 < len by omega)
  obtain ⟨i0, hi0, hz0, hz1, hz2⟩ := info_parts infoB
  have bA := below_alloc W (.cells #[] 4)
  obtain ⟨g, cap', W', r1, o1, g1, hat, hlt⟩ := run_append_lies (P := Try.prog) (w := W.alloc (.cells #[] 4)) 32 32 W.heap.size 4 i0 _ 1 1 Try.underlying32 hi0 hz0 hz1 hz2 rfl (by decide) _ 0 [] (own_empty W 4 1) ⟨b0, f0, none⟩ len cap ((List.range len).map fun k => .bool (X k)) (by simp) (fun j u hu => by
    rw [List.getElem?_map] at hu
    have hj : j < len := by
      rcases Nat.lt_or_ge j len with c | c
      · exact c
      · rw [List.getElem?_eq_none (by simpa using c)] at hu; cases hu
    rw [List.getElem?_range hj] at hu
    have hu : Value.bool (X j) = u := by simpa using hu
    rw [addr_add0, ← hu]
    exact (bA.cell (p := ⟨b0, f0 + j, none⟩) hb0).trans (hc0 j hj)) (fun u hu => by
    obtain ⟨k, _, rfl⟩ := List.mem_map.1 hu; rfl) (by omega) (by unfold maxLen; omega) (by omega) (by simp) _ rfl
  rw [Nat.zero_add, List.nil_append] at *
  refine ⟨g, cap', W', r1, o1, ?_, ?_, hlt⟩
  · have k : Kept (fun z => z = W.heap.size) (W.alloc (.cells #[] 4)) W' := Kept.of_grown g1 (fun z e => by injection e with e; exact e.symm)
    exact bA.trans (k.below (by simp) (fun z hz => by rw [hz]; exact Nat.le_refl _))
  · rcases hat with e | e
    · have e : some W.heap.size = some g := e
      injection e with e; omega
    · rw [e]; simp
theorem row_bools {W : World} {M g cap len : Nat} {X : Nat → Bool} (h : W.ownsRow M 4 1 (.slice (some ⟨g, 0, none⟩) len cap) len ((List.range len).map fun k => .bool (X k))) : BoolsAt W (some ⟨g, 0, none⟩) len cap X :=
  ⟨fun z => (by cases z), fun ad e i hi => by
    obtain rfl : (⟨g, 0, none⟩ : Addr) = ad := by injection e
    rw [addr_add0, Nat.zero_add, h.cellAt i (by simpa using hi), List.getElem?_map, List.getElem?_range hi]
    rfl⟩
/-! ### Things counted -/
theorem great_row {p len n : Nat} {X : Nat → Bool} (hl : 0 < len) (i j : Nat) (h : i + j ≤ n) : cnt (thF p len n (cutF X len)) (p + len * i) (len * j) = j * cnt X 0 len := by
  rw [← cut_cnt X len, ← per_mul (cutF X len) len hl j]
  refine cnt_congr fun k hk => ?_
  have e1 : len * i + k < n * len := by
    have : len * (i + j) ≤ len * n := Nat.mul_le_mul_left _ h
    rw [Nat.mul_add] at this
    rw [Nat.mul_comm n len]; omega
  unfold thF
  rw [decide_eq_true (by omega), Bool.true_and, show p + len * i + k - p = len * i + k by omega, Nat.mul_add_mod, Nat.zero_add]
theorem great_cut {p len n k : Nat} {X : Nat → Bool} {f : Nat → Bool} (hl : 0 < len) (h1 : 1 ≤ k) (h2 : k ≤ n) (hf : ∀ x, f x = if p + len * (k - 1) ≤ x ∧ x < p + len * k then false else thF p len n (cutF X len) x) : cnt f p (len * n) = (n - 1) * cnt X 0 len := by
  have e1 : len * n = len * (k - 1) + (len + len * (n - k)) := by
    have : len * n = len * ((k - 1) + (1 + (n - k))) := by congr 1; omega
    rw [this, Nat.mul_add, Nat.mul_add, Nat.mul_one]
  have e2 : len * k = len * (k - 1) + len := by
    have : len * k = len * ((k - 1) + 1) := by congr 1; omega
    rw [this, Nat.mul_add, Nat.mul_one]
  rw [e1, cnt_add, cnt_add]
  have a1 : cnt f p (len * (k - 1)) = (k - 1) * cnt X 0 len := by
    rw [← great_row (p := p) (n := n) hl 0 (k - 1) (by omega), Nat.mul_zero, Nat.add_zero]
    exact cnt_congr fun j hj => by rw [hf, if_neg (by omega)]
  have a2 : cnt f (p + len * (k - 1)) len = 0 := cnt_none fun j hj => by rw [hf, if_pos (by omega)]
  have a3 : cnt f (p + len * (k - 1) + len) (len * (n - k)) = (n - k) * cnt X 0 len := by
    rw [← great_row (p := p) (n := n) hl k (n - k) (by omega), show p + len * (k - 1) + len = p + len * k by omega]
    exact cnt_congr fun j hj => by rw [hf, if_neg (by omega)]
  rw [a1, a2, a3, Nat.zero_add, ← Nat.add_mul]
  congr 1; omega
end Go.Proofs.Ytnhllnepnpmegaa

/- The reference's masks: how they lie; Right: contract. -/
namespace Go.Proofs.Ytnhllnepnpmegaa
open Go.ChangeShapes Go.WideShapes Go.ChangeAt Go.RowKit Go.Shelf Go.Proofs.Rx Go.Maps Go.Proofs.Bt
set_option linter.unusedVariables false
set_option linter.unusedSimpArgs false

attribute [local go_sem] Oper.semAt_some

/-- A writing: a block, a type's words, how many things, the mask's bits, where they lie. -/
structure Wg where
  a : Nat
  b : Nat
  wd : Nat
  n : Nat
  X : Nat → Bool
  g : Nat
  cap : Nat
structure Wg.Ok (x : Wg) : Prop where
  r : Right x.a x.b
  w1 : 1 ≤ x.wd
  w2 : x.wd ≤ 65536
  nb : x.n ≤ x.b / 8 / x.wd
def Wg.f (x : Wg) (f : Nat → Bool) : Nat → Bool := layF x.a x.b (thF (x.a / 8) x.wd x.n (cutF x.X x.wd)) f
/-- What writings say, the last one first. -/
def rfn (L : List Wg) : Nat → Bool := L.foldl (fun f x => x.f f) (fun _ => false)
theorem rfn_nil : rfn [] = fun _ => false := rfl
theorem rfn_app (L : List Wg) (x : Wg) : rfn (L ++ [x]) = x.f (rfn L) := by unfold rfn; rw [List.foldl_append]; rfl
def Wg.vs (x : Wg) : List Value := [.int .u64 (x.a : Nat), .int .u64 (x.b : Nat), .int .i64 (x.wd : Nat), .slice (some ⟨x.g, 0, none⟩) x.wd x.cap, .int .u64 (x.n : Nat)]
def flatW (L : List Wg) : List Value := L.flatMap Wg.vs
theorem flatW_cons (x : Wg) (L : List Wg) : flatW (x :: L) = x.vs ++ flatW L := rfl
theorem flatW_app (L M : List Wg) : flatW (L ++ M) = flatW L ++ flatW M := by unfold flatW; rw [List.flatMap_append]
theorem flatW_len : ∀ L : List Wg, (flatW L).length = L.length * 5
  | [] => rfl
  | x :: L => by
    rw [flatW_cons, List.length_append, flatW_len L, List.length_cons, show x.vs.length = 5 from rfl]
    omega
theorem flatW_at : ∀ {L : List Wg} {j : Nat} {x : Wg} (k : Nat), L[j]? = some x → k < 5 → (flatW L)[j * 5 + k]? = x.vs[k]?
  | [], j, x, k, h, _ => by simp at h
  | y :: L, 0, x, k, h, hk => by
    have e : y = x := by simpa using h
    rw [flatW_cons, e, Nat.zero_mul, Nat.zero_add, List.getElem?_append_left (by show k < 5; exact hk)]
  | y :: L, j + 1, x, k, h, hk => by
    have h' : L[j]? = some x := by simpa using h
    rw [flatW_cons, List.getElem?_append_right (by show 5 ≤ _; omega), show y.vs.length = 5 from rfl, show (j + 1) * 5 + k - 5 = j * 5 + k by omega]
    exact flatW_at k h' hk
/-- The reference's masks at block r. -/
structure RgAt (W : World) (r : Nat) (v : Value) (L : List Wg) : Prop where
  bk : Bk W r 29 #[v]
  row : W.ownsRow 0 67 5 v L.length (flatW L)
  ms : ∀ x ∈ L, BoolsAt W (some ⟨x.g, 0, none⟩) x.wd x.cap x.X ∧ x.Ok
def rFoot (r : Nat) (v : Value) (L : List Wg) (z : Nat) : Prop := z = r ∨ v.ownBlock = some z ∨ ∃ x ∈ L, z = x.g
theorem BoolsAt.keep {F : Nat → Prop} {W W' : World} {g len cap : Nat} {X : Nat → Bool} (h : BoolsAt W (some ⟨g, 0, none⟩) len cap X) (k : Kept F W W') (hF : ¬ F g) : BoolsAt W' (some ⟨g, 0, none⟩) len cap X :=
  ⟨fun z => (by cases z), fun ad e i hi => by
    have c := h.cells ad e i hi
    obtain rfl : (⟨g, 0, none⟩ : Addr) = ad := by injection e
    rw [addr_add0] at c ⊢
    have hb := cell_lt c
    exact (cell_block (k.block g hb hF) _).trans c⟩
theorem BoolsAt.glt {W : World} {g len cap : Nat} {X : Nat → Bool} (h : BoolsAt W (some ⟨g, 0, none⟩) len cap X) (hl : 1 ≤ len) : g < W.heap.size := by
  have c := h.cells _ rfl 0 (by omega)
  rw [addr_add0] at c
  exact cell_lt c
theorem row_lt5 {W : World} {v : Value} {n : Nat} {xs : List Value} (h : W.ownsRow 0 67 5 v n xs) {z : Nat} (hz : v.ownBlock = some z) : z < W.heap.size := (h.lt z hz).2
def tRg (r : Nat) (f : Nat → Bool) (k : Nat) : Thing := ⟨fun W F => ∃ v L, RgAt W r v L ∧ rfn L = f ∧ L.length = k ∧ ∀ z, F z ↔ rFoot r v L z,
  fun ⟨v, L, h, hf, hk, hF⟩ k n => ⟨v, L, ⟨h.bk.kept k (n r ((hF r).2 (.inl rfl))), owns_kept h.row k (fun g hg => n g ((hF g).2 (.inr (.inl hg)))), fun x hx => ⟨(h.ms x hx).1.keep k (n x.g ((hF x.g).2 (.inr (.inr ⟨x, hx, rfl⟩)))), (h.ms x hx).2⟩⟩, hf, hk, hF⟩,
  fun ⟨v, L, h, hf, hk, hF⟩ z hz => by
    rcases (hF z).1 hz with u | u | ⟨x, hx, u⟩
    · rw [u]; exact h.bk.lt
    · exact row_lt5 h.row u
    · rw [u]; exact (h.ms x hx).1.glt (h.ms x hx).2.w1⟩
def RTurn (r : Nat) (f : Nat → Bool) (k : Nat) (W W' : World) (F : Nat → Prop) : Prop := ∃ F', (tRg r f k).P W' F' ∧ To W W' F F'
section
variable {W W' : World} {r : Nat} {v : Value} {L : List Wg} {F : Nat → Prop} {f : Nat → Bool} {k : Nat}
theorem RgAt.below (h : RgAt W r v L) (b : Below W.heap.size W W') : RgAt W' r v L := ⟨h.bk.below b, owns_kept h.row (Kept.of_below (F := fun _ => False) b) (fun _ _ f => f), fun x hx => ⟨(h.ms x hx).1.keep (F := fun _ => False) (Kept.of_below b) (fun f => f), (h.ms x hx).2⟩⟩
theorem RTurn.same (h : (tRg r f k).P W F) (b : Below W.heap.size W W') : RTurn r f k W W' F := ⟨F, (tRg r f k).kept h (Kept.of_below (F := fun _ => False) b) (fun _ _ f => f), To.of_below b F⟩
/-- The cells of the j-th writing. -/
theorem RgAt.at (h : RgAt W r v L) {j : Nat} {x : Wg} (hj : L[j]? = some x) : ∃ g cap, v = .slice (some ⟨g, 0, none⟩) L.length cap ∧ W.cell? ⟨g, j * 5, none⟩ = some (.int .u64 (x.a : Nat)) ∧ W.cell? ⟨g, j * 5 + 1, none⟩ = some (.int .u64 (x.b : Nat)) ∧ W.cell? ⟨g, j * 5 + 2, none⟩ = some (.int .i64 (x.wd : Nat)) ∧ W.cell? ⟨g, j * 5 + 3, none⟩ = some (.slice (some ⟨x.g, 0, none⟩) x.wd x.cap) ∧ W.cell? ⟨g, j * 5 + 4, none⟩ = some (.int .u64 (x.n : Nat)) ∧ L.length ≤ cap := by
  have hl : j < L.length := (List.getElem?_eq_some_iff.1 hj).1
  have hr := h.row
  rcases hr.2 with ⟨a, b⟩ | ⟨g, cap, cur, rfl, _, _, hle, _⟩
  · omega
  · have c : ∀ k, k < 5 → W.cell? ⟨g, j * 5 + k, none⟩ = x.vs[k]? := fun k hk => by
      rw [hr.cellAt (j * 5 + k) (by omega)]
      exact flatW_at k hj hk
    exact ⟨g, cap, rfl, c 0 (by omega), c 1 (by omega), c 2 (by omega), c 3 (by omega), c 4 (by omega), hle⟩
end
theorem refRight_any (a b : Nat) (ha : a < 18446744073709551616) (hb : b < 18446744073709551616) (W : World) :
    Calls Try.prog 28 #[.int .u64 (a : Nat), .int .u64 (b : Nat)] W fun e W' => e = .returned (.bool (decide (Right a b))) ∧ W' = W := by
  obtain ⟨A, hA⟩ : ∃ X : Int, (a : Int) = X := ⟨_, rfl⟩
  obtain ⟨B, hB⟩ : ∃ X : Int, (b : Int) = X := ⟨_, rfl⟩
  obtain ⟨D, hD⟩ : ∃ D, decide (Right a b) = D := ⟨_, rfl⟩
  rw [hA, hB, hD]
  have a0 : 0 ≤ A := by omega
  have a1 : A < 18446744073709551616 := by omega
  have b0 : 0 ≤ B := by omega
  have b1 : B < 18446744073709551616 := by omega
  by_cases c1 : a % 8 = 0
  · have e1 : (A % 8 == 0) = true := by rw [beq_iff_eq]; omega
    by_cases c2 : b % 8 = 0
    · have e2 : (B % 8 == 0) = true := by rw [beq_iff_eq]; omega
      by_cases c3 : 0 < b
      · have e3 : decide (0 < B) = true := decide_eq_true (by omega)
        by_cases c4 : b ≤ 1099511627776
        · have e4 : decide (B ≤ 1099511627776) = true := decide_eq_true (by omega)
          by_cases c5 : a ≤ 281474976710656
          · have e5 : decide (A ≤ 281474976710656) = true := decide_eq_true (by omega)
            have a2 : A ≤ 281474976710656 := by omega
            have e6 : decide (B ≤ 281474976710656 - A) = D := by
              rw [← hD, decide_eq_decide]
              unfold Right
              omega
            clear hA hB hD c1 c2 c3 c4 c5
            go_enter Try.func28, Try.ntmps28
            go_wp2_with fail
            go_ret
            exact ⟨rfl, rfl⟩
          · have e5 : decide (A ≤ 281474976710656) = false := decide_eq_false (by omega)
            obtain rfl : D = false := by rw [← hD]; exact decide_eq_false (fun h => by have := h.2.2.2.2; omega)
            clear hA hB hD c1 c2 c3 c4 c5
            go_enter Try.func28, Try.ntmps28
            go_wp2_with fail
            go_ret
            exact ⟨rfl, rfl⟩
        · have e4 : decide (B ≤ 1099511627776) = false := decide_eq_false (by omega)
          obtain rfl : D = false := by rw [← hD]; exact decide_eq_false (fun h => c4 h.2.2.2.1)
          clear hA hB hD c1 c2 c3 c4
          go_enter Try.func28, Try.ntmps28
          go_wp2_with fail
          go_ret
          exact ⟨rfl, rfl⟩
      · have e3 : decide (0 < B) = false := decide_eq_false (by omega)
        obtain rfl : D = false := by rw [← hD]; exact decide_eq_false (fun h => c3 h.2.2.1)
        clear hA hB hD c1 c2 c3
        go_enter Try.func28, Try.ntmps28
        go_wp2_with fail
        go_ret
        exact ⟨rfl, rfl⟩
    · have e2 : (B % 8 == 0) = false := by rw [beq_eq_false_iff_ne]; omega
      obtain rfl : D = false := by rw [← hD]; exact decide_eq_false (fun h => c2 h.2.1)
      clear hA hB hD c1 c2
      go_enter Try.func28, Try.ntmps28
      go_wp2_with fail
      go_ret
      exact ⟨rfl, rfl⟩
  · have e1 : (A % 8 == 0) = false := by rw [beq_eq_false_iff_ne]; omega
    obtain rfl : D = false := by rw [← hD]; exact decide_eq_false (fun h => c1 h.1)
    clear hA hB hD c1
    go_enter Try.func28, Try.ntmps28
    go_wp2_with fail
    go_ret
    exact ⟨rfl, rfl⟩
end Go.Proofs.Ytnhllnepnpmegaa
