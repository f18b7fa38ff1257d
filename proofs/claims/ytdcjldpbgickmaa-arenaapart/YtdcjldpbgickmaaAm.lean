/- A law's map of arenas beside blocks O of the law's own; awake. -/
import Derived.Test.YtdcjldpbgickmaaSe
namespace Go.Proofs.Ytdcjldpbgickmaa
open Go.ChangeShapes Go.WideShapes Go.ChangeAt Go.RowKit Go.Shelf Go.Proofs.Rx Go.Maps
set_option linter.unusedVariables false
set_option linter.unusedSimpArgs false

structure Am (N : Nat) (O : Nat → Prop) (w W : World) (mb : Nat) (C : Nat → Bool) (V : Nat → Int) : Prop where
  ex : ∃ Φ : Nat → Prop, Ar W mb Φ C V ∧ ∀ b, Φ b → N ≤ b ∧ ¬ O b
  be : Below N w W
  nw : N ≤ W.heap.size
  ol : ∀ b, O b → b < W.heap.size
def LeftA (N : Nat) (O : Nat → Prop) (W W' : World) : Prop := Kept (fun x => N ≤ x ∧ ¬ O x) W W'
section
variable {N : Nat} {O : Nat → Prop} {w W W' : World} {mb : Nat} {C : Nat → Bool} {V : Nat → Int}
theorem Am.read (h : Am N O w W mb C V) (k : Below W.heap.size W W') : Am N O w W' mb C V ∧ LeftA N O W W' := by
  obtain ⟨Φ, a, hΦ⟩ := h.ex
  exact ⟨⟨⟨Φ, a.below k, hΦ⟩, h.be.trans (k.mono h.nw), Nat.le_trans h.nw k.size, fun b hb => Nat.lt_of_lt_of_le (h.ol b hb) k.size⟩, Kept.of_below k⟩
theorem Am.to (h : Am N O w W mb C V) {Φ : Nat → Prop} (hΦ : ∀ b, Φ b → N ≤ b ∧ ¬ O b) {C' : Nat → Bool} {V' : Nat → Int} (k : ArTo W W' mb Φ C' V') : Am N O w W' mb C' V' ∧ LeftA N O W W' := by
  obtain ⟨k1, Ψ, a, hΨ⟩ := k
  have k2 : LeftA N O W W' := k1.mono hΦ
  refine ⟨⟨⟨Ψ, a, fun b hb => ?_⟩, h.be.trans (k2.below h.nw (fun b hb => hb.1)), Nat.le_trans h.nw k1.size, fun b hb => Nat.lt_of_lt_of_le (h.ol b hb) k1.size⟩, k2⟩
  rcases hΨ b hb with z | z
  · exact hΦ b z
  · exact ⟨Nat.le_trans h.nw z, fun o => by have := h.ol b o; omega⟩
/-- Others' blocks have turned, or are new. -/
theorem Am.more (h : Am N O w W mb C V) {O' : Nat → Prop} (k : Kept (fun x => N ≤ x ∧ O x) W W') (hO : ∀ b, O' b → O b ∨ W.heap.size ≤ b) (hl : ∀ b, O' b → b < W'.heap.size) : Am N O' w W' mb C V := by
  obtain ⟨Φ, a, hΦ⟩ := h.ex
  refine ⟨⟨Φ, a.kept k (fun b hb z => (hΦ b hb).2 z.2), fun b hb => ⟨(hΦ b hb).1, fun o => ?_⟩⟩, h.be.trans (k.below h.nw (fun b hb => hb.1)), Nat.le_trans h.nw k.size, hl⟩
  rcases hO b o with z | z
  · exact (hΦ b hb).2 z
  · have := a.lt b hb; omega
theorem am_new (hb : Below N w W) (hN : N ≤ W.heap.size) (hO : ∀ b, O b → b < W.heap.size) :
    Calls Try.prog 8 #[] W fun e W' => ∃ mb, e = .returned (.pointer (some ⟨mb, 0, none⟩)) ∧ Am N O w W' mb (fun _ => false) (fun _ => 0) ∧ Below W.heap.size W W' := by
  refine (new_any W).mono ?_
  rintro e W' ⟨mb, rfl, ⟨Φ, a, hΦ⟩, k⟩
  exact ⟨mb, rfl, ⟨⟨Φ, a, fun b hb => ⟨Nat.le_trans hN (hΦ b hb), fun o => by have := hO b o; have := hΦ b hb; omega⟩⟩, hb.trans (k.mono hN), Nat.le_trans hN k.size, fun b hb => Nat.lt_of_lt_of_le (hO b hb) k.size⟩, k⟩
theorem am_has (h : Am N O w W mb C V) (a : Nat) (ha : a < 18446744073709551616) :
    Calls Try.prog 16 #[.pointer (some ⟨mb, 0, none⟩), .int .u64 (a : Nat)] W fun e W' => e = .returned (.bool (C (a / 4194304))) ∧ Below W.heap.size W W' := by
  obtain ⟨Φ, z, _⟩ := h.ex
  exact Has_any z a ha
theorem am_at (h : Am N O w W mb C V) (a : Nat) (ha : a < 18446744073709551616) :
    Calls Try.prog 11 #[.pointer (some ⟨mb, 0, none⟩), .int .u64 (a : Nat)] W fun e W' => e = .returned (.int .i64 (V (a / 8192))) ∧ Below W.heap.size W W' := by
  obtain ⟨Φ, z, _⟩ := h.ex
  exact At_any z a ha
/-- What Add answers, and what there is behind it. -/
def addE (C : Nat → Bool) (c : Nat) : Int := if 67108864 ≤ c then 1 else if C c = true then 34 else 0
def addC (C : Nat → Bool) (c q : Nat) : Bool := if c < 67108864 ∧ q = c then true else C q
theorem am_add (h : Am N O w W mb C V) (c : Nat) :
    Calls Try.prog 15 #[.pointer (some ⟨mb, 0, none⟩), .int .u64 (c : Nat)] W fun e W' => e = .returned (.int .i64 (addE C c)) ∧ Am N O w W' mb (addC C c) V ∧ LeftA N O W W' := by
  obtain ⟨Φ, z, hΦ⟩ := h.ex
  unfold addE
  by_cases h1 : 67108864 ≤ c
  · rw [if_pos h1, show addC C c = C from funext fun q => by unfold addC; rw [if_neg (by omega)]]
    refine (add_arg c h1).mono ?_
    rintro e W' ⟨rfl, k⟩
    exact ⟨rfl, h.read k⟩
  · rw [if_neg h1]
    by_cases h2 : C c = true
    · rw [if_pos h2, show addC C c = C from funext fun q => by
        unfold addC
        by_cases z : q = c
        · rw [if_pos ⟨by omega, z⟩, z, h2]
        · rw [if_neg (by omega)]]
      refine (add_twice z c (by omega) h2).mono ?_
      rintro e W' ⟨rfl, k⟩
      exact ⟨rfl, h.read k⟩
    · rw [if_neg h2, show addC C c = fun q => if q = c then true else C q from funext fun q => by
        unfold addC
        by_cases z : q = c
        · rw [if_pos ⟨by omega, z⟩, if_pos z]
        · rw [if_neg (by omega), if_neg z]]
      refine (add_new z c (by omega) (by simpa using h2)).mono ?_
      rintro e W' ⟨rfl, k⟩
      exact ⟨rfl, h.to hΦ k⟩
open Classical in
noncomputable def setE (C : Nat → Bool) (p n : Nat) (id : Int) : Int := if n = 0 ∨ id < 0 then 1 else if AllIn C p n then 0 else 10
open Classical in
noncomputable def setV (C : Nat → Bool) (V : Nat → Int) (p n : Nat) (id : Int) : Nat → Int := if n = 0 ∨ id < 0 then V else if AllIn C p n then putI V p (p + n) id else V
theorem am_set (h : Am N O w W mb C V) (p n : Nat) (id : Int) :
    Calls Try.prog 14 #[.pointer (some ⟨mb, 0, none⟩), .int .u64 (p : Nat), .int .u64 (n : Nat), .int .i64 id] W fun e W' => e = .returned (.int .i64 (setE C p n id)) ∧ Am N O w W' mb C (setV C V p n id) ∧ LeftA N O W W' := by
  obtain ⟨Φ, z, hΦ⟩ := h.ex
  unfold setE setV
  by_cases h1 : n = 0 ∨ id < 0
  · rw [if_pos h1, if_pos h1]
    refine (set_arg p n id h1).mono ?_
    rintro e W' ⟨rfl, k⟩
    exact ⟨rfl, h.read k⟩
  · rw [if_neg h1, if_neg h1]
    by_cases h2 : AllIn C p n
    · rw [if_pos h2, if_pos h2]
      refine (set_ok z p n id (by omega) (by omega) h2).mono ?_
      rintro e W' ⟨rfl, k⟩
      exact ⟨rfl, h.to hΦ k⟩
    · rw [if_neg h2, if_neg h2]
      refine (set_addr z p n id (by omega) (by omega) h2).mono ?_
      rintro e W' ⟨rfl, k⟩
      exact ⟨rfl, h.read k⟩
end
theorem setE_ok {C : Nat → Bool} {p n : Nat} {id : Int} (h1 : n ≠ 0) (h2 : 0 ≤ id) (h : AllIn C p n) : setE C p n id = 0 := by
  unfold setE
  rw [if_neg (by omega), if_pos h]
theorem setV_ok {C : Nat → Bool} {V : Nat → Int} {p n : Nat} {id : Int} (h1 : n ≠ 0) (h2 : 0 ≤ id) (h : AllIn C p n) : setV C V p n id = putI V p (p + n) id := by
  unfold setV
  rw [if_neg (by omega), if_pos h]
theorem setE_no {C : Nat → Bool} {p n : Nat} {id : Int} (h1 : n ≠ 0) (h2 : 0 ≤ id) (h : ¬ AllIn C p n) : setE C p n id = 10 := by
  unfold setE
  rw [if_neg (by omega), if_neg h]
theorem setV_no {C : Nat → Bool} {V : Nat → Int} {p n : Nat} {id : Int} (h : ¬ AllIn C p n) : setV C V p n id = V := by
  unfold setV
  by_cases z : n = 0 ∨ id < 0
  · rw [if_pos z]
  · rw [if_neg z, if_neg h]
theorem awake_any (W : World) : Calls Try.prog 13 #[] W fun e W' => e = .returned (.bool true) ∧ Below W.heap.size W W' := by
  have a1 : addE (fun _ => false) 1 = 0 := by decide
  have ai : AllIn (addC (fun _ => false) 1) 512 3 := ⟨by omega, by omega, fun q h1 h2 => by unfold addC; rw [if_pos (by omega)]⟩
  have C0 := hide (am_new (N := W.heap.size) (O := fun _ => False) (w := W) (Below.refl _ W) (Nat.le_refl _) (fun _ f => f.elim))
  go_enter Try.func13, Try.ntmps13
  go_wp2_with fail
  refine C0.out.mono ?_
  rintro e W1 ⟨mb, rfl, m1, -⟩
  have C1 := hide (am_add m1 1)
  rw [a1] at C1
  clear C0 m1 a1
  go_wp2_with fail
  refine C1.out.mono ?_
  rintro e W2 ⟨rfl, m2, -⟩
  have C2 := hide (am_set m2 512 3 7)
  rw [setE_ok (by omega) (by omega) ai, setV_ok (by omega) (by omega) ai] at C2
  clear C1 m2 ai
  go_wp2_with fail
  refine C2.out.mono ?_
  rintro e W3 ⟨rfl, m3, -⟩
  have C3 := hide (am_at m3 4194309 (by omega))
  rw [show putI (fun _ => (0 : Int)) 512 (512 + 3) 7 (4194309 / 8192) = 7 from by decide] at C3
  have M3 := hide m3
  clear C2 m3
  go_wp2_with fail
  refine C3.out.mono ?_
  rintro e W4 ⟨rfl, k4⟩
  have m4 := (M3.out.read k4).1
  have C4 := hide (am_at m4 4218880 (by omega))
  rw [show putI (fun _ => (0 : Int)) 512 (512 + 3) 7 (4218880 / 8192) = 0 from by decide] at C4
  have M4 := hide m4
  clear C3 m4 k4 M3
  go_wp2_with fail
  refine C4.out.mono ?_
  rintro e W5 ⟨rfl, k5⟩
  have m5 := (M4.out.read k5).1
  have C5 := hide (am_has m5 4194304 (by omega))
  rw [show addC (fun _ => false) 1 (4194304 / 4194304) = true from by decide] at C5
  have M5 := hide m5
  clear C4 m5 k5 M4
  go_wp2_with fail
  refine C5.out.mono ?_
  rintro e W6 ⟨rfl, k6⟩
  have m6 := (M5.out.read k6).1
  have C6 := hide (am_has m6 0 (by omega))
  rw [show addC (fun _ => false) 1 (0 / 4194304) = false from by decide] at C6
  have M6 := hide m6
  clear C5 m6 k6 M5
  go_wp2_with fail
  refine C6.out.mono ?_
  rintro e W7 ⟨rfl, k7⟩
  have m7 := hide (M6.out.read k7).1
  clear C6 k7 M6
  go_wp2_with fail
  go_ret
  exact ⟨rfl, m7.out.be⟩
end Go.Proofs.Ytdcjldpbgickmaa
