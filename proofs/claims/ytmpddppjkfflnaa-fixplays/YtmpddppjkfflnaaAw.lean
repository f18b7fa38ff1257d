/- awake; a store of records beside a store of blocks. -/
import Derived.Test.YtmpddppjkfflnaaFz
namespace Go.Proofs.Ytmpddppjkfflnaa
open Go.ChangeShapes Go.WideShapes Go.ChangeAt Go.RowKit Go.Shelf Go.Proofs.Rx Go.Maps
set_option linter.unusedVariables false
set_option linter.unusedSimpArgs false

def zi : Value → Int
  | .int _ x => x
  | _ => 0
/-- A law's store of records beside its store of blocks, and what was there before. -/
structure FB (N : Nat) (w W : World) (fb : Nat) (each : Int) (L : List Bool) (B : List Nat) (bb : Nat) (K M E : Int) : Prop where
  ex : ∃ F, Fx N W fb F each L B ∧ ¬ F bb
  bu : BuAt W bb K M E
  x : N ≤ bb
  be : Below N w W
  nw : N ≤ W.heap.size
section
variable {N : Nat} {w W W' : World} {fb bb : Nat} {each K M E : Int} {L : List Bool} {B : List Nat}
theorem FB.read (h : FB N w W fb each L B bb K M E) (k : Below W.heap.size W W') : FB N w W' fb each L B bb K M E := by
  obtain ⟨F, f, n⟩ := h.ex
  exact ⟨⟨F, f.below k, n⟩, Bk.below h.bu k, h.x, h.be.trans (k.mono h.nw), Nat.le_trans h.nw k.size⟩
theorem FB.fix (h : FB N w W fb each L B bb K M E) {F F' : Nat → Prop} (f : Fx N W fb F each L B) (n : ¬ F bb) {L' : List Bool} {B' : List Nat} (f' : Fx N W' fb F' each L' B') (t : To W W' F F') : FB N w W' fb each L' B' bb K M E := by
  have hb := Bk.lt h.bu
  refine ⟨⟨F', f', fun z => ?_⟩, Bk.kept h.bu t.1 n, h.x, h.be.trans (t.1.below h.nw (fun z hz => (f.lt hz).1)), Nat.le_trans h.nw t.1.size⟩
  rcases t.2 bb z with u | u
  · exact n u
  · omega
theorem fb_take (h : FB N w W fb each L B bb K M E) (hL : L.length < 100000) :
    Calls Try.prog 14 #[.pointer (some ⟨fb, 0, none⟩)] W fun e W' => e = .returned (.int .i64 (takeI L B)) ∧ FB N w W' fb each (takeL L B) B.tail bb K M E := by
  obtain ⟨F, f, n⟩ := h.ex
  refine (fx_take f h.nw hL).mono ?_
  rintro e W' ⟨rfl, F', f', t⟩
  exact ⟨rfl, h.fix f n f' t⟩
theorem fb_give (h : FB N w W fb each L B bb K M E) (hL : L.length ≤ 100000) (i : Int) (h0 : -9223372036854775808 ≤ i) :
    Calls Try.prog 16 #[.pointer (some ⟨fb, 0, none⟩), .int .i64 i] W fun e W' => e = .returned (.int .i64 (giveE L i)) ∧ FB N w W' fb each (giveL L i) (giveB L B i) bb K M E := by
  obtain ⟨F, f, n⟩ := h.ex
  refine (fx_give f h.nw hL i h0).mono ?_
  rintro e W' ⟨rfl, F', f', t⟩
  exact ⟨rfl, h.fix f n f' t⟩
theorem fb_bytes (h : FB N w W fb each L B bb K M E) (hL : L.length ≤ 100000) : Calls Try.prog 22 #[.pointer (some ⟨fb, 0, none⟩)] W fun e W' => e = .returned (.int .i64 (byV L.length each)) ∧ FB N w W' fb each L B bb K M E := by
  obtain ⟨F, f, n⟩ := h.ex
  refine (fx_bytes f hL).mono ?_
  rintro e W' ⟨rfl, j, rfl⟩
  exact ⟨rfl, h.read (below_drewN W j)⟩
theorem fb_count (h : FB N w W fb each L B bb K M E) : Calls Try.prog 20 #[.pointer (some ⟨fb, 0, none⟩)] W fun e W' => e = .returned (.int .i64 ((L.length : Int) - B.length)) ∧ FB N w W' fb each L B bb K M E := by
  obtain ⟨F, f, n⟩ := h.ex
  refine (fx_count f).mono ?_
  rintro e W' ⟨rfl, rfl⟩
  exact ⟨rfl, h⟩
theorem FB.bump {K' M' E' : Int} (h : FB N w W fb each L B bb K M E) (t : BuTo W W' bb K' M' E') : FB N w W' fb each L B bb K' M' E' := by
  obtain ⟨F, f, n⟩ := h.ex
  exact ⟨⟨F, f.kept t.2 (fun z hz e => n (e ▸ hz)), n⟩, t.1, h.x, h.be.trans (t.2.below h.nw (fun z hz => by rw [hz]; exact h.x)), Nat.le_trans h.nw t.2.size⟩
end
theorem pow64 : powIn 64 64 1048576 = true := by simp [powIn, isPow]
theorem pow1 : powIn 1 1 64 = true := by simp [powIn, isPow]
theorem pow8 : powIn 8 1 64 = true := by simp [powIn, isPow]
set_option maxRecDepth 100000 in
theorem awake_any (W : World) : Calls Try.prog 24 #[] W fun e W' => e = .returned (.bool true) ∧ Below W.heap.size W W' := by
  have C0 := hide (fx_new (N := W.heap.size) (W := W) (Nat.le_refl _) 6000 (by omega) (by omega))
  go_enter Try.func24, Try.ntmps24
  go_wp2_with fail
  refine C0.out.mono ?_
  rintro e W1 ⟨fb, rfl, b1, F, f1, nF⟩
  have P1 := hide (And.intro b1 f1)
  have CB := hide (newBump_ok 64 pow64 (by omega) W1)
  clear C0 b1 f1 nF
  go_wp2_with fail
  refine CB.out.mono ?_
  rintro e W2 ⟨rfl, hw2⟩
  have Q2 := hide (show FB W.heap.size W W2 fb (16384 / 6000) [] [] W1.heap.size 64 0 0 from by
    have bl : Below W1.heap.size W1 W2 := by rw [hw2]; exact below_alloc _ _
    exact ⟨⟨F, P1.out.2.below bl, fun z => by have := (P1.out.2.lt z).2; omega⟩, by rw [hw2]; exact World.alloc_heap_new W1 _, P1.out.1.size, P1.out.1.trans (bl.mono P1.out.1.size), Nat.le_trans P1.out.1.size bl.size⟩)
  generalize W1.heap.size = bb at *
  clear hw2 CB P1
  have C1 := hide (fb_take Q2.out (by decide))
  rw [show takeI [] [] = 1 from rfl, show takeL [] [] = [true] from rfl] at C1
  go_wp2_with fail
  refine C1.out.mono ?_
  rintro e W3 ⟨rfl, q3⟩
  have C2 := hide (fb_take q3 (by decide))
  rw [show takeI [true] [].tail = 2 from rfl, show takeL [true] [].tail = [true, true] from rfl] at C2
  clear C1 Q2 q3
  go_wp2_with fail
  refine C2.out.mono ?_
  rintro e W4 ⟨rfl, q4⟩
  have C3 := hide (fb_take q4 (by decide))
  rw [show takeI [true, true] [].tail.tail = 3 from rfl, show takeL [true, true] [].tail.tail = [true, true, true] from rfl] at C3
  clear C2 q4
  go_wp2_with fail
  refine C3.out.mono ?_
  rintro e W5 ⟨rfl, q5⟩
  have C4 := hide (fb_bytes q5 (by decide))
  rw [show byV ([true, true, true].length : Int) (16384 / 6000) = 32768 from by decide] at C4
  clear C3 q5
  go_wp2_with fail
  refine C4.out.mono ?_
  rintro e W6 ⟨rfl, q6⟩
  have C5 := hide (fb_give q6 (by decide) 2 (by omega))
  rw [show giveE [true, true, true] 2 = 0 from by decide, show giveL [true, true, true] 2 = [true, false, true] from by decide, show giveB [true, true, true] [].tail.tail.tail 2 = [2] from by decide] at C5
  clear C4 q6
  go_wp2_with fail
  refine C5.out.mono ?_
  rintro e W7 ⟨rfl, q7⟩
  have C6 := hide (fb_take q7 (by decide))
  rw [show takeI [true, false, true] [2] = 2 from rfl, show takeL [true, false, true] [2] = [true, true, true] from rfl] at C6
  clear C5 q7
  go_wp2_with fail
  refine C6.out.mono ?_
  rintro e W8 ⟨rfl, q8⟩
  have Q8 := hide q8
  have C7 := hide (bt_new q8.bu ⟨by omega, by omega, by omega, by omega, by omega, by omega, fun _ => rfl⟩ 10 1 pow1 (by omega) (by omega) (fun z => absurd rfl z))
  clear C6 q8
  go_wp2_with fail
  refine C7.out.mono ?_
  rintro e W9 ⟨rfl, t9⟩
  have q9 := Q8.out.bump t9
  have Q9 := hide q9
  have C8 := hide (bt_old q9.bu ⟨by omega, by omega, by omega, by omega, by omega, by omega, fun z => by omega⟩ 8 8 pow8 (by omega) (by omega) (by decide))
  rw [show upB 10 8 = 16 from by decide] at C8
  clear C7 Q8 q9 t9
  go_wp2_with fail
  refine C8.out.mono ?_
  rintro e W10 ⟨rfl, t10⟩
  have q10 := Q9.out.bump t10
  have C9 := hide (fb_count q10)
  rw [show (([true, true, true].length : Int) - ([2] : List Nat).tail.length) = 3 from by decide] at C9
  clear C8 Q9 q10 t10
  go_wp2_with fail
  refine C9.out.mono ?_
  rintro e W11 ⟨rfl, q11⟩
  have Q11 := hide q11
  clear q11 C9
  go_wp2_with fail
  go_ret
  exact ⟨rfl, Q11.out.be⟩
end Go.Proofs.Ytmpddppjkfflnaa
