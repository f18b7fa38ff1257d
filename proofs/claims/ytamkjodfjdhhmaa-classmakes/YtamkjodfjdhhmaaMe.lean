/- ClassMakes, where page and most are wrong; and whole. -/
import Derived.Test.YtamkjodfjdhhmaaMo
namespace Go.Proofs.Ytamkjodfjdhhmaa
open Go.ChangeShapes Go.WideShapes Go.ChangeAt Go.RowKit Go.Proofs.Cl Go.Shelf
set_option linter.unusedVariables false
set_option linter.unusedSimpArgs false

set_option maxRecDepth 100000 in
set_option maxHeartbeats 8000000 in
theorem makes_err (page most : Int) (hp : page ≤ 9223372036854775807) (hm : most ≤ 9223372036854775807) (h : okB page most = false) (w : World) :
    Calls Try.prog 3 #[.int .i64 page, .int .i64 most] w fun e w' => e = .returned (.bool true) ∧ Below w.heap.size w w' := by
  have RM := hide (fun w => refMake_err page most hp hm h w)
  have LM := hide (fun w => make_err page most hp hm h w)
  clear h
  go_enter Try.func3, Try.ntmps3
  go_wp2_with fail
  refine (RM.out _).mono ?_
  rintro e w' ⟨rfl, hw'⟩; rw [hw']; clear hw' w'
  go_wp2_with fail
  refine (LM.out _).mono ?_
  rintro e w' ⟨rfl, hw'⟩; rw [hw']; clear hw' w'
  go_wp2_with fail
  refine (LM.out _).mono ?_
  rintro e w' ⟨rfl, hw'⟩; rw [hw']; clear hw' w'
  clear RM LM
  go_wp2_with fail
  refine (same_nil _).mono ?_
  rintro e w4 ⟨rfl, b4⟩
  have B4 := hide b4
  clear b4
  go_wp2_with fail
  refine (same_nil _).mono ?_
  rintro e w5 ⟨rfl, b5⟩
  have B5 := hide (B4.out.trans (b5.mono B4.out.size))
  clear b5 B4
  go_wp2_with fail
  refine (refTable _).mono ?_
  rintro e w6 ⟨gt, ct, rfl, ot, b6⟩
  have RT : Row w6 w5.heap.size gt 68 ct (zeroC :: table) := ⟨ot, by rw [List.length_cons, table_len]⟩
  have HT := hide RT
  have B6 := hide (B5.out.trans (b6.mono B5.out.size))
  clear ot b6 RT B5
  go_wp2_with fail
  refine (table_any _).mono ?_
  rintro e w7 ⟨gc, cc, rfl, oc, b7⟩
  have RC : Row w7 w6.heap.size gc 68 cc (zeroC :: table) := ⟨oc, by rw [List.length_cons, table_len]⟩
  have HC := hide RC
  have HT7 := hide (HT.out.below b7)
  have B7 := hide (B6.out.trans (b7.mono B6.out.size))
  clear oc b7 RC
  have SC := hide (same_any gc gt 68 cc ct (zeroC :: table) (by rw [List.length_cons, table_len]) (by omega) w7 HC.out.at HT7.out.at)
  go_wp2_with fail
  refine SC.out.mono ?_
  rintro e w8 ⟨rfl, b8⟩
  have lt := HT.out.lt
  have lc := HC.out.lt
  have hct : gc ≠ gt := by omega
  have hc : w.heap.size ≤ w6.heap.size := B6.out.size
  have Hct := hide hct
  have Hc := hide hc
  have C8 := hide (HC.out.below b8)
  have T8 := hide (HT7.out.at.below b8)
  have B8 := hide (B7.out.trans (b8.mono B7.out.size))
  clear b8 SC HT HT7 HC B6 B7 lt lc hct hc
  go_wp2_with fail
  go_loop [14] (fun iv => iv = .int .i64 0) (fun _ => 0)
  case atStart => rfl
  case round =>
    subst hrel
    go_wp2_with fail
    go_loopw [15] (fun iv wr => ∃ j : Nat, iv = .int .i64 (j : Int) ∧ j ≤ 68 ∧ Hid (Row wr w6.heap.size gc 68 cc (repC 203 j (zeroC :: table))) ∧ Hid (ListAt wr gt (zeroC :: table)) ∧ Hid (Below w.heap.size w wr)) (fun iv _ => 68 - (intOf iv).toNat)
    case atStart => exact ⟨0, rfl, Nat.zero_le _, hide (by rw [rep_zero]; exact C8.out), T8, B8⟩
    case round =>
      obtain ⟨j, rfl, i2, HC, HT, HB⟩ := hrel
      clear C8 T8 B8
      by_cases hlt : j < 68
      · have hl : j < (zeroC :: table).length := by rw [List.length_cons, table_len]; exact hlt
        obtain ⟨⟨a0, a1, a2, a3, x0, x1, x2, x3⟩, y0, y1, y2, y3⟩ := row_facts HC.out hlt
        have k1 := put_kept (F := fun b => b = gc) wr gc j 203 rfl
        have c2 := HC.out.put hlt 203
        rw [rep_set hl] at c2
        have HC2 := hide c2
        have HT2 := hide (HT.out.kept k1 (fun e => Hct.out e.symm))
        have HB2 := hide (below_kept HB.out k1 (fun b e => by subst e; have := HC.out.lt; have := Hc.out; omega) (by have := HC.out.lt; have := Hc.out; omega))
        have j1 : (0 : Int) ≤ (j : Int) := by omega
        have j2 : (j : Int) < 68 := by omega
        clear c2 k1 hl
        go_wp2_with fail
        exact ⟨⟨j + 1, by go_num, by omega, HC2, HT2, HB2⟩, by simp [intOf]; omega⟩
      · obtain rfl : j = 68 := by omega
        obtain ⟨g1, c1, wa, ra, rowa, ka⟩ := nil_append wr 201
        obtain ⟨g2, c2, wb, rb, rowb, kb⟩ := nil_append wa 202
        have rowa' := (rowa.kept kb (fun f => f)).at
        have tb := (HT.out.kept ka (fun f => f)).kept kb (fun f => f)
        have bwb := below_kept (below_kept HB.out ka (fun b f => f.elim) HB.out.size) kb (fun b f => f.elim) (Nat.le_trans HB.out.size ka.size)
        have R1 := hide ra
        have R2 := hide rb
        have LA := hide rowa'
        have LB := hide rowb.at
        have LT := hide tb
        have BW := hide bwb
        clear ra rowa ka rowb rb kb rowa' tb bwb HC HT HB hlt i2
        go_wp2_with (first | (at_builtin; refine list_append_run (by rfl) (.tmp 88) (.tmp 90) 22 (by rfl) (by rfl) (by rfl) R1.out ?_) | (at_builtin; refine list_append_run (by rfl) (.tmp 92) (.tmp 94) 22 (by rfl) (by rfl) (by rfl) R2.out ?_))
        go_loop [16] (fun iv => ∃ j : Nat, iv = .int .i64 (j : Int) ∧ j ≤ 1) (fun iv => 1 - (intOf iv).toNat)
        case atStart => exact ⟨0, rfl, Nat.zero_le _⟩
        case round =>
          obtain ⟨j, rfl, i2⟩ := hrel
          by_cases hlt : j < 1
          · obtain rfl : j = 0 := by omega
            have y1 : wb.cell? ⟨g1, 0, none⟩ = some (.int .i64 201) := (LA.out 0 (only 201) rfl).1
            have z1 : wb.cell? ⟨g2, 0, none⟩ = some (.int .i64 202) := (LB.out 0 (only 202) rfl).1
            go_wp2_with fail
            go_round
            case rel => exact ⟨1, rfl, by omega⟩
            case measure => simp [intOf]
          · obtain rfl : j = 1 := by omega
            clear hlt i2
            go_wp2_with fail
            refine (table_any _).mono ?_
            rintro e w9 ⟨gd, cd, rfl, od, b9⟩
            have LD := list_at od (by rw [List.length_cons, table_len])
            have LT9 := LT.out.below b9
            have SD := hide (same_any gd gt 68 cd ct (zeroC :: table) (by rw [List.length_cons, table_len]) (by omega) w9 LD LT9)
            have B9 := hide (BW.out.trans (b9.mono BW.out.size))
            clear od b9 LD LT9 LT LA LB BW
            go_wp2_with fail
            refine SD.out.mono ?_
            rintro e w10 ⟨rfl, b10⟩
            have B10 := hide (B9.out.trans (b10.mono B9.out.size))
            clear SD b10 B9
            go_wp2_with fail
            refine (awake_core _).mono ?_
            rintro e w11 ⟨rfl, b11⟩
            have B11 := hide (B10.out.trans (b11.mono B10.out.size))
            clear b11 B10
            go_wp2_with fail
            go_ret
            exact ⟨rfl, B11.out⟩
theorem makes_core (p m : Int) (hp : p ≤ 9223372036854775807) (hm : m ≤ 9223372036854775807) (w : World) :
    Calls Try.prog 3 #[.int .i64 p, .int .i64 m] w fun e w' => e = .returned (.bool true) ∧ Below w.heap.size w w' := by
  cases h : okB p m with
  | true =>
    obtain ⟨a1, a2, a3, a4, _, _⟩ := okB_page h
    obtain ⟨p, rfl⟩ : ∃ n : Nat, p = (n : Int) := ⟨p.toNat, by omega⟩
    obtain ⟨m, rfl⟩ : ∃ n : Nat, m = (n : Int) := ⟨m.toNat, by omega⟩
    exact makes_ok p m h w
  | false => exact makes_err p m hp hm h w
end Go.Proofs.Ytamkjodfjdhhmaa
