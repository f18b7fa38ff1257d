/- ClassMakes, where page and most are right. -/
import Derived.Test.YtamkjodfjdhhmaaMm
namespace Go.Proofs.Ytamkjodfjdhhmaa
open Go.ChangeShapes Go.WideShapes Go.ChangeAt Go.RowKit Go.Proofs.Cl Go.Shelf
set_option linter.unusedVariables false
set_option linter.unusedSimpArgs false

/-- The law's lists. -/
structure MS (w : World) (ga gb gc gt n ca cb cc ba bb bc : Nat) (la lb lc : List Cls) (wr : World) : Prop where
  a : Row wr ba ga n ca la
  b : Row wr bb gb n cb lb
  c : Row wr bc gc 68 cc lc
  t : ListAt wr gt (zeroC :: table)
  w : Below w.heap.size w wr
section
variable {w : World} {ga gb gc gt n ca cb cc ba bb bc : Nat} {la lb lc : List Cls} {wr : World}
theorem MS.putA (h : MS w ga gb gc gt n ca cb cc ba bb bc la lb lc wr) (hab : ga ≠ gb) (hac : ga ≠ gc) (hat : ga ≠ gt) (ha : w.heap.size ≤ ba) {i : Nat} (hi : i < n) (k : Nat) : MS w ga gb gc gt n ca cb cc ba bb bc (la.set i (only k)) lb lc (put4 wr ga i k) := by
  have k1 := put_kept (F := fun b => b = ga) wr ga i k rfl
  exact ⟨h.a.put hi k, h.b.kept k1 (fun e => hab e.symm), h.c.kept k1 (fun e => hac e.symm), h.t.kept k1 (fun e => hat e.symm), below_kept h.w k1 (fun b e => by subst e; have := h.a.lt; omega) (by have := h.a.lt; omega)⟩
theorem MS.putB (h : MS w ga gb gc gt n ca cb cc ba bb bc la lb lc wr) (hab : ga ≠ gb) (hbc : gb ≠ gc) (hbt : gb ≠ gt) (hb : w.heap.size ≤ bb) {i : Nat} (hi : i < n) (k : Nat) : MS w ga gb gc gt n ca cb cc ba bb bc la (lb.set i (only k)) lc (put4 wr gb i k) := by
  have k1 := put_kept (F := fun b => b = gb) wr gb i k rfl
  exact ⟨h.a.kept k1 (fun e => hab e), h.b.put hi k, h.c.kept k1 (fun e => hbc e.symm), h.t.kept k1 (fun e => hbt e.symm), below_kept h.w k1 (fun b e => by subst e; have := h.b.lt; omega) (by have := h.b.lt; omega)⟩
theorem MS.putC (h : MS w ga gb gc gt n ca cb cc ba bb bc la lb lc wr) (hac : ga ≠ gc) (hbc : gb ≠ gc) (hct : gc ≠ gt) (hc : w.heap.size ≤ bc) {i : Nat} (hi : i < 68) (k : Nat) : MS w ga gb gc gt n ca cb cc ba bb bc la lb (lc.set i (only k)) (put4 wr gc i k) := by
  have k1 := put_kept (F := fun b => b = gc) wr gc i k rfl
  exact ⟨h.a.kept k1 (fun e => hac e), h.b.kept k1 (fun e => hbc e), h.c.put hi k, h.t.kept k1 (fun e => hct e.symm), below_kept h.w k1 (fun b e => by subst e; have := h.c.lt; omega) (by have := h.c.lt; omega)⟩
end
theorem rep_snoc (n : Nat) (x : Cls) {i : Nat} (h : i ≤ n) : (List.replicate n x ++ [x])[i]? = some x := by
  rw [← List.replicate_succ', List.getElem?_replicate]; simp; omega
/-- The cells of a class in a row, and that they may be written. -/
theorem row_facts {w : World} {base g n cap : Nat} {l : List Cls} (h : Row w base g n cap l) {i : Nat} (hi : i < n) : (∃ a b c d, w.cell? ⟨g, i * 4, none⟩ = some a ∧ w.cell? ⟨g, i * 4 + 1, none⟩ = some b ∧ w.cell? ⟨g, i * 4 + 2, none⟩ = some c ∧ w.cell? ⟨g, i * 4 + 3, none⟩ = some d) ∧ w.frozen? ⟨g, i * 4, none⟩ = false ∧ w.frozen? ⟨g, i * 4 + 1, none⟩ = false ∧ w.frozen? ⟨g, i * 4 + 2, none⟩ = false ∧ w.frozen? ⟨g, i * 4 + 3, none⟩ = false := by
  obtain ⟨x, hx⟩ : ∃ x, l[i]? = some x := ⟨_, List.getElem?_eq_getElem (by rw [h.2]; exact hi)⟩
  obtain ⟨a, b, c, d⟩ := h.at i x hx
  exact ⟨⟨_, _, _, _, a, b, c, d⟩, h.fz _, h.fz _, h.fz _, h.fz _⟩
set_option maxRecDepth 100000 in
set_option maxHeartbeats 8000000 in
theorem makes_ok (page most : Nat) (h : okB page most = true) (w : World) :
    Calls Try.prog 3 #[.int .i64 page, .int .i64 most] w fun e w' => e = .returned (.bool true) ∧ Below w.heap.size w w' := by
  have hn2 : (make page most).length ≤ 40000 := by
    obtain ⟨b1, b2, b3, b4, c1, c2⟩ := okB_page h
    unfold make; have := classes_len page most; simp; omega
  have RM := hide (fun w => refMake_ok page most h w)
  have LM := hide (fun w => make_ok page most h w)
  have e0 : (make page most)[0]? = some zeroC := rfl
  generalize make page most = L at RM LM hn2 e0
  clear h
  obtain ⟨n, hn⟩ : ∃ n, L.length = n := ⟨_, rfl⟩
  rw [hn] at RM LM hn2
  have n1 : 1 ≤ n := by
    have := (List.getElem?_eq_some_iff.1 e0).1; omega
  have HN := hide hn
  have E0 := hide e0
  clear hn e0
  go_enter Try.func3, Try.ntmps3
  go_wp2_with fail
  refine (RM.out _).mono ?_
  rintro e w1 ⟨vw, rfl, ow, bw⟩
  obtain ⟨gw, cw, rfl⟩ : ∃ g c, vw = .slice (some ⟨g, 0, none⟩) n c := by
    obtain ⟨n', rfl⟩ : ∃ n', n = n' + 1 := ⟨n - 1, by omega⟩
    exact ownsRow_succ ow
  have RW : Row w1 w.heap.size gw n cw L := ⟨ow, HN.out⟩
  have HW := hide RW
  have B1 := hide bw
  clear ow bw RM RW
  go_wp2_with fail
  refine (LM.out _).mono ?_
  rintro e w2 ⟨va, rfl, oa, b2⟩
  obtain ⟨ga, ca, rfl⟩ : ∃ g c, va = .slice (some ⟨g, 0, none⟩) n c := by
    obtain ⟨n', rfl⟩ : ∃ n', n = n' + 1 := ⟨n - 1, by omega⟩
    exact ownsRow_succ oa
  have RA : Row w2 w1.heap.size ga n ca L := ⟨oa, HN.out⟩
  have HA := hide RA
  have HW2 := hide (HW.out.below b2)
  have B2 := hide (B1.out.trans (b2.mono B1.out.size))
  have s2 := hide b2.size
  clear oa b2 RA
  go_wp2_with fail
  refine (LM.out _).mono ?_
  rintro e w3 ⟨vb, rfl, ob, b3⟩
  obtain ⟨gb, cb, rfl⟩ : ∃ g c, vb = .slice (some ⟨g, 0, none⟩) n c := by
    obtain ⟨n', rfl⟩ : ∃ n', n = n' + 1 := ⟨n - 1, by omega⟩
    exact ownsRow_succ ob
  have RB : Row w3 w2.heap.size gb n cb L := ⟨ob, HN.out⟩
  have HB := hide RB
  have HA3 := hide (HA.out.below b3)
  have HW3 := hide (HW2.out.below b3)
  have B3 := hide (B2.out.trans (b3.mono B2.out.size))
  clear ob b3 RB LM
  have SA := hide (same_any ga gw n ca cw L HN.out (by omega) w3 HA3.out.at HW3.out.at)
  go_wp2_with fail
  refine SA.out.mono ?_
  rintro e w4 ⟨rfl, b4⟩
  have HA4 := hide (HA3.out.below b4)
  have HB4 := hide (HB.out.below b4)
  have HW4 := hide (HW3.out.below b4)
  have B4 := hide (B3.out.trans (b4.mono B3.out.size))
  clear SA b4
  have SB := hide (same_any gb gw n cb cw L HN.out (by omega) w4 HB4.out.at HW4.out.at)
  go_wp2_with fail
  refine SB.out.mono ?_
  rintro e w5 ⟨rfl, b5⟩
  have HA5 := hide (HA4.out.below b5)
  have HB5 := hide (HB4.out.below b5)
  have B5 := hide (B4.out.trans (b5.mono B4.out.size))
  clear SB b5
  go_wp2_with fail
  refine (refTable _).mono ?_
  rintro e w6 ⟨gt, ct, rfl, ot, b6⟩
  have RT : Row w6 w5.heap.size gt 68 ct (zeroC :: table) := ⟨ot, by rw [List.length_cons, table_len]⟩
  have HT := hide RT
  have HA6 := hide (HA5.out.below b6)
  have HB6 := hide (HB5.out.below b6)
  have B6 := hide (B5.out.trans (b6.mono B5.out.size))
  clear ot b6 RT
  go_wp2_with fail
  refine (table_any _).mono ?_
  rintro e w7 ⟨gc, cc, rfl, oc, b7⟩
  have RC : Row w7 w6.heap.size gc 68 cc (zeroC :: table) := ⟨oc, by rw [List.length_cons, table_len]⟩
  have HC := hide RC
  have HT7 := hide (HT.out.below b7)
  have HA7 := hide (HA6.out.below b7)
  have HB7 := hide (HB6.out.below b7)
  have B7 := hide (B6.out.trans (b7.mono B6.out.size))
  clear oc b7 RC
  have SC := hide (same_any gc gt 68 cc ct (zeroC :: table) (by rw [List.length_cons, table_len]) (by omega) w7 HC.out.at HT7.out.at)
  go_wp2_with fail
  refine SC.out.mono ?_
  rintro e w8 ⟨rfl, b8⟩
  have la := HA.out.lt
  have lb := HB.out.lt
  have lt := HT.out.lt
  have lc := HC.out.lt
  have la5 := HA5.out.lt
  have lb5 := HB5.out.lt
  have la6 := HA6.out.lt
  have lb6 := HB6.out.lt
  have hab : ga ≠ gb := by omega
  have hac : ga ≠ gc := by omega
  have hat : ga ≠ gt := by omega
  have hbc : gb ≠ gc := by omega
  have hbt : gb ≠ gt := by omega
  have hct : gc ≠ gt := by omega
  have ha : w.heap.size ≤ w1.heap.size := B1.out.size
  have hb : w.heap.size ≤ w2.heap.size := B2.out.size
  have hc : w.heap.size ≤ w6.heap.size := B6.out.size
  have M8 : MS w ga gb gc gt n ca cb cc w1.heap.size w2.heap.size w6.heap.size L L (zeroC :: table) w8 := ⟨HA7.out.below b8, HB7.out.below b8, HC.out.below b8, HT7.out.at.below b8, B7.out.trans (b8.mono B7.out.size)⟩
  have HM8 := hide M8
  have Hab := hide hab
  have Hac := hide hac
  have Hat := hide hat
  have Hbc := hide hbc
  have Hbt := hide hbt
  have Hct := hide hct
  have Ha := hide ha
  have Hb := hide hb
  have Hc := hide hc
  clear b8 M8 SC HA HA3 HA4 HA5 HA6 HA7 HB HB4 HB5 HB6 HB7 HW HW2 HW3 HW4 HT HT7 HC B1 B2 B3 B4 B5 B6 B7 s2 la lb lt lc la5 lb5 la6 lb6 ha hb hc hac hat hbc hbt hct
  have hba : gb ≠ ga := fun e => hab e.symm
  go_wp2_with fail
  go_loopw [14] (fun iv wr => ∃ i : Nat, iv = .int .i64 (i : Int) ∧ i ≤ n ∧ Hid (MS w ga gb gc gt n ca cb cc w1.heap.size w2.heap.size w6.heap.size (repC 201 i L) (repC 202 i L) (zeroC :: table) wr)) (fun iv _ => n - (intOf iv).toNat)
  case atStart => exact ⟨0, rfl, Nat.zero_le _, hide (by rw [rep_zero, rep_zero]; exact HM8.out)⟩
  case round =>
    obtain ⟨i, rfl, i2, HM⟩ := hrel
    clear HM8
    by_cases hlt : i < n
    · have hl : i < L.length := by rw [HN.out]; exact hlt
      obtain ⟨⟨a0, a1, a2, a3, x0, x1, x2, x3⟩, y0, y1, y2, y3⟩ := row_facts HM.out.a hlt
      obtain ⟨⟨b0, b1, b2, b3, z0, z1, z2, z3⟩, t0, t1, t2, t3⟩ := row_facts HM.out.b hlt
      have M2 := (HM.out.putA Hab.out Hac.out Hat.out Ha.out hlt 201).putB Hab.out Hbc.out Hbt.out Hb.out hlt 202
      rw [rep_set hl, rep_set hl] at M2
      have HM2 := hide M2
      have j1 : (0 : Int) ≤ (i : Int) := by omega
      have j2 : (i : Int) < (n : Int) := by omega
      clear M2 hl
      go_wp2_with fail
      exact ⟨⟨i + 1, by go_num, by omega, HM2⟩, by simp [intOf]; omega⟩
    · obtain rfl : i = n := by omega
      have HM' := HM
      rw [← HN.out, rep_all, rep_all, HN.out] at HM'
      clear HM hlt i2
      go_wp2_with fail
      go_loopw [15] (fun iv wr => ∃ j : Nat, iv = .int .i64 (j : Int) ∧ j ≤ 68 ∧ Hid (MS w ga gb gc gt i ca cb cc w1.heap.size w2.heap.size w6.heap.size (List.replicate i (only 201)) (List.replicate i (only 202)) (repC 203 j (zeroC :: table)) wr)) (fun iv _ => 68 - (intOf iv).toNat)
      case atStart => exact ⟨0, rfl, Nat.zero_le _, hide (by rw [rep_zero]; exact HM'.out)⟩
      case round =>
        obtain ⟨j, rfl, i2, HM⟩ := hrel
        clear HM'
        by_cases hlt : j < 68
        · have hl : j < (zeroC :: table).length := by rw [List.length_cons, table_len]; exact hlt
          obtain ⟨⟨a0, a1, a2, a3, x0, x1, x2, x3⟩, y0, y1, y2, y3⟩ := row_facts HM.out.c hlt
          have M2 := HM.out.putC Hac.out Hbc.out Hct.out Hc.out hlt 203
          rw [rep_set hl] at M2
          have HM2 := hide M2
          have j1 : (0 : Int) ≤ (j : Int) := by omega
          have j2 : (j : Int) < 68 := by omega
          clear M2 hl
          go_wp2_with fail
          exact ⟨⟨j + 1, by go_num, by omega, HM2⟩, by simp [intOf]; omega⟩
        · obtain rfl : j = 68 := by omega
          obtain ⟨g1, c1, wa, ra, rowa, ka⟩ := row_append HM.out.a (by omega) 201
          have rowb := HM.out.b.kept ka hba
          have ta := HM.out.t.kept ka (fun e => Hat.out e.symm)
          have bwa := below_kept HM.out.w ka (fun b e => by subst e; have := HM.out.a.lt; have := Ha.out; omega) (by have := HM.out.a.lt; have := Ha.out; omega)
          obtain ⟨g2, c2, wb, rb, rowb', kb⟩ := row_append rowb (by omega) 202
          have hg1 : g1 ≠ gb := apart_of (x := only 201) (y := only 202) rowa rowb (rep_snoc i _ (Nat.zero_le _)) (by rw [List.getElem?_replicate]; simp; omega) (by decide)
          have rowa' := (rowa.kept kb hg1).at
          have tb := ta.kept kb (fun e => Hbt.out e.symm)
          have bwb := below_kept bwa kb (fun b e => by subst e; have := rowb.lt; have := Hb.out; omega) (by have := rowb.lt; have := Hb.out; omega)
          have R1 := hide ra
          have R2 := hide rb
          have LA := hide rowa'
          have LB := hide rowb'.at
          have LT := hide tb
          have BW := hide bwb
          clear ra rowa ka rowb ta bwa rb rowb' kb hg1 rowa' tb bwb HM hlt i2
          go_wp2_with (first | (at_builtin; refine list_append_run (by rfl) (.tmp 88) (.tmp 90) 22 (by rfl) (by rfl) (by rfl) R1.out ?_) | (at_builtin; refine list_append_run (by rfl) (.tmp 92) (.tmp 94) 22 (by rfl) (by rfl) (by rfl) R2.out ?_))
          go_loop [16] (fun iv => ∃ j : Nat, iv = .int .i64 (j : Int) ∧ j ≤ i + 1) (fun iv => i + 1 - (intOf iv).toNat)
          case atStart => exact ⟨0, rfl, Nat.zero_le _⟩
          case round =>
            obtain ⟨j, rfl, i2⟩ := hrel
            by_cases hlt : j < i + 1
            · have y0 := (LA.out j (only 201) (rep_snoc i _ (by omega))).1
              have z0 := (LB.out j (only 202) (rep_snoc i _ (by omega))).1
              have y1 : wb.cell? ⟨g1, j * 4, none⟩ = some (.int .i64 201) := y0
              have z1 : wb.cell? ⟨g2, j * 4, none⟩ = some (.int .i64 202) := z0
              have j1 : (0 : Int) ≤ (j : Int) := by omega
              have j2 : (j : Int) < (i : Int) + 1 := by omega
              clear y0 z0
              go_wp2_with fail
              go_round
              case rel => exact ⟨j + 1, by go_num, by omega⟩
              case measure => simp [intOf]; omega
            · obtain rfl : j = i + 1 := by omega
              clear hlt i2
              go_wp2_with fail
              refine (table_any _).mono ?_
              rintro e w9 ⟨gd, cd, rfl, od, b9⟩
              have LD := list_at od (by rw [List.length_cons, table_len])
              have LT9 := LT.out.below b9
              have SD := hide (same_any gd gt 68 cd ct (zeroC :: table) (by rw [List.length_cons, table_len]) (by omega) w9 LD LT9)
              have B9 := hide (BW.out.trans (b9.mono BW.out.size))
              clear od b9 LD LT9 LT LA LB BW
              go_wp2_with fail
              refine SD.out.mono ?_
              rintro e w10 ⟨rfl, b10⟩
              have B10 := hide (B9.out.trans (b10.mono B9.out.size))
              clear SD b10 B9
              go_wp2_with fail
              refine (awake_core _).mono ?_
              rintro e w11 ⟨rfl, b11⟩
              have B11 := hide (B10.out.trans (b11.mono B10.out.size))
              clear b11 B10
              go_wp2_with fail
              go_ret
              exact ⟨rfl, B11.out⟩
end Go.Proofs.Ytamkjodfjdhhmaa
