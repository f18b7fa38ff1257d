/- SetsOnce, walked. -/
import Derived.Test.YtdgjlekndhgjfaaOa
namespace Go.Proofs.Ytdgjlekndhgjfaa
open Go.ChangeShapes Go.WideShapes Go.ChangeAt Go.RowKit Go.Shelf Go.Proofs.Rx Go.Maps Go.Proofs.Hm
set_option linter.unusedVariables false
set_option linter.unusedSimpArgs false

attribute [local go_sem] Oper.semAt_some

/-- The second loop's state. -/
structure Oj (N : Nat) (w W : World) (s b n m k : Nat) (X : Nat → Nat) (sw : Bool) (L : List On) (M : Nat → Option Unit) (la : Nat) : Prop where
  o : Once X n sw L M
  len : L.length + k = m
  last : 0 < k → ∀ x, x ∈ L → la < x.base
  sep : ∃ c cm, c ≤ 1000 ∧ cm ≤ 1000 ∧ Sep N w W [tSets s c L, tMet b cm M]
theorem Oj.ok {N : Nat} {w W : World} {s b n m k : Nat} {X : Nat → Nat} {sw : Bool} {L : List On} {M : Nat → Option Unit} {la : Nat} (h : Oj N w W s b n m k X sw L M la) : OkL L := by
  obtain ⟨c, cm, h1, h2, h3⟩ := h.sep
  obtain ⟨F, hF⟩ := h3.have 0 (Nat.zero_lt_succ _)
  exact tSets_ok hF
/-- What a round takes. -/
theorem Oj.pick {N : Nat} {w W : World} {s b n m k : Nat} {X : Nat → Nat} {sw : Bool} {L : List On} {M : Nat → Option Unit} {la : Nat} (h : Oj N w W s b n m k X sw L M la) (hk : k < m) :
    ∃ (x : On) (j : Nat), low (fits ⟨7, true, false⟩ sw) L = some x ∧ x.id = (j : Int) + 1 ∧ j < n ∧ x.base = X j ∧ (M (X j)).isSome = true ∧ (0 < k → la < X j) ∧
      ∀ W', (∃ c cm, c ≤ 1000 ∧ cm ≤ 1000 ∧ Sep N w W' [tSets s c (L.erase x), tMet b cm (fun q => if q = X j then none else M q)]) → Oj N w W' s b n m (k + 1) X sw (L.erase x) (fun q => if q = X j then none else M q) (X j) := by
  have ok := h.ok
  have hl : L ≠ [] := fun e => by have := h.len; rw [e] at this; simp at this; omega
  obtain ⟨x, e1, e2⟩ := low_some hl h.o.fits
  obtain ⟨a1, a2, a3, a4, a5⟩ := h.o.a x e2.1
  have ej : x.base = X (x.id.toNat - 1) := a5
  refine ⟨x, x.id.toNat - 1, e1, by omega, by omega, a5, ?_, fun hk0 => by rw [← ej]; exact h.last hk0 x e2.1, fun W' hs => ?_⟩
  · rw [← ej]
    exact (h.o.m x.base).2 ⟨x, e2.1, rfl⟩
  · have o' := h.o.less ok e2.1
    rw [ej] at o'
    refine ⟨o', ?_, fun _ y hy => ?_, hs⟩
    · have := List.length_erase_of_mem e2.1
      have := List.length_pos_of_mem e2.1
      have := h.len
      omega
    · have h1 := List.mem_of_mem_erase hy
      have h2 := e2.2.2 y h1 (h.o.fits y h1)
      have h3 : x.base ≠ y.base := fun e => by
        have := ok.bas x y e2.1 h1 e
        rw [← this] at hy
        exact List.Nodup.not_mem_erase ok.nd hy
      rw [← ej]
      omega
set_option maxRecDepth 100000 in
theorem once_long (o : Option Addr) (n cap : Nat) (fl : Bool) (hn : 100 < n) (w : World) :
    Calls Try.prog 5 #[.slice o n cap, .bool fl] w fun e W' => e = .returned (.bool true) ∧ Below w.heap.size w W' := by
  have d0 : decide ((100 : Int) < (n : Int)) = true := decide_eq_true (by omega)
  have d1 : decide (100 < n) = true := decide_eq_true hn
  clear hn
  go_enter Try.func5, Try.ntmps5
  go_wp2_with fail
  go_ret
  exact ⟨rfl, Below.refl _ _⟩
set_option maxRecDepth 100000 in
set_option maxHeartbeats 4000000 in
theorem once_stay (o : Option Addr) (n cap : Nat) (hn : n ≤ 100) (w : World) (X : Nat → Int) (hX : U64At w o n cap X) :
    Calls Try.prog 5 #[.slice o n cap, .bool false] w fun e W' => e = .returned (.bool true) ∧ Below w.heap.size w W' := by
  obtain ⟨R, hR⟩ : ∃ R : Ending → World → Prop, R = fun e W' => e = .returned (.bool true) ∧ Below w.heap.size w W' := ⟨_, rfl⟩
  rw [← hR]
  have FIN := hide (show ∀ W' W'' l, Sep w.heap.size w W' l → Below W'.heap.size W' W'' → R (.returned (.bool true)) W'' from fun W' W'' l h b => by rw [hR]; exact ⟨rfl, h.be.trans (b.mono h.nw)⟩)
  clear hR
  obtain ⟨Xn, hXn⟩ : ∃ Xn : Nat → Nat, ∀ i, X i = (Xn i : Int) := ⟨fun i => (X i).toNat, fun i => (Int.toNat_of_nonneg (hX.lo i)).symm⟩
  have HXN := hide hXn
  have HXL := hide (show ∀ i, Xn i < 18446744073709551616 from fun i => by have := hX.hi i; rw [hXn i] at this; omega)
  have HX := hide hX
  have HN := hide hn
  have C0 := hide (fnew (Sep.start w))
  have CA := hide awake14
  have d0 : decide ((100 : Int) < (n : Int)) = false := decide_eq_false (by omega)
  have d1 : decide (100 < n) = false := decide_eq_false (by omega)
  have mk : ∀ (t : TypeId) (w : World), (Instr.makeMap t none).run Try.prog w = .ok (.map (some w.heap.size)) (w.alloc (.map #[] 0)) := fun t w => run_makeMap t w
  clear hX hXn hn
  go_enter Try.func5, Try.ntmps5
  go_wp2_with fail
  refine C0.out.mono ?_
  rintro e W1 ⟨s, rfl, h1⟩
  have H2 := hide (met_made h1)
  clear C0 h1
  go_wp2_with fail
  clear mk
  obtain ⟨mb, hmb⟩ : ∃ mb, W1.heap.size = mb := ⟨_, rfl⟩
  obtain ⟨W2, hW2⟩ : ∃ W2, W1.alloc (.map #[] 0) = W2 := ⟨_, rfl⟩
  rw [hmb, hW2] at H2
  rw [hmb, hW2]
  clear hmb hW2
  go_loopw [6, 8] (fun vn vi wr => ∃ (i q : Nat) (L : List On) (M : Nat → Option Unit), vn = .int .i64 (q : Nat) ∧ vi = .int .i64 (i : Nat) ∧ i ≤ n ∧ q ≤ i ∧ Hid (L.length = q ∧ Once Xn i true L M ∧ ∃ c cm, c ≤ 3 * i ∧ cm ≤ i ∧ Sep w.heap.size w wr [tSets s c L, tMet mb cm M])) (fun _ vi _ => n - (zi vi).toNat)
  case atStart => exact ⟨0, 0, [], _, rfl, rfl, by omega, by omega, hide ⟨rfl, Once.start Xn, 0, 0, by omega, by omega, H2.out⟩⟩
  case round =>
    clear H2
    obtain ⟨i, q, L, M, rfl, rfl, hi, hq, HP⟩ := hrel
    have pi : IntKind.i64.wrap ((i : Int) + 1) = (i : Int) + 1 := by rw [IntKind.wrap_i64]; have := HN.out; omega
    have pq : IntKind.i64.wrap ((q : Int) + 1) = (q : Int) + 1 := by rw [IntKind.wrap_i64]; have := HN.out; omega
    by_cases c : i < n
    · have d : decide ((i : Int) < (n : Int)) = true := decide_eq_true (by omega)
      have d' : decide (i < n) = true := decide_eq_true c
      obtain ⟨lq, on, c0, cm, hc, hcm, hs⟩ := HP.out
      have ib := HN.out
      have xb : Xn i < 18446744073709551616 := HXL.out i
      obtain ⟨b0, f0, rfl, hb0, hcell⟩ := HX.out.at (i := i) c
      have CELL := hide (fun W' (bl : Below w.heap.size w W') => show W'.cell? ⟨b0, f0 + i, none⟩ = some (.int .u64 (Xn i : Nat)) from (bl.cell (p := ⟨b0, f0 + i, none⟩) hb0).trans ((hcell i c).trans (by rw [HXN.out i])))
      have cx0 := CELL.out wr hs.be
      have C1 := hide (hs.call 0 (Nat.zero_lt_succ _) rfl (fun F hF => fput hF (by omega) ((i : Int) + 1) (Xn i) 7 true false true (by omega) xb))
      have tw := on.twice (Xn i)
      have ag : argB ((i : Int) + 1) 7 = true := by unfold argB; simp; omega
      unfold putE putL at C1
      rw [ag, tw] at C1
      have ON := hide on
      have LQ := hide lq
      have CB := hide (And.intro hc hcm)
      have XB := hide xb
      have i0 : 0 ≤ (i : Int) := by omega
      have i1 : (i : Int) < (n : Int) := by omega
      cases em : (M (Xn i)).isSome with
      | true =>
        rw [em] at C1
        simp only [if_true, Bool.not_true, Bool.and_false, Bool.false_eq_true, if_false] at C1
        have ML := hide (fun W1 (h : Sep w.heap.size w W1 [tSets s (c0 + 3) L, tMet mb cm M]) => met_look h 1 (Nat.succ_lt_succ (Nat.zero_lt_succ _)) rfl (Xn i) XB.out)
        rw [em] at ML
        obtain ⟨B, hB⟩ : ∃ B : Int, ((Xn i : Nat) : Int) = B := ⟨_, rfl⟩
        rw [hB] at C1 cx0
        simp only [hB] at ML CELL
        clear hB lq on hc hcm hs ib xb hb0 hcell tw ag em HP
        go_wp2_with fail
        refine C1.out.mono ?_
        rintro e W3 ⟨rfl, h3⟩
        have cx := CELL.out W3 h3.be
        have ml := ML.out W3 h3
        have H3 := hide h3
        clear C1 CELL ML cx0 h3
        go_wp2_with fail
        exact ⟨⟨i + 1, q, L, M, rfl, by push_cast; rfl, by omega, by omega, hide ⟨LQ.out, ON.out.skip, c0 + 3, cm, by have := CB.out; omega, by have := CB.out; omega, H3.out⟩⟩, by simp only [zi]; omega⟩
      | false =>
        rw [em] at C1
        simp only [if_true, Bool.not_false, Bool.and_self, Bool.false_eq_true, if_false] at C1
        have ML := hide (fun W1 (h : Sep w.heap.size w W1 [tSets s (c0 + 3) (L ++ [⟨(i : Int) + 1, Xn i, ⟨7, true, false⟩, true⟩]), tMet mb cm M]) => met_look h 1 (Nat.succ_lt_succ (Nat.zero_lt_succ _)) rfl (Xn i) XB.out)
        rw [em] at ML
        have MP := hide (fun W1 (h : Sep w.heap.size w W1 [tSets s (c0 + 3) (L ++ [⟨(i : Int) + 1, Xn i, ⟨7, true, false⟩, true⟩]), tMet mb cm M]) => met_put h 1 (Nat.succ_lt_succ (Nat.zero_lt_succ _)) rfl (by have := CB.out; omega) (Xn i) XB.out)
        obtain ⟨B, hB⟩ : ∃ B : Int, ((Xn i : Nat) : Int) = B := ⟨_, rfl⟩
        rw [hB] at C1 cx0
        simp only [hB] at ML CELL MP
        clear hB lq on hc hcm hs ib xb hb0 hcell tw ag em HP
        go_wp2_with fail
        refine C1.out.mono ?_
        rintro e W3 ⟨rfl, h3⟩
        have cx := CELL.out W3 h3.be
        have ml := ML.out W3 h3
        obtain ⟨W4, r4, h4⟩ := MP.out W3 h3
        have H4 := hide h4
        clear C1 CELL ML cx0 h3 h4 MP
        go_wp2_with fail
        exact ⟨⟨i + 1, q + 1, _, _, by push_cast; rfl, by push_cast; rfl, by omega, by omega, hide ⟨by rw [List.length_append, LQ.out]; rfl, ON.out.more, c0 + 3, cm + 1, by have := CB.out; omega, by have := CB.out; omega, H4.out⟩⟩, by simp only [zi]; omega⟩
    · have d : decide ((i : Int) < (n : Int)) = false := decide_eq_false (by omega)
      have d' : decide (i < n) = false := decide_eq_false c
      obtain rfl : i = n := by omega
      obtain ⟨lq, on, c0, cm, hc, hcm, hs⟩ := HP.out
      have HM : Hid (q ≤ 100) := hide (by have := HN.out; omega)
      have cn : cnt L true = q := by rw [on.cnt_same]; exact lq
      have C2 := hide (hs.call 0 (Nat.zero_lt_succ _) rfl (fun F hF => fcount hF true))
      rw [cn] at C2
      have MJ := hide (fun W1 (h : Sep w.heap.size w W1 [tSets s c0 L, tMet mb cm M]) => (⟨on, by omega, fun z => absurd z (by omega), c0, cm, by have := HN.out; omega, by have := HN.out; omega, h⟩ : Oj w.heap.size w W1 s mb i q 0 Xn true L M 0))
      clear lq on hc hcm hs cn HP
      go_wp2_with fail
      refine C2.out.mono ?_
      rintro e W4 ⟨rfl, h4⟩
      have OJ := hide (MJ.out W4 h4)
      clear C2 h4 MJ
      go_wp2_with fail
      go_loopw [10, 11] (fun va vk wr => ∃ (k la : Nat) (L : List On) (M : Nat → Option Unit), va = .int .u64 (la : Nat) ∧ vk = .int .i64 (k : Nat) ∧ k ≤ q ∧ Hid (Oj w.heap.size w wr s mb i q k Xn true L M la)) (fun _ vk _ => q - (zi vk).toNat)
      case atStart => exact ⟨0, 0, _, _, rfl, rfl, by omega, OJ⟩
      case round =>
        clear OJ
        obtain ⟨k, la, L, M, rfl, rfl, hk, HO⟩ := hrel
        have pk : IntKind.i64.wrap ((k : Int) + 1) = (k : Int) + 1 := by rw [IntKind.wrap_i64]; have := HM.out; omega
        by_cases ck : k < q
        · have dk : decide ((k : Int) < (q : Int)) = true := decide_eq_true (by omega)
          have dk' : decide (k < q) = true := decide_eq_true ck
          obtain ⟨x, j, e1, e2, e3, e4, e5, e6, fin⟩ := HO.out.pick ck
          have FN := hide fin
          have HO1 := HO.out.o
          obtain ⟨c, cm, hc, hcm, hs⟩ := HO.out.sep
          have un := HO1.uns
          have ok := HO.out.ok
          have xm : x ∈ L := by
            have := low_ok (fits ⟨7, true, false⟩ true) L
            rw [e1] at this
            exact this.1
          obtain ⟨g1, g2⟩ := remove_gone ok xm
          have xb : Xn j < 18446744073709551616 := HXL.out j
          obtain ⟨b0, f0, rfl, hb0, hcell⟩ := HX.out.at (i := j) e3
          have CELL := hide (fun W' (bl : Below w.heap.size w W') => show W'.cell? ⟨b0, f0 + j, none⟩ = some (.int .u64 (Xn j : Nat)) from (bl.cell (p := ⟨b0, f0 + j, none⟩) hb0).trans ((hcell j e3).trans (by rw [HXN.out j])))
          have C1 := hide (hs.call 0 (Nat.zero_lt_succ _) rfl (fun F hF => fleast hF))
          rw [un, if_pos rfl, show lowI none = 0 from rfl, show (none : Option On).isSome = false from rfl] at C1
          have C2 := hide (fun W1 (h : Sep w.heap.size w W1 [tSets s c L, tMet mb cm M]) => h.call 0 (Nat.zero_lt_succ _) rfl (fun F hF => ftake hF (by omega) 7 true false true (by decide)))
          rw [e1, show lowI (some x) = x.id from rfl, show (some x).isSome = true from rfl, show takeL L (some x) = L.erase x from rfl, e2] at C2
          have ML := hide (fun W1 (h : Sep w.heap.size w W1 [tSets s c (L.erase x), tMet mb cm M]) => met_look h 1 (Nat.succ_lt_succ (Nat.zero_lt_succ _)) rfl (Xn j) xb)
          rw [e5] at ML
          have MD := hide (fun W1 (h : Sep w.heap.size w W1 [tSets s c (L.erase x), tMet mb cm M]) => met_del h 1 (Nat.succ_lt_succ (Nat.zero_lt_succ _)) rfl (Xn j) xb 0)
          have C3 := hide (fun W1 (h : Sep w.heap.size w W1 [tSets s c (L.erase x), tMet mb cm (fun q => if q = Xn j then none else M q)]) => h.call 0 (Nat.zero_lt_succ _) rfl (fun F hF => fremove hF (by omega) ((j : Int) + 1) (by have := HN.out; omega)))
          rw [← e2, g1, g2, e2] at C3
          have FIN2 := hide (fun W1 (h : Sep w.heap.size w W1 [tSets s c (L.erase x), tMet mb cm (fun q => if q = Xn j then none else M q)]) => FN.out W1 ⟨c, cm, hc, hcm, h⟩)
          have t1 : decide ((j : Int) + 1 < 1) = false := decide_eq_false (by omega)
          have t2 : decide ((i : Int) < (j : Int) + 1) = false := decide_eq_false (by omega)
          have pj : IntKind.i64.wrap ((j : Int) + 1 - 1) = (j : Int) := by rw [IntKind.wrap_i64]; have := HN.out; omega
          have j0 : 0 ≤ (j : Int) := by omega
          have j1 : (j : Int) < (i : Int) := by omega
          have j2 : j < i := e3
          have j3 : decide ((j : Int) < (i : Int)) = true := decide_eq_true (by omega)
          have E6 := hide e6
          obtain ⟨B, hB⟩ : ∃ B : Int, ((Xn j : Nat) : Int) = B := ⟨_, rfl⟩
          have HB := hide hB
          simp only [hB] at CELL ML MD
          obtain ⟨la', hla⟩ : ∃ q : Int, (la : Int) = q := ⟨_, rfl⟩
          have HLA := hide hla
          have ez : (j : Int) + 1 - 1 = (j : Int) := by omega
          have pw : wrap64 (j : Int) = (j : Int) := by unfold wrap64; have := HN.out; omega
          rw [hla]
          clear hB hla e1 e2 e4 e5 e6 fin HO1 hs un ok xm g1 g2 xb hb0 hcell FN
          go_wp2_with fail
          refine C1.out.mono ?_
          rintro e W1 ⟨rfl, h1⟩
          have D2 := hide (C2.out W1 h1)
          clear C1 C2 h1
          go_wp2_with fail
          refine D2.out.mono ?_
          rintro e W2 ⟨rfl, h2⟩
          have cx := CELL.out W2 h2.be
          have ml := ML.out W2 h2
          obtain ⟨W3, r3, h3⟩ := MD.out W2 h2
          have cx3 := CELL.out W3 h3.be
          have D3 := hide (C3.out W3 h3)
          have R3 := hide r3
          clear D2 ML MD CELL C3 h2 h3 r3
          by_cases k0 : k = 0
          · subst k0
            have r3 := R3.out
            go_wp2_with fail
            refine D3.out.mono ?_
            rintro e W4 ⟨rfl, h4⟩
            have O4 := hide (FIN2.out W4 h4)
            clear D3 FIN2 r3 R3 h4 ml cx
            go_wp2_with fail
            exact ⟨⟨_, _, _, _, by rw [← HB.out], by push_cast; rfl, by omega, O4⟩, by simp only [zi]; omega⟩
          · have q0 : decide ((0 : Int) < (k : Int)) = true := decide_eq_true (by omega)
            have q0' : decide (0 < k) = true := decide_eq_true (by omega)
            have q1 : decide (B ≤ la') = false := decide_eq_false (by have := E6.out (by omega); have := HB.out; have := HLA.out; omega)
            have r3 := R3.out
            go_wp2_with fail
            refine D3.out.mono ?_
            rintro e W4 ⟨rfl, h4⟩
            have O4 := hide (FIN2.out W4 h4)
            clear D3 FIN2 r3 R3 h4 ml cx
            go_wp2_with fail
            exact ⟨⟨_, _, _, _, by rw [← HB.out], by push_cast; rfl, by omega, O4⟩, by simp only [zi]; omega⟩
        · have dk : decide ((k : Int) < (q : Int)) = false := decide_eq_false (by omega)
          have dk' : decide (k < q) = false := decide_eq_false ck
          have el : L = [] := List.length_eq_zero_iff.1 (by have := HO.out.len; omega)
          obtain ⟨c, cm, hc, hcm, hs⟩ := HO.out.sep
          rw [el] at hs
          have C1 := hide (hs.call 0 (Nat.zero_lt_succ _) rfl (fun F hF => ftake hF (by omega) 7 true false true (by decide)))
          rw [show low (fits ⟨7, true, false⟩ true) [] = none from rfl] at C1
          rw [show lowI none = 0 from rfl, show takeL [] none = [] from rfl, show (none : Option On).isSome = false from rfl] at C1
          have C2 := hide (fun W1 (h : Sep w.heap.size w W1 [tSets s c [], tMet mb cm M]) => h.call 0 (Nat.zero_lt_succ _) rfl (fun F hF => fcount hF true))
          have C3 := hide (fun W1 (h : Sep w.heap.size w W1 [tSets s c [], tMet mb cm M]) => h.call 0 (Nat.zero_lt_succ _) rfl (fun F hF => fcount hF false))
          rw [show ((cnt [] true : Nat) : Int) = 0 from rfl] at C2
          rw [show ((cnt [] false : Nat) : Int) = 0 from rfl] at C3
          clear hs el HO
          go_wp2_with fail
          refine C1.out.mono ?_
          rintro e W1 ⟨rfl, h1⟩
          have D2 := hide (C2.out W1 h1)
          clear C1 C2 h1
          go_wp2_with fail
          refine D2.out.mono ?_
          rintro e W2 ⟨rfl, h2⟩
          have D3 := hide (C3.out W2 h2)
          clear D2 C3 h2
          go_wp2_with fail
          refine D3.out.mono ?_
          rintro e W3 ⟨rfl, h3⟩
          have H3 := hide h3
          clear D3 h3
          go_wp2_with fail
          refine (CA.out W3).mono ?_
          rintro e W4 ⟨rfl, b4⟩
          have FF := hide (FIN.out W3 W4 _ H3.out b4)
          clear CA b4 FIN H3
          go_wp2_with fail
          first | exact FF.out | (go_ret; exact FF.out)
set_option maxRecDepth 100000 in
set_option maxHeartbeats 4000000 in
theorem once_flip (o : Option Addr) (n cap : Nat) (hn : n ≤ 100) (w : World) (X : Nat → Int) (hX : U64At w o n cap X) :
    Calls Try.prog 5 #[.slice o n cap, .bool true] w fun e W' => e = .returned (.bool true) ∧ Below w.heap.size w W' := by
  obtain ⟨R, hR⟩ : ∃ R : Ending → World → Prop, R = fun e W' => e = .returned (.bool true) ∧ Below w.heap.size w W' := ⟨_, rfl⟩
  rw [← hR]
  have FIN := hide (show ∀ W' W'' l, Sep w.heap.size w W' l → Below W'.heap.size W' W'' → R (.returned (.bool true)) W'' from fun W' W'' l h b => by rw [hR]; exact ⟨rfl, h.be.trans (b.mono h.nw)⟩)
  clear hR
  obtain ⟨Xn, hXn⟩ : ∃ Xn : Nat → Nat, ∀ i, X i = (Xn i : Int) := ⟨fun i => (X i).toNat, fun i => (Int.toNat_of_nonneg (hX.lo i)).symm⟩
  have HXN := hide hXn
  have HXL := hide (show ∀ i, Xn i < 18446744073709551616 from fun i => by have := hX.hi i; rw [hXn i] at this; omega)
  have HX := hide hX
  have HN := hide hn
  have C0 := hide (fnew (Sep.start w))
  have CA := hide awake14
  have d0 : decide ((100 : Int) < (n : Int)) = false := decide_eq_false (by omega)
  have d1 : decide (100 < n) = false := decide_eq_false (by omega)
  have mk : ∀ (t : TypeId) (w : World), (Instr.makeMap t none).run Try.prog w = .ok (.map (some w.heap.size)) (w.alloc (.map #[] 0)) := fun t w => run_makeMap t w
  clear hX hXn hn
  go_enter Try.func5, Try.ntmps5
  go_wp2_with fail
  refine C0.out.mono ?_
  rintro e W1 ⟨s, rfl, h1⟩
  have H2 := hide (met_made h1)
  clear C0 h1
  go_wp2_with fail
  clear mk
  obtain ⟨mb, hmb⟩ : ∃ mb, W1.heap.size = mb := ⟨_, rfl⟩
  obtain ⟨W2, hW2⟩ : ∃ W2, W1.alloc (.map #[] 0) = W2 := ⟨_, rfl⟩
  rw [hmb, hW2] at H2
  rw [hmb, hW2]
  clear hmb hW2
  go_loopw [6, 8] (fun vn vi wr => ∃ (i q : Nat) (L : List On) (M : Nat → Option Unit), vn = .int .i64 (q : Nat) ∧ vi = .int .i64 (i : Nat) ∧ i ≤ n ∧ q ≤ i ∧ Hid (L.length = q ∧ Once Xn i true L M ∧ ∃ c cm, c ≤ 3 * i ∧ cm ≤ i ∧ Sep w.heap.size w wr [tSets s c L, tMet mb cm M])) (fun _ vi _ => n - (zi vi).toNat)
  case atStart => exact ⟨0, 0, [], _, rfl, rfl, by omega, by omega, hide ⟨rfl, Once.start Xn, 0, 0, by omega, by omega, H2.out⟩⟩
  case round =>
    clear H2
    obtain ⟨i, q, L, M, rfl, rfl, hi, hq, HP⟩ := hrel
    have pi : IntKind.i64.wrap ((i : Int) + 1) = (i : Int) + 1 := by rw [IntKind.wrap_i64]; have := HN.out; omega
    have pq : IntKind.i64.wrap ((q : Int) + 1) = (q : Int) + 1 := by rw [IntKind.wrap_i64]; have := HN.out; omega
    by_cases c : i < n
    · have d : decide ((i : Int) < (n : Int)) = true := decide_eq_true (by omega)
      have d' : decide (i < n) = true := decide_eq_true c
      obtain ⟨lq, on, c0, cm, hc, hcm, hs⟩ := HP.out
      have ib := HN.out
      have xb : Xn i < 18446744073709551616 := HXL.out i
      obtain ⟨b0, f0, rfl, hb0, hcell⟩ := HX.out.at (i := i) c
      have CELL := hide (fun W' (bl : Below w.heap.size w W') => show W'.cell? ⟨b0, f0 + i, none⟩ = some (.int .u64 (Xn i : Nat)) from (bl.cell (p := ⟨b0, f0 + i, none⟩) hb0).trans ((hcell i c).trans (by rw [HXN.out i])))
      have cx0 := CELL.out wr hs.be
      have C1 := hide (hs.call 0 (Nat.zero_lt_succ _) rfl (fun F hF => fput hF (by omega) ((i : Int) + 1) (Xn i) 7 true false true (by omega) xb))
      have tw := on.twice (Xn i)
      have ag : argB ((i : Int) + 1) 7 = true := by unfold argB; simp; omega
      unfold putE putL at C1
      rw [ag, tw] at C1
      have ON := hide on
      have LQ := hide lq
      have CB := hide (And.intro hc hcm)
      have XB := hide xb
      have i0 : 0 ≤ (i : Int) := by omega
      have i1 : (i : Int) < (n : Int) := by omega
      cases em : (M (Xn i)).isSome with
      | true =>
        rw [em] at C1
        simp only [if_true, Bool.not_true, Bool.and_false, Bool.false_eq_true, if_false] at C1
        have ML := hide (fun W1 (h : Sep w.heap.size w W1 [tSets s (c0 + 3) L, tMet mb cm M]) => met_look h 1 (Nat.succ_lt_succ (Nat.zero_lt_succ _)) rfl (Xn i) XB.out)
        rw [em] at ML
        obtain ⟨B, hB⟩ : ∃ B : Int, ((Xn i : Nat) : Int) = B := ⟨_, rfl⟩
        rw [hB] at C1 cx0
        simp only [hB] at ML CELL
        clear hB lq on hc hcm hs ib xb hb0 hcell tw ag em HP
        go_wp2_with fail
        refine C1.out.mono ?_
        rintro e W3 ⟨rfl, h3⟩
        have cx := CELL.out W3 h3.be
        have ml := ML.out W3 h3
        have H3 := hide h3
        clear C1 CELL ML cx0 h3
        go_wp2_with fail
        exact ⟨⟨i + 1, q, L, M, rfl, by push_cast; rfl, by omega, by omega, hide ⟨LQ.out, ON.out.skip, c0 + 3, cm, by have := CB.out; omega, by have := CB.out; omega, H3.out⟩⟩, by simp only [zi]; omega⟩
      | false =>
        rw [em] at C1
        simp only [if_true, Bool.not_false, Bool.and_self, Bool.false_eq_true, if_false] at C1
        have ML := hide (fun W1 (h : Sep w.heap.size w W1 [tSets s (c0 + 3) (L ++ [⟨(i : Int) + 1, Xn i, ⟨7, true, false⟩, true⟩]), tMet mb cm M]) => met_look h 1 (Nat.succ_lt_succ (Nat.zero_lt_succ _)) rfl (Xn i) XB.out)
        rw [em] at ML
        have MP := hide (fun W1 (h : Sep w.heap.size w W1 [tSets s (c0 + 3) (L ++ [⟨(i : Int) + 1, Xn i, ⟨7, true, false⟩, true⟩]), tMet mb cm M]) => met_put h 1 (Nat.succ_lt_succ (Nat.zero_lt_succ _)) rfl (by have := CB.out; omega) (Xn i) XB.out)
        obtain ⟨B, hB⟩ : ∃ B : Int, ((Xn i : Nat) : Int) = B := ⟨_, rfl⟩
        rw [hB] at C1 cx0
        simp only [hB] at ML CELL MP
        clear hB lq on hc hcm hs ib xb hb0 hcell tw ag em HP
        go_wp2_with fail
        refine C1.out.mono ?_
        rintro e W3 ⟨rfl, h3⟩
        have cx := CELL.out W3 h3.be
        have ml := ML.out W3 h3
        obtain ⟨W4, r4, h4⟩ := MP.out W3 h3
        have H4 := hide h4
        clear C1 CELL ML cx0 h3 h4 MP
        go_wp2_with fail
        exact ⟨⟨i + 1, q + 1, _, _, by push_cast; rfl, by push_cast; rfl, by omega, by omega, hide ⟨by rw [List.length_append, LQ.out]; rfl, ON.out.more, c0 + 3, cm + 1, by have := CB.out; omega, by have := CB.out; omega, H4.out⟩⟩, by simp only [zi]; omega⟩
    · have d : decide ((i : Int) < (n : Int)) = false := decide_eq_false (by omega)
      have d' : decide (i < n) = false := decide_eq_false c
      obtain rfl : i = n := by omega
      obtain ⟨lq, on, c0, cm, hc, hcm, hs⟩ := HP.out
      have HM : Hid (q ≤ 100) := hide (by have := HN.out; omega)
      have C1 := hide (hs.call 0 (Nat.zero_lt_succ _) rfl (fun F hF => fflip hF))
      have al : allS L = true := by rw [on.all]; rfl
      unfold flipE flipL at C1
      rw [al, if_pos rfl, if_pos rfl] at C1
      obtain ⟨L2, hL2⟩ : ∃ L2, (L.map fun x => { x with sw := false }) = L2 := ⟨_, rfl⟩
      rw [hL2] at C1
      have on2 := on.flip
      rw [hL2] at on2
      have lq2 : L2.length = q := by rw [← hL2, List.length_map]; exact lq
      have cn : cnt L2 false = q := by rw [on2.cnt_same]; exact lq2
      have C2 := hide (fun W1 (h : Sep w.heap.size w W1 [tSets s c0 L2, tMet mb cm M]) => h.call 0 (Nat.zero_lt_succ _) rfl (fun F hF => fcount hF false))
      rw [cn] at C2
      have C3 := hide (fun (hq0 : 0 < q) W1 (h : Sep w.heap.size w W1 [tSets s c0 L2, tMet mb cm M]) => show Calls Try.prog 13 #[.pointer (some ⟨s, 0, none⟩)] W1 fun e W' => e = .returned (.int .i64 33) ∧ Sep w.heap.size w W' [tSets s c0 L2, tMet mb cm M] from by
        have := h.call 0 (Nat.zero_lt_succ _) rfl (fun F hF => fflip hF)
        have al2 : allS L2 = false := by
          rw [on2.all]
          cases L2 with
          | nil => simp at lq2; omega
          | cons _ _ => rfl
        unfold flipE flipL at this
        rw [al2, if_neg (by simp), if_neg (by simp)] at this
        exact this)
      have MJ := hide (fun W1 (h : Sep w.heap.size w W1 [tSets s c0 L2, tMet mb cm M]) => (⟨on2, by omega, fun z => absurd z (by omega), c0, cm, by have := HN.out; omega, by have := HN.out; omega, h⟩ : Oj w.heap.size w W1 s mb i q 0 Xn false L2 M 0))
      clear lq on hc hcm hs al hL2 on2 lq2 cn HP
      go_wp2_with fail
      refine C1.out.mono ?_
      rintro e W3 ⟨rfl, h3⟩
      have D2 := hide (C2.out W3 h3)
      clear C1 C2 h3
      go_wp2_with fail
      refine D2.out.mono ?_
      rintro e W4 ⟨rfl, h4⟩
      have H4 := hide h4
      clear D2 h4
      obtain ⟨n, hin⟩ : ∃ n, i = n := ⟨_, rfl⟩
      obtain ⟨m, hqm⟩ : ∃ m, q = m := ⟨_, rfl⟩
      subst hin
      subst hqm
      by_cases q0 : 0 < q
      · have e0 : decide ((0 : Int) < (q : Int)) = true := decide_eq_true (by omega)
        have e0' : decide (0 < q) = true := decide_eq_true q0
        have D3 := hide (C3.out q0 W4 H4.out)
        clear C3 H4
        go_wp2_with fail
        refine D3.out.mono ?_
        rintro e W5 ⟨rfl, h5⟩
        have OJ := hide (MJ.out W5 h5)
        clear D3 h5 MJ
        go_wp2_with fail
        go_loopw [10, 11] (fun va vk wr => ∃ (k la : Nat) (L : List On) (M : Nat → Option Unit), va = .int .u64 (la : Nat) ∧ vk = .int .i64 (k : Nat) ∧ k ≤ q ∧ Hid (Oj w.heap.size w wr s mb i q k Xn false L M la)) (fun _ vk _ => q - (zi vk).toNat)
        case atStart => exact ⟨0, 0, _, _, rfl, rfl, by omega, OJ⟩
        case round =>
          clear OJ
          obtain ⟨k, la, L, M, rfl, rfl, hk, HO⟩ := hrel
          have pk : IntKind.i64.wrap ((k : Int) + 1) = (k : Int) + 1 := by rw [IntKind.wrap_i64]; have := HM.out; omega
          by_cases ck : k < q
          · have dk : decide ((k : Int) < (q : Int)) = true := decide_eq_true (by omega)
            have dk' : decide (k < q) = true := decide_eq_true ck
            obtain ⟨x, j, e1, e2, e3, e4, e5, e6, fin⟩ := HO.out.pick ck
            have FN := hide fin
            have HO1 := HO.out.o
            obtain ⟨c, cm, hc, hcm, hs⟩ := HO.out.sep
            have un := HO1.uns
            have ok := HO.out.ok
            have xm : x ∈ L := by
              have := low_ok (fits ⟨7, true, false⟩ false) L
              rw [e1] at this
              exact this.1
            obtain ⟨g1, g2⟩ := remove_gone ok xm
            have xb : Xn j < 18446744073709551616 := HXL.out j
            obtain ⟨b0, f0, rfl, hb0, hcell⟩ := HX.out.at (i := j) e3
            have CELL := hide (fun W' (bl : Below w.heap.size w W') => show W'.cell? ⟨b0, f0 + j, none⟩ = some (.int .u64 (Xn j : Nat)) from (bl.cell (p := ⟨b0, f0 + j, none⟩) hb0).trans ((hcell j e3).trans (by rw [HXN.out j])))
            have C1 := hide (hs.call 0 (Nat.zero_lt_succ _) rfl (fun F hF => fleast hF))
            rw [un, if_neg (by simp), e1, show lowI (some x) = x.id from rfl, show (some x).isSome = true from rfl, e2] at C1
            have C2 := hide (fun W1 (h : Sep w.heap.size w W1 [tSets s c L, tMet mb cm M]) => h.call 0 (Nat.zero_lt_succ _) rfl (fun F hF => ftake hF (by omega) 7 true false false (by decide)))
            rw [e1, show lowI (some x) = x.id from rfl, show (some x).isSome = true from rfl, show takeL L (some x) = L.erase x from rfl, e2] at C2
            have ML := hide (fun W1 (h : Sep w.heap.size w W1 [tSets s c (L.erase x), tMet mb cm M]) => met_look h 1 (Nat.succ_lt_succ (Nat.zero_lt_succ _)) rfl (Xn j) xb)
            rw [e5] at ML
            have MD := hide (fun W1 (h : Sep w.heap.size w W1 [tSets s c (L.erase x), tMet mb cm M]) => met_del h 1 (Nat.succ_lt_succ (Nat.zero_lt_succ _)) rfl (Xn j) xb 0)
            have C3 := hide (fun W1 (h : Sep w.heap.size w W1 [tSets s c (L.erase x), tMet mb cm (fun q => if q = Xn j then none else M q)]) => h.call 0 (Nat.zero_lt_succ _) rfl (fun F hF => fremove hF (by omega) ((j : Int) + 1) (by have := HN.out; omega)))
            rw [← e2, g1, g2, e2] at C3
            have FIN2 := hide (fun W1 (h : Sep w.heap.size w W1 [tSets s c (L.erase x), tMet mb cm (fun q => if q = Xn j then none else M q)]) => FN.out W1 ⟨c, cm, hc, hcm, h⟩)
            have t1 : decide ((j : Int) + 1 < 1) = false := decide_eq_false (by omega)
            have t2 : decide ((i : Int) < (j : Int) + 1) = false := decide_eq_false (by omega)
            have pj : IntKind.i64.wrap ((j : Int) + 1 - 1) = (j : Int) := by rw [IntKind.wrap_i64]; have := HN.out; omega
            have j0 : 0 ≤ (j : Int) := by omega
            have j1 : (j : Int) < (i : Int) := by omega
            have j2 : j < i := e3
            have j3 : decide ((j : Int) < (i : Int)) = true := decide_eq_true (by omega)
            have E6 := hide e6
            obtain ⟨B, hB⟩ : ∃ B : Int, ((Xn j : Nat) : Int) = B := ⟨_, rfl⟩
            have HB := hide hB
            simp only [hB] at CELL ML MD
            obtain ⟨la', hla⟩ : ∃ q : Int, (la : Int) = q := ⟨_, rfl⟩
            have HLA := hide hla
            have ez : (j : Int) + 1 - 1 = (j : Int) := by omega
            have pw : wrap64 (j : Int) = (j : Int) := by unfold wrap64; have := HN.out; omega
            rw [hla]
            clear hB hla e1 e2 e4 e5 e6 fin HO1 hs un ok xm g1 g2 xb hb0 hcell FN
            go_wp2_with fail
            refine C1.out.mono ?_
            rintro e W1 ⟨rfl, h1⟩
            have D2 := hide (C2.out W1 h1)
            clear C1 C2 h1
            go_wp2_with fail
            refine D2.out.mono ?_
            rintro e W2 ⟨rfl, h2⟩
            have cx := CELL.out W2 h2.be
            have ml := ML.out W2 h2
            obtain ⟨W3, r3, h3⟩ := MD.out W2 h2
            have cx3 := CELL.out W3 h3.be
            have D3 := hide (C3.out W3 h3)
            have R3 := hide r3
            clear D2 ML MD CELL C3 h2 h3 r3
            by_cases k0 : k = 0
            · subst k0
              have r3 := R3.out
              go_wp2_with fail
              refine D3.out.mono ?_
              rintro e W4 ⟨rfl, h4⟩
              have O4 := hide (FIN2.out W4 h4)
              clear D3 FIN2 r3 R3 h4 ml cx
              go_wp2_with fail
              exact ⟨⟨_, _, _, _, by rw [← HB.out], by push_cast; rfl, by omega, O4⟩, by simp only [zi]; omega⟩
            · have q0 : decide ((0 : Int) < (k : Int)) = true := decide_eq_true (by omega)
              have q0' : decide (0 < k) = true := decide_eq_true (by omega)
              have q1 : decide (B ≤ la') = false := decide_eq_false (by have := E6.out (by omega); have := HB.out; have := HLA.out; omega)
              have r3 := R3.out
              go_wp2_with fail
              refine D3.out.mono ?_
              rintro e W4 ⟨rfl, h4⟩
              have O4 := hide (FIN2.out W4 h4)
              clear D3 FIN2 r3 R3 h4 ml cx
              go_wp2_with fail
              exact ⟨⟨_, _, _, _, by rw [← HB.out], by push_cast; rfl, by omega, O4⟩, by simp only [zi]; omega⟩
          · have dk : decide ((k : Int) < (q : Int)) = false := decide_eq_false (by omega)
            have dk' : decide (k < q) = false := decide_eq_false ck
            have el : L = [] := List.length_eq_zero_iff.1 (by have := HO.out.len; omega)
            obtain ⟨c, cm, hc, hcm, hs⟩ := HO.out.sep
            rw [el] at hs
            have C1 := hide (hs.call 0 (Nat.zero_lt_succ _) rfl (fun F hF => ftake hF (by omega) 7 true false false (by decide)))
            rw [show low (fits ⟨7, true, false⟩ false) [] = none from rfl] at C1
            rw [show lowI none = 0 from rfl, show takeL [] none = [] from rfl, show (none : Option On).isSome = false from rfl] at C1
            have C2 := hide (fun W1 (h : Sep w.heap.size w W1 [tSets s c [], tMet mb cm M]) => h.call 0 (Nat.zero_lt_succ _) rfl (fun F hF => fcount hF true))
            have C3 := hide (fun W1 (h : Sep w.heap.size w W1 [tSets s c [], tMet mb cm M]) => h.call 0 (Nat.zero_lt_succ _) rfl (fun F hF => fcount hF false))
            rw [show ((cnt [] true : Nat) : Int) = 0 from rfl] at C2
            rw [show ((cnt [] false : Nat) : Int) = 0 from rfl] at C3
            clear hs el HO
            go_wp2_with fail
            refine C1.out.mono ?_
            rintro e W1 ⟨rfl, h1⟩
            have D2 := hide (C2.out W1 h1)
            clear C1 C2 h1
            go_wp2_with fail
            refine D2.out.mono ?_
            rintro e W2 ⟨rfl, h2⟩
            have D3 := hide (C3.out W2 h2)
            clear D2 C3 h2
            go_wp2_with fail
            refine D3.out.mono ?_
            rintro e W3 ⟨rfl, h3⟩
            have H3 := hide h3
            clear D3 h3
            go_wp2_with fail
            refine (CA.out W3).mono ?_
            rintro e W4 ⟨rfl, b4⟩
            have FF := hide (FIN.out W3 W4 _ H3.out b4)
            clear CA b4 FIN H3
            go_wp2_with fail
            first | exact FF.out | (go_ret; exact FF.out)
      · have e0 : decide ((0 : Int) < (q : Int)) = false := decide_eq_false (by omega)
        have e0' : decide (0 < q) = false := decide_eq_false q0
        have OJ := hide (MJ.out W4 H4.out)
        clear C3 H4 MJ
        go_wp2_with fail
        go_loopw [10, 11] (fun va vk wr => ∃ (k la : Nat) (L : List On) (M : Nat → Option Unit), va = .int .u64 (la : Nat) ∧ vk = .int .i64 (k : Nat) ∧ k ≤ q ∧ Hid (Oj w.heap.size w wr s mb i q k Xn false L M la)) (fun _ vk _ => q - (zi vk).toNat)
        case atStart => exact ⟨0, 0, _, _, rfl, rfl, by omega, OJ⟩
        case round =>
          clear OJ
          obtain ⟨k, la, L, M, rfl, rfl, hk, HO⟩ := hrel
          have pk : IntKind.i64.wrap ((k : Int) + 1) = (k : Int) + 1 := by rw [IntKind.wrap_i64]; have := HM.out; omega
          by_cases ck : k < q
          · have dk : decide ((k : Int) < (q : Int)) = true := decide_eq_true (by omega)
            have dk' : decide (k < q) = true := decide_eq_true ck
            obtain ⟨x, j, e1, e2, e3, e4, e5, e6, fin⟩ := HO.out.pick ck
            have FN := hide fin
            have HO1 := HO.out.o
            obtain ⟨c, cm, hc, hcm, hs⟩ := HO.out.sep
            have un := HO1.uns
            have ok := HO.out.ok
            have xm : x ∈ L := by
              have := low_ok (fits ⟨7, true, false⟩ false) L
              rw [e1] at this
              exact this.1
            obtain ⟨g1, g2⟩ := remove_gone ok xm
            have xb : Xn j < 18446744073709551616 := HXL.out j
            obtain ⟨b0, f0, rfl, hb0, hcell⟩ := HX.out.at (i := j) e3
            have CELL := hide (fun W' (bl : Below w.heap.size w W') => show W'.cell? ⟨b0, f0 + j, none⟩ = some (.int .u64 (Xn j : Nat)) from (bl.cell (p := ⟨b0, f0 + j, none⟩) hb0).trans ((hcell j e3).trans (by rw [HXN.out j])))
            have C1 := hide (hs.call 0 (Nat.zero_lt_succ _) rfl (fun F hF => fleast hF))
            rw [un, if_neg (by simp), e1, show lowI (some x) = x.id from rfl, show (some x).isSome = true from rfl, e2] at C1
            have C2 := hide (fun W1 (h : Sep w.heap.size w W1 [tSets s c L, tMet mb cm M]) => h.call 0 (Nat.zero_lt_succ _) rfl (fun F hF => ftake hF (by omega) 7 true false false (by decide)))
            rw [e1, show lowI (some x) = x.id from rfl, show (some x).isSome = true from rfl, show takeL L (some x) = L.erase x from rfl, e2] at C2
            have ML := hide (fun W1 (h : Sep w.heap.size w W1 [tSets s c (L.erase x), tMet mb cm M]) => met_look h 1 (Nat.succ_lt_succ (Nat.zero_lt_succ _)) rfl (Xn j) xb)
            rw [e5] at ML
            have MD := hide (fun W1 (h : Sep w.heap.size w W1 [tSets s c (L.erase x), tMet mb cm M]) => met_del h 1 (Nat.succ_lt_succ (Nat.zero_lt_succ _)) rfl (Xn j) xb 0)
            have C3 := hide (fun W1 (h : Sep w.heap.size w W1 [tSets s c (L.erase x), tMet mb cm (fun q => if q = Xn j then none else M q)]) => h.call 0 (Nat.zero_lt_succ _) rfl (fun F hF => fremove hF (by omega) ((j : Int) + 1) (by have := HN.out; omega)))
            rw [← e2, g1, g2, e2] at C3
            have FIN2 := hide (fun W1 (h : Sep w.heap.size w W1 [tSets s c (L.erase x), tMet mb cm (fun q => if q = Xn j then none else M q)]) => FN.out W1 ⟨c, cm, hc, hcm, h⟩)
            have t1 : decide ((j : Int) + 1 < 1) = false := decide_eq_false (by omega)
            have t2 : decide ((i : Int) < (j : Int) + 1) = false := decide_eq_false (by omega)
            have pj : IntKind.i64.wrap ((j : Int) + 1 - 1) = (j : Int) := by rw [IntKind.wrap_i64]; have := HN.out; omega
            have j0 : 0 ≤ (j : Int) := by omega
            have j1 : (j : Int) < (i : Int) := by omega
            have j2 : j < i := e3
            have j3 : decide ((j : Int) < (i : Int)) = true := decide_eq_true (by omega)
            have E6 := hide e6
            obtain ⟨B, hB⟩ : ∃ B : Int, ((Xn j : Nat) : Int) = B := ⟨_, rfl⟩
            have HB := hide hB
            simp only [hB] at CELL ML MD
            obtain ⟨la', hla⟩ : ∃ q : Int, (la : Int) = q := ⟨_, rfl⟩
            have HLA := hide hla
            have ez : (j : Int) + 1 - 1 = (j : Int) := by omega
            have pw : wrap64 (j : Int) = (j : Int) := by unfold wrap64; have := HN.out; omega
            rw [hla]
            clear hB hla e1 e2 e4 e5 e6 fin HO1 hs un ok xm g1 g2 xb hb0 hcell FN
            go_wp2_with fail
            refine C1.out.mono ?_
            rintro e W1 ⟨rfl, h1⟩
            have D2 := hide (C2.out W1 h1)
            clear C1 C2 h1
            go_wp2_with fail
            refine D2.out.mono ?_
            rintro e W2 ⟨rfl, h2⟩
            have cx := CELL.out W2 h2.be
            have ml := ML.out W2 h2
            obtain ⟨W3, r3, h3⟩ := MD.out W2 h2
            have cx3 := CELL.out W3 h3.be
            have D3 := hide (C3.out W3 h3)
            have R3 := hide r3
            clear D2 ML MD CELL C3 h2 h3 r3
            by_cases k0 : k = 0
            · subst k0
              have r3 := R3.out
              go_wp2_with fail
              refine D3.out.mono ?_
              rintro e W4 ⟨rfl, h4⟩
              have O4 := hide (FIN2.out W4 h4)
              clear D3 FIN2 r3 R3 h4 ml cx
              go_wp2_with fail
              exact ⟨⟨_, _, _, _, by rw [← HB.out], by push_cast; rfl, by omega, O4⟩, by simp only [zi]; omega⟩
            · have q0 : decide ((0 : Int) < (k : Int)) = true := decide_eq_true (by omega)
              have q0' : decide (0 < k) = true := decide_eq_true (by omega)
              have q1 : decide (B ≤ la') = false := decide_eq_false (by have := E6.out (by omega); have := HB.out; have := HLA.out; omega)
              have r3 := R3.out
              go_wp2_with fail
              refine D3.out.mono ?_
              rintro e W4 ⟨rfl, h4⟩
              have O4 := hide (FIN2.out W4 h4)
              clear D3 FIN2 r3 R3 h4 ml cx
              go_wp2_with fail
              exact ⟨⟨_, _, _, _, by rw [← HB.out], by push_cast; rfl, by omega, O4⟩, by simp only [zi]; omega⟩
          · have dk : decide ((k : Int) < (q : Int)) = false := decide_eq_false (by omega)
            have dk' : decide (k < q) = false := decide_eq_false ck
            have el : L = [] := List.length_eq_zero_iff.1 (by have := HO.out.len; omega)
            obtain ⟨c, cm, hc, hcm, hs⟩ := HO.out.sep
            rw [el] at hs
            have C1 := hide (hs.call 0 (Nat.zero_lt_succ _) rfl (fun F hF => ftake hF (by omega) 7 true false false (by decide)))
            rw [show low (fits ⟨7, true, false⟩ false) [] = none from rfl] at C1
            rw [show lowI none = 0 from rfl, show takeL [] none = [] from rfl, show (none : Option On).isSome = false from rfl] at C1
            have C2 := hide (fun W1 (h : Sep w.heap.size w W1 [tSets s c [], tMet mb cm M]) => h.call 0 (Nat.zero_lt_succ _) rfl (fun F hF => fcount hF true))
            have C3 := hide (fun W1 (h : Sep w.heap.size w W1 [tSets s c [], tMet mb cm M]) => h.call 0 (Nat.zero_lt_succ _) rfl (fun F hF => fcount hF false))
            rw [show ((cnt [] true : Nat) : Int) = 0 from rfl] at C2
            rw [show ((cnt [] false : Nat) : Int) = 0 from rfl] at C3
            clear hs el HO
            go_wp2_with fail
            refine C1.out.mono ?_
            rintro e W1 ⟨rfl, h1⟩
            have D2 := hide (C2.out W1 h1)
            clear C1 C2 h1
            go_wp2_with fail
            refine D2.out.mono ?_
            rintro e W2 ⟨rfl, h2⟩
            have D3 := hide (C3.out W2 h2)
            clear D2 C3 h2
            go_wp2_with fail
            refine D3.out.mono ?_
            rintro e W3 ⟨rfl, h3⟩
            have H3 := hide h3
            clear D3 h3
            go_wp2_with fail
            refine (CA.out W3).mono ?_
            rintro e W4 ⟨rfl, b4⟩
            have FF := hide (FIN.out W3 W4 _ H3.out b4)
            clear CA b4 FIN H3
            go_wp2_with fail
            first | exact FF.out | (go_ret; exact FF.out)
theorem once_int (o : Option Addr) (n cap : Nat) (fl : Bool) (w : World) (X : Nat → Int) (hX : U64At w o n cap X) :
    Calls Try.prog 5 #[.slice o n cap, .bool fl] w fun e W' => e = .returned (.bool true) ∧ Below w.heap.size w W' := by
  by_cases c : 100 < n
  · exact once_long o n cap fl c w
  · cases fl with
    | true => exact once_flip o n cap (by omega) w X hX
    | false => exact once_stay o n cap (by omega) w X hX
end Go.Proofs.Ytdgjlekndhgjfaa
