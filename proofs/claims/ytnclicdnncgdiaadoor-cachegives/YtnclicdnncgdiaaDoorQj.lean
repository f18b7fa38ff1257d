/- CacheGives: what a cache gives. -/
import Derived.Test.YtnclicdnncgdiaaDoorQi
import Derived.Test.YtnclicdnncgdiaaDoorBo
namespace Go.Proofs.YtnclicdnncgdiaaDoor
open Go.ChangeShapes Go.WideShapes Go.ChangeAt Go.RowKit Go.Proofs.Bt Go.Shelf Go.Proofs.Rx Go.Maps Go.Proofs.Pk
set_option linter.unusedVariables false
set_option linter.unusedSimpArgs false

/-- One chunk in use: all its pages are released. -/
def ch1 (C q : Nat) : Nat := if C * 512 ≤ q ∧ q < C * 512 + 512 then 3 else 0
theorem ch1_grow (C : Nat) : setSt (fun _ => 0) (C * 512) (C * 512 + 1 * 512) 3 = ch1 C := by
  funext q
  unfold setSt ch1
  rw [show C * 512 + 1 * 512 = C * 512 + 512 by omega]
theorem ch1_first (C : Nat) : First (ch1 C) 1 (C * 512) := by
  refine ⟨fun q q1 q2 => ?_, fun p hp hR => ?_⟩
  · unfold ch1
    rw [if_pos (by omega)]
    decide
  · have := hR p (Nat.le_refl _) (by omega)
    unfold ch1 at this
    rw [if_neg (by omega)] at this
    omega
theorem ch1_has (C : Nat) : wd (fun j => fre (ch1 C) (C * 512 + j)) 64 = 18446744073709551615 :=
  (wd_of (by decide) fun k hk => by
    unfold fre ch1
    rw [if_pos (by omega), full_bit hk]
    rfl).symm
theorem ch1_gone (C : Nat) : wd (fun j => rel (ch1 C) (C * 512 + j)) 64 = 18446744073709551615 :=
  (wd_of (by decide) fun k hk => by
    unfold rel ch1
    rw [if_pos (by omega), full_bit hk]
    rfl).symm
theorem tell_mid (B H G : Nat) : ∃ x y : Int, tellV B H G = .tuple #[.int .u64 x, .int .u64 (H : Nat), .int .u64 y] := by
  unfold tellV
  by_cases z : H = 0
  · rw [if_pos z, z]; exact ⟨_, _, rfl⟩
  · rw [if_neg z]; exact ⟨_, _, rfl⟩
/-- Between two rounds: what was given the cache has no more. -/
structure GvI (N U tb cb : Nat) (w W : World) (st : Nat → Nat) (H : Nat) (g : Nat → Bool) : Prop where
  c : TC N (fun x => x = cb ∨ x = U) w W tb cb st 2560 H H
  b : BoR W U 64 g
  e : ∀ j, j < 64 → H.testBit j = !g j
  ne : U ≠ cb
  hi : ∀ j, 64 ≤ j → H.testBit j = false
/-- What Alloc has answered. -/
def GvA (N U tb cb : Nat) (w : World) (st : Nat → Nat) (H n : Nat) (p g e : Int) (W : World) : Prop :=
  (∃ a : Nat, Row H a n ∧ (∀ q, q < a → ¬ Row H q n) ∧ a + n ≤ 64 ∧ p = 2560 + (a : Int) ∧ g = (n : Nat) ∧ e = 0 ∧ TC N (fun x => x = cb ∨ x = U) w W tb cb st 2560 (andn H (on1 a n)) (andn H (on1 a n))) ∨
  ((∀ a, ¬ Row H a n) ∧ p = 0 ∧ g = 0 ∧ e = 30 ∧ TC N (fun x => x = cb ∨ x = U) w W tb cb st 2560 H H)
/-- Where the search for a row stands. -/
def GvW (H n : Nat) (k want : Int) : Prop := (want = -1 ∧ ∀ q, q < k.toNat → ¬ Row H q n) ∨ (0 ≤ want ∧ want + 1 = k ∧ Row H want.toNat n ∧ ∀ q, q < want.toNat → ¬ Row H q n)
theorem row_given {H k n : Nat} {g : Nat → Bool} (he : ∀ j, j < 64 → H.testBit j = !g j) (h : k + n ≤ 64) : Row H k n ↔ ∀ j, k ≤ j → j < k + n → g j = false := by
  constructor
  · intro hr j j1 j2
    have := hr (j - k) (by omega)
    rw [show k + (j - k) = j by omega, he j (by omega)] at this
    simpa using this
  · intro hg i hi
    rw [he _ (by omega), hg _ (by omega) (by omega)]
    rfl
theorem cnt_row {H a n : Nat} (h : Row H a n) : cnt H.testBit a n = n := cnt_full.2 h
theorem bit_one {H m : Nat} (hH : H < 18446744073709551616) (h : H.testBit m = true) : bits .and .u64 ((H : Int) / 2 ^ m) 1 = 1 := by
  rw [show ((H : Int) / 2 ^ m) = ((H / 2 ^ m : Nat) : Int) by simp, show (1 : Int) = ((1 : Nat) : Int) from rfl, w_and _ _ (down_lt m hH) (by decide), Nat.and_one_is_mod]
  rw [Nat.testBit_eq_decide_div_mod_eq] at h
  rw [of_decide_eq_true h]
/-- So many of them are given. -/
def gvn (g : Nat → Bool) (a b j : Nat) : Bool := g j || decide (a ≤ j ∧ j < b)
set_option maxRecDepth 100000 in
set_option maxHeartbeats 4000000 in
theorem gives_any (w : World) (ht : TabW w) (o : Option Addr) (len cap : Nat) (hA : len ≤ maxLen ∧ len ≤ cap ∧ ∃ X, IntsAt w o len cap X) :
    Calls Tryd.prog 4 #[.slice o len cap] w fun e w' => e = .returned (.bool true) ∧ Below w.heap.size w w' := by
  obtain ⟨hm, hc, X, hX⟩ := hA
  obtain ⟨N, hN⟩ : ∃ N, w.heap.size = N := ⟨_, rfl⟩
  obtain ⟨R, hR⟩ : ∃ R : Ending → World → Prop, R = fun e w' => e = .returned (.bool true) ∧ Below w.heap.size w w' := ⟨_, rfl⟩
  rw [← hR]
  have FIN := hide (show ∀ W, Below N w W → R (.returned (.bool true)) W from fun W hW => by rw [hR]; exact ⟨rfl, by rw [hN]; exact hW⟩)
  have l0 : 0 ≤ (len : Int) := by omega
  have lm : (len : Int) ≤ 9223372036854775807 := by unfold maxLen at hm; omega
  by_cases hl : 80 < len
  · have F0 := hide (FIN.out w (Below.refl _ _))
    have dl : decide (80 < (len : Int)) = true := decide_eq_true (by omega)
    clear hR hX hN ht FIN hm hc
    go_enter Tryd.func4, Tryd.ntmps4
    go_wp2_with fail
    first | exact F0.out | (go_ret; exact F0.out)
  have dl : decide (80 < (len : Int)) = false := decide_eq_false (by omega)
  have l1 : (len : Int) ≤ 80 := by omega
  have CN := hide (t9_new ht hN)
  have HX := hide hX
  have HN := hide hN
  clear hR hX hm hc hN ht hl
  go_enter Tryd.func4, Tryd.ntmps4
  go_wp2_with fail
  refine CN.out.mono ?_
  rintro e w1 ⟨tb, rfl, t1⟩
  have T1 := hide t1
  have CC := hide (ccNew w1)
  clear CN t1 dl
  go_wp2_with fail
  refine CC.out.mono ?_
  rintro e w2 ⟨rfl, hw2⟩
  obtain ⟨cb, hcb⟩ : ∃ cb, w1.heap.size = cb := ⟨_, rfl⟩
  have S2 := hide (tc_new (cb := cb) T1.out hw2 hcb.symm)
  have CG := hide (t9_grow S2.out.t 5 1 (by unfold GrowBad; omega) (by rw [tl_all (s := 0) fun q _ _ => rfl]; rfl))
  simp only [Int.cast_ofNat_Int] at CG
  rw [ch1_grow] at CG
  rw [hcb]
  clear CC hw2 T1 hcb
  go_wp2_with fail
  refine CG.out.mono ?_
  rintro e w3 ⟨rfl, t3, l3⟩
  have S3 := hide (S2.out.tree t3 l3)
  have CF := hide (tc_fill S3.out (5 * 512) (ch1_first 5))
  rw [show 5 * 512 / 64 * 64 = 5 * 512 from rfl, ch1_has, ch1_gone, show 5 * 512 = 2560 from rfl] at CF
  clear CG t3 l3 S2
  go_wp2_with fail
  refine CF.out.mono ?_
  rintro e w4 ⟨rfl, s4, -⟩
  obtain ⟨st, hst⟩ : ∃ st, fillS (ch1 5) 2560 64 = st := ⟨_, rfl⟩
  rw [hst] at s4
  have HST := hide (show ∀ j, j < 64 → st (2560 + j) = 1 from fun j hj => by
    rw [← hst]
    unfold fillS ch1
    rw [if_pos ⟨by omega, by omega, by rw [if_pos (by omega)]; decide⟩])
  have S4 := hide s4
  clear CF s4 S3 hst
  obtain ⟨w5, hr5, hb5, bb5, sz5⟩ := make_bools w4 64 (by omega)
  obtain ⟨U, hU⟩ : ∃ U, w4.heap.size = U := ⟨_, rfl⟩
  have I0 := hide (show GvI N U tb cb w w5 st 18446744073709551615 (fun _ => false) from by
    rw [hU] at hb5
    refine ⟨⟨S4.out.t.more bb5 (fun x hx => ?_), S4.out.c.below bb5, .inl rfl⟩, hb5, fun j hj => by rw [full_bit hj]; rfl, ?_, fun j hj => bit_high (by decide) hj⟩
    rcases hx with z | z
    · exact .inl (.inr z)
    · exact .inr ⟨by omega, by omega⟩
    · have := S4.out.lb.2; omega)
  simp only [Int.cast_ofNat_Int] at hr5
  rw [hU] at hr5
  clear hb5 bb5 sz5 hU S4
  go_wp2_with (simp only [hr5])
  clear hr5
  go_loopw [6] (fun iv wr => ∃ (i : Int) (H : Nat) (g : Nat → Bool), iv = .int .i64 i ∧ 0 ≤ i ∧ i ≤ len ∧ Hid (GvI N U tb cb w wr st H g)) (fun iv _ => (len - intOf iv).toNat)
  case atStart => exact ⟨0, _, _, rfl, by omega, by omega, I0⟩
  case round =>
    clear I0
    obtain ⟨i, H, g, rfl, i0, i1, HI⟩ := hrel
    by_cases hi : i < len
    · obtain ⟨b, off, rfl, hb, hcl⟩ := HX.out.at (i := i.toNat) (by omega)
      have c0 := hcl i.toNat (by omega)
      have be := HI.out.c.t.be.block b (by rw [← HN.out]; exact hb)
      have d0 := (cell_block be _).trans c0
      have nlo := HX.out.lo i.toNat
      have nhi := HX.out.hi i.toNat
      obtain ⟨n, hn⟩ : ∃ n, X i.toNat = n := ⟨_, rfl⟩
      rw [hn] at d0 nlo nhi
      obtain ⟨x, y, hxy⟩ := tell_mid 2560 H H
      have CT := hide (tc_tell HI.out.c)
      rw [hxy] at CT
      have NX1 := hide (show ∀ w1, TC N (fun x => x = cb ∨ x = U) w w1 tb cb st 2560 H H → Below wr.heap.size wr w1 → GvI N U tb cb w w1 st H g from fun w1 h1 b1 => ⟨h1, HI.out.b.below b1, HI.out.e, HI.out.ne, HI.out.hi⟩)
      clear hcl hb c0 be hn hxy HI
      by_cases ok : 1 ≤ n ∧ n ≤ 64
      · obtain ⟨n1, n2⟩ := ok
        go_wp2_with fail
        refine CT.out.mono ?_
        rintro e w1 ⟨rfl, h1, b1⟩
        have I1 := hide (NX1.out w1 h1 b1)
        have CA := hide (show Calls Tryd.prog 19 #[.pointer (some ⟨cb, 0, none⟩), .int .i64 n] w1 (fun e W' => ∃ p g' e' : Int, e = .returned (.tuple #[.int .u64 p, .int .i64 g', .int .i64 e']) ∧ GvA N U tb cb w st H n.toNat p g' e' W' ∧ BoR W' U 64 g) from by
          by_cases hr : ∃ a, Row H a n.toNat
          · obtain ⟨a0, ha0⟩ := hr
            obtain ⟨a, -, ra, fa⟩ := least_of (fun a => Row H a n.toNat) a0 ha0
            have la := row_lt I1.out.c.c.h (by omega) ra
            refine (tc_alloc I1.out.c (by decide) n n1 n2 a ra fa).mono ?_
            rintro e W' ⟨e1, c1, l1⟩
            refine ⟨_, _, _, e1, .inl ⟨a, ra, fa, la, rfl, by rw [cnt_row ra], rfl, c1⟩, I1.out.b.kept l1 (fun z => ?_)⟩
            rcases z.2 with y | y
            · exact y (.inr rfl)
            · exact I1.out.ne y
          · refine (tc_alloc_no I1.out.c (by decide) n n1 n2 (fun a ha => hr ⟨a, ha⟩)).mono ?_
            rintro e W' ⟨e1, e2⟩
            rw [e2]
            exact ⟨_, _, _, e1, .inr ⟨fun a ha => hr ⟨a, ha⟩, rfl, rfl, rfl, I1.out.c⟩, I1.out.b⟩)
        have GE := hide (And.intro I1.out.e (And.intro I1.out.c.c.h I1.out.ne))
        clear CT NX1 h1 b1 I1 d0
        go_wp2_with fail
        refine CA.out.mono ?_
        rintro e w2 ⟨p, q, e', rfl, A2, B2⟩
        have HA := hide A2
        have HB := hide B2
        have W0 := hide (show GvW H n.toNat 0 (-1) from .inl ⟨rfl, fun q hq => by simp at hq⟩)
        have HAL := hide (show (e' = 0 ∨ e' = 30) from by
          rcases A2 with ⟨a, _, _, _, _, _, h, _⟩ | ⟨_, _, _, h, _⟩
          · exact .inl h
          · exact .inr h)
        clear A2 B2 CA
        go_wp2_with fail
        go_loop [14, 15] (fun wv kv => ∃ want k : Int, wv = .int .i64 want ∧ kv = .int .i64 k ∧ 0 ≤ k ∧ k ≤ 64 ∧ -1 ≤ want ∧ want ≤ 64 ∧ Hid (GvW H n.toNat k want)) (fun _ kv => (65 - intOf kv).toNat)
        case atStart => exact ⟨-1, 0, rfl, rfl, by omega, by omega, by omega, by omega, W0⟩
        case round =>
          obtain ⟨want, k, rfl, rfl, k0, k1, v0, v1, HW⟩ := hrel
          by_cases hk : k + n ≤ 64
          · by_cases hw : want < 0
            · obtain rfl : want = -1 := by omega
              have NXY := hide (show (∀ j, k.toNat ≤ j → j < (k + n).toNat → g j = false) → GvW H n.toNat (k + 1) k from fun z => by
                refine .inr ⟨k0, rfl, ?_, fun q hq => ?_⟩
                · exact (row_given GE.out.1 (by omega)).2 (fun j j1 j2 => z j j1 (by omega))
                · rcases HW.out with ⟨_, y⟩ | ⟨y, _⟩
                  · exact y q hq
                  · omega)
              have NXN := hide (show ¬ (∀ j, k.toNat ≤ j → j < (k + n).toNat → g j = false) → GvW H n.toNat (k + 1) (-1) from fun z => by
                refine .inl ⟨rfl, fun q hq hr => ?_⟩
                rcases HW.out with ⟨_, y⟩ | ⟨y, _⟩
                · by_cases e : q = k.toNat
                  · subst e
                    exact z (fun j j1 j2 => (row_given GE.out.1 (by omega)).1 hr j j1 (by omega))
                  · exact y q (by omega) hr
                · omega)
              clear HW hw
              go_wp2_with fail
              go_loop [16, 17] (fun fv mv => ∃ (f : Bool) (m : Int), fv = .bool f ∧ mv = .int .i64 m ∧ k ≤ m ∧ m ≤ k + n ∧ Hid (f = true ↔ ∀ j, k.toNat ≤ j → j < m.toNat → g j = false)) (fun _ mv => (k + n - intOf mv).toNat)
              case atStart => exact ⟨true, k, rfl, rfl, by omega, by omega, hide ⟨fun _ j j1 j2 => by omega, fun _ => rfl⟩⟩
              case round =>
                obtain ⟨f, m, rfl, rfl, m0, m1, HF⟩ := hrel
                by_cases hm : m < k + n
                · cases f with
                  | true =>
                    have x0 := HB.out.cell m.toNat (by omega)
                    cases hg : g m.toNat with
                    | true =>
                      rw [hg] at x0
                      have H2 := hide (show false = true ↔ ∀ j, k.toNat ≤ j → j < (m + 1).toNat → g j = false from ⟨(fun z => by cases z), fun z => by have := z m.toNat (by omega) (by omega); rw [hg] at this; cases this⟩)
                      clear hg HF NXY NXN
                      go_wp2_with fail
                      refine ⟨⟨false, m + 1, by go_num, by go_num, by omega, by omega, H2⟩, ?_⟩
                      simp [intOf]; omega
                    | false =>
                      rw [hg] at x0
                      have H2 := hide (show true = true ↔ ∀ j, k.toNat ≤ j → j < (m + 1).toNat → g j = false from ⟨fun _ j j1 j2 => by
                        by_cases e : j = m.toNat
                        · rw [e]; exact hg
                        · exact HF.out.1 rfl j j1 (by omega), fun _ => rfl⟩)
                      clear hg HF NXY NXN
                      go_wp2_with fail
                      refine ⟨⟨true, m + 1, by go_num, by go_num, by omega, by omega, H2⟩, ?_⟩
                      simp [intOf]; omega
                  | false =>
                    have H2 := hide (show false = true ↔ ∀ j, k.toNat ≤ j → j < (m + 1).toNat → g j = false from ⟨(fun z => by cases z), fun z => HF.out.2 (fun j j1 j2 => z j j1 (by omega))⟩)
                    clear HF NXY NXN
                    go_wp2_with fail
                    refine ⟨⟨false, m + 1, by go_num, by go_num, by omega, by omega, H2⟩, ?_⟩
                    simp [intOf]; omega
                · obtain rfl : m = k + n := by omega
                  cases f with
                  | true =>
                    have H2 := hide (NXY.out (HF.out.1 rfl))
                    clear HF NXY NXN hm
                    go_wp2_with fail
                    refine ⟨⟨k, k + 1, by go_num, by go_num, by omega, by omega, by omega, by omega, H2⟩, ?_⟩
                    simp [intOf]; omega
                  | false =>
                    have H2 := hide (NXN.out (fun z => by have := HF.out.2 z; cases this))
                    clear HF NXY NXN hm
                    go_wp2_with fail
                    refine ⟨⟨-1, k + 1, by go_num, by go_num, by omega, by omega, by omega, by omega, H2⟩, ?_⟩
                    simp [intOf]; omega
            · have v2 : 0 ≤ want := by omega
              obtain ⟨A, hA⟩ : ∃ A : Nat, want.toNat = A := ⟨_, rfl⟩
              have AA := HA.out
              have key : Row H A n.toNat ∧ A + n.toNat ≤ 64 ∧ p = 2560 + want ∧ q = n ∧ e' = 0 ∧ TC N (fun x => x = cb ∨ x = U) w w2 tb cb st 2560 (andn H (on1 A n.toNat)) (andn H (on1 A n.toNat)) := by
                rcases HW.out with ⟨z, _⟩ | ⟨_, _, r1, r2⟩
                · omega
                rw [hA] at r1 r2
                rcases AA with ⟨a, h1, h2, h3, h4, h5, h6, h7⟩ | ⟨h1, _⟩
                · obtain rfl : a = A := by
                    rcases Nat.lt_trichotomy a A with y | y | y
                    · exact absurd h1 (r2 a y)
                    · exact y
                    · exact absurd r1 (h2 A y)
                  exact ⟨h1, h3, by omega, by omega, h6, h7⟩
                · exact absurd r1 (h1 A)
              obtain ⟨k1, k2, rfl, rfl, rfl, k3⟩ := key
              have K1 := hide k1
              have J0 := hide (show TC N (fun x => x = cb ∨ x = U) w w2 tb cb st 2560 (andn H (on1 A q.toNat)) (andn H (on1 A q.toNat)) ∧ BoR w2 U 64 (gvn g A A) from ⟨k3, HB.out.congr (fun j _ => by unfold gvn; rw [decide_eq_false (by omega), Bool.or_false])⟩)
              have w63 : want ≤ 63 := by omega
              have wa : want + q ≤ 64 := by omega
              have HAA := hide hA
              have eu : IntKind.u64.wrap want = want := by rw [IntKind.wrap_u64]; omega
              have dw : decide (want < 0) = false := decide_eq_false (by omega)
              clear AA HA HW HB k1 k3 hA W0 HAL
              go_wp2_with fail
              go_loopw [18] (fun mv wr => ∃ m : Int, mv = .int .i64 m ∧ want ≤ m ∧ m ≤ want + q ∧ Hid (TC N (fun x => x = cb ∨ x = U) w wr tb cb st 2560 (andn H (on1 A q.toNat)) (andn H (on1 A q.toNat)) ∧ BoR wr U 64 (gvn g A m.toNat))) (fun mv _ => (want + q - intOf mv).toNat)
              case atStart => exact ⟨want, rfl, by omega, by omega, by rw [HAA.out]; exact J0⟩
              case round =>
                clear J0
                obtain ⟨m, rfl, m0, m1, HJ⟩ := hrel
                by_cases hmm : m < want + q
                · have bt : H.testBit m.toNat = true := by
                    have := K1.out (m.toNat - A) (by have := HAA.out; omega)
                    rwa [show A + (m.toNat - A) = m.toNat by have := HAA.out; omega] at this
                  have e1 := bit_one GE.out.2.1 bt
                  have s1 := HST.out m.toNat (by omega)
                  have x0 := HJ.out.2.cell m.toNat (by omega)
                  have f0 := HJ.out.2.fz m.toNat
                  obtain ⟨Z, hZ⟩ : ∃ Z, wr.setCell ⟨U, m.toNat, none⟩ (.bool true) = Z := ⟨_, rfl⟩
                  have JZ := hide (show TC N (fun x => x = cb ∨ x = U) w Z tb cb st 2560 (andn H (on1 A q.toNat)) (andn H (on1 A q.toNat)) ∧ BoR Z U 64 (gvn g A (m + 1).toNat) from by
                    have kk : Kept (fun x => x = U) wr Z := by rw [← hZ]; exact kept_set wr U _ _ rfl
                    refine ⟨⟨HJ.out.1.t.own kk (fun x hx => by subst hx; exact ⟨.inr rfl, (HJ.out.1.t.inOb (.inr rfl)).1⟩), HJ.out.1.c.kept kk (fun z => GE.out.2.2 z.symm), HJ.out.1.o⟩, ?_⟩
                    rw [← hZ]
                    refine (HJ.out.2.set m.toNat (by omega) true).congr (fun j _ => ?_)
                    by_cases z : j = m.toNat
                    · rw [if_pos z]
                      unfold gvn
                      rw [decide_eq_true (by have := HAA.out; omega), Bool.or_true]
                    · rw [if_neg z]
                      unfold gvn
                      congr 1
                      rw [decide_eq_decide]
                      omega)
                  have CS := hide (t9_state JZ.out.1.t (2560 + m.toNat) (by omega))
                  rw [show inU st (2560 + m.toNat) = true by unfold inU; rw [s1]; rfl, show fre st (2560 + m.toNat) = false by unfold fre; rw [s1]; rfl, show ((2560 + m.toNat : Nat) : Int) = 2560 + m by omega] at CS
                  generalize rel st (2560 + m.toNat) = rr at CS
                  generalize gvn g A m.toNat m.toNat = gg at x0
                  have HZ := hide hZ
                  have e2 : IntKind.u64.wrap m = m := by rw [IntKind.wrap_u64]; omega
                  clear hZ bt s1 HJ
                  go_wp2_with fail
                  rw [HZ.out]
                  refine CS.out.mono ?_
                  rintro e Z2 ⟨rfl, t2, l2⟩
                  have J2 := hide (show TC N (fun x => x = cb ∨ x = U) w Z2 tb cb st 2560 (andn H (on1 A q.toNat)) (andn H (on1 A q.toNat)) ∧ BoR Z2 U 64 (gvn g A (m + 1).toNat) from ⟨JZ.out.1.tree t2 l2, JZ.out.2.kept l2 (fun z => z.2 (.inr rfl))⟩)
                  clear CS t2 l2 JZ
                  go_wp2_with fail
                  go_roundw
                  case rel => exact ⟨m + 1, by go_num, by omega, by omega, J2⟩
                  case measure => simp [intOf]; omega
                · have em : m.toNat = A + q.toNat := by have := HAA.out; omega
                  have I9 := hide (show GvI N U tb cb w wr st (andn H (on1 A q.toNat)) (gvn g A (A + q.toNat)) from by
                    have h := HJ.out
                    rw [em] at h
                    refine ⟨h.1, h.2, fun j hj => ?_, GE.out.2.2, fun j hj => bit_high h.1.c.h hj⟩
                    rw [andn_bit, on1_bit, GE.out.1 j hj]
                    unfold gvn
                    cases g j <;> simp)
                  have dm : decide (m < want + q) = false := decide_eq_false hmm
                  clear hmm HJ em
                  go_wp2_with fail
                  go_roundw
                  case rel => exact ⟨i + 1, _, _, by go_num, by omega, by omega, I9⟩
                  case measure => simp [intOf]; omega
          · have dk : decide (k + n ≤ 64) = false := decide_eq_false hk
            by_cases hw : want < 0
            · have x9 : True := trivial
              have key : e' = 30 ∧ TC N (fun x => x = cb ∨ x = U) w w2 tb cb st 2560 H H := by
                have no : ∀ a, ¬ Row H a n.toNat := fun a ha => by
                  have la := row_lt GE.out.2.1 (by omega) ha
                  rcases HW.out with ⟨_, z⟩ | ⟨z, _⟩
                  · exact z a (by omega) ha
                  · omega
                rcases HA.out with ⟨a, h1, _⟩ | ⟨_, _, _, h4, h5⟩
                · exact absurd h1 (no a)
                · exact ⟨h4, h5⟩
              obtain ⟨rfl, k3⟩ := key
              have I9 := hide (show GvI N U tb cb w w2 st H g from ⟨k3, HB.out, GE.out.1, GE.out.2.2, fun j hj => bit_high k3.c.h hj⟩)
              have dw : decide (want < 0) = true := decide_eq_true hw
              clear HA HW HB k3 W0 HAL GE
              go_wp2_with fail
              go_roundw
              case rel => exact ⟨i + 1, _, _, by go_num, by omega, by omega, I9⟩
              case measure => simp [intOf]; omega
            · have v2 : 0 ≤ want := by omega
              obtain ⟨A, hA⟩ : ∃ A : Nat, want.toNat = A := ⟨_, rfl⟩
              have AA := HA.out
              have key : Row H A n.toNat ∧ A + n.toNat ≤ 64 ∧ p = 2560 + want ∧ q = n ∧ e' = 0 ∧ TC N (fun x => x = cb ∨ x = U) w w2 tb cb st 2560 (andn H (on1 A n.toNat)) (andn H (on1 A n.toNat)) := by
                rcases HW.out with ⟨z, _⟩ | ⟨_, _, r1, r2⟩
                · omega
                rw [hA] at r1 r2
                rcases AA with ⟨a, h1, h2, h3, h4, h5, h6, h7⟩ | ⟨h1, _⟩
                · obtain rfl : a = A := by
                    rcases Nat.lt_trichotomy a A with y | y | y
                    · exact absurd h1 (r2 a y)
                    · exact y
                    · exact absurd r1 (h2 A y)
                  exact ⟨h1, h3, by omega, by omega, h6, h7⟩
                · exact absurd r1 (h1 A)
              obtain ⟨k1, k2, rfl, rfl, rfl, k3⟩ := key
              have K1 := hide k1
              have J0 := hide (show TC N (fun x => x = cb ∨ x = U) w w2 tb cb st 2560 (andn H (on1 A q.toNat)) (andn H (on1 A q.toNat)) ∧ BoR w2 U 64 (gvn g A A) from ⟨k3, HB.out.congr (fun j _ => by unfold gvn; rw [decide_eq_false (by omega), Bool.or_false])⟩)
              have w63 : want ≤ 63 := by omega
              have wa : want + q ≤ 64 := by omega
              have HAA := hide hA
              have eu : IntKind.u64.wrap want = want := by rw [IntKind.wrap_u64]; omega
              have dw : decide (want < 0) = false := decide_eq_false (by omega)
              clear AA HA HW HB k1 k3 hA W0 HAL
              go_wp2_with fail
              go_loopw [18] (fun mv wr => ∃ m : Int, mv = .int .i64 m ∧ want ≤ m ∧ m ≤ want + q ∧ Hid (TC N (fun x => x = cb ∨ x = U) w wr tb cb st 2560 (andn H (on1 A q.toNat)) (andn H (on1 A q.toNat)) ∧ BoR wr U 64 (gvn g A m.toNat))) (fun mv _ => (want + q - intOf mv).toNat)
              case atStart => exact ⟨want, rfl, by omega, by omega, by rw [HAA.out]; exact J0⟩
              case round =>
                clear J0
                obtain ⟨m, rfl, m0, m1, HJ⟩ := hrel
                by_cases hmm : m < want + q
                · have bt : H.testBit m.toNat = true := by
                    have := K1.out (m.toNat - A) (by have := HAA.out; omega)
                    rwa [show A + (m.toNat - A) = m.toNat by have := HAA.out; omega] at this
                  have e1 := bit_one GE.out.2.1 bt
                  have s1 := HST.out m.toNat (by omega)
                  have x0 := HJ.out.2.cell m.toNat (by omega)
                  have f0 := HJ.out.2.fz m.toNat
                  obtain ⟨Z, hZ⟩ : ∃ Z, wr.setCell ⟨U, m.toNat, none⟩ (.bool true) = Z := ⟨_, rfl⟩
                  have JZ := hide (show TC N (fun x => x = cb ∨ x = U) w Z tb cb st 2560 (andn H (on1 A q.toNat)) (andn H (on1 A q.toNat)) ∧ BoR Z U 64 (gvn g A (m + 1).toNat) from by
                    have kk : Kept (fun x => x = U) wr Z := by rw [← hZ]; exact kept_set wr U _ _ rfl
                    refine ⟨⟨HJ.out.1.t.own kk (fun x hx => by subst hx; exact ⟨.inr rfl, (HJ.out.1.t.inOb (.inr rfl)).1⟩), HJ.out.1.c.kept kk (fun z => GE.out.2.2 z.symm), HJ.out.1.o⟩, ?_⟩
                    rw [← hZ]
                    refine (HJ.out.2.set m.toNat (by omega) true).congr (fun j _ => ?_)
                    by_cases z : j = m.toNat
                    · rw [if_pos z]
                      unfold gvn
                      rw [decide_eq_true (by have := HAA.out; omega), Bool.or_true]
                    · rw [if_neg z]
                      unfold gvn
                      congr 1
                      rw [decide_eq_decide]
                      omega)
                  have CS := hide (t9_state JZ.out.1.t (2560 + m.toNat) (by omega))
                  rw [show inU st (2560 + m.toNat) = true by unfold inU; rw [s1]; rfl, show fre st (2560 + m.toNat) = false by unfold fre; rw [s1]; rfl, show ((2560 + m.toNat : Nat) : Int) = 2560 + m by omega] at CS
                  generalize rel st (2560 + m.toNat) = rr at CS
                  generalize gvn g A m.toNat m.toNat = gg at x0
                  have HZ := hide hZ
                  have e2 : IntKind.u64.wrap m = m := by rw [IntKind.wrap_u64]; omega
                  clear hZ bt s1 HJ
                  go_wp2_with fail
                  rw [HZ.out]
                  refine CS.out.mono ?_
                  rintro e Z2 ⟨rfl, t2, l2⟩
                  have J2 := hide (show TC N (fun x => x = cb ∨ x = U) w Z2 tb cb st 2560 (andn H (on1 A q.toNat)) (andn H (on1 A q.toNat)) ∧ BoR Z2 U 64 (gvn g A (m + 1).toNat) from ⟨JZ.out.1.tree t2 l2, JZ.out.2.kept l2 (fun z => z.2 (.inr rfl))⟩)
                  clear CS t2 l2 JZ
                  go_wp2_with fail
                  go_roundw
                  case rel => exact ⟨m + 1, by go_num, by omega, by omega, J2⟩
                  case measure => simp [intOf]; omega
                · have em : m.toNat = A + q.toNat := by have := HAA.out; omega
                  have I9 := hide (show GvI N U tb cb w wr st (andn H (on1 A q.toNat)) (gvn g A (A + q.toNat)) from by
                    have h := HJ.out
                    rw [em] at h
                    refine ⟨h.1, h.2, fun j hj => ?_, GE.out.2.2, fun j hj => bit_high h.1.c.h hj⟩
                    rw [andn_bit, on1_bit, GE.out.1 j hj]
                    unfold gvn
                    cases g j <;> simp)
                  have dm : decide (m < want + q) = false := decide_eq_false hmm
                  clear hmm HJ em
                  go_wp2_with fail
                  go_roundw
                  case rel => exact ⟨i + 1, _, _, by go_num, by omega, by omega, I9⟩
                  case measure => simp [intOf]; omega
      · have CB := hide (show ∀ w1, TC N (fun x => x = cb ∨ x = U) w w1 tb cb st 2560 H H → Calls Tryd.prog 19 #[.pointer (some ⟨cb, 0, none⟩), .int .i64 n] w1 (fun e W' => e = .returned (.tuple #[.int .u64 0, .int .i64 0, .int .i64 1]) ∧ W' = w1) from fun w1 h1 => tc_alloc_bad h1 (by decide) n ok)
        have dn : (decide (n < 1) || decide (64 < n)) = true := by
          by_cases z : n < 1
          · rw [decide_eq_true z]; rfl
          · rw [decide_eq_true (show 64 < n by omega), Bool.or_true]
        go_wp2_with fail
        refine CT.out.mono ?_
        rintro e w1 ⟨rfl, h1, b1⟩
        have I1 := hide (NX1.out w1 h1 b1)
        have CA := hide (CB.out w1 h1)
        clear CT NX1 h1 b1 d0 CB
        go_wp2_with fail
        refine CA.out.mono ?_
        rintro e w2 ⟨rfl, hw2⟩
        rw [hw2]
        clear hw2 CA w2
        by_cases z : n < 1
        · have z1 : decide (n < 1) = true := decide_eq_true z
          clear ok dn
          go_wp2_with fail
          go_roundw
          case rel => exact ⟨i + 1, _, _, by go_num, by omega, by omega, I1⟩
          case measure => simp [intOf]; omega
        · have z1 : decide (n < 1) = false := decide_eq_false z
          have z2 : decide (64 < n) = true := decide_eq_true (by omega)
          clear ok dn
          go_wp2_with fail
          go_roundw
          case rel => exact ⟨i + 1, _, _, by go_num, by omega, by omega, I1⟩
          case measure => simp [intOf]; omega
    · have CW := hide (awake10 HI.out.c.t.tab)
      have B3 := hide (And.intro HI.out.c.t.be HI.out.c.t.tr.lt.2.2)
      have hd : decide (i < (len : Int)) = false := decide_eq_false hi
      clear hi HI
      go_wp2_with fail
      refine CW.out.mono ?_
      rintro e w4 ⟨rfl, b4⟩
      have F0 := hide (FIN.out _ (B3.out.1.trans (b4.mono B3.out.2)))
      clear CW b4 FIN
      go_wp2_with fail
      first | exact F0.out | (go_ret; exact F0.out)
end Go.Proofs.YtnclicdnncgdiaaDoor
