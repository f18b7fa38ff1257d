/- SetsApart, walked. -/
import Derived.Test.YtdgjlekndhgjfaaSy
namespace Go.Proofs.Ytdgjlekndhgjfaa
open Go.ChangeShapes Go.WideShapes Go.ChangeAt Go.RowKit Go.Shelf Go.Proofs.Rx Go.Maps Go.Proofs.Hm
set_option linter.unusedVariables false
set_option linter.unusedSimpArgs false

attribute [local go_sem] Oper.semAt_some

/-- The things in another order. -/
theorem Sep.order {N : Nat} {w W : World} {l l' : List Thing} (h : Sep N w W l) (σ : Nat → Nat) (hσ : ∀ i, i < l'.length → σ i < l.length) (inj : ∀ i j, i < l'.length → j < l'.length → σ i = σ j → i = j) (he : ∀ i (hi : i < l'.length), l'[i] = l[σ i]'(hσ i hi)) : Sep N w W l' := by
  obtain ⟨⟨F, a, b, d⟩, be, nw⟩ := h
  refine ⟨⟨fun i => F (σ i), fun i hi => ?_, fun i j hi hj hne z hz => b (σ i) (σ j) (hσ i hi) (hσ j hj) (fun e => hne (inj i j hi hj e)) z hz, fun i hi z hz => d (σ i) (hσ i hi) z hz⟩, be, nw⟩
  rw [he i hi]
  exact a (σ i) (hσ i hi)
def s1 : Nat → Nat
  | 0 => 0
  | 1 => 2
  | 2 => 1
  | 3 => 3
  | n => n
def s2 : Nat → Nat
  | 0 => 2
  | 1 => 3
  | 2 => 0
  | 3 => 1
  | n => n
theorem lt4 {i : Nat} (h : i < 4) : i = 0 ∨ i = 1 ∨ i = 2 ∨ i = 3 := by omega
theorem order_1 {N : Nat} {w W : World} {a b c d : Thing} (h : Sep N w W [a, b, c, d]) : Sep N w W [a, c, b, d] := by
  refine h.order s1 (fun i hi => ?_) (fun i j hi hj e => ?_) (fun i hi => ?_)
  · rcases lt4 hi with rfl | rfl | rfl | rfl <;> simp [s1]
  · rcases lt4 hi with rfl | rfl | rfl | rfl <;> rcases lt4 hj with rfl | rfl | rfl | rfl <;> first | rfl | (simp [s1] at e)
  · rcases lt4 hi with rfl | rfl | rfl | rfl <;> rfl
theorem order_2 {N : Nat} {w W : World} {a b c d : Thing} (h : Sep N w W [a, b, c, d]) : Sep N w W [c, d, a, b] := by
  refine h.order s2 (fun i hi => ?_) (fun i j hi hj e => ?_) (fun i hi => ?_)
  · rcases lt4 hi with rfl | rfl | rfl | rfl <;> simp [s2]
  · rcases lt4 hi with rfl | rfl | rfl | rfl <;> rcases lt4 hj with rfl | rfl | rfl | rfl <;> first | rfl | (simp [s2] at e)
  · rcases lt4 hi with rfl | rfl | rfl | rfl <;> rfl
/-- Two pairs beside one another. -/
def Quad (N : Nat) (w W : World) (s r c : Nat) (L : List On) (t q c' : Nat) (M : List On) : Prop := Duo N w W s r c L L [tSets t c' M, tRef q M]
theorem Quad.swap {N : Nat} {w W : World} {s r c : Nat} {L : List On} {t q c' : Nat} {M : List On} (h : Quad N w W s r c L t q c' M) : Quad N w W t q c' M s r c L := order_2 h
set_option maxRecDepth 100000 in
set_option maxHeartbeats 4000000 in
theorem apart_in (o : Option Addr) (n cap : Nat) (w : World) (X : Nat → ActV) (hX : ActsAt w o n cap X) (o2 : Option Addr) (n2 cap2 : Nat) (Y : Nat → Bool) (hY : BoolsAt w o2 n2 cap2 Y) (hn2 : n2 ≤ maxLen) :
    Calls Try.prog 4 #[.slice o n cap, .slice o2 n2 cap2] w fun e W' => e = .returned (.bool true) ∧ Below w.heap.size w W' := by
  obtain ⟨R, hR⟩ : ∃ R : Ending → World → Prop, R = fun e W' => e = .returned (.bool true) ∧ Below w.heap.size w W' := ⟨_, rfl⟩
  rw [← hR]
  have FIN := hide (show ∀ W' W'' l, Sep w.heap.size w W' l → Below W'.heap.size W' W'' → R (.returned (.bool true)) W'' from fun W' W'' l h b => by rw [hR]; exact ⟨rfl, h.be.trans (b.mono h.nw)⟩)
  have F0 := hide (show R (.returned (.bool true)) w from by rw [hR]; exact ⟨rfl, Below.refl _ _⟩)
  clear hR
  by_cases c3 : 300 < n
  · have d0 : decide ((300 : Int) < (n : Int)) = true := decide_eq_true (by omega)
    have d1 : decide (300 < n) = true := decide_eq_true c3
    clear FIN hX hY c3
    go_enter Try.func4, Try.ntmps4
    go_wp2_with fail
    first | exact F0.out | (go_ret; exact F0.out)
  have d0 : decide ((300 : Int) < (n : Int)) = false := decide_eq_false (by omega)
  have d1 : decide (300 < n) = false := decide_eq_false c3
  have HX := hide hX
  have HY := hide hY
  have HN := hide (show n ≤ 300 by omega)
  have C0 := hide (fnew (Sep.start w))
  have C1 := hide (fun (s : Nat) W1 (h : Sep w.heap.size w W1 [tSets s 0 []]) => fnew h)
  have CA := hide awake14
  clear hX hY c3 F0 hn2
  go_enter Try.func4, Try.ntmps4
  go_wp2_with fail
  refine C0.out.mono ?_
  rintro e W1 ⟨s, rfl, h1⟩
  have D1 := hide (C1.out s W1 h1)
  clear C0 C1 h1
  go_wp2_with fail
  refine D1.out.mono ?_
  rintro e W2 ⟨t, rfl, h2⟩
  have h3 := ref_made h2
  have h4 := ref_made h3
  rw [World.size_alloc] at h4
  have H4 := hide (show Quad w.heap.size w _ s W2.heap.size 0 [] t (W2.heap.size + 1) 0 [] from order_1 h4)
  clear D1 h2 h3 h4
  go_wp2_with fail
  obtain ⟨r, hr⟩ : ∃ r, W2.heap.size = r := ⟨_, rfl⟩
  obtain ⟨q, hq⟩ : ∃ q, W2.heap.size + 1 = q := ⟨_, rfl⟩
  obtain ⟨W4, hW4⟩ : ∃ W4, (W2.alloc (.cells #[.slice none 0 0] 28)).alloc (.cells #[.slice none 0 0] 28) = W4 := ⟨_, rfl⟩
  rw [hq, hr, hW4] at H4
  rw [hq, hr, hW4]
  clear hr hq hW4
  go_loopw [9] (fun vi wr => ∃ (i : Nat), vi = .int .i64 (i : Nat) ∧ i ≤ n ∧ Hid (∃ c L c' M, c ≤ 3 * i ∧ c' ≤ 3 * i ∧ Quad w.heap.size w wr s r c L t q c' M)) (fun vi _ => n - (zi vi).toNat)
  case atStart => exact ⟨0, rfl, by omega, hide ⟨0, [], 0, [], by omega, by omega, H4.out⟩⟩
  case round =>
    clear H4
    obtain ⟨i, rfl, hi, HP⟩ := hrel
    have pi : IntKind.i64.wrap ((i : Int) + 1) = (i : Int) + 1 := by rw [IntKind.wrap_i64]; have := HN.out; omega
    by_cases c : i < n
    · have d : decide ((i : Int) < (n : Int)) = true := decide_eq_true (by omega)
      have d' : decide (i < n) = true := decide_eq_true c
      obtain ⟨c1, L, c2, M, hc1, hc2, h⟩ := HP.out
      have hn := HN.out
      obtain ⟨b0, f0, rfl, hb0, hcell⟩ := HX.out.at c
      obtain ⟨x0, x1, x2, x3, x4, x5, x6⟩ := hcell i c
      have be : Below w.heap.size w wr := Sep.be h
      have x0 := (be.cell (p := ⟨b0, f0 + i * 7, none⟩) hb0).trans x0
      have x1 := (be.cell (p := ⟨b0, f0 + i * 7 + 1, none⟩) hb0).trans x1
      have x2 := (be.cell (p := ⟨b0, f0 + i * 7 + 2, none⟩) hb0).trans x2
      have x3 := (be.cell (p := ⟨b0, f0 + i * 7 + 3, none⟩) hb0).trans x3
      have x4 := (be.cell (p := ⟨b0, f0 + i * 7 + 4, none⟩) hb0).trans x4
      have x5 := (be.cell (p := ⟨b0, f0 + i * 7 + 5, none⟩) hb0).trans x5
      have x6 := (be.cell (p := ⟨b0, f0 + i * 7 + 6, none⟩) hb0).trans x6
      have ok := HX.out.ok i
      have CS := hide (act_any h (by omega) (X i).what (X i).id (X i).cl (X i).bs (X i).np (X i).fu (X i).sw ⟨ok.i0, ok.i1⟩ ⟨ok.c0, ok.c1⟩ ok.b1)
      have CT := hide (act_any h.swap (by omega) (X i).what (X i).id (X i).cl (X i).bs (X i).np (X i).fu (X i).sw ⟨ok.i0, ok.i1⟩ ⟨ok.c0, ok.c1⟩ ok.b1)
      have HQ := hide (And.intro hc1 hc2)
      have i0 : 0 ≤ (i : Int) := by omega
      have i1 : (i : Int) < (n : Int) := by omega
      obtain ⟨z0, hz0⟩ : ∃ z, (X i).what = z := ⟨_, rfl⟩
      obtain ⟨z1, hz1⟩ : ∃ z, (X i).id = z := ⟨_, rfl⟩
      obtain ⟨z2, hz2⟩ : ∃ z, (X i).cl = z := ⟨_, rfl⟩
      obtain ⟨z3, hz3⟩ : ∃ z : Int, ((X i).bs : Int) = z := ⟨_, rfl⟩
      obtain ⟨z4, hz4⟩ : ∃ z, (X i).np = z := ⟨_, rfl⟩
      obtain ⟨z5, hz5⟩ : ∃ z, (X i).fu = z := ⟨_, rfl⟩
      obtain ⟨z6, hz6⟩ : ∃ z, (X i).sw = z := ⟨_, rfl⟩
      rw [hz0] at x0 CS CT
      rw [hz1] at x1 CS CT
      rw [hz2] at x2 CS CT
      rw [hz3] at x3 CS CT
      rw [hz4] at x4 CS CT
      rw [hz5] at x5 CS CT
      rw [hz6] at x6 CS CT
      have FS : Hid (∀ W3 L', Duo w.heap.size w W3 s r (c1 + 3) L' L' [tSets t c2 M, tRef q M] → ∃ c L c' M, c ≤ 3 * (i + 1) ∧ c' ≤ 3 * (i + 1) ∧ Quad w.heap.size w W3 s r c L t q c' M) := hide (fun W3 L' h3 => ⟨c1 + 3, L', c2, M, by omega, by omega, h3⟩)
      have FT : Hid (∀ W3 L', Duo w.heap.size w W3 t q (c2 + 3) L' L' [tSets s c1 L, tRef r L] → ∃ c L c' M, c ≤ 3 * (i + 1) ∧ c' ≤ 3 * (i + 1) ∧ Quad w.heap.size w W3 s r c L t q c' M) := hide (fun W3 L' h3 => ⟨c1, L, c2 + 3, L', by omega, by omega, Quad.swap h3⟩)
      have YB : Hid (i < n2 → ∃ b1 f1, o2 = some ⟨b1, f1, none⟩ ∧ wr.cell? ⟨b1, f1 + i, none⟩ = some (.bool (Y i))) := hide (fun hi2 => by
        obtain ⟨b1, f1, e1, hb1, hc⟩ := HY.out.at hi2
        exact ⟨b1, f1, e1, (be.cell (p := ⟨b1, f1 + i, none⟩) hb1).trans (hc i hi2)⟩)
      clear hc1 hc2 h hn hb0 hcell be ok hz0 hz1 hz2 hz3 hz4 hz5 hz6 HP HQ
      by_cases c2' : i < n2
      · have e2 : decide ((i : Int) < (n2 : Int)) = true := decide_eq_true (by omega)
        have e2' : decide (i < n2) = true := decide_eq_true c2'
        have i2 : (i : Int) < (n2 : Int) := by omega
        obtain ⟨b1, f1, rfl, yb⟩ := YB.out c2'
        cases ey : Y i with
        | true =>
          rw [ey] at yb
          clear YB CS FS HY HX
          go_wp2_with fail
          refine CT.out.mono ?_
          rintro e W3 ⟨rfl, L', h3⟩
          have H3 := hide (FT.out W3 L' h3)
          clear CT FT h3 x0 x1 x2 x3 x4 x5 x6 yb
          simp only [Bool.not_true]
          go_wp2_with fail
          exact ⟨⟨i + 1, by push_cast; rfl, by omega, H3⟩, by simp only [zi]; omega⟩
        | false =>
          rw [ey] at yb
          clear YB CT FT HY HX
          go_wp2_with fail
          refine CS.out.mono ?_
          rintro e W3 ⟨rfl, L', h3⟩
          have H3 := hide (FS.out W3 L' h3)
          clear CS FS h3 x0 x1 x2 x3 x4 x5 x6 yb
          simp only [Bool.not_true]
          go_wp2_with fail
          exact ⟨⟨i + 1, by push_cast; rfl, by omega, H3⟩, by simp only [zi]; omega⟩
      · have e2 : decide ((i : Int) < (n2 : Int)) = false := decide_eq_false (by omega)
        have e2' : decide (i < n2) = false := decide_eq_false c2'
        clear YB CT FT HY HX
        go_wp2_with fail
        refine CS.out.mono ?_
        rintro e W3 ⟨rfl, L', h3⟩
        have H3 := hide (FS.out W3 L' h3)
        clear CS FS h3 x0 x1 x2 x3 x4 x5 x6
        simp only [Bool.not_true]
        go_wp2_with fail
        exact ⟨⟨i + 1, by push_cast; rfl, by omega, H3⟩, by simp only [zi]; omega⟩
    · have d : decide ((i : Int) < (n : Int)) = false := decide_eq_false (by omega)
      have d' : decide (i < n) = false := decide_eq_false c
      obtain ⟨c1, L, c2, M, hc1, hc2, h⟩ := HP.out
      have hn := HN.out
      have K1 := hide (Duo.land h (fun F hF => fcount hF true))
      have K2 := hide (fun W3 (h3 : Quad w.heap.size w W3 s r c1 L t q c2 M) => Duo.refc h3 (fun F hF => gcount hF (by have := Duo.okl h3; omega) true))
      have K3 := hide (fun W3 (h3 : Quad w.heap.size w W3 s r c1 L t q c2 M) => Duo.land h3.swap (fun F hF => fcount hF false))
      have K4 := hide (fun W3 (h3 : Quad w.heap.size w W3 t q c2 M s r c1 L) => Duo.refc h3 (fun F hF => gcount hF (by have := Duo.okl h3; omega) false))
      obtain ⟨N1, hN1⟩ : ∃ N1, cnt L true = N1 := ⟨_, rfl⟩
      obtain ⟨N2, hN2⟩ : ∃ N2, cnt M false = N2 := ⟨_, rfl⟩
      rw [hN1] at K1
      simp only [hN1] at K2
      simp only [hN2] at K3 K4
      have eN : (N1 == N1) = true := by simp
      have eN2 : ((N1 : Int) == (N1 : Int)) = true := by simp
      have eM : (N2 == N2) = true := by simp
      have eM2 : ((N2 : Int) == (N2 : Int)) = true := by simp
      clear hc1 hc2 h hn hN1 hN2 HP HX HY
      go_wp2_with fail
      refine K1.out.mono ?_
      rintro e W4 ⟨rfl, h4⟩
      have J2 := hide (K2.out W4 h4)
      clear K1 K2 h4
      go_wp2_with fail
      refine J2.out.mono ?_
      rintro e W5 ⟨rfl, h5⟩
      have J3 := hide (K3.out W5 h5)
      clear J2 K3 h5
      go_wp2_with fail
      refine J3.out.mono ?_
      rintro e W6 ⟨rfl, h6⟩
      have J4 := hide (K4.out W6 h6)
      clear J3 K4 h6
      go_wp2_with fail
      refine J4.out.mono ?_
      rintro e W7 ⟨rfl, h7⟩
      have H7 := hide h7
      clear J4 h7
      go_wp2_with fail
      refine (CA.out W7).mono ?_
      rintro e W8 ⟨rfl, b8⟩
      have FF := hide (FIN.out W7 W8 _ H7.out b8)
      clear CA b8 FIN H7
      go_wp2_with fail
      first | exact FF.out | (go_ret; exact FF.out)
end Go.Proofs.Ytdgjlekndhgjfaa
