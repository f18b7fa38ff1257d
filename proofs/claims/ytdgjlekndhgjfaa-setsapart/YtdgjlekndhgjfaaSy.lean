/- SetsPlay, walked. -/
import Derived.Test.YtdgjlekndhgjfaaAa
namespace Go.Proofs.Ytdgjlekndhgjfaa
open Go.ChangeShapes Go.WideShapes Go.ChangeAt Go.RowKit Go.Shelf Go.Proofs.Rx Go.Maps Go.Proofs.Hm
set_option linter.unusedVariables false
set_option linter.unusedSimpArgs false

attribute [local go_sem] Oper.semAt_some

theorem ref_made {N : Nat} {w W : World} {l : List Thing} (h : Sep N w W l) : Sep N w (W.alloc (.cells #[.slice none 0 0] 28)) (l ++ [tRef W.heap.size []]) :=
  h.more (below_alloc W _) (tRef W.heap.size []) (F' := fun z => z = W.heap.size) ⟨.slice none 0 0, ⟨World.alloc_heap_new W _, ⟨rfl, .inl ⟨rfl, rfl⟩⟩⟩, fun z => ⟨.inl, fun u => u.resolve_right (fun e => by cases e)⟩⟩ (fun z hz => by rw [hz]; exact Nat.le_refl _)
set_option maxRecDepth 100000 in
set_option maxHeartbeats 2000000 in
theorem plays_in (o : Option Addr) (n cap : Nat) (w : World) (X : Nat → ActV) (hX : ActsAt w o n cap X) :
    Calls Try.prog 3 #[.slice o n cap] w fun e W' => e = .returned (.bool true) ∧ Below w.heap.size w W' := by
  obtain ⟨R, hR⟩ : ∃ R : Ending → World → Prop, R = fun e W' => e = .returned (.bool true) ∧ Below w.heap.size w W' := ⟨_, rfl⟩
  rw [← hR]
  have FIN := hide (show ∀ W' W'' l, Sep w.heap.size w W' l → Below W'.heap.size W' W'' → R (.returned (.bool true)) W'' from fun W' W'' l h b => by rw [hR]; exact ⟨rfl, h.be.trans (b.mono h.nw)⟩)
  have F0 := hide (show R (.returned (.bool true)) w from by rw [hR]; exact ⟨rfl, Below.refl _ _⟩)
  clear hR
  by_cases c3 : 300 < n
  · have d0 : decide ((300 : Int) < (n : Int)) = true := decide_eq_true (by omega)
    have d1 : decide (300 < n) = true := decide_eq_true c3
    clear FIN hX c3
    go_enter Try.func3, Try.ntmps3
    go_wp2_with fail
    first | exact F0.out | (go_ret; exact F0.out)
  have d0 : decide ((300 : Int) < (n : Int)) = false := decide_eq_false (by omega)
  have d1 : decide (300 < n) = false := decide_eq_false c3
  have HX := hide hX
  have HN := hide (show n ≤ 300 by omega)
  have C0 := hide (fnew (Sep.start w))
  have CA := hide awake14
  clear hX c3 F0
  go_enter Try.func3, Try.ntmps3
  go_wp2_with fail
  refine C0.out.mono ?_
  rintro e W1 ⟨s, rfl, h1⟩
  have H2 := hide (show Duo w.heap.size w (W1.alloc (.cells #[.slice none 0 0] 28)) s W1.heap.size 0 [] [] [] from ref_made h1)
  clear C0 h1
  go_wp2_with fail
  obtain ⟨r, hr⟩ : ∃ r, W1.heap.size = r := ⟨_, rfl⟩
  obtain ⟨W2, hW2⟩ : ∃ W2, W1.alloc (.cells #[.slice none 0 0] 28) = W2 := ⟨_, rfl⟩
  rw [hr, hW2] at H2
  rw [hr, hW2]
  clear hr hW2
  go_loopw [5] (fun vi wr => ∃ (i : Nat), vi = .int .i64 (i : Nat) ∧ i ≤ n ∧ Hid (∃ c L, c ≤ 3 * i ∧ Duo w.heap.size w wr s r c L L [])) (fun vi _ => n - (zi vi).toNat)
  case atStart => exact ⟨0, rfl, by omega, hide ⟨0, [], by omega, H2.out⟩⟩
  case round =>
    clear H2
    obtain ⟨i, rfl, hi, HP⟩ := hrel
    have pi : IntKind.i64.wrap ((i : Int) + 1) = (i : Int) + 1 := by rw [IntKind.wrap_i64]; have := HN.out; omega
    by_cases c : i < n
    · have d : decide ((i : Int) < (n : Int)) = true := decide_eq_true (by omega)
      have d' : decide (i < n) = true := decide_eq_true c
      obtain ⟨q, L, hq, h⟩ := HP.out
      have hn := HN.out
      obtain ⟨b0, f0, rfl, hb0, hcell⟩ := HX.out.at c
      obtain ⟨x0, x1, x2, x3, x4, x5, x6⟩ := hcell i c
      have be : Below w.heap.size w wr := Sep.be h
      have x0 := (be.cell (p := ⟨b0, f0 + i * 7, none⟩) hb0).trans x0
      have x1 := (be.cell (p := ⟨b0, f0 + i * 7 + 1, none⟩) hb0).trans x1
      have x2 := (be.cell (p := ⟨b0, f0 + i * 7 + 2, none⟩) hb0).trans x2
      have x3 := (be.cell (p := ⟨b0, f0 + i * 7 + 3, none⟩) hb0).trans x3
      have x4 := (be.cell (p := ⟨b0, f0 + i * 7 + 4, none⟩) hb0).trans x4
      have x5 := (be.cell (p := ⟨b0, f0 + i * 7 + 5, none⟩) hb0).trans x5
      have x6 := (be.cell (p := ⟨b0, f0 + i * 7 + 6, none⟩) hb0).trans x6
      have ok := HX.out.ok i
      have C1 := hide (act_any h (by omega) (X i).what (X i).id (X i).cl (X i).bs (X i).np (X i).fu (X i).sw ⟨ok.i0, ok.i1⟩ ⟨ok.c0, ok.c1⟩ ok.b1)
      have HQ := hide hq
      have i0 : 0 ≤ (i : Int) := by omega
      have i1 : (i : Int) < (n : Int) := by omega
      obtain ⟨z0, hz0⟩ : ∃ z, (X i).what = z := ⟨_, rfl⟩
      obtain ⟨z1, hz1⟩ : ∃ z, (X i).id = z := ⟨_, rfl⟩
      obtain ⟨z2, hz2⟩ : ∃ z, (X i).cl = z := ⟨_, rfl⟩
      obtain ⟨z3, hz3⟩ : ∃ z : Int, ((X i).bs : Int) = z := ⟨_, rfl⟩
      obtain ⟨z4, hz4⟩ : ∃ z, (X i).np = z := ⟨_, rfl⟩
      obtain ⟨z5, hz5⟩ : ∃ z, (X i).fu = z := ⟨_, rfl⟩
      obtain ⟨z6, hz6⟩ : ∃ z, (X i).sw = z := ⟨_, rfl⟩
      rw [hz0] at x0 C1
      rw [hz1] at x1 C1
      rw [hz2] at x2 C1
      rw [hz3] at x3 C1
      rw [hz4] at x4 C1
      rw [hz5] at x5 C1
      rw [hz6] at x6 C1
      have CT := hide (fun (L' : List On) W3 (h3 : Duo w.heap.size w W3 s r (q + 3) L' L' []) => (⟨h3.land (fun F hF => fcount hF true), fun W4 (h4 : Duo w.heap.size w W4 s r (q + 3) L' L' []) => h4.refc (fun F hF => gcount hF (by have := h4.okl; omega) true)⟩ : _ ∧ _))
      have CF := hide (fun (L' : List On) W3 (h3 : Duo w.heap.size w W3 s r (q + 3) L' L' []) => (⟨h3.land (fun F hF => fcount hF false), fun W4 (h4 : Duo w.heap.size w W4 s r (q + 3) L' L' []) => h4.refc (fun F hF => gcount hF (by have := h4.okl; omega) false)⟩ : _ ∧ _))
      clear hq h hn hb0 hcell be ok hz0 hz1 hz2 hz3 hz4 hz5 hz6 HP
      go_wp2_with fail
      refine C1.out.mono ?_
      rintro e W3 ⟨rfl, L', h3⟩
      obtain ⟨k1, k2⟩ := CT.out L' W3 h3
      obtain ⟨N1, hN1⟩ : ∃ N1, cnt L' true = N1 := ⟨_, rfl⟩
      rw [hN1] at k1
      simp only [hN1] at k2
      have K1 := hide k1
      have K2 := hide k2
      have eN : (N1 == N1) = true := by simp
      have eN2 : ((N1 : Int) == (N1 : Int)) = true := by simp
      clear C1 CT h3 k1 k2 hN1 x0 x1 x2 x3 x4 x5 x6
      simp only [Bool.not_true]
      go_wp2_with fail
      refine K1.out.mono ?_
      rintro e W4 ⟨rfl, h4⟩
      have K3 := hide (K2.out W4 h4)
      clear K1 K2 h4
      go_wp2_with fail
      refine K3.out.mono ?_
      rintro e W5 ⟨rfl, h5⟩
      obtain ⟨k1, k2⟩ := CF.out L' W5 h5
      obtain ⟨N2, hN2⟩ : ∃ N2, cnt L' false = N2 := ⟨_, rfl⟩
      rw [hN2] at k1
      simp only [hN2] at k2
      have K1 := hide k1
      have K2 := hide k2
      have eM : (N2 == N2) = true := by simp
      have eM2 : ((N2 : Int) == (N2 : Int)) = true := by simp
      clear CF h5 k1 k2 hN2 K3
      go_wp2_with fail
      refine K1.out.mono ?_
      rintro e W6 ⟨rfl, h6⟩
      have K3 := hide (K2.out W6 h6)
      clear K1 K2 h6
      go_wp2_with fail
      refine K3.out.mono ?_
      rintro e W7 ⟨rfl, h7⟩
      have H7 := hide h7
      clear K3 h7
      go_wp2_with fail
      exact ⟨⟨i + 1, by push_cast; rfl, by omega, hide ⟨q + 3, L', by have := HQ.out; omega, H7.out⟩⟩, by simp only [zi]; omega⟩
    · have d : decide ((i : Int) < (n : Int)) = false := decide_eq_false (by omega)
      have d' : decide (i < n) = false := decide_eq_false c
      obtain ⟨q, L, hq, h⟩ := HP.out
      have H := hide h
      clear h hq HP
      go_wp2_with fail
      refine (CA.out wr).mono ?_
      rintro e W4 ⟨rfl, b4⟩
      have FF := hide (FIN.out wr W4 _ H.out b4)
      clear CA b4 FIN H
      go_wp2_with fail
      first | exact FF.out | (go_ret; exact FF.out)
end Go.Proofs.Ytdgjlekndhgjfaa
