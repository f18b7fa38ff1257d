/- Package masks: lay: contract. -/
import Derived.Test.YtnhllnepnpmegaaLq
namespace Go.Proofs.Ytnhllnepnpmegaa
open Go.ChangeShapes Go.WideShapes Go.ChangeAt Go.RowKit Go.Shelf Go.Proofs.Rx Go.Maps Go.Proofs.Bt
set_option linter.unusedVariables false
set_option linter.unusedSimpArgs false

attribute [local go_sem] Oper.semAt_some

/-- Laid so far. -/
def LayS (m : Nat) (t : Tr) (first a : Nat) (g : Nat → Bool) (fb : List Nat) (W W' : World) : Prop := ∃ t', MkAt W' m t' ∧ (∀ w, fnOf t'.list w = if first ≤ w ∧ w < a then g w else fnOf t.list w) ∧
  (∀ x ∈ t'.list, (inB t.list x.b ∨ W.heap.size ≤ x.b) ∧ ((∃ y ∈ t.list, y.fb = x.fb) ∨ x.fb = fb ∨ ∀ z ∈ x.fb, W.heap.size ≤ z)) ∧ Kept (fun z => z = m ∨ inB t.list z) W W'
theorem LayS.start {W : World} {m : Nat} {t : Tr} {first : Nat} {g : Nat → Bool} {fb : List Nat} (h : MkAt W m t) : LayS m t first first g fb W W :=
  ⟨t, h, fun w => by rw [if_neg (by omega)], fun x hx => ⟨.inl ⟨x, hx, rfl⟩, .inl ⟨x, hx, rfl⟩⟩, Kept.refl _ _⟩
theorem LayS.next {W W1 W2 : World} {m : Nat} {t t1 : Tr} {first a b : Nat} {g : Nat → Bool} {fb : List Nat} (h1 : MkAt W1 m t1) (f1 : ∀ w, fnOf t1.list w = if first ≤ w ∧ w < a then g w else fnOf t.list w)
    (r1 : ∀ x ∈ t1.list, (inB t.list x.b ∨ W.heap.size ≤ x.b) ∧ ((∃ y ∈ t.list, y.fb = x.fb) ∨ x.fb = fb ∨ ∀ z ∈ x.fb, W.heap.size ≤ z)) (k1 : Kept (fun z => z = m ∨ inB t.list z) W W1) (ha : first ≤ a) (hb : a ≤ b)
    (h2 : LayR m t1 a b g fb W1 (.returned (.tuple #[])) W2) : LayS m t first b g fb W W2 := by
  obtain ⟨-, t2, m2, f2, r2, k2⟩ := h2
  have s := k1.size
  refine ⟨t2, m2, fun w => ?_, fun x hx => ?_, k1.trans k2 (fun z hz hin => ?_)⟩
  · rw [f2 w, f1 w]
    by_cases c : a ≤ w ∧ w < b
    · rw [if_pos c, if_pos (by omega)]
    · rw [if_neg c]
      by_cases d : first ≤ w ∧ w < a
      · rw [if_pos d, if_pos (by omega)]
      · rw [if_neg d, if_neg (by omega)]
  · obtain ⟨a1, a2⟩ := r2 x hx
    refine ⟨?_, ?_⟩
    · rcases a1 with ⟨y, hy, e⟩ | a1
      · rw [← e]; exact (r1 y hy).1
      · exact .inr (Nat.le_trans s a1)
    · rcases a2 with ⟨y, hy, e⟩ | a2 | a2
      · rw [← e]; exact (r1 y hy).2
      · exact .inr (.inl a2)
      · exact .inr (.inr fun z hz => Nat.le_trans s (a2 z hz))
  · rcases hin with e | ⟨y, hy, e⟩
    · exact .inl e
    · rcases (r1 y hy).1 with u | u
      · right; rw [← e]; exact u
      · omega
theorem LayS.part {W W1 : World} {m : Nat} {t : Tr} {T : Nat} {u : Value} {first a b : Nat} {g : Nat → Bool} {fb : List Nat} (h : MkAt W m t) (hf : FormAt W T u g fb) (s : LayS m t first a g fb W W1) (h0 : first ≤ a) (h1 : a < b) (h2 : b ≤ 35184372088832) (h3 : (b - 1) / 512 = a / 512) :
    Calls Try.prog 32 #[.pointer (some ⟨m, 0, none⟩), .int .u64 (a : Nat), .int .u64 (b : Nat), .iface T u] W1 fun e W2 => e = .returned (.tuple #[]) ∧ LayS m t first b g fb W W2 := by
  obtain ⟨t1, m1, f1, r1, k1⟩ := s
  refine (layPart_any m1 (hf.kept k1 (h.notF hf)) a b h1 h2 h3).mono fun e W2 l => ⟨l.1, LayS.next m1 f1 r1 k1 h0 (by omega) ⟨rfl, l.2⟩⟩
theorem LayS.put {W W1 : World} {m : Nat} {t : Tr} {T : Nat} {u : Value} {first a b : Nat} {g : Nat → Bool} {fb : List Nat} (h : MkAt W m t) (hf : FormAt W T u g fb) (s : LayS m t first a g fb W W1) (h0 : first ≤ a) (h1 : a < b) (h2 : b ≤ 35184372088832) (h3 : a % 512 = 0) (h4 : b % 512 = 0) :
    ∃ q0, W1.cell? ⟨m, 0, none⟩ = some (.pointer q0) ∧ Calls Try.prog 34 #[.pointer q0, .int .u64 (a : Nat), .int .u64 (b : Nat), .iface T u] W1 fun e W2 => ∃ q, e = .returned (.pointer q) ∧ (∃ v, W2.cell? ⟨m, 0, none⟩ = some v) ∧ W2.frozen? ⟨m, 0, none⟩ = false ∧ LayS m t first b g fb W (W2.setCell ⟨m, 0, none⟩ (.pointer q)) := by
  obtain ⟨t1, m1, f1, r1, k1⟩ := s
  obtain ⟨q0, hq0⟩ := t1.ptr_form
  have c := m1.bk.cell 0 _ rfl
  rw [hq0] at c
  refine ⟨q0, c, ?_⟩
  rw [← hq0]
  refine (put_any m1.ok (hf.kept k1 (h.notF hf)) a b h1 h2 h3 h4).mono fun e W2 hp => ?_
  have hp2 := hp
  obtain ⟨s, rfl, ok, fn, fr, k⟩ := hp
  obtain ⟨q, hq⟩ := s.ptr_form
  have b1 := m1.bk.kept k m1.notB
  refine ⟨q, by rw [hq], ⟨_, b1.cell 0 _ rfl⟩, b1.fz 0, ?_⟩
  have l := lay_put (first := a) (en := b) (g := g) (fb := fb) m1 (Below.refl _ _) hp2 (fun w => rfl) (.inl rfl) q hq
  exact LayS.next m1 f1 r1 k1 h0 (by omega) l
set_option maxRecDepth 100000 in
set_option maxHeartbeats 1000000 in
theorem lay_any {W : World} {m : Nat} {t : Tr} {T : Nat} {u : Value} {g : Nat → Bool} {fb : List Nat} (h : MkAt W m t) (hf : FormAt W T u g fb) (first en : Nat) (h1 : first < en) (h2 : en ≤ 35184372088832) :
    Calls Try.prog 23 #[.pointer (some ⟨m, 0, none⟩), .int .u64 (first : Nat), .int .u64 (en : Nat), .iface T u] W fun e W' => e = .returned (.tuple #[]) ∧ LayS m t first en g fb W W' := by
  obtain ⟨R, hR⟩ : ∃ R : Ending → World → Prop, R = fun e W' => e = .returned (.tuple #[]) ∧ LayS m t first en g fb W W' := ⟨_, rfl⟩
  rw [← hR]
  have FIN := hide (show ∀ W', LayS m t first en g fb W W' → R (.returned (.tuple #[])) W' from fun W' h => by rw [hR]; exact ⟨rfl, h⟩)
  clear hR
  have S0 := hide (LayS.start (first := first) (g := g) (fb := fb) h)
  have LP := hide (fun (a b : Nat) (W1 : World) (s : LayS m t first a g fb W W1) (h0 : first ≤ a) (h1 : a < b) (h2 : b ≤ 35184372088832) (h3 : (b - 1) / 512 = a / 512) => s.part h hf h0 h1 h2 h3)
  have PP := hide (fun (a b : Nat) (W1 : World) (s : LayS m t first a g fb W W1) (h0 : first ≤ a) (h1 : a < b) (h2 : b ≤ 35184372088832) (h3 : a % 512 = 0) (h4 : b % 512 = 0) => s.put h hf h0 h1 h2 h3 h4)
  have CU := hide (windowUp_any first (by omega) W)
  have CW := hide (fun w => windowOf_any en (by omega) w)
  obtain ⟨up, hup⟩ : ∃ x, x = 512 * ((first + 511) / 512) := ⟨_, rfl⟩
  obtain ⟨wh, hwh⟩ : ∃ x, x = 512 * (en / 512) := ⟨_, rfl⟩
  rw [← hup] at CU
  simp only [← hwh] at CW
  obtain ⟨FI, hFI⟩ : ∃ F : Int, (first : Int) = F := ⟨_, rfl⟩
  obtain ⟨EN, hEN⟩ : ∃ F : Int, (en : Int) = F := ⟨_, rfl⟩
  obtain ⟨UP, hUP⟩ : ∃ F : Int, (up : Int) = F := ⟨_, rfl⟩
  obtain ⟨WH, hWH⟩ : ∃ F : Int, (wh : Int) = F := ⟨_, rfl⟩
  have p0 : 0 ≤ FI := by omega
  have p1 : FI < EN := by omega
  have p2 : EN ≤ 35184372088832 := by omega
  have p3 : 0 ≤ UP := by omega
  have p4 : UP ≤ 35184372089344 := by omega
  have p5 : 0 ≤ WH := by omega
  have p6 : WH ≤ EN := by omega
  have HU := hide (And.intro hup hwh)
  have HH := hide (And.intro h1 h2)
  have HI := hide (And.intro hFI (And.intro hEN (And.intro hUP hWH)))
  rw [hFI, hUP] at CU
  simp only [hEN, hWH] at CW
  rw [hFI, hEN]
  clear hFI hEN hUP hWH hup hwh h hf h1 h2

  by_cases a1 : first % 512 = 0
  · have e : UP = FI := by have hu := HU.out; have hi := HI.out; omega
    have HL := hide a1
    rw [e] at CU
    clear a1 e p3 p4
    go_enter Try.func23, Try.ntmps23
    go_wp2_with fail
    refine CU.out.mono ?_
    rintro e w' ⟨rfl, hw'⟩; rw [hw']; clear hw' w' CU
    go_wp2_with fail
    refine (CW.out _).mono ?_
    rintro e w' ⟨rfl, hw'⟩; rw [hw']; clear hw' w'
    by_cases c2 : first < wh
    · have d2 : decide (FI < WH) = true := by have hi := HI.out; exact decide_eq_true (by omega)
      have C := PP.out first wh W S0.out (by have hu := HU.out; have hh := HH.out; omega) c2 (by have hu := HU.out; have hh := HH.out; omega) (by have hu := HU.out; have hh := HH.out; have hl := HL.out; omega) (by have hu := HU.out; omega)
      have hi := HI.out
      rw [hi.2.2.2] at C
      simp only [hi.1] at C
      obtain ⟨q0, hq0, C⟩ := C
      have HC := hide C
      have HQ := hide (show first ≤ wh ∧ (wh < en → (en - 1) / 512 = wh / 512) ∧ (¬ wh < en → wh = en) by have hu := HU.out; have hh := HH.out; have hl := HL.out; omega)
      clear hi C c2
      go_wp2_with fail
      refine HC.out.mono ?_
      rintro e W5 ⟨q, rfl, ⟨v, hv⟩, hfz, hs⟩
      have S5 := hide hs
      clear hs HC hq0
      by_cases c3 : wh < en
      · have d3 : decide (WH < EN) = true := by have hi := HI.out; exact decide_eq_true (by omega)
        have C := LP.out wh en (W5.setCell ⟨m, 0, none⟩ (.pointer q)) S5.out HQ.out.1 c3 HH.out.2 (HQ.out.2.1 c3)
        have hi := HI.out
        rw [hi.2.1, hi.2.2.2] at C
        have HC := hide C
        clear hi C c3
        go_wp2_with fail
        refine HC.out.mono ?_
        rintro e W7 ⟨rfl, hs⟩
        have FF := hide (FIN.out _ hs)
        clear hs HC
        go_wp2_with fail
        first | exact FF.out | (go_end0; exact FF.out)
      · have d3 : decide (WH < EN) = false := by have hi := HI.out; exact decide_eq_false (by omega)
        have FF := hide (FIN.out _ (show LayS m t first en g fb W (W5.setCell ⟨m, 0, none⟩ (.pointer q)) from by have hs := S5.out; rw [HQ.out.2.2 c3] at hs; exact hs))
        clear c3
        go_wp2_with fail
        first | exact FF.out | (go_end0; exact FF.out)
    · have d2 : decide (FI < WH) = false := by have hi := HI.out; exact decide_eq_false (by omega)
      have HQ := hide (show first ≤ first ∧ (first < en → (en - 1) / 512 = first / 512) ∧ (¬ first < en → first = en) by have hu := HU.out; have hh := HH.out; have hl := HL.out; omega)
      clear c2
      by_cases c3 : first < en
      · have d3 : decide (FI < EN) = true := by have hi := HI.out; exact decide_eq_true (by omega)
        have C := LP.out first en W S0.out HQ.out.1 c3 HH.out.2 (HQ.out.2.1 c3)
        have hi := HI.out
        rw [hi.2.1, hi.1] at C
        have HC := hide C
        clear hi C c3
        go_wp2_with fail
        refine HC.out.mono ?_
        rintro e W7 ⟨rfl, hs⟩
        have FF := hide (FIN.out _ hs)
        clear hs HC
        go_wp2_with fail
        first | exact FF.out | (go_end0; exact FF.out)
      · exact absurd HH.out.1 c3
  · by_cases a2 : up ≤ en
    · have HL := hide (show up % 512 = 0 ∧ first < up ∧ up ≤ en ∧ (up - 1) / 512 = first / 512 by have hu := HU.out; have hh := HH.out; omega)
      have u1 : UP ≤ EN := by have hi := HI.out; omega
      have u2 : FI < UP := by have hi := HI.out; have hl := HL.out; omega
      have C := LP.out first up W S0.out (Nat.le_refl _) HL.out.2.1 (by have hh := HH.out; omega) HL.out.2.2.2
      have hi := HI.out
      rw [hi.1, hi.2.2.1] at C
      have HC := hide C
      clear hi C a1 a2
      go_enter Try.func23, Try.ntmps23
      go_wp2_with fail
      refine CU.out.mono ?_
      rintro e w' ⟨rfl, hw'⟩; rw [hw']; clear hw' w' CU
      go_wp2_with fail
      refine HC.out.mono ?_
      rintro e W1 ⟨rfl, hs⟩
      have S1 := hide hs
      clear hs HC
      go_wp2_with fail
      refine (CW.out _).mono ?_
      rintro e w' ⟨rfl, hw'⟩; rw [hw']; clear hw' w'
      by_cases c2 : up < wh
      · have d2 : decide (UP < WH) = true := by have hi := HI.out; exact decide_eq_true (by omega)
        have C := PP.out up wh W1 S1.out (by have hu := HU.out; have hh := HH.out; omega) c2 (by have hu := HU.out; have hh := HH.out; omega) (by have hu := HU.out; have hh := HH.out; have hl := HL.out; omega) (by have hu := HU.out; omega)
        have hi := HI.out
        rw [hi.2.2.2] at C
        simp only [hi.2.2.1] at C
        obtain ⟨q0, hq0, C⟩ := C
        have HC := hide C
        have HQ := hide (show first ≤ wh ∧ (wh < en → (en - 1) / 512 = wh / 512) ∧ (¬ wh < en → wh = en) by have hu := HU.out; have hh := HH.out; have hl := HL.out; omega)
        clear hi C c2
        go_wp2_with fail
        refine HC.out.mono ?_
        rintro e W5 ⟨q, rfl, ⟨v, hv⟩, hfz, hs⟩
        have S5 := hide hs
        clear hs HC hq0
        by_cases c3 : wh < en
        · have d3 : decide (WH < EN) = true := by have hi := HI.out; exact decide_eq_true (by omega)
          have C := LP.out wh en (W5.setCell ⟨m, 0, none⟩ (.pointer q)) S5.out HQ.out.1 c3 HH.out.2 (HQ.out.2.1 c3)
          have hi := HI.out
          rw [hi.2.1, hi.2.2.2] at C
          have HC := hide C
          clear hi C c3
          go_wp2_with fail
          refine HC.out.mono ?_
          rintro e W7 ⟨rfl, hs⟩
          have FF := hide (FIN.out _ hs)
          clear hs HC
          go_wp2_with fail
          first | exact FF.out | (go_end0; exact FF.out)
        · have d3 : decide (WH < EN) = false := by have hi := HI.out; exact decide_eq_false (by omega)
          have FF := hide (FIN.out _ (show LayS m t first en g fb W (W5.setCell ⟨m, 0, none⟩ (.pointer q)) from by have hs := S5.out; rw [HQ.out.2.2 c3] at hs; exact hs))
          clear c3
          go_wp2_with fail
          first | exact FF.out | (go_end0; exact FF.out)
      · have d2 : decide (UP < WH) = false := by have hi := HI.out; exact decide_eq_false (by omega)
        have HQ := hide (show first ≤ up ∧ (up < en → (en - 1) / 512 = up / 512) ∧ (¬ up < en → up = en) by have hu := HU.out; have hh := HH.out; have hl := HL.out; omega)
        clear c2
        by_cases c3 : up < en
        · have d3 : decide (UP < EN) = true := by have hi := HI.out; exact decide_eq_true (by omega)
          have C := LP.out up en W1 S1.out HQ.out.1 c3 HH.out.2 (HQ.out.2.1 c3)
          have hi := HI.out
          rw [hi.2.1, hi.2.2.1] at C
          have HC := hide C
          clear hi C c3
          go_wp2_with fail
          refine HC.out.mono ?_
          rintro e W7 ⟨rfl, hs⟩
          have FF := hide (FIN.out _ hs)
          clear hs HC
          go_wp2_with fail
          first | exact FF.out | (go_end0; exact FF.out)
        · have d3 : decide (UP < EN) = false := by have hi := HI.out; exact decide_eq_false (by omega)
          have FF := hide (FIN.out _ (show LayS m t first en g fb W W1 from by have hs := S1.out; rw [HQ.out.2.2 c3] at hs; exact hs))
          clear c3
          go_wp2_with fail
          first | exact FF.out | (go_end0; exact FF.out)
    · have HL := hide (show (en - 1) / 512 = first / 512 ∧ wh ≤ first by have hu := HU.out; have hh := HH.out; omega)
      have u1 : EN < UP := by have hi := HI.out; omega
      have C := LP.out first en W S0.out (Nat.le_refl _) HH.out.1 HH.out.2 HL.out.1
      have hi := HI.out
      rw [hi.1, hi.2.1] at C
      have HC := hide C
      have d2 : decide (EN < WH) = false := decide_eq_false (by omega)
      clear hi C a1 a2
      go_enter Try.func23, Try.ntmps23
      go_wp2_with fail
      refine CU.out.mono ?_
      rintro e w' ⟨rfl, hw'⟩; rw [hw']; clear hw' w' CU
      go_wp2_with fail
      refine HC.out.mono ?_
      rintro e W1 ⟨rfl, hs⟩
      have FF := hide (FIN.out _ hs)
      clear hs HC
      go_wp2_with fail
      refine (CW.out _).mono ?_
      rintro e w' ⟨rfl, hw'⟩; rw [hw']; clear hw' w'
      go_wp2_with fail
      first | exact FF.out | (go_end0; exact FF.out)
end Go.Proofs.Ytnhllnepnpmegaa
