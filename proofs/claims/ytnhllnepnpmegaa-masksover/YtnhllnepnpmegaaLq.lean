/- Package masks: layPart: contract. -/
import Derived.Test.YtnhllnepnpmegaaLp
namespace Go.Proofs.Ytnhllnepnpmegaa
open Go.ChangeShapes Go.WideShapes Go.ChangeAt Go.RowKit Go.Shelf Go.Proofs.Rx Go.Maps Go.Proofs.Bt
set_option linter.unusedVariables false
set_option linter.unusedSimpArgs false

attribute [local go_sem] Oper.semAt_some

/-- The window so far. -/
structure WIn (W wr : World) (nb : Nat) (X : Nat → Bool) (i : Nat) : Prop where
  row : Vec wr nb 8 84 (strips (cutF X (64 * i)))
  be : Below W.heap.size W wr
theorem WIn.start {W : World} {X : Nat → Bool} : WIn W (W.alloc (.cells #[.int .u64 0, .int .u64 0, .int .u64 0, .int .u64 0, .int .u64 0, .int .u64 0, .int .u64 0, .int .u64 0] 84)) W.heap.size X 0 := by
  refine ⟨⟨_, World.alloc_heap_new W _, rfl, fun k hk => ?_⟩, below_alloc _ _⟩
  have e : strips (cutF X (64 * 0)) k = .int .u64 0 := by
    unfold strips cutF
    rw [wd_none (fun j hj => by rw [decide_eq_false (by omega)]; rfl)]; rfl
  rw [e]
  rcases (show k = 0 ∨ k = 1 ∨ k = 2 ∨ k = 3 ∨ k = 4 ∨ k = 5 ∨ k = 6 ∨ k = 7 by omega) with rfl | rfl | rfl | rfl | rfl | rfl | rfl | rfl <;> rfl
theorem WIn.next {W wr w1 : World} {nb : Nat} {X : Nat → Bool} {i : Nat} (h : WIn W wr nb X i) (hi : i < 8) (hn : W.heap.size ≤ nb) (k : Below wr.heap.size wr w1) : WIn W (w1.setCell ⟨nb, i, none⟩ (.int .u64 ((wd (fun k => X (64 * i + k)) 64 : Nat) : Int))) nb X (i + 1) := by
  refine ⟨((h.row.below k).set i hi _).congr fun j hj => (strips_word j).symm, ?_⟩
  exact (h.be.trans (k.mono h.be.size)).trans ((kept_set (F := fun z => z = nb) w1 nb _ _ rfl).below (by have := h.be.size; have := k.size; omega) (fun z hz => by rw [hz]; exact hn))
set_option maxRecDepth 100000 in
set_option maxHeartbeats 2000000 in
theorem layPart_any {W : World} {m : Nat} {t : Tr} {T : Nat} {u : Value} {g : Nat → Bool} {fb : List Nat} (h : MkAt W m t) (hf : FormAt W T u g fb) (first en : Nat) (h1 : first < en) (h2 : en ≤ 35184372088832) (h3 : (en - 1) / 512 = first / 512) :
    Calls Try.prog 32 #[.pointer (some ⟨m, 0, none⟩), .int .u64 (first : Nat), .int .u64 (en : Nat), .iface T u] W (LayR m t first en g fb W) := by
  obtain ⟨wi, hwi⟩ : ∃ wi, wi = 512 * (first / 512) := ⟨_, rfl⟩
  obtain ⟨S0, hS0⟩ : ∃ S0, S0 = 8 * (first / 512) := ⟨_, rfl⟩
  have CW := hide (windowOf_any first (by omega) W)
  have CF := hide (formAt_any h.ok wi (by omega))
  rw [← hwi] at CW
  have a0 : W.cell? ⟨m, 0, none⟩ = some t.ptr := h.bk.cell 0 _ rfl
  obtain ⟨R, hR⟩ : ∃ R, LayR m t first en g fb W = R := ⟨_, rfl⟩
  have FIN := hide (show ∀ (f0 : Nat → Bool) (wr : World) (nb : Nat), same wi f0 (fnOf t.list) → W.heap.size ≤ nb → WIn W wr nb (winF g (fnOf t.list) wi first en) 8 →
      Calls Try.prog 34 #[t.ptr, .int .u64 (wi : Nat), .int .u64 ((wi + 512 : Nat) : Int), .iface 82 (.pointer (some ⟨nb, 0, none⟩))] wr fun e W1 => ∃ q, e = .returned (.pointer q) ∧ (∃ v, W1.cell? ⟨m, 0, none⟩ = some v) ∧ W1.frozen? ⟨m, 0, none⟩ = false ∧ R (.returned (.tuple #[])) (W1.setCell ⟨m, 0, none⟩ (.pointer q)) from fun f0 wr nb hs hn hw => by
    have hk := hw.be
    have h' := h.below hk
    refine (put_any h'.ok (.place nb _ hw.row) wi (wi + 512) (by omega) (by omega) (by omega) (by omega)).mono fun e W1 hp => ?_
    have hp2 := hp
    obtain ⟨s, rfl, ok, fn, fr, k⟩ := hp
    obtain ⟨q, hq⟩ := s.ptr_form
    have b1 := h'.bk.kept k h'.notB
    refine ⟨q, by rw [hq], ⟨_, b1.cell 0 _ rfl⟩, b1.fz 0, ?_⟩
    rw [← hR]
    refine lay_put h hk hp2 (fun w => ?_) (.inr fun z hz => ?_) q hq
    · by_cases c : wi ≤ w ∧ w < wi + 512
      · rw [if_pos c]
        show plF (cutF (winF g (fnOf t.list) wi first en) (64 * 8)) w = _
        unfold plF cutF winF
        rw [decide_eq_true (by omega), Bool.true_and, show wi + w % 512 = w by omega]
      · rw [if_neg c, if_neg (by omega)]
    · have e : z = nb := by simpa using hz
      rw [e]; exact hn)
  have CM := hide h
  have HF := hide hf
  have C1 := hide (show ∀ (i : Nat) (w : World), i < 8 → Calls Try.prog 38 #[.int .u64 ((64 * (S0 + i) : Nat) : Int), .int .u64 (first : Nat), .int .u64 (en : Nat)] w fun e w' => e = .returned (.int .u64 (prt (S0 + i) first en : Nat)) ∧ w' = w from fun i w hi => within_any (S0 + i) first en (by omega) (by omega) (by omega) w)
  have CG := hide (show ∀ (i : Nat) (wr : World), Below W.heap.size W wr → i < 8 → Calls Try.prog (ks T) #[u, .int .u64 ((64 * (S0 + i) : Nat) : Int)] wr fun e w' => e = .returned (.int .u64 (wd (fun k => g (64 * (S0 + i) + k)) 64 : Nat)) ∧ Below wr.heap.size wr w' from fun i wr hb hi => form_strip (hf.below hb) (S0 + i) (by omega))
  obtain ⟨-, hm1, he1⟩ := form_meth hf
  have CO := hide (show ∀ (T0 : Nat) (u0 : Value) (f0 : Nat → Bool) (b0 : List Nat), FormAt W T0 u0 f0 b0 → ∀ (i : Nat) (wr : World), Below W.heap.size W wr → i < 8 → Calls Try.prog (ks T0) #[u0, .int .u64 ((64 * (S0 + i) : Nat) : Int)] wr fun e w' => e = .returned (.int .u64 (wd (fun k => f0 (64 * (S0 + i) + k)) 64 : Nat)) ∧ Below wr.heap.size wr w' from fun T0 u0 f0 b0 h0 i wr hb hi => form_strip (h0.below hb) (S0 + i) (by omega))
  have VAL := hide (show ∀ (f0 : Nat → Bool) (i : Nat), same wi f0 (fnOf t.list) → i < 8 → andn (wd (fun k => f0 (64 * (S0 + i) + k)) 64) (prt (S0 + i) first en) ||| (wd (fun k => g (64 * (S0 + i) + k)) 64 &&& prt (S0 + i) first en) = wd (fun k => winF g (fnOf t.list) wi first en (64 * i + k)) 64 from fun f0 i hs hi => by
    have e : S0 = wi / 64 := by omega
    rw [e]
    exact win_strip g (fnOf t.list) f0 wi first en i hi (fun x hx => hs _ (by omega)) (by omega))
  have SW := hide (show wi = 64 * S0 ∧ S0 ≤ 549755813880 by omega)
  obtain ⟨K1, hK1⟩ : ∃ K, ks T = K := ⟨_, rfl⟩
  rw [hK1] at hm1 he1 CG
  obtain ⟨FI, hFI⟩ : ∃ F : Int, (first : Int) = F := ⟨_, rfl⟩
  obtain ⟨EN, hEN⟩ : ∃ F : Int, (en : Int) = F := ⟨_, rfl⟩
  obtain ⟨WI, hWI⟩ : ∃ F : Int, (wi : Int) = F := ⟨_, rfl⟩
  have HWI := hide hWI
  have w0 : 0 ≤ WI := by omega
  have w1 : WI ≤ 35184372088832 := by omega
  have FIN2 := hide (show ∀ (f0 : Nat → Bool) (wr : World) (nb : Nat), same wi f0 (fnOf t.list) → W.heap.size ≤ nb → WIn W wr nb (winF g (fnOf t.list) wi first en) 8 →
      Calls Try.prog 34 #[t.ptr, .int .u64 WI, .int .u64 (WI + 512), .iface 82 (.pointer (some ⟨nb, 0, none⟩))] wr fun e W1 => ∃ q, e = .returned (.pointer q) ∧ (∃ v, W1.cell? ⟨m, 0, none⟩ = some v) ∧ W1.frozen? ⟨m, 0, none⟩ = false ∧ R (.returned (.tuple #[])) (W1.setCell ⟨m, 0, none⟩ (.pointer q)) from fun f0 wr nb a b c => by
    have := FIN.out f0 wr nb a b c
    rw [Int.natCast_add, hWI] at this
    exact this)
  have CM2 := hide (show ∀ wr, Below W.heap.size W wr → wr.cell? ⟨m, 0, none⟩ = some t.ptr from fun wr hb => (h.below hb).bk.cell 0 _ rfl)
  rw [hFI] at CW
  rw [hWI] at CW CF
  simp only [hFI, hEN] at C1
  obtain ⟨qt, hqt⟩ := t.ptr_form
  rw [hqt] at a0 CF
  simp only [hqt] at FIN2 CM2
  rw [hR, hFI, hEN]
  clear hR FIN hFI hEN hWI hqt hwi hS0 hK1 h hf h1 h2 h3 CM HF
  go_enter Try.func32, Try.ntmps32
  go_wp2_with fail
  refine CW.out.mono ?_
  rintro e w' ⟨rfl, hw'⟩; rw [hw']; clear hw' w' CW
  go_wp2_with fail
  refine CF.out.mono ?_
  rintro e w' ⟨⟨T0, u0, f0, b0, rfl, hf0, hs0, -⟩, hw'⟩; rw [hw']; clear hw' w' CF
  have CO0 := hide (CO.out T0 u0 f0 b0 hf0)
  obtain ⟨-, hm0, he0⟩ := form_meth hf0
  obtain ⟨K0, hK0⟩ : ∃ K, ks T0 = K := ⟨_, rfl⟩
  rw [hK0] at hm0 he0 CO0
  have HS0 := hide hs0
  clear hK0 hs0 hf0 CO
  go_wp2_with fail
  have P0 := hide (WIn.start (W := W) (X := winF g (fnOf t.list) wi first en))
  obtain ⟨wz, hwz⟩ : ∃ wz, W.alloc (.cells #[.int .u64 0, .int .u64 0, .int .u64 0, .int .u64 0, .int .u64 0, .int .u64 0, .int .u64 0, .int .u64 0] 84) = wz := ⟨_, rfl⟩
  rw [hwz] at P0 ⊢
  obtain ⟨nb, hnb⟩ : ∃ nb, W.heap.size = nb := ⟨_, rfl⟩
  have HNB := hide (show W.heap.size ≤ nb by omega)
  rw [hnb] at P0 ⊢
  clear hwz hnb
  go_loopw [24] (fun vi wr => ∃ i : Nat, vi = .int .i64 (i : Nat) ∧ i ≤ 8 ∧ Hid (WIn W wr nb (winF g (fnOf t.list) wi first en) i)) (fun vi _ => 8 - (zi vi).toNat)
  case atStart => exact ⟨0, rfl, by omega, P0⟩
  case round =>
    clear P0
    obtain ⟨i, rfl, hi, HW⟩ := hrel
    by_cases c : i < 8
    · have d : decide ((i : Int) < 8) = true := decide_eq_true (by omega)
      have i0 : (0 : Int) ≤ (i : Int) := by omega
      have i1 : (i : Int) < 8 := by omega
      have V := hide (VAL.out f0 i HS0.out c)
      have C1' := hide (fun w => C1.out i w c)
      have HD := hide (show Below wr.heap.size wr wr.drew from drew_below wr)
      have HD2 := hide (show Below W.heap.size W wr.drew from HW.out.be.trans (HD.out.mono HW.out.be.size))
      have CA := hide (CO0.out i wr.drew HD2.out c)
      have CB := hide (fun (w2 : World) (hb : Below W.heap.size W w2) => CG.out i w2 hb c)
      have NX := hide (fun (w2 : World) (hb : Below wr.heap.size wr w2) => HW.out.next c HNB.out hb)
      have RW := hide (fun (w2 : World) (hb : Below wr.heap.size wr w2) => (HW.out.row.below hb))
      have l1 := wd_lt (fun k => f0 (64 * (S0 + i) + k)) (Nat.le_refl 64)
      have l2 := wd_lt (fun k => g (64 * (S0 + i) + k)) (Nat.le_refl 64)
      have l3 := prt_lt (S0 + i) first en
      have b1 := w_andNot _ _ l1 l3
      have b2 := w_and _ _ l2 l3
      have b3 := w_or _ _ (andn_lt (prt (S0 + i) first en) l1) (and_lt (prt (S0 + i) first en) l2)
      rw [V.out] at b3
      have sv := SW.out
      have eAT : ((64 * (S0 + i) : Nat) : Int) = WI + (i : Int) * 64 := by have := HWI.out; omega
      simp only [eAT] at C1' CA CB
      have t1 : WI + (i : Int) * 64 ≤ 35184372089344 := by omega
      have t2 : 0 ≤ WI + (i : Int) * 64 := by omega
      generalize wd (fun k => f0 (64 * (S0 + i) + k)) 64 = N1 at *
      generalize wd (fun k => g (64 * (S0 + i) + k)) 64 = N2 at *
      generalize prt (S0 + i) first en = PR at *
      generalize wd (fun k => winF g (fnOf t.list) wi first en (64 * i + k)) 64 = N3 at *
      generalize hA : andn N1 PR = A1 at *
      generalize hB : N2 &&& PR = A2 at *
      clear hA hB V l1 l2 l3 eAT sv
      go_wp2_with fail
      refine (C1'.out _).mono ?_
      rintro e w' ⟨rfl, hw'⟩; rw [hw']; clear hw' w' C1'
      go_wp2_with fail
      go_region_held3 (fun w' => True) (first | trivial | (go_keep; done)) (first
        | (refine CA.out.mono ?_; rintro e W2 ⟨rfl, k2⟩; have K2 := hide (HD.out.trans (k2.mono HD.out.size)); have K3 := hide (HD2.out.trans (k2.mono HD2.out.size)); have CB2 := hide (CB.out W2 K3.out); clear CA CB k2)
        | (refine CB2.out.mono ?_; rintro e W3 ⟨rfl, k3⟩; have K4 := hide (K2.out.trans (k3.mono K2.out.size)); have z1 := (RW.out W3 K4.out).cell i c; have z2 := (RW.out W3 K4.out).fz i; unfold strips at z1; have FN := hide (NX.out W3 K4.out); clear CB2 K2 k3 NX))
      go_wp2_with fail
      exact ⟨⟨i + 1, by rw [Int.natCast_add]; rfl, by omega, FN⟩, by simp [zi]; omega⟩
    · have d : decide ((i : Int) < 8) = false := decide_eq_false (by omega)
      obtain rfl : i = 8 := by omega
      have CP := hide (FIN2.out f0 wr nb HS0.out HNB.out HW.out)
      have a9 := CM2.out wr HW.out.be
      clear HW a0
      go_wp2_with fail
      refine CP.out.mono ?_
      rintro e W1 ⟨q, rfl, ⟨v, hv⟩, hfz, hr⟩
      have HR := hide hr
      clear hr CP a9
      go_wp2_with fail
      first | exact HR.out | (go_end0; exact HR.out)
end Go.Proofs.Ytnhllnepnpmegaa
