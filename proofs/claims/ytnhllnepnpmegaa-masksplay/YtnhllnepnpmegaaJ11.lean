/- J11 of the proof of both laws: texts Lq, Ly, Sep, one behind the other. -/
import Derived.Test.YtnhllnepnpmegaaJ10
import Derived.Test.YtnhllnepnpmegaaJ02
/- Package masks: layPart: contract. -/
namespace Go.Proofs.Ytnhllnepnpmegaa
open Go.ChangeShapes Go.WideShapes Go.ChangeAt Go.RowKit Go.Shelf Go.Proofs.Rx Go.Maps Go.Proofs.Bt
set_option linter.unusedVariables false
set_option linter.unusedSimpArgs false

attribute [local go_sem] Oper.semAt_some

/-- The window so far. -/
structure WIn (W wr : World) (nb : Nat) (X : Nat → Bool) (i : Nat) : Prop where
  row : Vec wr nb 8 84 (strips (cutF X (64 * i)))
  be : Below W.heap.size W wr
theorem WIn.start {W : World} {X : Nat → Bool} : WIn W (W.alloc (.cells #[.int .u64 0, .int .u64 0, .int .u64 0, .int .u64 0, .int .u64 0, .int .u64 0, .int .u64 0, .int .u64 0] 84)) W.heap.size X 0 := by
  refine ⟨⟨_, World.alloc_heap_new W _, rfl, fun k hk => ?_⟩, below_alloc _ _⟩
  have e : strips (cutF X (64 * 0)) k = .int .u64 0 := by
    unfold strips cutF
    rw [wd_none (fun j hj => by rw [decide_eq_false (by omega)]; rfl)]; rfl
  rw [e]
  rcases (show k = 0 ∨ k = 1 ∨ k = 2 ∨ k = 3 ∨ k = 4 ∨ k = 5 ∨ k = 6 ∨ k = 7 by omega) with rfl | rfl | rfl | rfl | rfl | rfl | rfl | rfl <;> rfl
theorem WIn.next {W wr w1 : World} {nb : Nat} {X : Nat → Bool} {i : Nat} (h : WIn W wr nb X i) (hi : i < 8) (hn : W.heap.size ≤ nb) (k : Below wr.heap.size wr w1) : WIn W (w1.setCell ⟨nb, i, none⟩ (.int .u64 ((wd (fun k => X (64 * i + k)) 64 : Nat) : Int))) nb X (i + 1) := by
  refine ⟨((h.row.below k).set i hi _).congr fun j hj => (strips_word j).symm, ?_⟩
  exact (h.be.trans (k.mono h.be.size)).trans ((kept_set (F := fun z => z = nb) w1 nb _ _ rfl).below (by have := h.be.size; have := k.size; omega) (fun z hz => by rw [hz]; exact hn))
set_option maxRecDepth 100000 in
set_option maxHeartbeats 2000000 in
theorem layPart_any {W : World} {m : Nat} {t : Tr} {T : Nat} {u : Value} {g : Nat → Bool} {fb : List Nat} (h : MkAt W m t) (hf : FormAt W T u g fb) (first en : Nat) (h1 : first < en) (h2 : en ≤ 35184372088832) (h3 : (en - 1) / 512 = first / 512) :
    Calls Try.prog 32 #[.pointer (some ⟨m, 0, none⟩), .int .u64 (first : Nat), .int .u64 (en : Nat), .iface T u] W (LayR m t first en g fb W) := by
  obtain ⟨wi, hwi⟩ : ∃ wi, wi = 512 * (first / 512) := ⟨_, rfl⟩
  obtain ⟨S0, hS0⟩ : ∃ S0, S0 = 8 * (first / 512) := ⟨_, rfl⟩
  have CW := hide (windowOf_any first (by omega) W)
  have CF := hide (formAt_any h.ok wi (by omega))
  rw [← hwi] at CW
  have a0 : W.cell? ⟨m, 0, none⟩ = some t.ptr := h.bk.cell 0 _ rfl
  obtain ⟨R, hR⟩ : ∃ R, LayR m t first en g fb W = R := ⟨_, rfl⟩
  have FIN := hide (show ∀ (f0 : Nat → Bool) (wr : World) (nb : Nat), same wi f0 (fnOf t.list) → W.heap.size ≤ nb → WIn W wr nb (winF g (fnOf t.list) wi first en) 8 →
      Calls Try.prog 34 #[t.ptr, .int .u64 (wi : Nat), .int .u64 ((wi + 512 : Nat) : Int), .iface 82 (.pointer (some ⟨nb, 0, none⟩))] wr fun e W1 => ∃ q, e = .returned (.pointer q) ∧ (∃ v, W1.cell? ⟨m, 0, none⟩ = some v) ∧ W1.frozen? ⟨m, 0, none⟩ = false ∧ R (.returned (.tuple #[])) (W1.setCell ⟨m, 0, none⟩ (.pointer q)) from fun f0 wr nb hs hn hw => by
    have hk := hw.be
    have h' := h.below hk
    refine (put_any h'.ok (.place nb _ hw.row) wi (wi + 512) (by omega) (by omega) (by omega) (by omega)).mono fun e W1 hp => ?_
    have hp2 := hp
    obtain ⟨s, rfl, ok, fn, fr, k⟩ := hp
    obtain ⟨q, hq⟩ := s.ptr_form
    have b1 := h'.bk.kept k h'.notB
    refine ⟨q, by rw [hq], ⟨_, b1.cell 0 _ rfl⟩, b1.fz 0, ?_⟩
    rw [← hR]
    refine lay_put h hk hp2 (fun w => ?_) (.inr fun z hz => ?_) q hq
    · by_cases c : wi ≤ w ∧ w < wi + 512
      · rw [if_pos c]
        show plF (cutF (winF g (fnOf t.list) wi first en) (64 * 8)) w = _
        unfold plF cutF winF
        rw [decide_eq_true (by omega), Bool.true_and, show wi + w % 512 = w by omega]
      · rw [if_neg c, if_neg (by omega)]
    · have e : z = nb := by simpa using hz
      rw [e]; exact hn)
  have CM := hide h
  have HF := hide hf
  have C1 := hide (show ∀ (i : Nat) (w : World), i < 8 → Calls Try.prog 38 #[.int .u64 ((64 * (S0 + i) : Nat) : Int), .int .u64 (first : Nat), .int .u64 (en : Nat)] w fun e w' => e = .returned (.int .u64 (prt (S0 + i) first en : Nat)) ∧ w' = w from fun i w hi => within_any (S0 + i) first en (by omega) (by omega) (by omega) w)
  have CG := hide (show ∀ (i : Nat) (wr : World), Below W.heap.size W wr → i < 8 → Calls Try.prog (ks T) #[u, .int .u64 ((64 * (S0 + i) : Nat) : Int)] wr fun e w' => e = .returned (.int .u64 (wd (fun k => g (64 * (S0 + i) + k)) 64 : Nat)) ∧ Below wr.heap.size wr w' from fun i wr hb hi => form_strip (hf.below hb) (S0 + i) (by omega))
  obtain ⟨-, hm1, he1⟩ := form_meth hf
  have CO := hide (show ∀ (T0 : Nat) (u0 : Value) (f0 : Nat → Bool) (b0 : List Nat), FormAt W T0 u0 f0 b0 → ∀ (i : Nat) (wr : World), Below W.heap.size W wr → i < 8 → Calls Try.prog (ks T0) #[u0, .int .u64 ((64 * (S0 + i) : Nat) : Int)] wr fun e w' => e = .returned (.int .u64 (wd (fun k => f0 (64 * (S0 + i) + k)) 64 : Nat)) ∧ Below wr.heap.size wr w' from fun T0 u0 f0 b0 h0 i wr hb hi => form_strip (h0.below hb) (S0 + i) (by omega))
  have VAL := hide (show ∀ (f0 : Nat → Bool) (i : Nat), same wi f0 (fnOf t.list) → i < 8 → andn (wd (fun k => f0 (64 * (S0 + i) + k)) 64) (prt (S0 + i) first en) ||| (wd (fun k => g (64 * (S0 + i) + k)) 64 &&& prt (S0 + i) first en) = wd (fun k => winF g (fnOf t.list) wi first en (64 * i + k)) 64 from fun f0 i hs hi => by
    have e : S0 = wi / 64 := by omega
    rw [e]
    exact win_strip g (fnOf t.list) f0 wi first en i hi (fun x hx => hs _ (by omega)) (by omega))
  have SW := hide (show wi = 64 * S0 ∧ S0 ≤ 549755813880 by omega)
  obtain ⟨K1, hK1⟩ : ∃ K, ks T = K := ⟨_, rfl⟩
  rw [hK1] at hm1 he1 CG
  obtain ⟨FI, hFI⟩ : ∃ F : Int, (first : Int) = F := ⟨_, rfl⟩
  obtain ⟨EN, hEN⟩ : ∃ F : Int, (en : Int) = F := ⟨_, rfl⟩
  obtain ⟨WI, hWI⟩ : ∃ F : Int, (wi : Int) = F := ⟨_, rfl⟩
  have HWI := hide hWI
  have w0 : 0 ≤ WI := by omega
  have w1 : WI ≤ 35184372088832 := by omega
  have FIN2 := hide (show ∀ (f0 : Nat → Bool) (wr : World) (nb : Nat), same wi f0 (fnOf t.list) → W.heap.size ≤ nb → WIn W wr nb (winF g (fnOf t.list) wi first en) 8 →
      Calls Try.prog 34 #[t.ptr, .int .u64 WI, .int .u64 (WI + 512), .iface 82 (.pointer (some ⟨nb, 0, none⟩))] wr fun e W1 => ∃ q, e = .returned (.pointer q) ∧ (∃ v, W1.cell? ⟨m, 0, none⟩ = some v) ∧ W1.frozen? ⟨m, 0, none⟩ = false ∧ R (.returned (.tuple #[])) (W1.setCell ⟨m, 0, none⟩ (.pointer q)) from fun f0 wr nb a b c => by
    have := FIN.out f0 wr nb a b c
    rw [Int.natCast_add, hWI] at this
    exact this)
  have CM2 := hide (show ∀ wr, Below W.heap.size W wr → wr.cell? ⟨m, 0, none⟩ = some t.ptr from fun wr hb => (h.below hb).bk.cell 0 _ rfl)
  rw [hFI] at CW
  rw [hWI] at CW CF
  simp only [hFI, hEN] at C1
  obtain ⟨qt, hqt⟩ := t.ptr_form
  rw [hqt] at a0 CF
  simp only [hqt] at FIN2 CM2
  rw [hR, hFI, hEN]
  clear hR FIN hFI hEN hWI hqt hwi hS0 hK1 h hf h1 h2 h3 CM HF
  go_enter Try.func32, Try.ntmps32
  go_wp2_with fail
  refine CW.out.mono ?_
  rintro e w' ⟨rfl, hw'⟩; rw [hw']; clear hw' w' CW
  go_wp2_with fail
  refine CF.out.mono ?_
  rintro e w' ⟨⟨T0, u0, f0, b0, rfl, hf0, hs0, -⟩, hw'⟩; rw [hw']; clear hw' w' CF
  have CO0 := hide (CO.out T0 u0 f0 b0 hf0)
  obtain ⟨-, hm0, he0⟩ := form_meth hf0
  obtain ⟨K0, hK0⟩ : ∃ K, ks T0 = K := ⟨_, rfl⟩
  rw [hK0] at hm0 he0 CO0
  have HS0 := hide hs0
  clear hK0 hs0 hf0 CO
  go_wp2_with fail
  have P0 := hide (WIn.start (W := W) (X := winF g (fnOf t.list) wi first en))
  obtain ⟨wz, hwz⟩ : ∃ wz, W.alloc (.cells #[.int .u64 0, .int .u64 0, .int .u64 0, .int .u64 0, .int .u64 0, .int .u64 0, .int .u64 0, .int .u64 0] 84) = wz := ⟨_, rfl⟩
  rw [hwz] at P0 ⊢
  obtain ⟨nb, hnb⟩ : ∃ nb, W.heap.size = nb := ⟨_, rfl⟩
  have HNB := hide (show W.heap.size ≤ nb by omega)
  rw [hnb] at P0 ⊢
  clear hwz hnb
  go_loopw [24] (fun vi wr => ∃ i : Nat, vi = .int .i64 (i : Nat) ∧ i ≤ 8 ∧ Hid (WIn W wr nb (winF g (fnOf t.list) wi first en) i)) (fun vi _ => 8 - (zi vi).toNat)
  case atStart => exact ⟨0, rfl, by omega, P0⟩
  case round =>
    clear P0
    obtain ⟨i, rfl, hi, HW⟩ := hrel
    by_cases c : i < 8
    · have d : decide ((i : Int) < 8) = true := decide_eq_true (by omega)
      have i0 : (0 : Int) ≤ (i : Int) := by omega
      have i1 : (i : Int) < 8 := by omega
      have V := hide (VAL.out f0 i HS0.out c)
      have C1' := hide (fun w => C1.out i w c)
      have HD := hide (show Below wr.heap.size wr wr.drew from drew_below wr)
      have HD2 := hide (show Below W.heap.size W wr.drew from HW.out.be.trans (HD.out.mono HW.out.be.size))
      have CA := hide (CO0.out i wr.drew HD2.out c)
      have CB := hide (fun (w2 : World) (hb : Below W.heap.size W w2) => CG.out i w2 hb c)
      have NX := hide (fun (w2 : World) (hb : Below wr.heap.size wr w2) => HW.out.next c HNB.out hb)
      have RW := hide (fun (w2 : World) (hb : Below wr.heap.size wr w2) => (HW.out.row.below hb))
      have l1 := wd_lt (fun k => f0 (64 * (S0 + i) + k)) (Nat.le_refl 64)
      have l2 := wd_lt (fun k => g (64 * (S0 + i) + k)) (Nat.le_refl 64)
      have l3 := prt_lt (S0 + i) first en
      have b1 := w_andNot _ _ l1 l3
      have b2 := w_and _ _ l2 l3
      have b3 := w_or _ _ (andn_lt (prt (S0 + i) first en) l1) (and_lt (prt (S0 + i) first en) l2)
      rw [V.out] at b3
      have sv := SW.out
      have eAT : ((64 * (S0 + i) : Nat) : Int) = WI + (i : Int) * 64 := by have := HWI.out; omega
      simp only [eAT] at C1' CA CB
      have t1 : WI + (i : Int) * 64 ≤ 35184372089344 := by omega
      have t2 : 0 ≤ WI + (i : Int) * 64 := by omega
      generalize wd (fun k => f0 (64 * (S0 + i) + k)) 64 = N1 at *
      generalize wd (fun k => g (64 * (S0 + i) + k)) 64 = N2 at *
      generalize prt (S0 + i) first en = PR at *
      generalize wd (fun k => winF g (fnOf t.list) wi first en (64 * i + k)) 64 = N3 at *
      generalize hA : andn N1 PR = A1 at *
      generalize hB : N2 &&& PR = A2 at *
      clear hA hB V l1 l2 l3 eAT sv
      go_wp2_with fail
      refine (C1'.out _).mono ?_
      rintro e w' ⟨rfl, hw'⟩; rw [hw']; clear hw' w' C1'
      go_wp2_with fail
      go_region_held3 (fun w' => True) (first | trivial | (go_keep; done)) (first
        | (refine CA.out.mono ?_; rintro e W2 ⟨rfl, k2⟩; have K2 := hide (HD.out.trans (k2.mono HD.out.size)); have K3 := hide (HD2.out.trans (k2.mono HD2.out.size)); have CB2 := hide (CB.out W2 K3.out); clear CA CB k2)
        | (refine CB2.out.mono ?_; rintro e W3 ⟨rfl, k3⟩; have K4 := hide (K2.out.trans (k3.mono K2.out.size)); have z1 := (RW.out W3 K4.out).cell i c; have z2 := (RW.out W3 K4.out).fz i; unfold strips at z1; have FN := hide (NX.out W3 K4.out); clear CB2 K2 k3 NX))
      go_wp2_with fail
      exact ⟨⟨i + 1, by rw [Int.natCast_add]; rfl, by omega, FN⟩, by simp [zi]; omega⟩
    · have d : decide ((i : Int) < 8) = false := decide_eq_false (by omega)
      obtain rfl : i = 8 := by omega
      have CP := hide (FIN2.out f0 wr nb HS0.out HNB.out HW.out)
      have a9 := CM2.out wr HW.out.be
      clear HW a0
      go_wp2_with fail
      refine CP.out.mono ?_
      rintro e W1 ⟨q, rfl, ⟨v, hv⟩, hfz, hr⟩
      have HR := hide hr
      clear hr CP a9
      go_wp2_with fail
      first | exact HR.out | (go_end0; exact HR.out)
end Go.Proofs.Ytnhllnepnpmegaa

/- Package masks: lay: contract. -/
namespace Go.Proofs.Ytnhllnepnpmegaa
open Go.ChangeShapes Go.WideShapes Go.ChangeAt Go.RowKit Go.Shelf Go.Proofs.Rx Go.Maps Go.Proofs.Bt
set_option linter.unusedVariables false
set_option linter.unusedSimpArgs false

attribute [local go_sem] Oper.semAt_some

/-- Laid so far. -/
def LayS (m : Nat) (t : Tr) (first a : Nat) (g : Nat → Bool) (fb : List Nat) (W W' : World) : Prop := ∃ t', MkAt W' m t' ∧ (∀ w, fnOf t'.list w = if first ≤ w ∧ w < a then g w else fnOf t.list w) ∧
  (∀ x ∈ t'.list, (inB t.list x.b ∨ W.heap.size ≤ x.b) ∧ ((∃ y ∈ t.list, y.fb = x.fb) ∨ x.fb = fb ∨ ∀ z ∈ x.fb, W.heap.size ≤ z)) ∧ Kept (fun z => z = m ∨ inB t.list z) W W'
theorem LayS.start {W : World} {m : Nat} {t : Tr} {first : Nat} {g : Nat → Bool} {fb : List Nat} (h : MkAt W m t) : LayS m t first first g fb W W :=
  ⟨t, h, fun w => by rw [if_neg (by omega)], fun x hx => ⟨.inl ⟨x, hx, rfl⟩, .inl ⟨x, hx, rfl⟩⟩, Kept.refl _ _⟩
theorem LayS.next {W W1 W2 : World} {m : Nat} {t t1 : Tr} {first a b : Nat} {g : Nat → Bool} {fb : List Nat} (h1 : MkAt W1 m t1) (f1 : ∀ w, fnOf t1.list w = if first ≤ w ∧ w < a then g w else fnOf t.list w)
    (r1 : ∀ x ∈ t1.list, (inB t.list x.b ∨ W.heap.size ≤ x.b) ∧ ((∃ y ∈ t.list, y.fb = x.fb) ∨ x.fb = fb ∨ ∀ z ∈ x.fb, W.heap.size ≤ z)) (k1 : Kept (fun z => z = m ∨ inB t.list z) W W1) (ha : first ≤ a) (hb : a ≤ b)
    (h2 : LayR m t1 a b g fb W1 (.returned (.tuple #[])) W2) : LayS m t first b g fb W W2 := by
  obtain ⟨-, t2, m2, f2, r2, k2⟩ := h2
  have s := k1.size
  refine ⟨t2, m2, fun w => ?_, fun x hx => ?_, k1.trans k2 (fun z hz hin => ?_)⟩
  · rw [f2 w, f1 w]
    by_cases c : a ≤ w ∧ w < b
    · rw [if_pos c, if_pos (by omega)]
    · rw [if_neg c]
      by_cases d : first ≤ w ∧ w < a
      · rw [if_pos d, if_pos (by omega)]
      · rw [if_neg d, if_neg (by omega)]
  · obtain ⟨a1, a2⟩ := r2 x hx
    refine ⟨?_, ?_⟩
    · rcases a1 with ⟨y, hy, e⟩ | a1
      · rw [← e]; exact (r1 y hy).1
      · exact .inr (Nat.le_trans s a1)
    · rcases a2 with ⟨y, hy, e⟩ | a2 | a2
      · rw [← e]; exact (r1 y hy).2
      · exact .inr (.inl a2)
      · exact .inr (.inr fun z hz => Nat.le_trans s (a2 z hz))
  · rcases hin with e | ⟨y, hy, e⟩
    · exact .inl e
    · rcases (r1 y hy).1 with u | u
      · right; rw [← e]; exact u
      · omega
theorem LayS.part {W W1 : World} {m : Nat} {t : Tr} {T : Nat} {u : Value} {first a b : Nat} {g : Nat → Bool} {fb : List Nat} (h : MkAt W m t) (hf : FormAt W T u g fb) (s : LayS m t first a g fb W W1) (h0 : first ≤ a) (h1 : a < b) (h2 : b ≤ 35184372088832) (h3 : (b - 1) / 512 = a / 512) :
    Calls Try.prog 32 #[.pointer (some ⟨m, 0, none⟩), .int .u64 (a : Nat), .int .u64 (b : Nat), .iface T u] W1 fun e W2 => e = .returned (.tuple #[]) ∧ LayS m t first b g fb W W2 := by
  obtain ⟨t1, m1, f1, r1, k1⟩ := s
  refine (layPart_any m1 (hf.kept k1 (h.notF hf)) a b h1 h2 h3).mono fun e W2 l => ⟨l.1, LayS.next m1 f1 r1 k1 h0 (by omega) ⟨rfl, l.2⟩⟩
theorem LayS.put {W W1 : World} {m : Nat} {t : Tr} {T : Nat} {u : Value} {first a b : Nat} {g : Nat → Bool} {fb : List Nat} (h : MkAt W m t) (hf : FormAt W T u g fb) (s : LayS m t first a g fb W W1) (h0 : first ≤ a) (h1 : a < b) (h2 : b ≤ 35184372088832) (h3 : a % 512 = 0) (h4 : b % 512 = 0) :
    ∃ q0, W1.cell? ⟨m, 0, none⟩ = some (.pointer q0) ∧ Calls Try.prog 34 #[.pointer q0, .int .u64 (a : Nat), .int .u64 (b : Nat), .iface T u] W1 fun e W2 => ∃ q, e = .returned (.pointer q) ∧ (∃ v, W2.cell? ⟨m, 0, none⟩ = some v) ∧ W2.frozen? ⟨m, 0, none⟩ = false ∧ LayS m t first b g fb W (W2.setCell ⟨m, 0, none⟩ (.pointer q)) := by
  obtain ⟨t1, m1, f1, r1, k1⟩ := s
  obtain ⟨q0, hq0⟩ := t1.ptr_form
  have c := m1.bk.cell 0 _ rfl
  rw [hq0] at c
  refine ⟨q0, c, ?_⟩
  rw [← hq0]
  refine (put_any m1.ok (hf.kept k1 (h.notF hf)) a b h1 h2 h3 h4).mono fun e W2 hp => ?_
  have hp2 := hp
  obtain ⟨s, rfl, ok, fn, fr, k⟩ := hp
  obtain ⟨q, hq⟩ := s.ptr_form
  have b1 := m1.bk.kept k m1.notB
  refine ⟨q, by rw [hq], ⟨_, b1.cell 0 _ rfl⟩, b1.fz 0, ?_⟩
  have l := lay_put (first := a) (en := b) (g := g) (fb := fb) m1 (Below.refl _ _) hp2 (fun w => rfl) (.inl rfl) q hq
  exact LayS.next m1 f1 r1 k1 h0 (by omega) l
set_option maxRecDepth 100000 in
set_option maxHeartbeats 1000000 in
theorem lay_any {W : World} {m : Nat} {t : Tr} {T : Nat} {u : Value} {g : Nat → Bool} {fb : List Nat} (h : MkAt W m t) (hf : FormAt W T u g fb) (first en : Nat) (h1 : first < en) (h2 : en ≤ 35184372088832) :
    Calls Try.prog 23 #[.pointer (some ⟨m, 0, none⟩), .int .u64 (first : Nat), .int .u64 (en : Nat), .iface T u] W fun e W' => e = .returned (.tuple #[]) ∧ LayS m t first en g fb W W' := by
  obtain ⟨R, hR⟩ : ∃ R : Ending → World → Prop, R = fun e W' => e = .returned (.tuple #[]) ∧ LayS m t first en g fb W W' := ⟨_, rfl⟩
  rw [← hR]
  have FIN := hide (show ∀ W', LayS m t first en g fb W W' → R (.returned (.tuple #[])) W' from fun W' h => by rw [hR]; exact ⟨rfl, h⟩)
  clear hR
  have S0 := hide (LayS.start (first := first) (g := g) (fb := fb) h)
  have LP := hide (fun (a b : Nat) (W1 : World) (s : LayS m t first a g fb W W1) (h0 : first ≤ a) (h1 : a < b) (h2 : b ≤ 35184372088832) (h3 : (b - 1) / 512 = a / 512) => s.part h hf h0 h1 h2 h3)
  have PP := hide (fun (a b : Nat) (W1 : World) (s : LayS m t first a g fb W W1) (h0 : first ≤ a) (h1 : a < b) (h2 : b ≤ 35184372088832) (h3 : a % 512 = 0) (h4 : b % 512 = 0) => s.put h hf h0 h1 h2 h3 h4)
  have CU := hide (windowUp_any first (by omega) W)
  have CW := hide (fun w => windowOf_any en (by omega) w)
  obtain ⟨up, hup⟩ : ∃ x, x = 512 * ((first + 511) / 512) := ⟨_, rfl⟩
  obtain ⟨wh, hwh⟩ : ∃ x, x = 512 * (en / 512) := ⟨_, rfl⟩
  rw [← hup] at CU
  simp only [← hwh] at CW
  obtain ⟨FI, hFI⟩ : ∃ F : Int, (first : Int) = F := ⟨_, rfl⟩
  obtain ⟨EN, hEN⟩ : ∃ F : Int, (en : Int) = F := ⟨_, rfl⟩
  obtain ⟨UP, hUP⟩ : ∃ F : Int, (up : Int) = F := ⟨_, rfl⟩
  obtain ⟨WH, hWH⟩ : ∃ F : Int, (wh : Int) = F := ⟨_, rfl⟩
  have p0 : 0 ≤ FI := by omega
  have p1 : FI < EN := by omega
  have p2 : EN ≤ 35184372088832 := by omega
  have p3 : 0 ≤ UP := by omega
  have p4 : UP ≤ 35184372089344 := by omega
  have p5 : 0 ≤ WH := by omega
  have p6 : WH ≤ EN := by omega
  have HU := hide (And.intro hup hwh)
  have HH := hide (And.intro h1 h2)
  have HI := hide (And.intro hFI (And.intro hEN (And.intro hUP hWH)))
  rw [hFI, hUP] at CU
  simp only [hEN, hWH] at CW
  rw [hFI, hEN]
  clear hFI hEN hUP hWH hup hwh h hf h1 h2

  by_cases a1 : first % 512 = 0
  · have e : UP = FI := by have hu := HU.out; have hi := HI.out; omega
    have HL := hide a1
    rw [e] at CU
    clear a1 e p3 p4
    go_enter Try.func23, Try.ntmps23
    go_wp2_with fail
    refine CU.out.mono ?_
    rintro e w' ⟨rfl, hw'⟩; rw [hw']; clear hw' w' CU
    go_wp2_with fail
    refine (CW.out _).mono ?_
    rintro e w' ⟨rfl, hw'⟩; rw [hw']; clear hw' w'
    by_cases c2 : first < wh
    · have d2 : decide (FI < WH) = true := by have hi := HI.out; exact decide_eq_true (by omega)
      have C := PP.out first wh W S0.out (by have hu := HU.out; have hh := HH.out; omega) c2 (by have hu := HU.out; have hh := HH.out; omega) (by have hu := HU.out; have hh := HH.out; have hl := HL.out; omega) (by have hu := HU.out; omega)
      have hi := HI.out
      rw [hi.2.2.2] at C
      simp only [hi.1] at C
      obtain ⟨q0, hq0, C⟩ := C
      have HC := hide C
      have HQ := hide (show first ≤ wh ∧ (wh < en → (en - 1) / 512 = wh / 512) ∧ (¬ wh < en → wh = en) by have hu := HU.out; have hh := HH.out; have hl := HL.out; omega)
      clear hi C c2
      go_wp2_with fail
      refine HC.out.mono ?_
      rintro e W5 ⟨q, rfl, ⟨v, hv⟩, hfz, hs⟩
      have S5 := hide hs
      clear hs HC hq0
      by_cases c3 : wh < en
      · have d3 : decide (WH < EN) = true := by have hi := HI.out; exact decide_eq_true (by omega)
        have C := LP.out wh en (W5.setCell ⟨m, 0, none⟩ (.pointer q)) S5.out HQ.out.1 c3 HH.out.2 (HQ.out.2.1 c3)
        have hi := HI.out
        rw [hi.2.1, hi.2.2.2] at C
        have HC := hide C
        clear hi C c3
        go_wp2_with fail
        refine HC.out.mono ?_
        rintro e W7 ⟨rfl, hs⟩
        have FF := hide (FIN.out _ hs)
        clear hs HC
        go_wp2_with fail
        first | exact FF.out | (go_end0; exact FF.out)
      · have d3 : decide (WH < EN) = false := by have hi := HI.out; exact decide_eq_false (by omega)
        have FF := hide (FIN.out _ (show LayS m t first en g fb W (W5.setCell ⟨m, 0, none⟩ (.pointer q)) from by have hs := S5.out; rw [HQ.out.2.2 c3] at hs; exact hs))
        clear c3
        go_wp2_with fail
        first | exact FF.out | (go_end0; exact FF.out)
    · have d2 : decide (FI < WH) = false := by have hi := HI.out; exact decide_eq_false (by omega)
      have HQ := hide (show first ≤ first ∧ (first < en → (en - 1) / 512 = first / 512) ∧ (¬ first < en → first = en) by have hu := HU.out; have hh := HH.out; have hl := HL.out; omega)
      clear c2
      by_cases c3 : first < en
      · have d3 : decide (FI < EN) = true := by have hi := HI.out; exact decide_eq_true (by omega)
        have C := LP.out first en W S0.out HQ.out.1 c3 HH.out.2 (HQ.out.2.1 c3)
        have hi := HI.out
        rw [hi.2.1, hi.1] at C
        have HC := hide C
        clear hi C c3
        go_wp2_with fail
        refine HC.out.mono ?_
        rintro e W7 ⟨rfl, hs⟩
        have FF := hide (FIN.out _ hs)
        clear hs HC
        go_wp2_with fail
        first | exact FF.out | (go_end0; exact FF.out)
      · exact absurd HH.out.1 c3
  · by_cases a2 : up ≤ en
    · have HL := hide (show up % 512 = 0 ∧ first < up ∧ up ≤ en ∧ (up - 1) / 512 = first / 512 by have hu := HU.out; have hh := HH.out; omega)
      have u1 : UP ≤ EN := by have hi := HI.out; omega
      have u2 : FI < UP := by have hi := HI.out; have hl := HL.out; omega
      have C := LP.out first up W S0.out (Nat.le_refl _) HL.out.2.1 (by have hh := HH.out; omega) HL.out.2.2.2
      have hi := HI.out
      rw [hi.1, hi.2.2.1] at C
      have HC := hide C
      clear hi C a1 a2
      go_enter Try.func23, Try.ntmps23
      go_wp2_with fail
      refine CU.out.mono ?_
      rintro e w' ⟨rfl, hw'⟩; rw [hw']; clear hw' w' CU
      go_wp2_with fail
      refine HC.out.mono ?_
      rintro e W1 ⟨rfl, hs⟩
      have S1 := hide hs
      clear hs HC
      go_wp2_with fail
      refine (CW.out _).mono ?_
      rintro e w' ⟨rfl, hw'⟩; rw [hw']; clear hw' w'
      by_cases c2 : up < wh
      · have d2 : decide (UP < WH) = true := by have hi := HI.out; exact decide_eq_true (by omega)
        have C := PP.out up wh W1 S1.out (by have hu := HU.out; have hh := HH.out; omega) c2 (by have hu := HU.out; have hh := HH.out; omega) (by have hu := HU.out; have hh := HH.out; have hl := HL.out; omega) (by have hu := HU.out; omega)
        have hi := HI.out
        rw [hi.2.2.2] at C
        simp only [hi.2.2.1] at C
        obtain ⟨q0, hq0, C⟩ := C
        have HC := hide C
        have HQ := hide (show first ≤ wh ∧ (wh < en → (en - 1) / 512 = wh / 512) ∧ (¬ wh < en → wh = en) by have hu := HU.out; have hh := HH.out; have hl := HL.out; omega)
        clear hi C c2
        go_wp2_with fail
        refine HC.out.mono ?_
        rintro e W5 ⟨q, rfl, ⟨v, hv⟩, hfz, hs⟩
        have S5 := hide hs
        clear hs HC hq0
        by_cases c3 : wh < en
        · have d3 : decide (WH < EN) = true := by have hi := HI.out; exact decide_eq_true (by omega)
          have C := LP.out wh en (W5.setCell ⟨m, 0, none⟩ (.pointer q)) S5.out HQ.out.1 c3 HH.out.2 (HQ.out.2.1 c3)
          have hi := HI.out
          rw [hi.2.1, hi.2.2.2] at C
          have HC := hide C
          clear hi C c3
          go_wp2_with fail
          refine HC.out.mono ?_
          rintro e W7 ⟨rfl, hs⟩
          have FF := hide (FIN.out _ hs)
          clear hs HC
          go_wp2_with fail
          first | exact FF.out | (go_end0; exact FF.out)
        · have d3 : decide (WH < EN) = false := by have hi := HI.out; exact decide_eq_false (by omega)
          have FF := hide (FIN.out _ (show LayS m t first en g fb W (W5.setCell ⟨m, 0, none⟩ (.pointer q)) from by have hs := S5.out; rw [HQ.out.2.2 c3] at hs; exact hs))
          clear c3
          go_wp2_with fail
          first | exact FF.out | (go_end0; exact FF.out)
      · have d2 : decide (UP < WH) = false := by have hi := HI.out; exact decide_eq_false (by omega)
        have HQ := hide (show first ≤ up ∧ (up < en → (en - 1) / 512 = up / 512) ∧ (¬ up < en → up = en) by have hu := HU.out; have hh := HH.out; have hl := HL.out; omega)
        clear c2
        by_cases c3 : up < en
        · have d3 : decide (UP < EN) = true := by have hi := HI.out; exact decide_eq_true (by omega)
          have C := LP.out up en W1 S1.out HQ.out.1 c3 HH.out.2 (HQ.out.2.1 c3)
          have hi := HI.out
          rw [hi.2.1, hi.2.2.1] at C
          have HC := hide C
          clear hi C c3
          go_wp2_with fail
          refine HC.out.mono ?_
          rintro e W7 ⟨rfl, hs⟩
          have FF := hide (FIN.out _ hs)
          clear hs HC
          go_wp2_with fail
          first | exact FF.out | (go_end0; exact FF.out)
        · have d3 : decide (UP < EN) = false := by have hi := HI.out; exact decide_eq_false (by omega)
          have FF := hide (FIN.out _ (show LayS m t first en g fb W W1 from by have hs := S1.out; rw [HQ.out.2.2 c3] at hs; exact hs))
          clear c3
          go_wp2_with fail
          first | exact FF.out | (go_end0; exact FF.out)
    · have HL := hide (show (en - 1) / 512 = first / 512 ∧ wh ≤ first by have hu := HU.out; have hh := HH.out; omega)
      have u1 : EN < UP := by have hi := HI.out; omega
      have C := LP.out first en W S0.out (Nat.le_refl _) HH.out.1 HH.out.2 HL.out.1
      have hi := HI.out
      rw [hi.1, hi.2.1] at C
      have HC := hide C
      have d2 : decide (EN < WH) = false := decide_eq_false (by omega)
      clear hi C a1 a2
      go_enter Try.func23, Try.ntmps23
      go_wp2_with fail
      refine CU.out.mono ?_
      rintro e w' ⟨rfl, hw'⟩; rw [hw']; clear hw' w' CU
      go_wp2_with fail
      refine HC.out.mono ?_
      rintro e W1 ⟨rfl, hs⟩
      have FF := hide (FIN.out _ hs)
      clear hs HC
      go_wp2_with fail
      refine (CW.out _).mono ?_
      rintro e w' ⟨rfl, hw'⟩; rw [hw']; clear hw' w'
      go_wp2_with fail
      first | exact FF.out | (go_end0; exact FF.out)
end Go.Proofs.Ytnhllnepnpmegaa

/- Things that lie beside one another in memory, each with its blocks: a list of them, and steps in one of them. -/
namespace Go.Proofs.Ytnhllnepnpmegaa
open Go.ChangeShapes Go.WideShapes Go.ChangeAt Go.RowKit Go.Shelf Go.Proofs.Rx Go.Maps
set_option linter.unusedVariables false
set_option linter.unusedSimpArgs false

/-- A thing: what lies so, with which blocks. -/
structure Thing where
  P : World → (Nat → Prop) → Prop
  kept : ∀ {W W' : World} {F K : Nat → Prop}, P W F → Kept K W W' → (∀ z, F z → ¬ K z) → P W' F
  lt : ∀ {W : World} {F : Nat → Prop}, P W F → ∀ z, F z → z < W.heap.size
def Thing.none : Thing := ⟨fun _ F => ∀ z, ¬ F z, fun h _ _ => h, fun h z hz => (h z hz).elim⟩
/-- All of these lie beside one another, in blocks from N on; behind w nothing below N has turned. -/
structure Sep (N : Nat) (w W : World) (l : List Thing) : Prop where
  ex : ∃ F : Nat → Nat → Prop, (∀ i (h : i < l.length), l[i].P W (F i)) ∧ (∀ i j, i < l.length → j < l.length → i ≠ j → ∀ z, F i z → ¬ F j z) ∧ ∀ i, i < l.length → ∀ z, F i z → N ≤ z
  be : Below N w W
  nw : N ≤ W.heap.size
section
variable {N : Nat} {w W W' : World} {l : List Thing}
theorem Sep.start (w : World) : Sep w.heap.size w w [] := ⟨⟨fun _ _ => False, fun i h => absurd h (Nat.not_lt_zero _), fun i j h => absurd h (Nat.not_lt_zero _), fun i h => absurd h (Nat.not_lt_zero _)⟩, Below.refl _ _, Nat.le_refl _⟩
theorem Sep.read (h : Sep N w W l) (k : Below W.heap.size W W') : Sep N w W' l := by
  obtain ⟨⟨F, a, b, c⟩, be, nw⟩ := h
  exact ⟨⟨F, fun i hi => (l[i]).kept (a i hi) (Kept.of_below (F := fun _ => False) k) (fun _ _ f => f), b, c⟩, be.trans (k.mono nw), Nat.le_trans nw k.size⟩
/-- One of them goes a step. -/
theorem Sep.step (h : Sep N w W l) (i : Nat) (hi : i < l.length) (t : Thing) {f : FuncId} {args : Array Value} {R : Ending → World → Prop}
    (c : ∀ F, l[i].P W F → Calls Try.prog f args W fun e W' => R e W' ∧ ∃ F', t.P W' F' ∧ To W W' F F') : Calls Try.prog f args W fun e W' => R e W' ∧ Sep N w W' (l.set i t) := by
  obtain ⟨⟨F, a, b, d⟩, be, nw⟩ := h
  refine (c (F i) (a i hi)).mono fun e W' ⟨hr, F', p', k, n⟩ => ⟨hr, ⟨fun j => if j = i then F' else F j, fun j hj => ?_, fun j m hj hm hne z hz => ?_, fun j hj z hz => ?_⟩, ?_, ?_⟩
  · rw [List.length_set] at hj
    by_cases c : j = i
    · subst c
      simp only [if_true, List.getElem_set_self]
      exact p'
    · simp only [if_neg c, List.getElem_set_ne (fun u => c u.symm)]
      exact (l[j]).kept (a j hj) k (fun z hz => b j i hj hi c z hz)
  · rw [List.length_set] at hj hm
    have new : ∀ q, q < l.length → q ≠ i → ∀ z, F' z → ¬ F q z := fun q hq hqi z hz hz' => by
      rcases n z hz with u | u
      · exact b q i hq hi hqi z hz' u
      · have := (l[q]).lt (a q hq) z hz'; omega
    by_cases c1 : j = i
    · have c2 : m ≠ i := fun u => hne (c1.trans u.symm)
      simp only [if_pos c1] at hz
      simp only [if_neg c2]
      exact new m hm c2 z hz
    · simp only [if_neg c1] at hz
      by_cases c2 : m = i
      · simp only [if_pos c2]
        exact fun u => new j hj c1 z u hz
      · simp only [if_neg c2]
        exact b j m hj hm hne z hz
  · rw [List.length_set] at hj
    by_cases c1 : j = i
    · simp only [if_pos c1] at hz
      rcases n z hz with u | u
      · exact d i hi z u
      · omega
    · simp only [if_neg c1] at hz
      exact d j hj z hz
  · exact be.trans (k.below nw (fun z hz => d i hi z hz))
  · exact Nat.le_trans nw k.size
/-- .. with no call. -/
theorem Sep.turn (h : Sep N w W l) (i : Nat) (hi : i < l.length) (t : Thing) (c : ∀ F, l[i].P W F → ∃ F', t.P W' F' ∧ To W W' F F') : Sep N w W' (l.set i t) := by
  obtain ⟨⟨F, a, b, d⟩, be, nw⟩ := h
  obtain ⟨F', p', k, n⟩ := c (F i) (a i hi)
  have new : ∀ q, q < l.length → q ≠ i → ∀ z, F' z → ¬ F q z := fun q hq hqi z hz hz' => by
    rcases n z hz with u | u
    · exact b q i hq hi hqi z hz' u
    · have := (l[q]).lt (a q hq) z hz'; omega
  refine ⟨⟨fun j => if j = i then F' else F j, fun j hj => ?_, fun j m hj hm hne z hz => ?_, fun j hj z hz => ?_⟩, ?_, ?_⟩
  · rw [List.length_set] at hj
    by_cases c : j = i
    · subst c
      simp only [if_true, List.getElem_set_self]
      exact p'
    · simp only [if_neg c, List.getElem_set_ne (fun u => c u.symm)]
      exact (l[j]).kept (a j hj) k (fun z hz => b j i hj hi c z hz)
  · rw [List.length_set] at hj hm
    by_cases c1 : j = i
    · have c2 : m ≠ i := fun u => hne (c1.trans u.symm)
      simp only [if_pos c1] at hz
      simp only [if_neg c2]
      exact new m hm c2 z hz
    · simp only [if_neg c1] at hz
      by_cases c2 : m = i
      · simp only [if_pos c2]
        exact fun u => new j hj c1 z u hz
      · simp only [if_neg c2]
        exact b j m hj hm hne z hz
  · rw [List.length_set] at hj
    by_cases c1 : j = i
    · simp only [if_pos c1] at hz
      rcases n z hz with u | u
      · exact d i hi z u
      · omega
    · simp only [if_neg c1] at hz
      exact d j hj z hz
  · exact be.trans (k.below nw (fun z hz => d i hi z hz))
  · exact Nat.le_trans nw k.size
/-- What a thing says, for a call that turns nothing. -/
theorem Sep.have (h : Sep N w W l) (i : Nat) (hi : i < l.length) : ∃ F, l[i].P W F := by
  obtain ⟨⟨F, a, b, d⟩, be, nw⟩ := h
  exact ⟨F i, a i hi⟩
/-- One more, of new blocks. -/
theorem Sep.more (h : Sep N w W l) (k : Below W.heap.size W W') (t : Thing) {F' : Nat → Prop} (ht : t.P W' F') (n : ∀ z, F' z → W.heap.size ≤ z) : Sep N w W' (l ++ [t]) := by
  have h' := h.read k
  obtain ⟨⟨F, a, b, d⟩, be, nw⟩ := h
  obtain ⟨-, be', nw'⟩ := h'
  have a' : ∀ i (hi : i < l.length), l[i].P W' (F i) := fun i hi => (l[i]).kept (a i hi) (Kept.of_below (F := fun _ => False) k) (fun _ _ f => f)
  refine ⟨⟨fun j => if j = l.length then F' else F j, fun j hj => ?_, fun j m hj hm hne z hz => ?_, fun j hj z hz => ?_⟩, be', nw'⟩
  · rw [List.length_append, List.length_singleton] at hj
    by_cases c : j = l.length
    · subst c
      simp only [if_true, List.getElem_append_right (Nat.le_refl _), Nat.sub_self, List.getElem_singleton]
      exact ht
    · simp only [if_neg c]
      rw [List.getElem_append_left (by omega)]
      exact a' j (by omega)
  · rw [List.length_append, List.length_singleton] at hj hm
    by_cases c1 : j = l.length
    · simp only [if_pos c1] at hz
      have c2 : m ≠ l.length := fun u => hne (c1.trans u.symm)
      simp only [if_neg c2]
      intro u
      have := (l[m]'(by omega)).lt (a m (by omega)) z u
      have := n z hz
      omega
    · simp only [if_neg c1] at hz
      by_cases c2 : m = l.length
      · simp only [if_pos c2]
        intro u
        have := (l[j]'(by omega)).lt (a j (by omega)) z hz
        have := n z u
        omega
      · simp only [if_neg c2]
        exact b j m (by omega) (by omega) hne z hz
  · rw [List.length_append, List.length_singleton] at hj
    by_cases c1 : j = l.length
    · simp only [if_pos c1] at hz
      exact Nat.le_trans nw (n z hz)
    · simp only [if_neg c1] at hz
      exact d j (by omega) z hz
/-- The last ones go. -/
theorem Sep.fewer {l' : List Thing} (h : Sep N w W (l ++ l')) : Sep N w W l := by
  obtain ⟨⟨F, a, b, d⟩, be, nw⟩ := h
  have len : l.length ≤ (l ++ l').length := by rw [List.length_append]; omega
  refine ⟨⟨F, fun i hi => ?_, fun i j hi hj => b i j (by omega) (by omega), fun i hi => d i (by omega)⟩, be, nw⟩
  have := a i (by omega)
  rwa [List.getElem_append_left hi] at this
/-- A thing said otherwise. -/
theorem Sep.as (h : Sep N w W l) (i : Nat) (hi : i < l.length) (t : Thing) (c : ∀ F, l[i].P W F → t.P W F) : Sep N w W (l.set i t) :=
  h.turn i hi t (fun F hF => ⟨F, c F hF, To.refl W F⟩)
end
/-! ### Things -/
/-- A block of cells. -/
def tBk (b : Nat) (t : TypeId) (vs : Array Value) : Thing := ⟨fun W F => Bk W b t vs ∧ ∀ z, F z ↔ z = b, fun ⟨h, hF⟩ k n => ⟨h.kept k (n b ((hF b).2 rfl)), hF⟩, fun ⟨h, hF⟩ z hz => by rw [(hF z).1 hz]; exact h.lt⟩
end Go.Proofs.Ytnhllnepnpmegaa
