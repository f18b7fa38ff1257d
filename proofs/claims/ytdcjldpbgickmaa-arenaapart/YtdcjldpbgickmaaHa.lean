/- Package arena: hasAll: a contract. -/
import Derived.Test.YtdcjldpbgickmaaPt
namespace Go.Proofs.Ytdcjldpbgickmaa
open Go.ChangeShapes Go.WideShapes Go.ChangeAt Go.RowKit Go.Shelf Go.Proofs.Rx Go.Maps
set_option linter.unusedVariables false
set_option linter.unusedSimpArgs false

attribute [local go_sem] Oper.semAt_some

theorem alloc_at (w : World) (o : Obj) (k : Nat) : (w.alloc o).heap[k]? = if k = w.heap.size then some o else w.heap[k]? := by
  by_cases h : k = w.heap.size
  · rw [if_pos h, h]; exact World.alloc_heap_new w o
  · rw [if_neg h]
    by_cases hk : k < w.heap.size
    · exact Below.heap_alloc _ _ _ hk
    · have h1 : (w.alloc o).heap.size ≤ k := by rw [World.size_alloc]; omega
      have h2 : w.heap.size ≤ k := by omega
      rw [Array.getElem?_eq_none h1, Array.getElem?_eq_none h2]
theorem allocs4 (w : World) (o0 o1 o2 o3 : Obj) (w6 : World) (h : w6 = (((w.alloc o0).alloc o1).alloc o2).alloc o3) (N : Nat) (hN : w.heap.size = N) :
    w6.heap.size = N + 4 ∧ Below N w w6 ∧ w6.heap[N]? = some o0 ∧ w6.heap[N + 1]? = some o1 ∧ w6.heap[N + 2]? = some o2 ∧ w6.heap[N + 3]? = some o3 := by
  subst h hN
  refine ⟨by simp, ?_, ?_, ?_, ?_, ?_⟩
  · exact ((((Below.refl _ w).alloc (Nat.le_refl _) _).alloc (by simp) _).alloc (by simp; omega) _).alloc (by simp; omega) _
  all_goals
    simp only [alloc_at, World.size_alloc]
    (repeat' split) <;> first | rfl | omega | simp_all
/-- All pages of a row lie in arenas. -/
def AllIn (C : Nat → Bool) (p n : Nat) : Prop := p < 34359738368 ∧ p + n ≤ 34359738368 ∧ ∀ q, p ≤ q → q < p + n → C (q / 512) = true
/-- Between two rounds of hasAll. -/
structure HI (N : Nat) (w : World) (mb : Nat) (Φ : Nat → Prop) (C : Nat → Bool) (V : Nat → Int) (p n : Nat) (pre : List Nat) (W : World) : Prop where
  bm : Boxed W N 24 (.pointer (some ⟨mb, 0, none⟩))
  br : Boxed W (N + 1) 4 (.bool false)
  rd : RdP (N + 2) (N + 3) p n W
  ar : Ar W mb Φ C V
  al : ∀ q, p ≤ q → q < stp p (p + n) pre.length → C (q / 512) = true
  be : Below N w W
theorem HI.kept {F : Nat → Prop} {N : Nat} {w : World} {mb : Nat} {Φ : Nat → Prop} {C : Nat → Bool} {V : Nat → Int} {p n : Nat} {pre : List Nat} {W W' : World} (h : HI N w mb Φ C V p n pre W) (k : Kept F W W') (hF : ∀ x, F x → N + 4 ≤ x) (hP : ∀ b, Φ b → b < N) : HI N w mb Φ C V p n pre W' :=
  ⟨boxed_kept h.bm k (fun x => by have := hF _ x; omega), boxed_kept h.br k (fun x => by have := hF _ x; omega), ⟨boxed_kept h.rd.c0 k (fun x => by have := hF _ x; omega), boxed_kept h.rd.c1 k (fun x => by have := hF _ x; omega)⟩,
    h.ar.kept k (fun b hb x => by have := hF _ x; have := hP b hb; omega), h.al, below_kept h.be k (fun x f => by have := hF _ f; omega) (by have := box_lt h.bm; omega)⟩
set_option maxRecDepth 100000 in
set_option maxHeartbeats 2000000 in
theorem hasAll_in {w : World} {mb : Nat} {Φ : Nat → Prop} {C : Nat → Bool} {V : Nat → Int} (h : Ar w mb Φ C V) (p n : Nat) (hp : p < 34359738368) (hn : p + n ≤ 34359738368) (b : Bool) (hb : b = true ↔ AllIn C p n) :
    Calls Try.prog 24 #[.pointer (some ⟨mb, 0, none⟩), .int .u64 (p : Nat), .int .u64 (n : Nat)] w fun e w' => e = .returned (.bool b) ∧ Below w.heap.size w w' := by
  obtain ⟨N, hN⟩ : ∃ N, w.heap.size = N := ⟨_, rfl⟩
  obtain ⟨m, hm1, hm2⟩ := stp_end (p := p) (E := p + n) (by omega)
  have H := hide h
  have HB := hide hb
  have HP := hide (show ∀ x, Φ x → x < N from fun x hx => by rw [← hN]; exact h.lt x hx)
  have CP := hide (parts_any p n)
  have SEQ := hide (parts_seq (N + 2) (N + 3) p n m (by omega) hm1 hm2 2)
  have HM := hide (And.intro hm1 hm2)
  have d1 : decide ((34359738368 : Int) ≤ (p : Int)) = false := decide_eq_false (by omega)
  have d2 : decide ((34359738368 : Int) - (p : Int) < (n : Int)) = false := decide_eq_false (by omega)
  obtain ⟨P, hP⟩ : ∃ P : Int, (p : Int) = P := ⟨_, rfl⟩
  obtain ⟨M, hM⟩ : ∃ M : Int, (n : Int) = M := ⟨_, rfl⟩
  have q1 : 0 ≤ P := by omega
  have q2 : P < 34359738368 := by omega
  have q3 : 0 ≤ M := by omega
  rw [hP] at d1 d2 CP ⊢
  rw [hM] at d2 CP ⊢
  have HPM := hide (And.intro hP hM)
  have HPN := hide (And.intro hp hn)
  clear h hb hm1 hm2 hP hM hp hn
  refine (callsIn_wide (n := 3)).1 ?_
  refine callsIn_of_wp_marks Try.func24 rfl trivial ?_ rfl
  simp only [Try.ntmps24, List.size_toArray, List.length_cons, List.length_nil, Nat.reduceAdd, Nat.reduceSub, Array.replicate_succ, Array.replicate_zero, List.push_toArray, List.append_toArray, List.nil_append, List.cons_append]
  gi_wp2_with fail
  refine wcall2 (CP.out _) ?_
  rintro e w4 ⟨rfl, h4⟩
  obtain ⟨s4, b4, z0, z1, z2, z3⟩ := allocs4 w _ _ _ _ w4 h4 N hN
  rw [← HPM.out.1] at z2
  rw [← HPM.out.2] at z3
  have F0 := hide (show HI N w mb Φ C V p n [] w4 from ⟨z0, z1, ⟨z2, z3⟩, H.out.below (by rw [hN]; exact b4), (fun q h1 h2 => by simp only [List.length_nil, stp] at h2; omega), b4⟩)
  clear z0 z1 z2 z3 b4 h4
  gi_wp2_with fail
  simp only [World.size_alloc, hN, Nat.add_assoc, Nat.reduceAdd]
  refine range_law (w := w4) rfl (enters_of Try.func31 (by kernel_rfl) rfl) SEQ.out (fun _ => rfl) (HI N w mb Φ C V p n) (fun c pre W => c = .ret ∧ b = false ∧ Boxed W (N + 1) 4 (.bool false) ∧ Below N w W) (fun s A h => h.rd) ?hI ?hIx F0.out ?round ?done ?stop
  case hI =>
    intro s A A' h k
    rw [s4] at k
    exact h.kept k (fun x hx => by omega) HP.out
  case hIx =>
    rintro c s A o' ⟨rfl, h1, h2, h3⟩ hl
    rw [s4] at hl ⊢
    have k := Kept.put (F := fun b => b = N + 5) A (N + 4 + 1) o' rfl
    exact ⟨rfl, h1, boxed_kept h2 k (by omega), below_kept h3 k (fun b hb => by omega) (by omega)⟩
  case round =>
    rintro pre x W ⟨r0, hr0⟩ _ h hp
    rw [s4] at hr0 ⊢
    obtain ⟨-, e2, e3⟩ := pre_range hp
    subst e2
    have a1 := HM.out.2 _ e3
    obtain ⟨a, ha⟩ : ∃ a, stp p (p + n) pre.length = a := ⟨_, rfl⟩
    have HA := hide ha
    have H1 := hide h
    have HR0 := hide hr0
    rw [ha] at a1
    simp only [encsP, ha]
    clear h hr0 hp ha
    gi_wp2_with fail
    refine ⟨keepsFrom_of (Kept.refl (fun _ => False) W) (fun b hb e => e), fun r => ?_⟩
    have k2 := Kept.put (F := fun b => b = N + 5) W (N + 4 + 1) (.loop r) rfl
    obtain ⟨W2, hW2⟩ : ∃ W2, W.putObj (N + 4 + 1) (.loop r) = W2 := ⟨_, rfl⟩
    rw [hW2] at k2 ⊢
    have H2 := hide (H1.out.kept k2 (fun b hb => by omega) HP.out)
    have hpn := HPN.out
    have CH := hide (has_any H2.out.ar (a / 512) (by omega))
    have cm := H2.out.bm.cell
    have FB := hide (show C (a / 512) = false → b = false from fun z => by
      cases hb : b with
      | false => rfl
      | true =>
        have := (HB.out.1 hb).2.2 a (by have := stp_ge (p := p) (E := p + n) pre.length; rw [HA.out] at this; exact this) a1
        rw [z] at this; cases this)
    have GO := hide (show C (a / 512) = true → ∀ q, p ≤ q → q < stp p (p + n) (pre ++ [pre.length]).length → C (q / 512) = true from fun z q h1 h2 => by
      rw [List.length_append, List.length_singleton] at h2
      by_cases c : q < a
      · exact H1.out.al q h1 (by rw [HA.out]; exact c)
      · rw [nxt_in a1 (by omega : a ≤ q) (by rw [← HA.out]; exact h2)]; exact z)
    rw [show ((a / 512 : Nat) : Int) = (a : Int) / 512 by omega] at CH
    obtain ⟨A, hA⟩ : ∃ A : Int, (a : Int) / 512 = A := ⟨_, rfl⟩
    rw [hA] at CH ⊢
    clear k2 hW2 hpn hA a1
    cases hc : C (a / 512) with
    | true =>
      rw [hc] at CH
      have GO2 := hide (GO.out hc)
      clear hc FB GO
      gi_wp2_with fail
      refine wcall_r CH.out ?_
      rintro e W3 ⟨rfl, b3⟩
      have H3 := hide (H2.out.kept (Kept.of_below (F := fun _ => False) b3) (fun _ f => f.elim) HP.out)
      gi_wp2_with fail
      exact ⟨keepsFrom_of (Kept.of_below (F := fun _ => False) b3) (fun b hb e => e), H3.out.bm, H3.out.br, H3.out.rd, H3.out.ar, GO2.out, H3.out.be⟩
    | false =>
      rw [hc] at CH
      have FB2 := hide (FB.out hc)
      clear hc FB GO
      gi_wp2_with fail
      refine wcall_r CH.out ?_
      rintro e W3 ⟨rfl, b3⟩
      have H3 := hide (H2.out.kept (Kept.of_below (F := fun _ => False) b3) (fun _ f => f.elim) HP.out)
      have cr := H3.out.br.cell
      have fr := H3.out.br.frozen
      gi_wp2_with fail
      have k4 := kept_set (F := fun b => b = N + 1) W3 (N + 1) 0 (.bool false) rfl
      exact ⟨keepsFrom_of ((Kept.of_below (F := fun b => b = N + 1) b3).trans k4 (fun _ _ h => h)) (fun b hb e => by omega), rfl, FB2.out, H3.out.br.set (.bool false), below_kept H3.out.be k4 (fun b hb => by omega) (by have := box_lt H3.out.bm; omega)⟩
  case done =>
    rintro W h hd
    rw [s4] at hd ⊢
    have cr := h.br.cell
    have fr := h.br.frozen
    have HH := hide h
    have HD := hide hd
    have hlt := box_lt h.br
    clear h hd SEQ
    gi_wp2_with fail
    have k3 := kept_set (F := fun b => b = N + 1) W (N + 1) 0 (.bool true) rfl
    have b3 := HH.out.br.set (.bool true)
    have d3 := kept_at k3 HD.out (by omega)
    have be := below_kept HH.out.be k3 (fun b hb => by omega) (by omega)
    obtain ⟨Wf, hWf⟩ : ∃ Wf, W.setCell ⟨N + 1, 0, none⟩ (.bool true) = Wf := ⟨_, rfl⟩
    rw [hWf] at b3 d3 be ⊢
    have k6 := Kept.put (F := fun b => b = N + 4) Wf (N + 4) (.deferred none) rfl
    have r1 := (boxed_kept b3 k6 (by omega)).cell
    have B6 := below_kept be k6 (fun b hb => by omega) (by have := box_lt b3; omega)
    refine ⟨by simp, .inl ⟨_, _, rfl, run_takeDeferred d3, ?_⟩⟩
    refine ⟨.bool true, ?_, ?_⟩
    · try simp at r1
      simp [results, Try.results24, go_sem, Nat.add_assoc, r1, Result.andThen]
    · have hb : b = true := HB.out.2 ⟨HPN.out.1, HPN.out.2, fun q h1 h2 => HH.out.al q h1 (by rw [List.length_range, HM.out.1]; exact h2)⟩
      exact ⟨by rw [hb], by rw [hN]; exact B6⟩
  case stop =>
    rintro c pre x W hpre ⟨rfl, hb, br, be⟩ hd
    rw [s4] at hd ⊢
    have hlt := box_lt br
    have k6 := Kept.put (F := fun b => b = N + 4) W (N + 4) (.deferred none) rfl
    have r1 := (boxed_kept br k6 (by omega)).cell
    have B6 := hide (below_kept be k6 (fun b hb => by omega) (by omega))
    have HD := hide hd
    have HB2 := hide hb
    clear hd SEQ hpre k6 br be hb
    gi_wp2_with fail
    refine ⟨by simp, .inl ⟨_, _, rfl, run_takeDeferred HD.out, ?_⟩⟩
    refine ⟨.bool false, ?_, ?_⟩
    · try simp at r1
      simp [results, Try.results24, go_sem, Nat.add_assoc, r1, Result.andThen]
    · exact ⟨by rw [HB2.out], by rw [hN]; exact B6.out⟩
theorem loadB {W : World} {b : Nat} {x : Bool} (h : Boxed W b 4 (.bool x)) : (loadVar 4 ⟨b, 0, none⟩).run Try.prog W = .ok (.bool x) W := by
  have c0 := h.cell
  simp [go_sem, c0]
theorem hasAll_out {w : World} {mb : Nat} (p n : Nat) (hp : ¬ (p < 34359738368 ∧ p + n ≤ 34359738368)) :
    Calls Try.prog 24 #[.pointer (some ⟨mb, 0, none⟩), .int .u64 (p : Nat), .int .u64 (n : Nat)] w fun e w' => e = .returned (.bool false) ∧ Below w.heap.size w w' := by
  have HW := hide (show (decide ((34359738368 : Int) ≤ (p : Int)) = true) ∨ (decide ((34359738368 : Int) ≤ (p : Int)) = false ∧ decide ((34359738368 : Int) - (p : Int) < (n : Int)) = true) from by
    simp only [decide_eq_true_eq, decide_eq_false_iff_not]; omega)
  have q1 : 0 ≤ (p : Int) := by omega
  clear hp
  generalize (p : Int) = P at *
  generalize (n : Int) = M at *
  obtain ⟨N, hN⟩ : ∃ N, w.heap.size = N := ⟨_, rfl⟩
  refine (callsIn_wide (n := 3)).1 ?_
  refine callsIn_of_wp_marks Try.func24 rfl trivial ?_ rfl
  simp only [Try.ntmps24, List.size_toArray, List.length_cons, List.length_nil, Nat.reduceAdd, Nat.reduceSub, Array.replicate_succ, Array.replicate_zero, List.push_toArray, List.append_toArray, List.nil_append, List.cons_append]
  rcases HW.out with d1 | ⟨d1, d2⟩
  · clear HW
    gi_wp2_with fail
    have y0 : Boxed ((w.alloc (.cells #[.pointer (some ⟨mb, 0, none⟩)] 24)).alloc (.cells #[.bool false] 4)) (N + 1) 4 (.bool false) := by
      have := Boxed.new (w.alloc (.cells #[.pointer (some ⟨mb, 0, none⟩)] 24)) 4 (.bool false)
      rw [World.size_alloc, hN] at this
      exact this
    exact ⟨.bool false, results_c Try.results24 _ _ ⟨N + 1, 0, none⟩ _ rfl (loadB y0), rfl, ((Below.refl _ w).alloc (Nat.le_refl _) _).alloc (by simp) _⟩
  · clear HW
    have q2 : P < 34359738368 := by have := of_decide_eq_false d1; omega
    gi_wp2_with fail
    have y0 : Boxed ((w.alloc (.cells #[.pointer (some ⟨mb, 0, none⟩)] 24)).alloc (.cells #[.bool false] 4)) (N + 1) 4 (.bool false) := by
      have := Boxed.new (w.alloc (.cells #[.pointer (some ⟨mb, 0, none⟩)] 24)) 4 (.bool false)
      rw [World.size_alloc, hN] at this
      exact this
    exact ⟨.bool false, results_c Try.results24 _ _ ⟨N + 1, 0, none⟩ _ rfl (loadB y0), rfl, ((Below.refl _ w).alloc (Nat.le_refl _) _).alloc (by simp) _⟩
theorem hasAll_any {w : World} {mb : Nat} {Φ : Nat → Prop} {C : Nat → Bool} {V : Nat → Int} (h : Ar w mb Φ C V) (p n : Nat) (b : Bool) (hb : b = true ↔ AllIn C p n) :
    Calls Try.prog 24 #[.pointer (some ⟨mb, 0, none⟩), .int .u64 (p : Nat), .int .u64 (n : Nat)] w fun e w' => e = .returned (.bool b) ∧ Below w.heap.size w w' := by
  by_cases c : p < 34359738368 ∧ p + n ≤ 34359738368
  · exact hasAll_in h p n c.1 c.2 b hb
  · have : b = false := by
      cases hc : b with
      | false => rfl
      | true => exact absurd ⟨(hb.1 hc).1, (hb.1 hc).2.1⟩ c
    rw [this]
    exact hasAll_out p n c
end Go.Proofs.Ytdcjldpbgickmaa
