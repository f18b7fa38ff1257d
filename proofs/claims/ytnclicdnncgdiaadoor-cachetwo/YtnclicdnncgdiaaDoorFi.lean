/- Find: its contract. -/
import Derived.Test.YtnclicdnncgdiaaDoorIt
namespace Go.Proofs.YtnclicdnncgdiaaDoor
open Go.ChangeShapes Go.WideShapes Go.ChangeAt Go.RowKit Go.Proofs.Bt Go.Shelf
set_option linter.unusedVariables false
set_option linter.unusedSimpArgs false

attribute [local go_sem] Oper.semAt_some

theorem alloc_at (w : World) (o : Obj) (k : Nat) : (w.alloc o).heap[k]? = if k = w.heap.size then some o else w.heap[k]? := by
  by_cases h : k = w.heap.size
  · subst h; rw [if_pos rfl]; exact World.alloc_heap_new w o
  · rw [if_neg h]
    by_cases hk : k < w.heap.size
    · exact Below.heap_alloc _ _ _ hk
    · have h1 : (w.alloc o).heap.size ≤ k := by rw [World.size_alloc]; omega
      have h2 : w.heap.size ≤ k := by omega
      rw [Array.getElem?_eq_none h1, Array.getElem?_eq_none h2]
theorem allocs6 (w : World) (o0 o1 o2 o3 o4 o5 : Obj) (w6 : World) (h : w6 = (((((w.alloc o0).alloc o1).alloc o2).alloc o3).alloc o4).alloc o5) (N : Nat) (hN : w.heap.size = N) :
    w6.heap.size = N + 6 ∧ Below N w w6 ∧ w6.heap[N]? = some o0 ∧ w6.heap[N + 1]? = some o1 ∧ w6.heap[N + 2]? = some o2 ∧ w6.heap[N + 3]? = some o3 ∧ w6.heap[N + 4]? = some o4 ∧ w6.heap[N + 5]? = some o5 := by
  subst h hN
  refine ⟨by simp, ?_, ?_, ?_, ?_, ?_, ?_, ?_⟩
  · exact ((((((Below.refl _ w).alloc (Nat.le_refl _) _).alloc (by simp) _).alloc (by simp; omega) _).alloc (by simp; omega) _).alloc (by simp; omega) _).alloc (by simp; omega) _
  all_goals
    simp only [alloc_at, World.size_alloc]
    (repeat' split) <;> first | rfl | omega | simp_all
/-- Between two rounds of Find. -/
structure FI (N : Nat) (w : World) (b ro : Nat) (f : Nat → Bool) (n : Int) (a : Nat) (pre : List (Nat × Nat)) (W : World) : Prop where
  bn : Boxed W N 3 (.int .i64 n)
  bi : Boxed W (N + 1) 3 (.int .i64 0)
  bo : Boxed W (N + 2) 4 (.bool false)
  rd : Rd b ro (N + 3) (N + 4) (N + 5) f a 512 W
  sh : ∀ y ∈ pre, ((y.2 - y.1 : Nat) : Int) < n
  be : Below N w W
/-- Where it has been found. -/
structure FX (N : Nat) (w : World) (f : Nat → Bool) (n from_ : Int) (W : World) : Prop where
  bi : ∃ i, Boxed W (N + 1) 3 (.int .i64 i) ∧ FindP f n from_ i true
  bo : Boxed W (N + 2) 4 (.bool true)
  be : Below N w W
theorem FI.kept {F : Nat → Prop} {N : Nat} {w : World} {b ro : Nat} {f : Nat → Bool} {n : Int} {a : Nat} {pre : List (Nat × Nat)} {W W' : World} (h : FI N w b ro f n a pre W) (k : Kept F W W') (hN : 0 < N) (hb : b < N) (hF : ∀ x, F x → N + 6 ≤ x) : FI N w b ro f n a pre W' :=
  ⟨boxed_kept h.bn k (fun x => by have := hF _ x; omega), boxed_kept h.bi k (fun x => by have := hF _ x; omega), boxed_kept h.bo k (fun x => by have := hF _ x; omega),
    h.rd.kept k ⟨fun x => by have := hF _ x; omega, fun x => by have := hF _ x; omega⟩ (fun x => by have := hF _ x; omega) (fun x => by have := hF _ x; omega) (fun x => by have := hF _ x; omega) (fun x => by have := hF _ x; omega), h.sh,
    below_kept h.be k (fun x f => by have := hF _ f; omega) (by have := box_lt h.bn; omega)⟩
theorem FX.kept {F : Nat → Prop} {N : Nat} {w : World} {f : Nat → Bool} {n from_ : Int} {W W' : World} (h : FX N w f n from_ W) (k : Kept F W W') (hF : ∀ x, F x → N + 6 ≤ x) : FX N w f n from_ W' := by
  obtain ⟨i, h1, h2⟩ := h.bi
  exact ⟨⟨i, boxed_kept h1 k (fun x => by have := hF _ x; omega), h2⟩, boxed_kept h.bo k (fun x => by have := hF _ x; omega),
    below_kept h.be k (fun x f => by have := hF _ f; omega) (by have := box_lt h.bo; omega)⟩
def FindR (w : World) (f : Nat → Bool) (n from_ : Int) (e : Ending) (w' : World) : Prop := ∃ i ok, e = .returned (.tuple #[.int .i64 i, .bool ok]) ∧ FindP f n from_ i ok ∧ Below w.heap.size w w'

set_option maxRecDepth 100000 in
set_option maxHeartbeats 2000000 in
theorem find_core (b ro : Nat) (f : Nat → Bool) (n from_ : Int) (hn : 1 ≤ n) (hn' : n ≤ 9223372036854775807) (hf : from_ ≤ 9223372036854775807) (w : World) (h : RowF w b ro f) (ht : TabW w) :
    Calls Tryd.prog 63 #[.pointer (some ⟨b, ro, none⟩), .int .i64 n, .int .i64 from_] w (FindR w f n from_) := by
  obtain ⟨N, hN⟩ : ∃ N, w.heap.size = N := ⟨_, rfl⟩
  have hb := h.lt
  have h0 := ht.lt
  obtain ⟨R, hR⟩ : ∃ R, R = FindR w f n from_ := ⟨_, rfl⟩
  rw [← hR]
  have HR := hide hR
  have H := hide h
  have HT := hide ht
  have HF := hide hf
  obtain ⟨a, hae⟩ : ∃ a, a = from_.toNat := ⟨_, rfl⟩
  have HA := hide hae
  have hm : (from_ < 0 ∧ Hid ((0 : Int) = (a : Int))) ∨ (0 ≤ from_ ∧ Hid (from_ = (a : Int))) := by
    by_cases x : from_ < 0
    · exact .inl ⟨x, hide (by omega)⟩
    · exact .inr ⟨by omega, hide (by omega)⟩
  clear hR h ht hf hae
  refine (callsIn_wide (n := 3)).1 ?_
  refine callsIn_of_wp_marks Tryd.func63 rfl trivial ?_ rfl
  simp only [Tryd.ntmps63, List.size_toArray, List.length_cons, List.length_nil, Nat.reduceAdd, Nat.reduceSub, Array.replicate_succ, Array.replicate_zero, List.push_toArray, List.append_toArray, List.nil_append, List.cons_append]
  rcases hm with ⟨m1, hA⟩ | ⟨m1, hA⟩
  all_goals
    gi_wp2_with fail
    refine wcall2 (clears_any _ _ _ _ _) ?_
    rintro e w6 ⟨rfl, h6⟩
    obtain ⟨s6, b6, q0, q1, q2, q3, q4, q5⟩ := allocs6 w _ _ _ _ _ _ w6 h6 N hN
    rw [hA.out] at q4
    have f0 : FI N w b ro f n a [] w6 := ⟨q0, q1, q2, ⟨q3, q4, q5, H.out.below (by rw [hN]; exact b6), HT.out.below (by rw [hN]; exact b6)⟩, (fun y hy => by cases hy), b6⟩
    have F0 := hide f0
    clear f0 q0 q1 q2 q3 q4 q5 b6 h6
    gi_wp2_with fail
    simp only [Nat.add_assoc, Nat.reduceAdd]
    have seq := iter_seq b ro (N + 3) (N + 4) (N + 5) f a 512 (by have := HA.out; have := HF.out; omega) (by omega) (3 - 1)
    refine range_law (w := w6) rfl (enters_of Tryd.func77 (by kernel_rfl) rfl) seq (fun _ => rfl) (FI N w b ro f n a) (fun c pre W => c = .ret ∧ FX N w f n from_ W) (fun s A h => h.rd) ?hI ?hIx F0.out ?round ?done ?stop
    case hI =>
      intro s A A' h k
      rw [s6] at k
      exact h.kept k (by omega) (by omega) (fun x hx => by omega)
    case hIx =>
      rintro c s A o' ⟨rfl, h⟩ hl
      rw [s6] at hl ⊢
      exact ⟨rfl, h.kept (Kept.put (F := fun b => b = N + 7) A (N + 6 + 1) o' rfl) (fun b hb => by omega)⟩
    case round =>
      rintro pre x W ⟨r0, hr0⟩ _ h hp
      rw [s6] at hr0 ⊢
      have hx := (runs_facts (blk f a 512)).1 x (hp.subset (by simp))
      have x1 := hx.lt
      have x2 := hx.le
      have H := hide h
      have HP := hide hp
      have HR0 := hide hr0
      clear h hr0 seq hx hp
      simp only [encs2]
      gi_wp2_with fail
      refine ⟨keepsFrom_of (Kept.refl (fun _ => False) W) (fun b hb e => e), fun r => ?_⟩
      have k2 := Kept.put (F := fun b => b = N + 7) W (N + 6 + 1) (.loop r) rfl
      obtain ⟨W2, hW2⟩ : ∃ W2, W.putObj (N + 6 + 1) (.loop r) = W2 := ⟨_, rfl⟩
      rw [hW2] at k2 ⊢
      have H2 := hide (H.out.kept k2 (by omega) (by omega) (fun b hb => by omega))
      clear k2 hW2
      have cn := H2.out.bn.cell
      have ci := H2.out.bi.cell
      have fi := H2.out.bi.frozen
      have co := H2.out.bo.cell
      have fo := H2.out.bo.frozen
      have ex : ((x.2 - x.1 : Nat) : Int) = (x.2 : Int) - (x.1 : Int) := by omega
      obtain ⟨X1, hX1⟩ : ∃ X1 : Int, (x.1 : Int) = X1 := ⟨_, rfl⟩
      obtain ⟨X2, hX2⟩ : ∃ X2 : Int, (x.2 : Int) = X2 := ⟨_, rfl⟩
      rw [hX1, hX2] at ex ⊢
      have y0 : 0 ≤ X1 := by omega
      have y1 : X1 < X2 := by omega
      have y2 : X2 ≤ 512 := by omega
      have EX := hide ex
      have HX1 := hide hX1
      clear hX1 hX2 ex x1 x2
      by_cases hl : n ≤ X2 - X1
      · gi_wp2_with fail
        have k3 := kept_set (F := fun b => b = N + 1 ∨ b = N + 2) W2 (N + 1) 0 (.int .i64 X1) (.inl rfl)
        have k4 := kept_set (F := fun b => b = N + 1 ∨ b = N + 2) (W2.setCell ⟨N + 1, 0, none⟩ (.int .i64 X1)) (N + 2) 0 (.bool true) (.inr rfl)
        have k5 := k3.trans k4 (fun _ _ h => h)
        have b3 := H2.out.bi.set (.int .i64 X1)
        have b4 := boxed_kept b3 (kept_set (F := fun b => b = N + 2) (W2.setCell ⟨N + 1, 0, none⟩ (.int .i64 X1)) (N + 2) 0 (.bool true) rfl) (by omega)
        have o4 := (boxed_kept H2.out.bo (kept_set (F := fun b => b = N + 1) W2 (N + 1) 0 (.int .i64 X1) rfl) (by omega)).set (.bool true)
        refine ⟨keepsFrom_of k5 (fun b hb e => by omega), rfl, ⟨X1, b4, ?_⟩, o4, below_kept H2.out.be k5 (fun b hb => by omega) (by have := box_lt H2.out.bn; omega)⟩
        rw [← HX1.out]
        have hp := HP.out
        rw [HA.out] at hp
        exact find_hit hn hp H.out.sh (by rw [EX.out]; exact hl)
      · have hl' : X2 - X1 < n := by omega
        clear hl
        gi_wp2_with fail
        refine ⟨keepsFrom_of (Kept.refl (fun _ => False) W2) (fun b hb e => e), H2.out.bn, H2.out.bi, H2.out.bo, H2.out.rd, fun y hy => ?_, H2.out.be⟩
        rcases List.mem_append.1 hy with hy | hy
        · exact H.out.sh y hy
        · simp at hy; subst hy; have := EX.out; omega
    case done =>
      rintro W h hd
      rw [s6] at hd ⊢
      have ci := h.bi.cell
      have fi := h.bi.frozen
      have co := h.bo.cell
      have fo := h.bo.frozen
      have HH := hide h
      have HD := hide hd
      have hlt := box_lt h.bo
      clear h hd seq
      gi_wp2_with fail
      have k3 := kept_set (F := fun b => b = N + 1 ∨ b = N + 2) W (N + 1) 0 (.int .i64 0) (.inl rfl)
      have k4 := kept_set (F := fun b => b = N + 1 ∨ b = N + 2) (W.setCell ⟨N + 1, 0, none⟩ (.int .i64 0)) (N + 2) 0 (.bool false) (.inr rfl)
      have k5 := k3.trans k4 (fun _ _ h => h)
      have b3 := HH.out.bi.set (.int .i64 0)
      have b4 := boxed_kept b3 (kept_set (F := fun b => b = N + 2) (W.setCell ⟨N + 1, 0, none⟩ (.int .i64 0)) (N + 2) 0 (.bool false) rfl) (by omega)
      have o4 := (boxed_kept HH.out.bo (kept_set (F := fun b => b = N + 1) W (N + 1) 0 (.int .i64 0) rfl) (by omega)).set (.bool false)
      have d4 := kept_at k5 HD.out (by omega)
      have be := below_kept HH.out.be k5 (fun b hb => by omega) (by omega)
      obtain ⟨Wf, hWf⟩ : ∃ Wf, (W.setCell ⟨N + 1, 0, none⟩ (.int .i64 0)).setCell ⟨N + 2, 0, none⟩ (.bool false) = Wf := ⟨_, rfl⟩
      rw [hWf] at b4 o4 d4 be ⊢
      have k6 := Kept.put (F := fun b => b = N + 6) Wf (N + 6) (.deferred none) rfl
      have r1 := (boxed_kept b4 k6 (by omega)).cell
      have r2 := (boxed_kept o4 k6 (by omega)).cell
      have B6 := below_kept be k6 (fun b hb => by omega) (by have := box_lt b4; omega)
      refine ⟨by simp, .inl ⟨_, _, rfl, run_takeDeferred d4, ?_⟩⟩
      refine ⟨.tuple #[.int .i64 0, .bool false], ?_, ?_⟩
      · try simp at r1 r2
        simp [results, Tryd.results63, go_sem, Nat.add_assoc, r1, r2, Result.andThen]
      · rw [HR.out]
        refine ⟨0, false, rfl, ?_, by rw [hN]; exact B6⟩
        have hs := HH.out.sh
        rw [HA.out] at hs
        exact find_miss hn hs
    case stop =>
      rintro c pre x W hpre ⟨rfl, h⟩ hd
      rw [s6] at hd ⊢
      obtain ⟨i, b1, hi⟩ := h.bi
      have ci := b1.cell
      have co := h.bo.cell
      have HH := hide h
      have HD := hide hd
      have HI := hide hi
      have hlt := box_lt h.bo
      have k6 := Kept.put (F := fun b => b = N + 6) W (N + 6) (.deferred none) rfl
      have r1 := (boxed_kept b1 k6 (by omega)).cell
      have r2 := (boxed_kept h.bo k6 (by omega)).cell
      have B6 := hide (below_kept h.be k6 (fun b hb => by omega) (by omega))
      clear h hd seq hi hpre b1 k6
      gi_wp2_with fail
      refine ⟨by simp, .inl ⟨_, _, rfl, run_takeDeferred HD.out, ?_⟩⟩
      refine ⟨.tuple #[.int .i64 i, .bool true], ?_, ?_⟩
      · try simp at r1 r2
        simp [results, Tryd.results63, go_sem, Nat.add_assoc, r1, r2, Result.andThen]
      · rw [HR.out]
        exact ⟨i, true, rfl, HI.out, by rw [hN]; exact B6.out⟩
/-- Find, of whatever numbers. -/
theorem find_any (b ro : Nat) (f : Nat → Bool) (n from_ : Int) (hn' : n ≤ 9223372036854775807) (hf : from_ ≤ 9223372036854775807) (w : World) (h : RowF w b ro f) (ht : TabW w) :
    Calls Tryd.prog 63 #[.pointer (some ⟨b, ro, none⟩), .int .i64 n, .int .i64 from_] w (FindR w f n from_) := by
  by_cases hn : 1 ≤ n
  · exact find_core b ro f n from_ hn hn' hf w h ht
  · have hn2 : n < 1 := by omega
    have HH := hide h
    have HT := hide ht
    clear hn h ht
    obtain ⟨R, hR⟩ : ∃ R, R = FindR w f n from_ := ⟨_, rfl⟩
    rw [← hR]
    have HR := hide hR
    clear hR
    refine (callsIn_wide (n := 3)).1 ?_
    refine callsIn_of_wp_marks Tryd.func63 rfl trivial ?_ rfl
    simp only [Tryd.ntmps63, List.size_toArray, List.length_cons, List.length_nil, Nat.reduceAdd, Nat.reduceSub, Array.replicate_succ, Array.replicate_zero, List.push_toArray, List.append_toArray, List.nil_append, List.cons_append]
    gi_wp2_with fail
    refine ⟨.tuple #[.int .i64 0, .bool false], ?_, ?_⟩
    · simp [results, Tryd.results63, go_sem, Nat.add_assoc, Result.andThen]
    · rw [HR.out]
      exact ⟨0, false, rfl, .inr ⟨rfl, rfl, .inl hn2⟩, (((Below.refl _ w).alloc (Nat.le_refl _) _).alloc (by simp) _).alloc (by simp; omega) _⟩
end Go.Proofs.YtnclicdnncgdiaaDoor
