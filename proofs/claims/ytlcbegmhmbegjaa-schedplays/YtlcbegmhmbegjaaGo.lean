/- Go and Play. -/
import Derived.Test.YtlcbegmhmbegjaaAd
namespace Go.Proofs.Ytlcbegmhmbegjaa
open Go.ChangeShapes Go.WideShapes Go.ChangeAt Go.RowKit Go.Proofs.Sc Go.Maps
set_option linter.unusedVariables false
set_option linter.unusedSimpArgs false

variable {w w' : World} {b : Nat} {S : Sc} {v0 v3 : Value} {bh bc n : Nat} {vs : List Value} {T : Nat → Prop}
abbrev Inv := World → Addr → Sc → (Nat → Prop) → Prop
/-- The machine is S' now; nothing old has turned but what was its own. -/
def Step (I : Inv) (F : Nat → Prop) (w w' : World) (m : Addr) (S' : Sc) : Prop := ∃ F', I w' m S' F' ∧ Kept F w w' ∧ ∀ x, F' x → F x ∨ w.heap.size ≤ x
theorem Step.same {m : Addr} {F : Nat → Prop} (h : SI w m S F) (hb : Below w.heap.size w w') : Step SI F w w' m S :=
  ⟨F, h.kept hb.size (fun x hx => hb.block x (h.lt x hx)), Kept.of_below hb, fun x hx => Or.inl hx⟩
theorem Went.step {w1 : World} {S' : Sc} {n' : Nat} (h : Went w1 b S' v0 v3 bh bc n' T w') (hb : Below w.heap.size w w1) (wf : Wf S') (hn : n' + lens S'.ahead ≤ 10000) : Step SI (Foot b bh bc v0 v3 T) w w' ⟨b, 0, none⟩ S' := by
  obtain ⟨v3', vs', l, k, e⟩ := h
  refine ⟨_, ⟨b, v0, v3', bh, bc, n', vs', T, rfl, rfl, l, wf, hn⟩, below_kept hb k, fun x hx => ?_⟩
  rcases hx with z | z | z | z | z | z
  · exact Or.inl (Or.inl z)
  · exact Or.inl (Or.inr (Or.inl z))
  · exact Or.inl (Or.inr (Or.inr (Or.inl z)))
  · exact Or.inl (Or.inr (Or.inr (Or.inr (Or.inl z))))
  · rcases e x z with y | y
    · exact Or.inl (Or.inr (Or.inr (Or.inr (Or.inr (Or.inl y)))))
    · right; have := hb.size; omega
  · exact Or.inl (Or.inr (Or.inr (Or.inr (Or.inr (Or.inr z)))))
theorem able_mem {S : Sc} {i : Nat} (h : i ∈ ableS S) : ∃ s r, S.ahead[i]? = some (s :: r) ∧ waitsS S s = false := by
  unfold ableS at h
  split at h
  · simp at h
  · unfold ablesTo at h
    obtain ⟨h1, h2⟩ := List.mem_filter.1 h
    cases e : S.ahead.getD i [] with
    | nil => rw [e] at h2; simp [canS] at h2
    | cons s r => exact ⟨s, r, getD_some e, by rw [e] at h2; simpa [canS] using h2⟩
theorem pick_mem {S : Sc} (p : Int) (h : ableS S ≠ []) : pickS S p ∈ ableS S ∧ (ableS S)[(p % ((ableS S).length : Int)).toNat]? = some (pickS S p) ∧ 0 ≤ p % ((ableS S).length : Int) ∧ p % ((ableS S).length : Int) < (ableS S).length := by
  have hl : 0 < (ableS S).length := List.length_pos_iff.2 h
  have h1 : p % ((ableS S).length : Int) < (ableS S).length := Int.emod_lt_of_pos _ (by omega)
  have h2 : 0 ≤ p % ((ableS S).length : Int) := Int.emod_nonneg _ (by omega)
  have h3 : (p % ((ableS S).length : Int)).toNat < (ableS S).length := by omega
  have e : (ableS S)[(p % ((ableS S).length : Int)).toNat]? = some (pickS S p) := by
    unfold pickS
    rw [List.getD_eq_getElem?_getD, List.getElem?_eq_getElem h3]
    rfl
  exact ⟨List.mem_of_getElem? e, e, h2, h1⟩
/-- advance, as stepS says. -/
theorem advance_core (l : Lies w b S v0 v3 bh bc n vs T) (wf : Wf S) (hn : n + lens S.ahead ≤ 10000) (i : Nat) (s : Stp) (r : List Stp) (hi : S.ahead[i]? = some (s :: r)) :
    Calls Try.prog 22 #[.pointer (some ⟨b, 0, none⟩), .int .i64 (i : Int)] w fun e w' => e = .returned (.int .i64 ((stepS S i).1 : Nat)) ∧ ∃ n', n' + lens (stepS S i).2.ahead ≤ 10000 ∧ Went w b (stepS S i).2 v0 v3 bh bc n' T w' := by
  have hl := lens_set hi
  have hg : S.ahead.getD i [] = s :: r := by rw [List.getD_eq_getElem?_getD, hi]; rfl
  by_cases hok : s.op = 2 ∧ S.hold s.a ≠ some i
  · have e : stepS S i = (20, { S with over := true }) := by unfold stepS; rw [hg]; simp only; rw [if_pos hok]
    rw [e]
    obtain ⟨op, a, x⟩ := s
    obtain ⟨rfl, hh⟩ := hok
    exact (advance_bad l wf i a x r hi hh).mono fun e w' ⟨h1, h2⟩ => ⟨h1, n, hn, h2⟩
  · have e : stepS S i = (0, { actS S i s with ahead := S.ahead.set i r }) := by unfold stepS; rw [hg]; simp only; rw [if_neg hok]
    rw [e]
    exact (advance_ok l wf (by omega) i s r hi hok).mono fun e w' ⟨h1, h2⟩ => ⟨h1, n + 1, by simp only; omega, h2⟩
set_option maxRecDepth 100000 in
theorem SI.go {m : Addr} {F : Nat → Prop} (h : SI w m S F) (p : Int) (hp : i64 p) :
    Calls Try.prog 10 #[.pointer (some m), .int .i64 p] w fun e w' => e = .returned (.tuple #[.int .i64 ((goS S p).1 : Nat), .int .i64 ((goS S p).2.1 : Nat)]) ∧ Step SI F w w' m (goS S p).2.2 := by
  have HSI := hide h
  obtain ⟨b, v0, v3, bh, bc, n, vs, T, rfl, rfl, l, wf, hn⟩ := h
  have c4 := l.c4
  by_cases ov : S.over = true
  · have e : goS S p = (0, 20, S) := by unfold goS; rw [if_pos ov]
    rw [e]
    rw [ov] at c4
    have FN := hide (Step.same HSI.out (Below.refl _ _))
    clear e l ov HSI
    go_enter Try.func10, Try.ntmps10
    go_wp2_with fail
    go_ret2
    exact ⟨rfl, FN.out⟩
  · have ov' : S.over = false := by simpa using ov
    rw [ov'] at c4
    have E := hide (ended_core l wf.tasks)
    by_cases dn : doneS S = true
    · have e : goS S p = (0, 22, S) := by unfold goS; rw [if_neg ov, if_pos dn]
      rw [e]
      rw [dn] at E
      have FN := hide (Step.same HSI.out (Below.refl _ _))
      clear e l ov HSI
      go_enter Try.func10, Try.ntmps10
      go_wp2_with (first
        | (go_at_call 20; refine E.out.mono ?_; rintro e w' ⟨rfl, hw'⟩; rw [hw']; clear hw' w'))
      go_ret2
      exact ⟨rfl, FN.out⟩
    · have dn' : doneS S = false := by simpa using dn
      rw [dn'] at E
      have A := hide (enabled_core l wf)
      have hle : (ableS S).length ≤ 64 := by
        unfold ableS
        split
        · simp
        · exact Nat.le_trans (ables_le S _) wf.tasks
      by_cases st : ableS S = []
      · have e : goS S p = (0, 21, S) := by unfold goS; rw [if_neg ov, if_neg dn, if_pos st]
        rw [e]
        have FN := hide (fun (w' : World) => Step.same (w' := w') HSI.out)
        have HS := hide st
        clear e l ov HSI st dn
        go_enter Try.func10, Try.ntmps10
        go_wp2_with (first
          | (go_at_call 20; refine E.out.mono ?_; rintro e w' ⟨rfl, hw'⟩; rw [hw']; clear hw' w'))
        refine A.out.mono ?_
        rintro e w1 ⟨v, rfl, h1, h2⟩
        rw [HS.out] at h1
        obtain ⟨o, cap, rfl⟩ : ∃ o cap, v = .slice o 0 cap := by
          obtain ⟨_, ⟨e, _⟩ | ⟨g, cap, cur, e, _⟩⟩ := h1
          · exact ⟨_, _, e⟩
          · exact ⟨_, _, e⟩
        have B := hide h2
        clear h1 h2 A E
        go_wp2_with fail
        go_ret2
        exact ⟨rfl, FN.out _ B.out⟩
      · have e : goS S p = (pickS S p, (stepS S (pickS S p)).1, (stepS S (pickS S p)).2) := by unfold goS; rw [if_neg ov, if_neg dn, if_neg st]
        rw [e]
        obtain ⟨m1, m2, m3, m4⟩ := pick_mem p st
        obtain ⟨s, r, hi, _⟩ := able_mem m1
        obtain ⟨i, hpi⟩ : ∃ i, pickS S p = i := ⟨_, rfl⟩
        rw [hpi] at m2 hi ⊢
        obtain ⟨k, hk⟩ : ∃ k, (ableS S).length = k := ⟨_, rfl⟩
        rw [hk] at hle m2 m3 m4
        have hk0 : (0 : Int) < (k : Int) := by omega
        have k0 : ((k : Int) == 0) = false := beq_eq_false_iff_ne.2 (by omega)
        have P := hide (fun w => place_core p (k : Int) hp hk0 (by omega) w)
        obtain ⟨q, hq⟩ : ∃ q : Nat, p % (k : Int) = (q : Int) := ⟨(p % (k : Int)).toNat, by omega⟩
        rw [hq] at m2 m3 m4 P
        rw [Int.toNat_natCast] at m2
        have ADV := hide (fun (w1 : World) (hb : Below w.heap.size w w1) => advance_core (l.below hb) wf hn i s r hi)
        have W := hide wf
        have M2 := hide m2
        have HK := hide hk
        obtain ⟨PO, hPO⟩ : ∃ PO : World → Prop, PO = fun w' => Step SI (Foot b bh bc v0 v3 T) w w' ⟨b, 0, none⟩ (stepS S i).2 := ⟨_, rfl⟩
        suffices Calls Try.prog 10 #[.pointer (some ⟨b, 0, none⟩), .int .i64 p] w fun e w' => e = .returned (.tuple #[.int .i64 (i : Int), .int .i64 ((stepS S i).1 : Nat)]) ∧ PO w' by rw [hPO] at this; exact this
        obtain ⟨c, hcc⟩ : ∃ c : Nat, (stepS S i).1 = c := ⟨_, rfl⟩
        rw [hcc] at ADV ⊢
        have FN := hide hPO
        have i64i : i ≤ 64 := by have := (List.getElem?_eq_some_iff.1 hi).1; have := wf.tasks; omega
        clear e l ov HSI st dn hPO m1 m2 hi hk hq wf hcc hpi
        go_enter Try.func10, Try.ntmps10
        go_wp2_with (first
          | (go_at_call 20; refine E.out.mono ?_; rintro e w' ⟨rfl, hw'⟩; rw [hw']; clear hw' w'))
        refine A.out.mono ?_
        rintro e w1 ⟨v, rfl, h1, h2⟩
        rw [HK.out] at h1
        obtain ⟨ga, cap, rfl, _, _⟩ := h1.form (by omega)
        have ca : w1.cell? ⟨ga, q, none⟩ = some (.int .i64 (i : Int)) := by
          rw [h1.cellAt q (by omega)]
          unfold nats
          rw [List.getElem?_map, M2.out]
          rfl
        have B := hide h2
        clear h1 h2 A E
        go_wp2_with (first
          | (go_at_call 21; refine (P.out _).mono ?_; rintro e w' ⟨rfl, hw'⟩; rw [hw']; clear hw' w'))
        refine (ADV.out _ B.out).mono ?_
        rintro e w2 ⟨rfl, n', hn', hw⟩
        have FIN : Hid (PO w2) := hide (by rw [FN.out]; exact hw.step B.out (W.out.step i) hn')
        clear hw FN ADV
        go_wp2_with fail
        go_ret2
        exact ⟨rfl, FIN.out⟩
end Go.Proofs.Ytlcbegmhmbegjaa
