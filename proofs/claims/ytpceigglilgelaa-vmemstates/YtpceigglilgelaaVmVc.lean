/- What the system left in pages that are made ready again. -/
import Derived.Test.YtpceigglilgelaaVmVb
namespace Go.Proofs.Ytpceigglilgelaa
open Go.ChangeShapes Go.WideShapes Go.ChangeAt Go.RowKit Go.Proofs.Sp

structure FillAt (w wr : World) (b : Nat) (pl : List Nat) (re : List Bool) (fi : List Nat) (f : Nat → Nat) (g0 g1 g2 g cap : Nat) (R : List (Nat × Nat)) (bp bf n : Nat) (MP MF : Nat → Nat) (A : Nat → Nat → Nat) (p i ni : Nat) (MFi : Nat → Nat) : Prop where
  lies : Lies wr b pl re (fi.drop i) f g0 g1 g2 g cap R bp bf ni MP MFi A
  moves : Moves (Foot b g0 g1 g2 g bp bf pl re fi MP) (Foot b g0 g1 g2 g bp bf pl re (fi.drop i) MP) w wr
  nle : ni ≤ n + i
  at_ : ∀ q j, j < 1024 → wordAt MP MFi A q j = if p ≤ q ∧ q < p + i then fi.getD (q - p) 0 else wordAt MP MF A q j
  non : ∀ q, (q < p ∨ p + i ≤ q) → MP q = 0 → MF q = 0 → MFi q = 0
variable {w wr w1 w2 : World} {b : Nat} {pl : List Nat} {re : List Bool} {fi : List Nat} {f : Nat → Nat} {g0 g1 g2 g cap : Nat} {R : List (Nat × Nat)} {bp bf n : Nat} {MP MF : Nat → Nat} {A : Nat → Nat → Nat} {p i ni : Nat} {MFi : Nat → Nat}
theorem FillAt.start (h : Lies w b pl re fi f g0 g1 g2 g cap R bp bf n MP MF A) (p : Nat) : FillAt w w b pl re fi f g0 g1 g2 g cap R bp bf n MP MF A p 0 n MF :=
  ⟨h, Moves.refl _ _, Nat.le_refl _, fun q j _ => by rw [if_neg (by omega)], fun _ _ _ h => h⟩
theorem FillAt.next (h : FillAt w wr b pl re fi f g0 g1 g2 g cap R bp bf n MP MF A p i ni MFi) {v : Value} (k : Cell1 b 2 wr w1 v) (hv : SlB w1 v (u64s (fi.drop i).tail) g2) {x : Nat} {MF' : Nat → Nat} (hx : fi[i]? = some x)
    (kw : WNow w1 w2 b bp bf (ni + 1) MP MFi (fun q => q ≠ p + i) (fun q j => if q = p + i then x else wordAt MP MFi A q j) MP MF' A) :
    FillAt w w2 b pl re fi f g0 g1 g2 g cap R bp bf n MP MF A p (i + 1) (ni + 1) MF' := by
  obtain ⟨l1, m1⟩ := h.lies.fill k hv
  obtain ⟨l2, m2⟩ := l1.turn kw
  rw [List.tail_drop] at l2 m1 m2
  refine ⟨l2, h.moves.trans (m1.trans m2), by have := h.nle; omega, fun q j hj => ?_, fun q hq a c => ?_⟩
  · rw [kw.at_ q j hj]
    by_cases z : q = p + i
    · rw [if_pos z, if_pos (by omega), show q - p = i by omega, List.getD_eq_getElem?_getD, hx]; rfl
    · rw [if_neg z, h.at_ q j hj]
      by_cases y : p ≤ q ∧ q < p + i
      · rw [if_pos y, if_pos (by omega)]
      · rw [if_neg y, if_neg (by omega)]
  · exact (kw.non q (by omega) a (h.non q (by omega) a c)).2
theorem FillAt.stop (h : FillAt w wr b pl re fi f g0 g1 g2 g cap R bp bf n MP MF A p i ni MFi) (hi : fi.drop i = []) {e : Nat} (he : i ≤ e) (hz : ∀ q, p ≤ q → q < p + e → MP q = 0 ∧ MF q = 0) : FillAt w wr b pl re fi f g0 g1 g2 g cap R bp bf n MP MF A p e ni MFi := by
  have hl : fi.length ≤ i := List.drop_eq_nil_iff.1 hi
  have e2 : fi.drop e = [] := List.drop_eq_nil_iff.2 (by omega)
  have l := h.lies
  have m := h.moves
  rw [hi] at l m
  refine ⟨by rw [e2]; exact l, by rw [e2]; exact m, by have := h.nle; omega, fun q j hj => ?_, fun q hq a c => h.non q (by omega) a c⟩
  rw [h.at_ q j hj]
  by_cases y : p ≤ q ∧ q < p + i
  · rw [if_pos y, if_pos (by omega)]
  · rw [if_neg y]
    by_cases z : p ≤ q ∧ q < p + e
    · rw [if_pos z, List.getD_eq_getElem?_getD, List.getElem?_eq_none (by omega)]
      obtain ⟨a, c⟩ := hz q z.1 z.2
      simp [wordAt, a, c]
    · rw [if_neg z]
/-- A page that is not filled yet has nothing. -/
theorem FillAt.free (h : FillAt w wr b pl re fi f g0 g1 g2 g cap R bp bf n MP MF A p i ni MFi) {q : Nat} (hq : p + i ≤ q) (hz : MP q = 0 ∧ MF q = 0) : MP q = 0 ∧ MFi q = 0 := ⟨hz.1, h.non q (Or.inr hq) hz.1 hz.2⟩
theorem FillAt.same (h : FillAt w wr b pl re fi f g0 g1 g2 g cap R bp bf n MP MF A p i ni MFi) {v : Value} (k : Cell1 b 2 wr w1 v) (hv : SlB w1 v (u64s (fi.drop i).tail) g2) (hi : fi.drop i = []) : FillAt w w1 b pl re fi f g0 g1 g2 g cap R bp bf n MP MF A p i ni MFi := by
  obtain ⟨l1, m1⟩ := h.lies.fill k hv
  have e : (fi.drop i).tail = fi.drop i := by rw [hi]; rfl
  rw [e] at l1 m1
  exact ⟨l1, h.moves.trans m1, h.nle, h.at_, h.non⟩
set_option maxRecDepth 100000 in
set_option maxHeartbeats 1000000 in
theorem fill_core (b : Nat) (pl : List Nat) (re : List Bool) (fi : List Nat) (f : Nat → Nat) (g0 g1 g2 g cap : Nat) (R : List (Nat × Nat)) (bp bf n : Nat) (MP MF : Nat → Nat) (A : Nat → Nat → Nat) (w : World) (p e : Nat) (hpe : p ≤ e) (he : e ≤ 34359738368) (hn : n ≤ 4363686772736)
    (h : Lies w b pl re fi f g0 g1 g2 g cap R bp bf n MP MF A) (hz : ∀ q, p ≤ q → q < e → MP q = 0 ∧ MF q = 0) (hfi : ∀ x ∈ fi, x < 18446744073709551616) :
    Calls Try.prog 35 #[.pointer (some ⟨b, 0, none⟩), .int .u64 (p : Int), .int .u64 (e : Int)] w fun r w' => r = .returned (.tuple #[]) ∧ Hid (∃ n' MF', FillAt w w' b pl re fi f g0 g1 g2 g cap R bp bf n MP MF A p (e - p) n' MF') := by
  have H := hide h
  have HZ := hide hz
  have HF := hide hfi
  clear h hz hfi
  obtain ⟨PO, hPO⟩ : ∃ PO : World → Prop, PO = fun w' => ∃ n' MF', FillAt w w' b pl re fi f g0 g1 g2 g cap R bp bf n MP MF A p (e - p) n' MF' := ⟨_, rfl⟩
  suffices Calls Try.prog 35 #[.pointer (some ⟨b, 0, none⟩), .int .u64 (p : Int), .int .u64 (e : Int)] w fun r w' => r = .returned (.tuple #[]) ∧ Hid (PO w') by rw [hPO] at this; exact this
  have PE := hide hPO
  clear hPO
  go_enter Try.func35, Try.ntmps35
  go_wp2_with fail
  go_loopw [6] (fun iv wr => ∃ (i ni : Nat) (MFi : Nat → Nat), iv = .int .u64 ((p + i : Nat) : Int) ∧ p + i ≤ e ∧ Hid (FillAt w wr b pl re fi f g0 g1 g2 g cap R bp bf n MP MF A p i ni MFi)) (fun iv _ => e - (intOf iv).toNat)
  case atStart => exact ⟨0, n, MF, rfl, hpe, hide (FillAt.start H.out p)⟩
  case round =>
    obtain ⟨i, ni, MFi, rfl, hi, hFA⟩ := hrel
    by_cases hlt : p + i < e
    · have d1 : ((p + i : Nat) : Int) < (e : Int) := by omega
      obtain ⟨v2, v2c, v2s⟩ := hFA.out.lies.s2
      have v2f := hFA.out.lies.rows.fz 2
      have S2 := hide v2s
      clear v2s
      cases hd : fi[i]? with
      | none =>
        have e0 : fi.drop i = [] := List.drop_eq_nil_iff.2 (List.getElem?_eq_none_iff.1 hd)
        have E0 := hide e0
        clear e0 hd
        go_wp2_with (go_at_call 56; refine (next_u64 b 2 g2 v2 (fi.drop i) _ v2c v2f S2.out).mono ?_; rintro r w1 ⟨rfl, hT⟩; obtain ⟨v', k1, k2⟩ := took_u64 v2c hT S2.out hFA.out.lies.n2; have F1 := hide (hFA.out.same k1 k2 E0.out); rw [E0.out]; clear hT k1 k2)
        ((try simp only [Exit.inBlock, Exit.then]); refine bodyPost_ret (results_none rfl _ _ _) rfl ?_)
        refine ⟨rfl, hide ?_⟩
        rw [PE.out]
        exact ⟨ni, MFi, F1.out.stop E0.out (by omega) (fun q q1 q2 => HZ.out q q1 (by omega))⟩
      | some x =>
        obtain ⟨xl, xe⟩ := List.getElem?_eq_some_iff.1 hd
        have X := hide (show (fi.drop i).head?.getD 0 = x by rw [List.head?_drop, hd]; rfl)
        have X2 := hide (show (!(fi.drop i).isEmpty) = true by rw [List.drop_eq_getElem_cons xl]; rfl)
        have hx64 : x < 18446744073709551616 := HF.out x (xe ▸ List.getElem_mem xl)
        have HD := hide hd
        have hnn := hFA.out.nle
        clear hd xe xl
        go_wp2_with (first
          | (go_at_call 56; refine (next_u64 b 2 g2 v2 (fi.drop i) _ v2c v2f S2.out).mono ?_; rintro r w1 ⟨rfl, hT⟩; obtain ⟨v', k1, k2⟩ := took_u64 v2c hT S2.out hFA.out.lies.n2; have L1 := hide (hFA.out.lies.fill k1 k2).1; have C1 := hide (And.intro k1 k2); rw [X.out, X2.out]; clear hT k1 k2))
        refine (wfill_core b bp bf ni (p + i) x MP MFi A w1 L1.out.words (by omega) (by omega) hx64 (hFA.out.free (Nat.le_refl _) (HZ.out _ (by omega) hlt)).1 (hFA.out.free (Nat.le_refl _) (HZ.out _ (by omega) hlt)).2).mono ?_
        rintro r w2 ⟨rfl, hW⟩
        go_wp2_with fail
        obtain ⟨MF', kw⟩ := hW.out
        refine ⟨⟨i + 1, ni + 1, MF', ?_, by omega, hide (hFA.out.next C1.out.1 C1.out.2 HD.out kw)⟩, by simp [intOf]; omega⟩
        rw [show ((p + (i + 1) : Nat) : Int) = (p : Int) + (i : Int) + 1 by omega]
    · have d1 : ¬ ((p + i : Nat) : Int) < (e : Int) := by omega
      have ei : i = e - p := by omega
      go_wp2_with fail
      go_end0
      refine ⟨rfl, hide ?_⟩
      rw [PE.out]
      exact ⟨ni, MFi, ei ▸ hFA.out⟩
end Go.Proofs.Ytpceigglilgelaa
