/- Play, of the landed machine. -/
import Derived.Test.YtlcbegmhmbegjaaGo
import Derived.Test.YtlcbegmhmbegjaaLst
namespace Go.Proofs.Ytlcbegmhmbegjaa
open Go.ChangeShapes Go.WideShapes Go.ChangeAt Go.RowKit Go.Proofs.Sc Go.Maps
set_option linter.unusedVariables false
set_option linter.unusedSimpArgs false

variable {w w' w1 : World} {S S1 S2 : Sc} {m : Addr} {F : Nat → Prop}
theorem Step.refl {I : Inv} (h : I w m S F) : Step I F w w m S := ⟨F, h, Kept.refl _ _, fun x hx => Or.inl hx⟩
theorem Step.trans {I : Inv} {F1 : Nat → Prop} (k : Kept F w w1) (hf : ∀ x, F1 x → F x ∨ w.heap.size ≤ x) (h : Step I F1 w1 w' m S2) : Step I F w w' m S2 := by
  obtain ⟨F2, h1, h2, h3⟩ := h
  refine ⟨F2, h1, k.trans h2 hf, fun x hx => ?_⟩
  rcases h3 x hx with z | z
  · exact hf x z
  · right; have := k.size; omega
theorem Step.drew (h : Step SI F w w1 m S) : Step SI F w w1.drew m S := by
  obtain ⟨F1, a, b, c⟩ := h
  have hb := drew_below w1
  exact ⟨F1, a.kept hb.size (fun x hx => hb.block x (a.lt x hx)), b.trans (Kept.of_below (F := fun _ => False) hb) (fun x hx => by cases hx), c⟩
/-- Where a list of picks lies is none of the machine's. -/
def Apart (v : Value) (F : Nat → Prop) : Prop := ∀ g off n c, v = .slice (some ⟨g, off, none⟩) n c → 0 < n → ¬ F g
theorem IntsAt.kept {v : Value} {l : List Int} (h : IntsAt w v l) (ha : Apart v F) (k : Kept F w w') : IntsAt w' v l := by
  obtain ⟨o, cap, h1, h2, h3, h4, h5, h6⟩ := h
  refine ⟨o, cap, h1, h2, h3, h4, h5, fun z => ?_⟩
  obtain ⟨g, off, e, hg, hc⟩ := h6 z
  have := k.size
  exact ⟨g, off, e, by omega, fun i x hi => (k.cell hg (ha g off _ _ (by rw [h1, e]) (List.length_pos_iff.2 z))).trans (hc i x hi)⟩
/-- What Play answers. -/
def PlayP (I : Inv) (F : Nat → Prop) (w : World) (m : Addr) (S : Sc) (l : List Int) (e : Ending) (w' : World) : Prop :=
  e = .returned (.tuple #[.int .i64 ((playS S l).1 : Nat), .int .i64 ((playS S l).2.1 : Nat)]) ∧ Step I F w w' m (playS S l).2.2
theorem play_next {S : Sc} {l : List Int} {i : Nat} {p : Int} (hp : l[i]? = some p) (h : (goS S p).2.1 = 0) : playS S (l.drop i) = ((playS (goS S p).2.2 (l.drop (i + 1))).1 + 1, (playS (goS S p).2.2 (l.drop (i + 1))).2) := by
  obtain ⟨hi, e⟩ := List.getElem?_eq_some_iff.1 hp
  rw [List.drop_eq_getElem_cons hi, e]
  simp only [playS]
  rw [if_pos h]
theorem play_stop {S : Sc} {l : List Int} {i : Nat} {p : Int} (hp : l[i]? = some p) (h : (goS S p).2.1 ≠ 0) : playS S (l.drop i) = (0, (goS S p).2.1, (goS S p).2.2) := by
  obtain ⟨hi, e⟩ := List.getElem?_eq_some_iff.1 hp
  rw [List.drop_eq_getElem_cons hi, e]
  simp only [playS]
  rw [if_neg h]
set_option maxRecDepth 100000 in
theorem SI.play (h : SI w m S F) {u : Value} {l : List Int} (hl : IntsAt w u l) (ha : Apart u F) (hn : l.length ≤ 1000000) :
    Calls Try.prog 13 #[.pointer (some m), u] w (PlayP SI F w m S l) := by
  have HS := hide h
  have HL := hide hl
  have HA := hide ha
  obtain ⟨o, cap, rfl, h1⟩ := hl.shape
  obtain ⟨PO, hPO⟩ : ∃ PO, PO = PlayP SI F w m S l := ⟨_, rfl⟩
  rw [← hPO]
  have HP := hide hPO
  obtain ⟨k, hk⟩ : ∃ k, l.length = k := ⟨_, rfl⟩
  have HK := hide hk
  rw [hk] at h1 hn HL HA ⊢
  clear h hl ha hPO hk
  go_enter Try.func13, Try.ntmps13
  go_wp2_with fail
  go_loopw [12] (fun iv wr => ∃ (i : Nat) (Si : Sc), iv = .int .i64 (i : Int) ∧ i ≤ k ∧ Hid (playS S l = ((playS Si (l.drop i)).1 + i, (playS Si (l.drop i)).2)) ∧ Hid (Step SI F w wr m Si)) (fun iv _ => k - (intOf iv).toNat)
  case atStart => exact ⟨0, S, rfl, Nat.zero_le _, hide (by simp), hide (Step.refl HS.out)⟩
  case round =>
    obtain ⟨i, Si, rfl, hi, hpl, hst⟩ := hrel
    obtain ⟨F1, a1, a2, a3⟩ := hst.out
    by_cases hlt : i < k
    · have hl2 := HL.out.kept HA.out a2
      obtain ⟨g, off, x, rfl, hx, hx64, cx⟩ := hl2.at (Below.refl _ _) hlt
      have bc : k ≤ cap := by obtain ⟨_, _, z, h2, _⟩ := HL.out; injection z with z1 z2 z3; rw [HK.out] at h2; omega
      have GO := hide (a1.go x hx64)
      have i1 : (i : Int) < (k : Int) := by omega
      have i2 : (0 : Int) ≤ (i : Int) := by omega
      have K1 := hide a2
      have K2 := hide a3
      have HX := hide hx
      obtain ⟨c, hc⟩ : ∃ c, (goS Si x).2.1 = c := ⟨_, rfl⟩
      obtain ⟨tt, htt⟩ : ∃ tt, (goS Si x).1 = tt := ⟨_, rfl⟩
      have HC := hide hc
      rw [hc, htt] at GO
      clear hl2 hx a1 a2 a3 hst hc htt
      by_cases c0 : c = 0
      · subst c0
        have PN := hide (play_next HX.out HC.out)
        go_wp2_with fail
        refine GO.out.mono ?_
        rintro e w2 ⟨rfl, hs2⟩
        have NX : Hid (Step SI F w w2 m (goS Si x).2.2) := hide (Step.trans K1.out K2.out hs2)
        clear hs2 GO
        go_wp2_with fail
        go_roundw
        case rel => exact ⟨i + 1, _, by go_num, by omega, hide (by rw [hpl.out, PN.out]; simp only; rw [Nat.add_assoc, Nat.add_comm 1 i]), NX⟩
        case measure => simp [intOf]; omega
      · have PS := hide (play_stop HX.out (by rw [HC.out]; exact c0))
        have dc : ((c : Int) == 0) = false := beq_eq_false_iff_ne.2 (by omega)
        go_wp2_with fail
        refine GO.out.mono ?_
        rintro e w2 ⟨rfl, hs2⟩
        have FN : Hid (PO (.returned (.tuple #[.int .i64 (i : Int), .int .i64 (c : Int)])) w2) := hide (by
          rw [HP.out]
          unfold PlayP
          rw [hpl.out, PS.out]
          exact ⟨by rw [HC.out]; simp, Step.trans K1.out K2.out hs2⟩)
        clear hs2 GO HP
        go_wp2_with fail
        first | exact FN.out | (go_ret2; exact FN.out)
    · obtain rfl : i = k := by omega
      have d0 : ¬ (i : Int) < (i : Int) := by omega
      have FN : Hid (PO (.returned (.tuple #[.int .i64 (i : Int), .int .i64 0])) wr) := hide (by
        rw [HP.out]
        unfold PlayP
        rw [hpl.out, List.drop_of_length_le (by rw [HK.out]; exact Nat.le_refl _)]
        exact ⟨by simp [playS], hst.out⟩)
      clear hpl hst HP a1 a2 a3
      go_wp2_with fail
      first | exact FN.out | (go_ret2; exact FN.out)
end Go.Proofs.Ytlcbegmhmbegjaa
