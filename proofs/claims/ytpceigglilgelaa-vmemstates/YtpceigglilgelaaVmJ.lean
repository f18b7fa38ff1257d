/- slices.Replace of rows, whole. -/
import Derived.Test.YtpceigglilgelaaVmI
namespace Go.Proofs.Ytpceigglilgelaa
open Go.ChangeShapes Go.WideShapes Go.ChangeAt Go.RowKit Go.Proofs.Sp

/-- The rows are these now; nothing old has turned but the row g. -/
def Now (w w' : World) (g : Nat) (v : Value) (R : List (Nat × Nat)) : Prop := ∃ g' c', v = .slice (some ⟨g', 0, none⟩) R.length c' ∧ HoldsR w' g' c' R ∧ w.grownBy w' (some g) ∧ (g' = g ∨ w.heap.size ≤ g')
theorem none_some {w w' : World} {row : Option Nat} (h : w.grownBy w' none) : w.grownBy w' row := ⟨h.os, h.tape, h.output, h.size, fun k hk _ => h.block k hk (by simp)⟩
theorem insert_core (g cap : Nat) (v : Value) (R F : List (Nat × Nat)) (i : Nat) (w : World) (hh : HoldsR w g cap R) (hi : i ≤ R.length) (hn : R.length ≤ 2199023255552) (hm2 : F.length ≤ 2) (hv : FreshAt w v F g) :
    Calls Try.prog 82 #[.slice (some ⟨g, 0, none⟩) R.length cap, .int .i64 (i : Int), v] w fun e w' => ∃ v', e = .returned v' ∧ Now w w' g v' (R.take i ++ F ++ R.drop i) := by
  have hle := hh.le
  obtain ⟨⟨cur, hr, ht⟩, _⟩ := id hh
  have hcm := hr.cap
  unfold maxLen at hcm
  rcases hv with ⟨rfl, rfl⟩ | ⟨h, c, rfl, hgh, hm, hF⟩
  · refine (insert_none g cap R.length i none 0 w hle hi (by omega)).mono ?_
    rintro e w' ⟨rfl, rfl⟩
    refine ⟨_, rfl, g, cap, ?_, ?_, ⟨rfl, rfl, rfl, Nat.le_refl _, fun _ _ _ => rfl⟩, Or.inl rfl⟩
    · simp
    · simpa using hh
  · have hfc := hF.le
    obtain ⟨⟨curF, hf, hft⟩, _⟩ := id hF
    by_cases e : i = R.length
    · subst e
      refine (insert_end g cap h c cur curF R F R.length F.length w hr ht rfl rfl hle (by omega) hm hm2 hf hft hfc).mono ?_
      rintro e w' ⟨g', c', rfl, h1, h2, h3⟩
      refine ⟨_, rfl, g', c', ?_, ?_, h2, h3⟩
      · simp
      · simpa using h1
    · by_cases q : R.length + F.length ≤ cap
      · refine (insert_room g cap h c cur curF R F i w hr ht q (by omega) (by omega) hf hft hgh hm).mono ?_
        rintro e w' ⟨rfl, h1, h2⟩
        exact ⟨_, rfl, g, cap, by rw [len_of hi, show i + F.length + (R.length - i) = R.length + F.length by omega], h1, h2, Or.inl rfl⟩
      · refine (insert_grow g cap h c cur curF R F i w hr ht hle (by omega) (by omega) (by omega) hf hft hgh hm).mono ?_
        rintro e w' ⟨c', rfl, h1, h2⟩
        exact ⟨_, rfl, _, c', by rw [len_of hi, show i + F.length + (R.length - i) = R.length + F.length by omega], h1, none_some h2, Or.inr (Nat.le_refl _)⟩
set_option maxRecDepth 100000 in
set_option maxHeartbeats 4000000 in
theorem replace_core (g cap : Nat) (v : Value) (R F : List (Nat × Nat)) (i j : Nat) (w : World) (hh : HoldsR w g cap R) (hij : i ≤ j) (hj : j ≤ R.length) (hn : R.length ≤ 2199023255552) (hm2 : F.length ≤ 2) (hv : FreshAt w v F g) :
    Calls Try.prog 60 #[.slice (some ⟨g, 0, none⟩) R.length cap, .int .i64 (i : Int), .int .i64 (j : Int), v] w fun e w' => ∃ v', e = .returned v' ∧ Now w w' g v' (R.take i ++ F ++ R.drop j) := by
  have hle := hh.le
  obtain ⟨⟨cur, hr, ht⟩, _⟩ := id hh
  have hcm := hr.cap
  unfold maxLen at hcm
  have HV := hide hv
  clear hv
  have hlen := len_of (R := R) (F := F) (i := i) (j := j) (by omega)
  by_cases e : i = j
  · subst e
    have ic := insert_core g cap v R F i w hh hj hn hm2 HV.out
    have IC := hide ic
    have b1 : ((i : Int) == (i : Int)) = true := beq_self_eq_true _
    have d0 : (0 : Int) ≤ (i : Int) := by omega
    have d1 : (i : Int) ≤ (cap : Int) := by omega
    obtain ⟨n, hln⟩ : ∃ n, R.length = n := ⟨_, rfl⟩
    rw [hln] at IC hle hj ⊢
    clear ic hh hr ht HV hlen hln
    by_cases c1 : cap = i
    · subst c1
      go_enter Try.func60, Try.ntmps60
      go_wp2_with fail
      refine IC.out.mono ?_
      rintro e w' ⟨v', rfl, hnow⟩
      have HN := hide hnow
      clear hnow IC
      go_wp2_with fail
      go_ret
      exact ⟨v', rfl, HN.out⟩
    · go_enter Try.func60, Try.ntmps60
      go_wp2_with fail
      refine IC.out.mono ?_
      rintro e w' ⟨v', rfl, hnow⟩
      have HN := hide hnow
      clear hnow IC
      go_wp2_with fail
      go_ret
      exact ⟨v', rfl, HN.out⟩
  · obtain ⟨d, hd⟩ : ∃ d, R.length = j + d := ⟨R.length - j, by omega⟩
    obtain ⟨fp, c, hvv, hfr⟩ : ∃ fp c, v = .slice fp F.length c ∧ ((F.length = 0 ∧ fp = none ∧ c = 0) ∨ (0 < F.length ∧ ∃ h, fp = some ⟨h, 0, none⟩ ∧ h ≠ g ∧ HoldsR w h c F)) := by
      rcases HV.out with ⟨rfl, rfl⟩ | ⟨h, c, rfl, hgh, hm, hF⟩
      · exact ⟨none, 0, rfl, Or.inl ⟨rfl, rfl, rfl⟩⟩
      · exact ⟨_, c, rfl, Or.inr ⟨hm, h, rfl, hgh, hF⟩⟩
    subst hvv
    have HFR := hide hfr
    clear hfr HV
    by_cases d0 : d = 0
    · subst d0
      have hnil : R.drop j = [] := List.drop_eq_nil_of_le (by omega)
      rw [hnil, List.append_nil] at hlen ⊢
      rw [show R.length = j by omega] at hle ⊢
      have hlen2 : (R.take i ++ F).length = i + F.length := by omega
      by_cases q : i + F.length ≤ cap
      · refine (replace_end_room g cap fp c R F i j F.length w hh (by omega) rfl hle (by omega) (by omega) q (HFR.out.imp id fun ⟨a, h, b, _, c⟩ => ⟨a, h, b, c⟩)).mono ?_
        rintro e w' ⟨rfl, h1, h2⟩
        exact ⟨_, rfl, g, cap, by rw [hlen2], h1, h2, Or.inl rfl⟩
      · rcases HFR.out with ⟨a, _, _⟩ | ⟨a, h, rfl, b, hF⟩
        · omega
        · refine (replace_end_grow g cap h c R F i j F.length w hh (by omega) rfl hle (by omega) (by omega) hm2 (by omega) hF).mono ?_
          rintro e w' ⟨g', c', rfl, h1, h2, h3⟩
          exact ⟨_, rfl, g', c', by rw [hlen2], h1, h2, h3⟩
    · have hlen2 : (R.take i ++ F ++ R.drop j).length = i + F.length + d := by omega
      have hFF : 0 < F.length → ∃ h curF, fp = some ⟨h, 0, none⟩ ∧ h ≠ g ∧ RowIs w h c curF ∧ curF.take (F.length * 2) = flat2 F := fun hm => by
        rcases HFR.out with ⟨a, _, _⟩ | ⟨a, h, rfl, b, ⟨curF, hf, hft⟩, _⟩
        · omega
        · exact ⟨h, curF, rfl, b, hf, hft⟩
      have HFF := hide hFF
      clear hFF
      rw [hd] at hle ⊢
      by_cases q : i + F.length ≤ j
      · by_cases q2 : cap = i + F.length + d
        · have hj2 : j = i + F.length := by omega
          subst q2 hj2
          have := replace_fit g cur R F i d fp c w hr ht hd (by omega) (by omega) (by omega) HFF.out
          rw [show (((i + F.length : Nat) : Int)) = (i : Int) + (F.length : Int) by omega]
          refine this.mono ?_
          rintro e w' ⟨rfl, h1, h2⟩
          exact ⟨_, rfl, g, _, by rw [hlen2], h1, h2, Or.inl rfl⟩
        · refine (replace_less g cap cur R F i j d fp c w hr ht hd hle (by omega) (by omega) (by omega) q q2 HFF.out).mono ?_
          rintro e w' ⟨rfl, h1, h2⟩
          exact ⟨_, rfl, g, cap, by rw [hlen2], h1, h2, Or.inl rfl⟩
      · obtain ⟨h, curF, rfl, b, hf, hft⟩ := HFF.out (by omega)
        by_cases q2 : i + F.length + d ≤ cap
        · refine (replace_more g cap h c cur curF R F i j d w hr ht hd (by omega) (by omega) (by omega) (by omega) q2 hf hft b).mono ?_
          rintro e w' ⟨rfl, h1, h2⟩
          exact ⟨_, rfl, g, cap, by rw [hlen2], h1, h2, Or.inl rfl⟩
        · refine (replace_grow g cap h c cur curF R F i j d w hr ht hd hle (by omega) (by omega) (by omega) (by omega) hf hft b).mono ?_
          rintro e w' ⟨c', rfl, h1, h2⟩
          exact ⟨_, rfl, _, c', by rw [hlen2, Nat.add_assoc], h1, none_some h2, Or.inr (Nat.le_refl _)⟩
end Go.Proofs.Ytpceigglilgelaa
