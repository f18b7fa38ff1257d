/- The landed package's words: zero. -/
import Derived.Test.YtpceigglilgelaaVmZc
namespace Go.Proofs.Ytpceigglilgelaa
open Go.ChangeShapes Go.WideShapes Go.ChangeAt Go.RowKit Go.Proofs.Sp Go.Maps
set_option linter.unusedVariables false
set_option linter.unusedSimpArgs false

/-- Where the words lie that are set to 0. -/
def zeroW (a t : Nat) (W : Nat → Nat → Nat) (q j : Nat) : Nat := if a ≤ q * 8192 + j * 8 ∧ q * 8192 + j * 8 < t then 0 else W q j
theorem in1 {a t p f l u q j : Nat} (ha : a = p * 8192 + f * 8) (ht : t = l * 8192 + u * 8) (hf : f < 1024) (hu : u < 1024) (hj : j < 1024) (e : p = l) : (a ≤ q * 8192 + j * 8 ∧ q * 8192 + j * 8 < t) ↔ (q = p ∧ f ≤ j ∧ j < u) := by omega
theorem in2 {a t p f l u q j : Nat} (ha : a = p * 8192 + f * 8) (ht : t = l * 8192 + u * 8) (hf : f < 1024) (hu : u < 1024) (hj : j < 1024) (e : p < l) (h0 : f = 0) : (a ≤ q * 8192 + j * 8 ∧ q * 8192 + j * 8 < t) ↔ ((p ≤ q ∧ q < l) ∨ (q = l ∧ j < u)) := by omega
theorem in3 {a t p f l u q j : Nat} (ha : a = p * 8192 + f * 8) (ht : t = l * 8192 + u * 8) (hf : f < 1024) (hu : u < 1024) (hj : j < 1024) (e : p < l) : (a ≤ q * 8192 + j * 8 ∧ q * 8192 + j * 8 < t) ↔ ((q = p ∧ f ≤ j) ∨ (p + 1 ≤ q ∧ q < l) ∨ (q = l ∧ j < u)) := by omega
/-- One step behind another: what the words are then. -/
theorem WPost.step {w w' w'' : World} {b bp bf n n' : Nat} {MP MF MP' MF' : Nat → Nat} {A' : Nat → Nat → Nat} {W W' : Nat → Nat → Nat} {V : (Nat → Nat → Nat) → Nat → Nat → Nat} (h : WNow w w' b bp bf n MP MF (fun _ => True) W MP' MF' A') (k : WPost w' w'' b bp bf n' MP' MF' (fun _ => True) (V (wordAt MP' MF' A'))) (hV : ∀ X q j, j < 1024 → X q j = W q j → V X q j = W' q j) :
    WPost w w'' b bp bf n' MP MF (fun _ => True) W' := by
  obtain ⟨MP2, MF2, A2, k⟩ := k
  exact ⟨MP2, MF2, A2, (h.step k).weak (Nat.le_refl _) (fun _ _ => ⟨trivial, trivial⟩) (fun q j hj => hV _ q j hj (h.at_ q j hj))⟩
set_option maxRecDepth 100000 in
set_option maxHeartbeats 4000000 in
theorem wzero_core (b bp bf n : Nat) (MP MF : Nat → Nat) (A : Nat → Nat → Nat) (w : World) (h : WordsM w b bp bf n MP MF A) (hn : n ≤ 2199023255552) (a c : Int) (ha : 0 ≤ a) (hc : 0 ≤ c) (hac : a + c ≤ 281474976710656) (h8 : a % 8 = 0) (c8' : c % 8 = 0) :
    Calls Try.prog 53 #[.pointer (some ⟨b, 8, none⟩), .int .u64 a, .int .u64 c] w fun e w' => e = .returned (.tuple #[]) ∧ Hid (WPost w w' b bp bf (n + 2) MP MF (fun _ => True) (zeroW a.toNat (a.toNat + c.toNat) (wordAt MP MF A))) := by
  obtain ⟨p, hpe⟩ : ∃ p : Nat, p = a.toNat / 8192 := ⟨_, rfl⟩
  obtain ⟨f, hfe⟩ : ∃ f : Nat, f = a.toNat % 8192 / 8 := ⟨_, rfl⟩
  obtain ⟨l, hle⟩ : ∃ l : Nat, l = (a + c).toNat / 8192 := ⟨_, rfl⟩
  obtain ⟨u, hue⟩ : ∃ u : Nat, u = (a + c).toNat % 8192 / 8 := ⟨_, rfl⟩
  have P1 := hide (show (a / 8192 : Int) = (p : Int) by omega)
  have P2 := hide (show (a % 8192 / 8 : Int) = (f : Int) by omega)
  have P3 := hide (show ((a + c) / 8192 : Int) = (l : Int) by omega)
  have P4 := hide (show ((a + c) % 8192 / 8 : Int) = (u : Int) by omega)
  have E1 : Hid (a.toNat = p * 8192 + f * 8) := hide (by omega)
  have E2 : Hid (a.toNat + c.toNat = l * 8192 + u * 8) := hide (by omega)
  have hf : f < 1024 := by omega
  have hu : u < 1024 := by omega
  have hpl : p ≤ l := by omega
  have hl : l ≤ 34359738368 := by omega
  have hpu : p = l → f ≤ u := by omega
  obtain ⟨PO, hPO⟩ : ∃ PO : World → Prop, PO = fun w' => WPost w w' b bp bf (n + 2) MP MF (fun _ => True) (zeroW a.toNat (a.toNat + c.toNat) (wordAt MP MF A)) := ⟨_, rfl⟩
  suffices Calls Try.prog 53 #[.pointer (some ⟨b, 8, none⟩), .int .u64 a, .int .u64 c] w fun e w' => e = .returned (.tuple #[]) ∧ Hid (PO w') by rw [hPO] at this; exact this
  have FIN : Hid (∀ w', WPost w w' b bp bf (n + 2) MP MF (fun _ => True) (zeroW a.toNat (a.toNat + c.toNat) (wordAt MP MF A)) → PO w') := hide (fun w' h => by rw [hPO]; exact h)
  clear hPO hpe hfe hle hue
  have H := hide h
  clear h
  by_cases e : p = l
  · subst e
    have hfu := hpu rfl
    go_enter Try.func53, Try.ntmps53
    go_wp2_with (first
      | (go_at_call 67; refine (split_core a ha (by omega) _).mono ?_; rintro e w' ⟨rfl, rfl⟩; rw [P1.out, P2.out])
      | (go_at_call 67; refine (split_core (a + c) (by omega) (by omega) _).mono ?_; rintro e w' ⟨rfl, rfl⟩; rw [P3.out, P4.out])
      | (go_at_call 78; refine (wpart_core b bp bf n p f u MP MF A _ H.out (by omega) (by omega) hfu (by omega)).mono ?_; rintro e w' ⟨rfl, hP⟩))
    ((try simp only [Exit.inBlock, Exit.then]); refine bodyPost_ret (results_none rfl _ _ _) rfl ?_)
    exact ⟨rfl, hide (FIN.out _ (by
      obtain ⟨MP', MF', A', k⟩ := hP.out
      refine ⟨MP', MF', A', k.weak (by omega) (fun _ h => h) (fun q j hj => ?_)⟩
      unfold zeroW
      simp only [in1 E1.out E2.out hf hu hj rfl]))⟩
  · have hlt : p < l := by omega
    have ne : ((p : Int) == (l : Int)) = false := by simp; omega
    clear e hpu
    by_cases f0 : f = 0
    · subst f0
      go_enter Try.func53, Try.ntmps53
      go_wp2_with (first
        | (go_at_call 67; refine (split_core a ha (by omega) _).mono ?_; rintro e w' ⟨rfl, rfl⟩; rw [P1.out, P2.out])
        | (go_at_call 67; refine (split_core (a + c) (by omega) (by omega) _).mono ?_; rintro e w' ⟨rfl, rfl⟩; rw [P3.out, P4.out])
        | (go_at_call 40; refine (forget_core b bp bf n MP MF A _ H.out (by omega) (p : Int) (l : Int) (by omega) (by omega) (by omega)).mono ?_; rintro e w' ⟨rfl, hP⟩; obtain ⟨MP', MF', A', k⟩ := hP.out; have K1 := hide k; clear k hP)
        | (go_at_call 78; refine (wpart_core b bp bf n l 0 u MP' MF' A' _ K1.out.wm (by omega) (by omega) (by omega) (by omega)).mono ?_; rintro e w' ⟨rfl, hP⟩))
      go_end0
      exact ⟨rfl, hide (FIN.out _ (by
        have := WPost.step (W' := zeroW a.toNat (a.toNat + c.toNat) (wordAt MP MF A)) (V := fun X q j => if q = l ∧ 0 ≤ j ∧ j < u then 0 else X q j) K1.out hP.out (fun X q j hj hX => by
          simp only [hX]
          unfold zeroW
          simp only [in2 E1.out E2.out (by omega) hu hj hlt rfl, Int.toNat_natCast]
          by_cases c1 : q = l ∧ j < u
          · rw [if_pos ⟨c1.1, by omega, c1.2⟩, if_pos (Or.inr c1)]
          · rw [if_neg (fun z => c1 ⟨z.1, z.2.2⟩)]
            by_cases c2 : p ≤ q ∧ q < l
            · rw [if_pos c2, if_pos (Or.inl c2)]
            · rw [if_neg c2, if_neg (fun z => z.elim c2 c1)])
        obtain ⟨a1, a2, a3, k⟩ := this
        exact ⟨a1, a2, a3, k.weak (by omega) (fun _ h => h) (fun _ _ _ => rfl)⟩))⟩
    · have f1 : ((f : Int) != 0) = true := by rw [bne_iff_ne]; omega
      have W1 := hide (fun w h => wpart_core b bp bf n p f 1024 MP MF A w h (by omega) (by omega) (by omega) (by omega))
      go_enter Try.func53, Try.ntmps53
      go_wp2_with (first
        | (go_at_call 67; refine (split_core a ha (by omega) _).mono ?_; rintro e w' ⟨rfl, rfl⟩; rw [P1.out, P2.out])
        | (go_at_call 67; refine (split_core (a + c) (by omega) (by omega) _).mono ?_; rintro e w' ⟨rfl, rfl⟩; rw [P3.out, P4.out]))
      refine (W1.out _ H.out).mono ?_
      rintro e w' ⟨rfl, hP⟩
      obtain ⟨MP', MF', A', k⟩ := hP.out
      have K1 := hide k
      clear k hP W1
      go_wp2_with (first
        | (go_at_call 40; refine (forget_core b bp bf (n + 1) MP' MF' A' _ K1.out.wm (by omega) ((p : Int) + 1) (l : Int) (by omega) (by omega) (by omega)).mono ?_; rintro e w' ⟨rfl, hP⟩; obtain ⟨MP2, MF2, A2, k⟩ := hP.out; have K2 := hide (K1.out.step k); clear k hP))
      refine (wpart_core b bp bf (n + 1) l 0 u MP2 MF2 A2 _ K2.out.wm (by omega) (by omega) (by omega) (by omega)).mono ?_
      rintro e w' ⟨rfl, hP⟩
      go_wp2_with fail
      go_end0
      exact ⟨rfl, hide (FIN.out _ (by
        have k2 := (K2.out.weak (Z' := fun _ => True) (W' := fun q j => if p + 1 ≤ q ∧ q < l then 0 else if q = p ∧ f ≤ j ∧ j < 1024 then 0 else wordAt MP MF A q j) (Nat.le_refl _) (fun _ _ => ⟨trivial, trivial⟩) (fun q j hj => by
          have := K1.out.at_ q j hj
          rw [this, show ((p : Int) + 1).toNat = p + 1 by omega, Int.toNat_natCast]))
        exact WPost.step (W' := zeroW a.toNat (a.toNat + c.toNat) (wordAt MP MF A)) (V := fun X q j => if q = l ∧ 0 ≤ j ∧ j < u then 0 else X q j) k2 hP.out (fun X q j hj hX => by
          simp only [hX]
          unfold zeroW
          simp only [in3 E1.out E2.out hf hu hj hlt]
          by_cases c1 : q = l ∧ j < u
          · rw [if_pos ⟨c1.1, by omega, c1.2⟩, if_pos (Or.inr (Or.inr c1))]
          · rw [if_neg (fun z => c1 ⟨z.1, z.2.2⟩)]
            by_cases c2 : p + 1 ≤ q ∧ q < l
            · rw [if_pos c2, if_pos (Or.inr (Or.inl c2))]
            · rw [if_neg c2]
              by_cases c3 : q = p ∧ f ≤ j
              · rw [if_pos ⟨c3.1, c3.2, hj⟩, if_pos (Or.inl c3)]
              · rw [if_neg (fun z => c3 ⟨z.1, z.2.1⟩), if_neg (fun z => z.elim c3 (fun z => z.elim c2 c1))])))⟩
end Go.Proofs.Ytpceigglilgelaa
