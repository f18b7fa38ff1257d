/- The reference's Find and Last: contracts. -/
import Derived.Test.YtgjgcdbhppaigaaDoorRb
namespace Go.Proofs.YtgjgcdbhppaigaaDoor
open Go.ChangeShapes Go.WideShapes Go.ChangeAt Go.RowKit Go.Proofs.Bt Go.Shelf
set_option linter.unusedVariables false
set_option linter.unusedSimpArgs false

/-- What the search knows at i: r clear bits stand right ahead of it, and no row of n has ended yet. -/
structure FR (f : Nat → Bool) (n fr i r : Nat) : Prop where
  le : fr + r ≤ i
  cl : Clr f (i - r) r
  st : i - r = fr ∨ f (i - r - 1) = true
  no : ∀ c, fr ≤ c → c + n ≤ i → ¬ Clr f c n
theorem FR.set {f : Nat → Bool} {n fr i r : Nat} (h : FR f n fr i r) (hn : 1 ≤ n) (hf : f i = true) (hi : fr ≤ i) : FR f n fr (i + 1) 0 :=
  ⟨by omega, (fun k hk => by omega), .inr (by simpa using hf), fun c c1 c2 hc => by
    by_cases l : c + n ≤ i
    · exact h.no c c1 l hc
    · have := hc (i - c) (by omega)
      rw [show c + (i - c) = i by omega, hf] at this
      cases this⟩
theorem FR.clr {f : Nat → Bool} {n fr i r : Nat} (h : FR f n fr i r) (hf : f i = false) : Clr f (i + 1 - (r + 1)) (r + 1) := fun k hk => by
  have := h.le
  by_cases l : k < r
  · have := h.cl k l
    rw [show i + 1 - (r + 1) + k = i - r + k by omega]; exact this
  · rw [show i + 1 - (r + 1) + k = i by omega]; exact hf
theorem FR.step {f : Nat → Bool} {n fr i r : Nat} (h : FR f n fr i r) (hf : f i = false) (hr : r + 1 < n) : FR f n fr (i + 1) (r + 1) := by
  have hl := h.le
  refine ⟨by omega, h.clr hf, by rw [show i + 1 - (r + 1) = i - r by omega]; exact h.st, fun c c1 c2 hc => ?_⟩
  by_cases l : c + n ≤ i
  · exact h.no c c1 l hc
  · rcases h.st with hs | hs
    · omega
    · have := hc (i - r - 1 - c) (by omega)
      rw [show c + (i - r - 1 - c) = i - r - 1 by omega, hs] at this
      cases this
def FindR0 (w : World) (f : Nat → Bool) (n from_ : Int) (e : Ending) (w' : World) : Prop := ∃ i ok, e = .returned (.tuple #[.int .i64 i, .bool ok]) ∧ FindP f n from_ i ok ∧ w' = w

set_option maxRecDepth 100000 in
set_option maxHeartbeats 1000000 in
theorem findRef_in (b ro : Nat) (f : Nat → Bool) (w : World) (h : BoolAt w b ro f) (n from_ : Int) (h1 : 1 ≤ n) (h2 : n ≤ 512) (fr : Int) (hfr : (from_ < 0 ∧ fr = 0) ∨ (0 ≤ from_ ∧ fr = from_)) :
    Calls Tryd.prog 28 #[.pointer (some ⟨b, ro, none⟩), .int .i64 n, .int .i64 from_] w (FindR0 w f n from_) := by
  have hF : from_.toNat = fr.toNat := by omega
  have hfr0 : 0 ≤ fr := by omega
  have HF := hide hF
  have HH := hide h
  obtain ⟨R, hR⟩ : ∃ R, R = FindR0 w f n from_ := ⟨_, rfl⟩
  rw [← hR]
  have HR := hide hR
  clear h hF hR
  have e2 : decide (512 < n) = false := decide_eq_false (by omega)
  have e1 : decide (n < 1) = false := decide_eq_false (by omega)
  rcases hfr with ⟨m1, rfl⟩ | ⟨m1, hfe⟩
  · skip
    go_enter Tryd.func28, Tryd.ntmps28
    go_wp2_with fail
    go_loop [8, 9] (fun rv iv => ∃ r k : Int, rv = .int .i64 r ∧ iv = .int .i64 k ∧ 0 ≤ r ∧ r ≤ 511 ∧ 0 ≤ k ∧ 0 ≤ k ∧ r < n ∧ Hid ((k ≤ 512 ∧ FR f n.toNat (0 : Int).toNat k.toNat r.toNat) ∨ (512 < k ∧ k = 0))) (fun _ iv => (512 - intOf iv).toNat)
    case atStart =>
      refine ⟨0, 0, rfl, rfl, by omega, by omega, by omega, by omega, by omega, hide ?_⟩
      by_cases l : (0 : Int) ≤ 512
      · exact .inl ⟨l, by simp, (fun k hk => by simp at hk), .inl (by simp), fun c c1 c2 hc => by omega⟩
      · exact .inr ⟨by omega, rfl⟩
    case round =>
      obtain ⟨r, k, rfl, rfl, r0, r1, k1, k2, rn, HI⟩ := hrel
      by_cases hlt : k < 512
      · have c1 := HH.out.cell k.toNat (by omega)
        have hI : FR f n.toNat (0 : Int).toNat k.toNat r.toNat := by
          rcases HI.out with h | h
          · exact h.2
          · omega
        cases hx : f k.toNat with
        | true =>
          have hs := hI.set (by omega) hx (by omega)
          have HS := hide hs
          rw [hx] at c1
          clear hI hs hx HI
          go_wp2_with fail
          refine ⟨⟨0, k + 1, rfl, rfl, by omega, by omega, by omega, by omega, by omega, hide (.inl ⟨by omega, ?_⟩)⟩, ?_⟩
          · have := HS.out; rw [show (k + 1).toNat = k.toNat + 1 by omega]; exact this
          · simp [intOf]; omega
        | false =>
          rw [hx] at c1
          by_cases hr : r + 1 = n
          · have hc := hI.clr hx
            have hno := hI.no
            have hle := hI.le
            have hfin : FindP f n from_ (k - n + 1) true := by
              refine .inl ⟨rfl, h1, (k - n + 1).toNat, by omega, by have := HF.out; omega, by omega, ?_, fun c c1 c2 hc' => ?_⟩
              · rw [show (k - n + 1).toNat = k.toNat + 1 - (r.toNat + 1) by omega, show n.toNat = r.toNat + 1 by omega]; exact hc
              · exact hno c (by have := HF.out; omega) (by omega) hc'
            have HFIN := hide hfin
            have hq : (r + 1 == n) = true := by simpa using hr
            clear hI hx HI hc hno hle hfin hr
            go_wp2_with fail
            rw [HR.out]
            exact ⟨_, true, rfl, HFIN.out, rfl⟩
          · have hs := hI.step hx (by omega)
            have HS := hide hs
            have hq : (r + 1 == n) = false := by simpa using hr
            have hr2 : r + 1 < n := by omega
            clear hI hs hx HI hr
            go_wp2_with fail
            refine ⟨⟨r + 1, k + 1, rfl, rfl, by omega, by omega, by omega, by omega, by omega, hide (.inl ⟨by omega, ?_⟩)⟩, ?_⟩
            · have := HS.out; rw [show (k + 1).toNat = k.toNat + 1 by omega, show (r + 1).toNat = r.toNat + 1 by omega]; exact this
            · simp [intOf]; omega
      · have hge : 512 ≤ k := by omega
        clear hlt
        have hfin : FindP f n from_ 0 false := by
          refine .inr ⟨rfl, rfl, .inr fun c c1 c2 hc => ?_⟩
          have hF := HF.out
          rcases HI.out with ⟨h, hI⟩ | h
          · exact hI.no c (by omega) (by omega) hc
          · omega
        have HFIN := hide hfin
        clear hfin HI
        go_wp2_with fail
        rw [HR.out]
        exact ⟨0, false, rfl, HFIN.out, rfl⟩
  · rw [hfe] at HF
    clear hfe hfr0
    go_enter Tryd.func28, Tryd.ntmps28
    go_wp2_with fail
    go_loop [8, 9] (fun rv iv => ∃ r k : Int, rv = .int .i64 r ∧ iv = .int .i64 k ∧ 0 ≤ r ∧ r ≤ 511 ∧ from_ ≤ k ∧ 0 ≤ k ∧ r < n ∧ Hid ((k ≤ 512 ∧ FR f n.toNat (from_ : Int).toNat k.toNat r.toNat) ∨ (512 < k ∧ k = from_))) (fun _ iv => (512 - intOf iv).toNat)
    case atStart =>
      refine ⟨0, from_, rfl, rfl, by omega, by omega, by omega, by omega, by omega, hide ?_⟩
      by_cases l : (from_ : Int) ≤ 512
      · exact .inl ⟨l, by simp, (fun k hk => by simp at hk), .inl (by simp), fun c c1 c2 hc => by omega⟩
      · exact .inr ⟨by omega, rfl⟩
    case round =>
      obtain ⟨r, k, rfl, rfl, r0, r1, k1, k2, rn, HI⟩ := hrel
      by_cases hlt : k < 512
      · have c1 := HH.out.cell k.toNat (by omega)
        have hI : FR f n.toNat (from_ : Int).toNat k.toNat r.toNat := by
          rcases HI.out with h | h
          · exact h.2
          · omega
        cases hx : f k.toNat with
        | true =>
          have hs := hI.set (by omega) hx (by omega)
          have HS := hide hs
          rw [hx] at c1
          clear hI hs hx HI
          go_wp2_with fail
          refine ⟨⟨0, k + 1, rfl, rfl, by omega, by omega, by omega, by omega, by omega, hide (.inl ⟨by omega, ?_⟩)⟩, ?_⟩
          · have := HS.out; rw [show (k + 1).toNat = k.toNat + 1 by omega]; exact this
          · simp [intOf]; omega
        | false =>
          rw [hx] at c1
          by_cases hr : r + 1 = n
          · have hc := hI.clr hx
            have hno := hI.no
            have hle := hI.le
            have hfin : FindP f n from_ (k - n + 1) true := by
              refine .inl ⟨rfl, h1, (k - n + 1).toNat, by omega, by have := HF.out; omega, by omega, ?_, fun c c1 c2 hc' => ?_⟩
              · rw [show (k - n + 1).toNat = k.toNat + 1 - (r.toNat + 1) by omega, show n.toNat = r.toNat + 1 by omega]; exact hc
              · exact hno c (by have := HF.out; omega) (by omega) hc'
            have HFIN := hide hfin
            have hq : (r + 1 == n) = true := by simpa using hr
            clear hI hx HI hc hno hle hfin hr
            go_wp2_with fail
            rw [HR.out]
            exact ⟨_, true, rfl, HFIN.out, rfl⟩
          · have hs := hI.step hx (by omega)
            have HS := hide hs
            have hq : (r + 1 == n) = false := by simpa using hr
            have hr2 : r + 1 < n := by omega
            clear hI hs hx HI hr
            go_wp2_with fail
            refine ⟨⟨r + 1, k + 1, rfl, rfl, by omega, by omega, by omega, by omega, by omega, hide (.inl ⟨by omega, ?_⟩)⟩, ?_⟩
            · have := HS.out; rw [show (k + 1).toNat = k.toNat + 1 by omega, show (r + 1).toNat = r.toNat + 1 by omega]; exact this
            · simp [intOf]; omega
      · have hge : 512 ≤ k := by omega
        clear hlt
        have hfin : FindP f n from_ 0 false := by
          refine .inr ⟨rfl, rfl, .inr fun c c1 c2 hc => ?_⟩
          have hF := HF.out
          rcases HI.out with ⟨h, hI⟩ | h
          · exact hI.no c (by omega) (by omega) hc
          · omega
        have HFIN := hide hfin
        clear hfin HI
        go_wp2_with fail
        rw [HR.out]
        exact ⟨0, false, rfl, HFIN.out, rfl⟩
theorem findRef_out (b ro : Nat) (f : Nat → Bool) (w : World) (n from_ : Int) (h : n < 1 ∨ 512 < n) :
    Calls Tryd.prog 28 #[.pointer (some ⟨b, ro, none⟩), .int .i64 n, .int .i64 from_] w (FindR0 w f n from_) := by
  have hp : FindP f n from_ 0 false := by
    refine .inr ⟨rfl, rfl, ?_⟩
    rcases h with h | h
    · exact .inl h
    · exact .inr fun c c1 c2 => by omega
  have q : decide (n < 1) = true ∨ (decide (n < 1) = false ∧ decide (512 < n) = true) := by
    by_cases a : n < 1
    · exact .inl (decide_eq_true a)
    · exact .inr ⟨decide_eq_false a, decide_eq_true (by omega)⟩
  have HP := hide hp
  clear h hp
  obtain ⟨R, hR⟩ : ∃ R, R = FindR0 w f n from_ := ⟨_, rfl⟩
  rw [← hR]
  have HR := hide hR
  clear hR
  rcases q with e1 | ⟨e1, e2⟩
  all_goals
    go_enter Tryd.func28, Tryd.ntmps28
    go_wp2_with fail
    rw [HR.out]
    exact ⟨0, false, rfl, HP.out, rfl⟩
theorem findRef_any (b ro : Nat) (f : Nat → Bool) (w : World) (h : BoolAt w b ro f) (n from_ : Int) :
    Calls Tryd.prog 28 #[.pointer (some ⟨b, ro, none⟩), .int .i64 n, .int .i64 from_] w (FindR0 w f n from_) := by
  by_cases hn : n < 1 ∨ 512 < n
  · exact findRef_out b ro f w n from_ hn
  · by_cases hf : from_ < 0
    · exact findRef_in b ro f w h n from_ (by omega) (by omega) 0 (.inl ⟨hf, rfl⟩)
    · exact findRef_in b ro f w h n from_ (by omega) (by omega) from_ (.inr ⟨by omega, rfl⟩)
end Go.Proofs.YtgjgcdbhppaigaaDoor
