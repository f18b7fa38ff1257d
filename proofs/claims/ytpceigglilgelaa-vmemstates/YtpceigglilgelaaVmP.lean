/- The landed package's 'free' and 'place'. -/
import Derived.Test.YtpceigglilgelaaVmN
import Derived.Test.YtpceigglilgelaaFr
namespace Go.Proofs.Ytpceigglilgelaa
open Go.ChangeShapes Go.WideShapes Go.ChangeAt Go.RowKit Go.Proofs.Sp

/-- An answer that may lack. -/
def opt2 (x : Option Nat) : Value := .tuple #[.int .u64 ((x.getD 0 : Nat) : Int), .bool x.isSome]
set_option maxRecDepth 100000 in
set_option maxHeartbeats 2000000 in
theorem free_core (b o g cap : Nat) (R : List (Nat × Nat)) (S : Sp) (hint pages : Int) (h0 : 0 ≤ hint) (h0' : hint < 18446744073709551616) (hp : 0 < pages) (hp' : pages ≤ 134217728) (hp5 : pages % 512 = 0) (hn : R.length ≤ 70368744177664) (w : World) (hL : ListAt w b o g cap R) (hs : Seg S.st 0 R 34359738368) (hA : Alt R) (hc : ∀ p, S.st p = 0 ↔ S.st (p / 512 * 512) = 0) :
    Calls Try.prog 57 #[.pointer (some ⟨b, o, none⟩), .int .u64 hint, .int .u64 pages] w fun e w' => e = .returned (opt2 (firstFrom S hint.toNat pages.toNat)) ∧ Below w.heap.size w w' := by
  by_cases hh : 34359738368 - pages < hint
  · have e0 := free_high (S := S) (hint := hint.toNat) (pages := pages.toNat) (by omega) (by omega)
    rw [e0]
    clear hL hs hA hc e0
    go_enter Try.func57, Try.ntmps57
    go_wp2_with fail
    go_ret2
    exact ⟨rfl, Below.refl _ _⟩
  · have hl := hL.list
    have hlt := cell_lt hl
    obtain ⟨u, hu⟩ : ∃ u : Nat, u = fromR hint.toNat := ⟨_, rfl⟩
    have hu1 : u + pages.toNat ≤ 34359738368 := by rw [hu]; unfold fromR; omega
    obtain ⟨i0, hi0, a1, a2⟩ := hs.at u (by omega) (by omega)
    have found := fun i (x : i0 ≤ i) (y : i < R.length) z t => free_found hs hA hc hi0 (by rw [← hu]; exact a1) (by rw [← hu]; exact a2) (pages := pages.toNat) (by omega) x y z t
    have none := free_none hs hA hi0 (by rw [← hu]; exact a1) (pages := pages.toNat) (by omega)
    rw [← hu] at found none
    have FOUND := hide found
    have NONE := hide none
    have A12 := hide (And.intro a1 a2)
    have HL := hide hL
    have HS := hide hs
    have hcu : (hint + 511) / 512 * 512 ≤ 34359738368 := by omega
    have hm : (u : Int) = if (hint + 511) / 512 * 512 < 512 then 512 else (hint + 511) / 512 * 512 := by
      rw [hu]; unfold fromR; split <;> omega
    have HMx := hide hm
    clear found none a1 a2 hL hs hA hc hu hm
    go_enter Try.func57, Try.ntmps57
    go_wp2_with fail
    refine (chunkUp_core hint h0 (by omega) w).mono ?_
    rintro e w1 ⟨rfl, rfl⟩
    generalize hcx : (hint + 511) / 512 * 512 = cx at *
    clear hcx
    have hmx : (if cx < 512 then (512 : Int) else cx) = (u : Int) := HMx.out.symm
    clear HMx
    go_wp2_with fail
    refine (at_core b o g cap R S.st (u : Int) (by omega) (by omega) hn _ HL.out HS.out i0 hi0 (by have := A12.out.1; simpa using this) (by have := A12.out.2; simpa using this)).mono ?_
    rintro e w2 ⟨rfl, b2⟩
    clear hmx
    have L2 := hide (HL.out.below b2)
    go_wp2_with fail
    go_loopw [8] (fun iv wr => ∃ i : Nat, iv = .int .i64 (i : Int) ∧ i0 ≤ i ∧ i ≤ R.length ∧ wr = w2 ∧ Hid (∀ k, i0 ≤ k → k < i → ¬ fitsR R u pages.toNat k)) (fun iv _ => R.length - (intOf iv).toNat)
    case atStart => exact ⟨i0, rfl, Nat.le_refl _, by omega, rfl, fun k x y => by omega⟩
    case round =>
      obtain ⟨i, rfl, hi1, hi2, rfl, hno⟩ := hrel
      have ll := L2.out.list
      by_cases hi : i < R.length
      · have f1 := L2.out.first i hi
        have f2 := L2.out.state i hi
        have r := HS.out.row i hi
        have ec := end_core b o g cap R (i : Int) (by omega) (by omega) hn wr L2.out
        rw [show ((i : Int).toNat + 1) = i + 1 by omega] at ec
        have ft : fitsR R u pages.toNat i ↔ R[i].2 = 0 ∧ max u R[i].1 + pages.toNat ≤ startR R 34359738368 (i + 1) := by
          unfold fitsR; rw [List.getElem?_eq_getElem hi, startR_lt hi]; simp
        have fd := FOUND.out i hi1 hi
        rw [startR_lt hi] at fd
        obtain ⟨x, hx⟩ : ∃ x, x = R[i].1 := ⟨_, rfl⟩
        obtain ⟨s, hsx⟩ : ∃ s, s = R[i].2 := ⟨_, rfl⟩
        obtain ⟨y, hy⟩ : ∃ y, y = startR R 34359738368 (i + 1) := ⟨_, rfl⟩
        rw [← hx] at f1 ft fd
        rw [← hsx] at f2 ft
        rw [← hy] at ft ec
        have hxy : x < y := by rw [hx, hy]; exact r.2.1
        have hyl : y ≤ 34359738368 := by rw [hy]; exact r.2.2.1
        have huy : u < y := by
          by_cases c : i = i0
          · rw [hy, c]; exact A12.out.2
          · have := HS.out.rise (i := i0) (j := i) (by omega) hi0
            have h5 := A12.out.2
            have h6 : startR R 34359738368 (i0 + 1) ≤ R[i].1 := by
              by_cases d : i = i0 + 1
              · subst d; rw [startR_lt hi]; exact Nat.le_refl _
              · have hq : i0 + 1 < R.length := by omega
                have := HS.out.rise (i := i0 + 1) (j := i) (by omega) hq
                rw [startR_lt hi] at this
                rw [startR_lt hq]; omega
            omega
        obtain ⟨m, hmx⟩ : ∃ m, m = max u x := ⟨_, rfl⟩
        have hmi : ((u : Int) < (x : Int) ∧ m = x) ∨ (¬ (u : Int) < (x : Int) ∧ m = u) := by omega
        have hmy : m < y := by omega
        rw [← hmx] at ft fd
        have FTX := hide ft
        have FDX := hide fd
        have EC := hide ec
        clear ft fd ec hx hsx hy hmx r
        rcases hmi with ⟨hux, rfl⟩ | ⟨hux, rfl⟩
        all_goals
          by_cases hz : s = 0
          · have hz' : ((s : Int) == 0) = true := by rw [hz]; rfl
            by_cases hq : pages ≤ (y : Int) - (m : Int)
            · go_wp2_with (go_at_call 59; refine EC.out.mono ?_; rintro e w' ⟨rfl, rfl⟩)
              go_ret2
              have := FDX.out (FTX.out.2 ⟨hz, by omega⟩) hno.out
              exact ⟨by rw [this]; rfl, b2⟩
            · go_wp2_with (go_at_call 59; refine EC.out.mono ?_; rintro e w' ⟨rfl, rfl⟩)
              go_roundw
              case rel => exact ⟨i + 1, by go_num, by omega, by omega, trivial, hide fun k x y => by
                  by_cases c : k = i
                  · subst c; rw [FTX.out]; omega
                  · exact hno.out k x (by omega)⟩
              case measure => simp [intOf]; omega
          · have hz' : ((s : Int) == 0) = false := beq_eq_false_iff_ne.2 (by omega)
            go_wp2_with fail
            go_roundw
            case rel => exact ⟨i + 1, by go_num, by omega, by omega, trivial, hide fun k x y => by
                by_cases c : k = i
                · subst c; rw [FTX.out]; omega
                · exact hno.out k x (by omega)⟩
            case measure => simp [intOf]; omega
      · have fn := NONE.out fun k x y => hno.out k x (by omega)
        have FN := hide fn
        clear fn
        go_wp2_with fail
        go_ret2
        exact ⟨by rw [FN.out]; rfl, b2⟩
end Go.Proofs.Ytpceigglilgelaa
