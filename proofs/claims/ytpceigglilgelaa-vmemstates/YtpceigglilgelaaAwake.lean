/- Chapter 3's 'awake': it is true, of whatever package keeps its calls' answers. -/
import Derived.Test.YtpceigglilgelaaHelp
import Derived.Test.YtpceigglilgelaaSpB
namespace Go.Proofs.Ytpceigglilgelaa
open Go.ChangeShapes Go.WideShapes Go.ChangeAt Go.RowKit Go.Proofs.Sp

theorem awake_core {I : Inv} (Fc : Face vm I) (w : World) : Calls Try.prog 15 #[] w fun e w' => e = .returned (.bool true) ∧ Below w.heap.size w w' := by
  obtain ⟨S1, e1, b1⟩ := reserve_new [] [] rfl
  obtain ⟨S2, e2, b2, _⟩ := base_commit (n := 1) b1 (by decide) (by decide) rfl
  have e3 : storeS S2 4194304 5 = (0, putS S2 4194304 5) := store_ok (by decide) (base_st b2 (by decide) (by decide))
  have b3 := base_stored b2 4194304 5
  have e4 : loadS (putS S2 4194304 5) 4194304 = (5, 0) := load_ok (by decide) (base_st b3 (by decide) (by decide))
  obtain ⟨S4, e5, b5⟩ := base_release (n := 1) b3 (by decide) (by decide)
  have e6 := base_st b5 (p := 512) (by decide) (by decide)
  have e7 := (base_count b5 (by decide) (by decide)).2
  generalize putS S2 4194304 5 = S3 at *
  clear b1 b2 b3 b5
  go_enter Try.func15, Try.ntmps15
  go_wp2_with fail
  go_at_call 9
  refine (Fc.jnew (w0 := w) _ _ _ _ [] [] [] (Sl.nil _) (Sl.nil _) (Sl.nil _) (by simp) (by simp) (by decide) (by decide) (by decide) (Below.refl _ _)).mono ?_
  rintro e w1 ⟨m, rfl, j1⟩
  go_wp2_with fail
  go_at_call 10
  refine (Fc.jreserve (a := 0) (b := 512) (by exact e1) j1 (by unfold two64; omega) (by unfold two64; omega) (by decide)).mono ?_
  rintro e w2 ⟨rfl, j2⟩
  go_wp2_with fail
  go_at_call 11
  refine (Fc.jcommit (a := 512) (b := 1) (by exact e2) j2 (by unfold two64; omega) (by unfold two64; omega) (by decide)).mono ?_
  rintro e w3 ⟨rfl, j3⟩
  go_wp2_with fail
  go_at_call 21
  refine (Fc.jstore (a := 4194304) (b := 5) (by exact e3) j3 (by unfold two64; omega) (by unfold two64; omega) (by decide)).mono ?_
  rintro e w4 ⟨rfl, j4⟩
  go_wp2_with fail
  go_at_call 12
  refine (Fc.jload (a := 4194304) (by exact e4) j4 (by unfold two64; omega) (by decide)).mono ?_
  rintro e w5 ⟨rfl, j5⟩
  go_wp2_with fail
  go_at_call 13
  refine (Fc.jrelease (a := 512) (b := 1) (by exact e5) j5 (by unfold two64; omega) (by unfold two64; omega) (by decide)).mono ?_
  rintro e w6 ⟨rfl, j6⟩
  go_wp2_with fail
  go_at_call 23
  refine (Fc.jstate (a := 512) (by exact e6) j6 (by unfold two64; omega) (by decide)).mono ?_
  rintro e w7 ⟨rfl, j7⟩
  go_wp2_with fail
  go_at_call 14
  refine (Fc.jcount (k := 1) (by exact e7) j7 (by omega) (by omega) (by decide)).mono ?_
  rintro e w8 ⟨rfl, j8⟩
  go_wp2_with fail
  go_ret
  exact ⟨rfl, j8.below⟩
end Go.Proofs.Ytpceigglilgelaa
