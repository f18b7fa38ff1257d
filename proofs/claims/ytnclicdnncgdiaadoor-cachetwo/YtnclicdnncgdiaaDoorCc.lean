/- The landed chunk: Scavenge: its contract. -/
import Derived.Test.YtnclicdnncgdiaaDoorCb
namespace Go.Proofs.YtnclicdnncgdiaaDoor
open Go.ChangeShapes Go.WideShapes Go.ChangeAt Go.RowKit Go.Proofs.Bt Go.Shelf
set_option linter.unusedVariables false
set_option linter.unusedSimpArgs false

theorem last_bounds {f : Nat → Bool} {n to i k : Int} (h : LastP f n to i k) : 0 ≤ i ∧ 0 ≤ k ∧ i + k ≤ 512 := by
  rcases h with ⟨rfl, rfl, h1⟩ | ⟨h1, a, m, rfl, rfl, h2, h3, h4, h5, h6, h7⟩
  · omega
  · omega
/-- The pages that are used or released. -/
def busy (u g : Nat → Bool) (j : Nat) : Bool := u j || g j
/-- What Scavenge answers and leaves. -/
def ScavR (w : World) (b : Nat) (u g : Nat → Bool) (most : Int) (e : Ending) (w' : World) : Prop :=
  ∃ i k, e = .returned (.tuple #[.int .i64 i, .int .i64 k]) ∧ LastP (busy u g) most 512 i k ∧ ChF w' b u (setF g i.toNat k.toNat) ∧ Kept (fun x => x = b) w w'
set_option maxRecDepth 100000 in
theorem scav_any (b : Nat) (u g : Nat → Bool) (w : World) (h : ChF w b u g) (ht : TabW w) (hb0 : b ≠ 0) (most : Int) (hm : most ≤ 9223372036854775807) :
    Calls Tryd.prog 26 #[.pointer (some ⟨b, 0, none⟩), .int .i64 most] w (ScavR w b u g most) := by
  have cI := idle_any b u g w h
  have HC := hide h
  have HT := hide ht
  clear h ht
  go_enter Tryd.func26, Tryd.ntmps26
  go_wp2_with fail
  go_at_call 43
  refine cI.mono ?_
  rintro e w1 ⟨gi, rfl, fi, bi, k1⟩
  have FI := hide fi
  have BI := hide bi
  have K1 := hide k1
  have HC1 := hide (HC.out.below k1)
  have HT1 := hide (HT.out.below k1)
  clear fi bi k1
  unfold words cells8
  go_wp2_with fail
  go_at_call 44
  obtain ⟨w2, hw2⟩ : ∃ w2, w2 = w1.alloc (.cells (cells8 gi) 70) := ⟨_, rfl⟩
  have k2 : Below w1.heap.size w1 w2 := by rw [hw2]; exact (Below.refl _ w1).alloc (Nat.le_refl _) _
  have z2 : w2.heap[w1.heap.size]? = some (.cells (cells8 gi) 70 (0, 0)) := by rw [hw2, alloc_at, if_pos rfl]
  have r2 : RowF w2 w1.heap.size 0 (busy u g) := ⟨gi, new8 z2 FI.out, BI.out⟩
  have HC2 := hide (HC1.out.below k2)
  have HT2 := hide (HT1.out.below k2)
  have K2 := hide (K1.out.trans (k2.mono K1.out.size))
  have L := last_any w1.heap.size 0 (busy u g) most 512 hm w2 r2 HT2.out
  unfold cells8 at hw2
  rw [← hw2]
  clear k2 z2 r2 hw2
  refine L.mono ?_
  rintro e w3 ⟨i, k, rfl, p3, k3⟩
  have P3 := hide p3
  have HC3 := hide (HC2.out.below k3)
  have K3 := hide (K2.out.trans (k3.mono K2.out.size))
  obtain ⟨i0, i1, i2⟩ := last_bounds p3
  have R := hide (And.intro i0 (And.intro i1 i2))
  clear p3 k3 L i0 i1 i2
  go_wp2_with fail
  go_at_call 45
  refine (set_int b 8 g w3 HC3.out.gone i k R.out.1 R.out.2.1 R.out.2.2).mono ?_
  rintro e w4 ⟨rfl, r4, k4⟩
  have HC4 := hide (HC3.out.setG k4 r4)
  have K4 := hide ((Kept.of_below (F := fun x => x = b) K3.out).trans k4.kept (fun _ _ f => f))
  clear r4 k4
  go_wp2_with fail
  go_ret2
  exact ⟨i, k, rfl, P3.out, HC4.out, K4.out⟩
end Go.Proofs.YtnclicdnncgdiaaDoor
