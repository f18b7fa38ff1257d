/- class.Make, Table, Of, Round. -/
import Derived.Test.YtblfefibgoiaaaaDoorMk
namespace Go.Proofs.YtblfefibgoiaaaaDoor
open Go.ChangeShapes Go.WideShapes Go.ChangeAt Go.RowKit Go.Proofs.Cl Go.Shelf
set_option linter.unusedVariables false
set_option linter.unusedSimpArgs false

def okB (page most : Int) : Bool := powerB page 1024 65536 && powerB most 64 (4 * page)
theorem okB_page {page most : Int} (h : okB page most = true) : 1024 ≤ page ∧ page ≤ 65536 ∧ 64 ≤ most ∧ most ≤ 4 * page ∧ Cl.pow page.toNat = true ∧ Cl.pow most.toNat = true := by
  simp [okB, powerB] at h
  obtain ⟨⟨⟨a, b⟩, c⟩, ⟨d, e⟩, f⟩ := h
  exact ⟨a, b, d, e, c, f⟩
theorem make_err (page most : Int) (hp : page ≤ 9223372036854775807) (hm : most ≤ 9223372036854775807) (h : okB page most = false) (w : World) :
    Calls Tryd.prog 50 #[.int .i64 page, .int .i64 most] w fun e w' => e = .returned (.tuple #[.slice none 0 0, .int .i64 1]) ∧ w' = w := by
  cases h1 : powerB page 1024 65536 with
  | false =>
    have c1 := fun w => power_core page 1024 65536 (by omega) hp w
    rw [h1] at c1
    clear h h1
    go_enter Tryd.func50, Tryd.ntmps50
    go_wp2_with fail
    refine (c1 _).mono ?_
    rintro e w' ⟨rfl, rfl⟩
    clear c1
    go_wp2_with fail
    go_ret2
    exact ⟨rfl, rfl⟩
  | true =>
    have c1 := fun w => power_core page 1024 65536 (by omega) hp w
    have c2 := fun w => power_core most 64 (4 * page) (by omega) hm w
    have h2 : powerB most 64 (4 * page) = false := by rw [okB, h1] at h; simpa using h
    have b : 1024 ≤ page ∧ page ≤ 65536 := by simp [powerB] at h1; omega
    obtain ⟨b1, b2⟩ := b
    rw [h1] at c1
    rw [h2] at c2
    have C1 := hide c1
    have C2 := hide c2
    clear h h1 h2 c1 c2
    go_enter Tryd.func50, Tryd.ntmps50
    go_wp2_with fail
    refine (C1.out _).mono ?_
    rintro e w' ⟨rfl, rfl⟩
    clear C1
    go_wp2_with fail
    refine (C2.out _).mono ?_
    rintro e w' ⟨rfl, rfl⟩
    clear C2
    go_wp2_with fail
    go_ret2
    exact ⟨rfl, rfl⟩
theorem make_ok (page most : Nat) (h : okB page most = true) (w : World) :
    Calls Tryd.prog 50 #[.int .i64 page, .int .i64 most] w fun e w' => ∃ v, e = .returned (.tuple #[v, .int .i64 0]) ∧ w'.ownsRow w.heap.size 54 4 v (make page most).length (flatC (make page most)) ∧ Below w.heap.size w w' := by
  obtain ⟨b1, b2, b3, b4, _, _⟩ := okB_page h
  have h1 : powerB page 1024 65536 = true := by simp [okB] at h; exact h.1
  have h2 : powerB most 64 (4 * page) = true := by simp [okB] at h; exact h.2
  have c1 := fun w => power_core page 1024 65536 (by omega) (by omega) w
  have c2 := fun w => power_core most 64 (4 * page) (by omega) (by omega) w
  rw [h1] at c1
  rw [h2] at c2
  have C1 := hide c1
  have C2 := hide c2
  clear h h1 h2 c1 c2
  go_enter Tryd.func50, Tryd.ntmps50
  go_wp2_with fail
  refine (C1.out _).mono ?_
  rintro e w' ⟨rfl, hw'⟩; rw [hw']; clear hw' w' C1
  go_wp2_with fail
  refine (C2.out _).mono ?_
  rintro e w' ⟨rfl, hw'⟩; rw [hw']; clear hw' w' C2
  go_wp2_with fail
  refine (classes_any _ _ _).mono ?_
  rintro e w3 ⟨rfl, h3⟩
  have o1 : (w.alloc (.cells #[.int .i64 0, .int .i64 0, .int .i64 0, .int .u32 0] 54)).ownsRow w.heap.size 54 4 (.slice (some ⟨w.heap.size, 0, none⟩) 1 1) 1 (flatC [zeroC]) :=
    ⟨rfl, .inr ⟨_, 1, _, rfl, Nat.le_refl _, World.alloc_heap_new w _, by omega, by unfold maxLen; omega, rfl, rfl⟩⟩
  have b0 : Below w.heap.size w w3 := by
    rw [h3]; exact ((below_alloc w _).alloc (by simp) _).alloc (by simp; omega) _
  have s3 : w3.heap.size = w.heap.size + 3 := by rw [h3]; simp
  have o3 : w3.ownsRow w.heap.size 54 4 (.slice (some ⟨w.heap.size, 0, none⟩) 1 1) 1 (flatC [zeroC]) := by
    rw [h3]; exact (o1.alloc _).alloc _
  have q1 : Boxed w3 (w.heap.size + 1) 3 (.int .i64 (page : Int)) := by
    have := (Boxed.new (w.alloc (.cells #[.int .i64 0, .int .i64 0, .int .i64 0, .int .u32 0] 54)) 3 (.int .i64 (page : Int))).alloc (.cells #[.int .i64 (most : Int)] 3)
    rw [h3]; simp only [World.size_alloc] at this; exact this
  have q2 : Boxed w3 (w.heap.size + 2) 3 (.int .i64 (most : Int)) := by
    have := Boxed.new ((w.alloc (.cells #[.int .i64 0, .int .i64 0, .int .i64 0, .int .u32 0] 54)).alloc (.cells #[.int .i64 (page : Int)] 3)) 3 (.int .i64 (most : Int))
    rw [h3]; simp only [World.size_alloc] at this; exact this
  have A := hide (appendSeq_any page most (by omega) (by omega) (by omega) (by omega) w.heap.size (w.heap.size + 1) (w.heap.size + 2) w3 (by omega) q1 q2 _ o3)
  have B0 := hide b0
  clear h3 o1 o3 q1 q2 b0
  go_wp2_with fail
  refine A.out.mono ?_
  rintro e w4 ⟨v, rfl, o4, b4⟩
  have B4 := hide (B0.out.trans b4)
  have O4 := hide o4
  obtain ⟨g, cap, rfl⟩ := ownsRow_succ o4
  clear A o4 b4 B0
  go_wp2_with fail
  go_ret2
  exact ⟨_, rfl, O4.out, B4.out⟩
theorem table_any (w : World) : Calls Tryd.prog 21 #[] w fun e w' => ∃ g cap, e = .returned (.slice (some ⟨g, 0, none⟩) 68 cap) ∧ w'.ownsRow w.heap.size 54 4 (.slice (some ⟨g, 0, none⟩) 68 cap) 68 (flatC (zeroC :: table)) ∧ Below w.heap.size w w' := by
  have M := hide (make_ok 8192 32768 (by decide +kernel) w)
  go_enter Tryd.func21, Tryd.ntmps21
  go_wp2_with fail
  refine M.out.mono ?_
  rintro e w1 ⟨v, rfl, o1, b1⟩
  rw [make_eq, List.length_cons, table_len] at o1
  obtain ⟨g, cap, rfl⟩ := ownsRow_succ o1
  have O1 := hide o1
  have B1 := hide b1
  clear M o1 b1
  go_wp2_with fail
  go_ret
  exact ⟨g, cap, rfl, O1.out, B1.out⟩
end Go.Proofs.YtblfefibgoiaaaaDoor
