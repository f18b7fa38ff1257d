/- J10 of the proof of both laws: texts VmS, Fr, VmP, one behind the other. -/
import Derived.Test.YtlfcnaalkjpgnaaJ03
import Derived.Test.YtlfcnaalkjpgnaaJ07
import Derived.Test.YtlfcnaalkjpgnaaJ09
import Derived.Test.YtlfcnaalkjpgnaaJ02
import Derived.Test.YtlfcnaalkjpgnaaJ01
import Derived.Test.YtlfcnaalkjpgnaaJ08
/- What is done under the guard: Load, Store, Zero within. -/
namespace Go.Proofs.Ytlfcnaalkjpgnaa
open Go.ChangeShapes Go.WideShapes Go.ChangeAt Go.RowKit Go.Proofs.Sp
set_option linter.unusedVariables false
set_option linter.unusedSimpArgs false

theorem WordsM.kept {w w' : World} {b bp bf n : Nat} {MP MF : Nat → Nat} {A : Nat → Nat → Nat} (h : WordsM w b bp bf n MP MF A) (h8 : w'.cell? ⟨b, 8, none⟩ = w.cell? ⟨b, 8, none⟩) (h9 : w'.cell? ⟨b, 9, none⟩ = w.cell? ⟨b, 9, none⟩) (hk : ∀ x, WFoot bp bf MP x → w'.heap[x]? = w.heap[x]?) : WordsM w' b bp bf n MP MF A :=
  ⟨h8.trans h.c8, h9.trans h.c9, h.mp.kept (hk bp (Or.inl rfl)), h.mf.kept (hk bf (Or.inr (Or.inl rfl))), fun p hp => (h.arr p hp).kept (hk _ (Or.inr (Or.inr ⟨p, by omega⟩))), h.one, h.sep, h.ne⟩
theorem WordsM.below {w w' : World} {b bp bf n : Nat} {MP MF : Nat → Nat} {A : Nat → Nat → Nat} (h : WordsM w b bp bf n MP MF A) (hk : Below w.heap.size w w') : WordsM w' b bp bf n MP MF A :=
  h.kept (hk.cell (p := ⟨b, 8, none⟩) (cell_lt h.c8)) (hk.cell (p := ⟨b, 9, none⟩) (cell_lt h.c9)) (fun x hx => hk.block x (h.foot hx).1)
theorem drew_below (w : World) : Below w.heap.size w w.drew := ⟨rfl, rfl, rfl, Nat.le_refl _, fun _ _ => rfl⟩

set_option maxRecDepth 100000 in
theorem load1_ok (b x y z g cap bp bf n : Nat) (R : List (Nat × Nat)) (f : Nat → Nat) (MP MF : Nat → Nat) (A : Nat → Nat → Nat) (a : Int) (h0 : 0 ≤ a) (h1 : a < 18446744073709551616) (hn : R.length ≤ 70368744177664) (w : World) (hL : ListAt w b 3 g cap R) (hs : Seg f 0 R 34359738368) (hz : ∀ p, 34359738368 ≤ p → f p = 0)
    (hW : WordsM w b bp bf n MP MF A) (cx : w.cell? ⟨x, 0, none⟩ = some (.pointer (some ⟨b, 0, none⟩))) (cy : w.cell? ⟨y, 0, none⟩ = some (.int .u64 a)) (cz : w.cell? ⟨z, 0, none⟩ = some (.int .u64 0)) (fz : w.frozen? ⟨z, 0, none⟩ = false) (nx : x ≠ z) (ny : y ≠ z)
    (h : a % 8 = 0) (hr : f (a / 8192).toNat = 2) :
    Calls Try.prog 48 #[.pointer (some ⟨x, 0, none⟩), .pointer (some ⟨y, 0, none⟩), .pointer (some ⟨z, 0, none⟩)] w fun e w' => e = .returned (.tuple #[]) ∧ ∃ w2, Below w.heap.size w w2 ∧ w' = w2.setCell ⟨z, 0, none⟩ (.int .u64 (wordAt MP MF A (a.toNat / 8192) (a.toNat % 8192 / 8) : Nat)) := by
  have hxl := cell_lt cx
  have hyl := cell_lt cy
  have hzl := cell_lt cz
  have HL := hide hL
  have HS := hide hs
  have HZ := hide hz
  have HW := hide hW
  have HR := hide hr
  clear hL hs hz hW hr
  go_enter Try.func48, Try.ntmps48
  go_wp2_with fail
  refine (touch_ok b g cap R f a h0 h1 hn w HL.out HS.out HZ.out h HR.out).mono ?_
  rintro e w1 ⟨rfl, B1⟩
  have HB := hide B1
  have W1 := hide (HW.out.below B1)
  obtain ⟨q1, q2⟩ := bcell B1
  have cx1 := (q1 x 0 hxl).trans cx
  have cy1 := (q1 y 0 hyl).trans cy
  have cz1 := (q1 z 0 hzl).trans cz
  have fz1 := (q2 z 0 hzl).trans fz
  clear q1 q2 B1 HL HS HZ HW HR cx cy cz fz
  go_wp2_with fail
  refine still_tail 4 (by kernel_rfl) (by kernel_rfl) ?_
  simp only [List.take_succ_cons, List.take_zero, List.drop_succ_cons, List.drop_zero]
  repeat still_step
  refine wpStill_nil ?_
  go_wp2_with fail
  refine (wload_core b bp bf n MP MF A w1.drew (W1.out.below (drew_below _)) a h0 h1).mono ?_
  rintro e w' ⟨rfl, hw'⟩
  rw [hw']
  clear hw' w'
  go_wp2_with fail
  go_end0
  exact ⟨rfl, w1.drew, HB.out.trans ((drew_below w1).mono HB.out.size), by first | rfl | simp⟩
theorem load1_bad (b x y z : Nat) (a c : Int) (w : World) (cx : w.cell? ⟨x, 0, none⟩ = some (.pointer (some ⟨b, 0, none⟩))) (cy : w.cell? ⟨y, 0, none⟩ = some (.int .u64 a))
    (hT : Calls Try.prog 49 #[.pointer (some ⟨b, 0, none⟩), .int .u64 a] w fun e w' => e = .panicked [{ v := .iface 100 (.agg #[.int .i64 c]), recovered := false }] ∧ Below w.heap.size w w') :
    Calls Try.prog 48 #[.pointer (some ⟨x, 0, none⟩), .pointer (some ⟨y, 0, none⟩), .pointer (some ⟨z, 0, none⟩)] w fun e w' => e = .panicked [{ v := .iface 100 (.agg #[.int .i64 c]), recovered := false }] ∧ Below w.heap.size w w' := by
  have HT := hide hT
  clear hT
  go_enter Try.func48, Try.ntmps48
  go_wp2_with fail
  refine HT.out.mono ?_
  rintro e w1 ⟨rfl, B1⟩
  go_wp2_with fail
  exact ⟨rfl, rfl, B1⟩
theorem store1_bad (b x y z : Nat) (a c : Int) (w : World) (cx : w.cell? ⟨x, 0, none⟩ = some (.pointer (some ⟨b, 0, none⟩))) (cy : w.cell? ⟨y, 0, none⟩ = some (.int .u64 a))
    (hT : Calls Try.prog 49 #[.pointer (some ⟨b, 0, none⟩), .int .u64 a] w fun e w' => e = .panicked [{ v := .iface 100 (.agg #[.int .i64 c]), recovered := false }] ∧ Below w.heap.size w w') :
    Calls Try.prog 52 #[.pointer (some ⟨x, 0, none⟩), .pointer (some ⟨y, 0, none⟩), .pointer (some ⟨z, 0, none⟩)] w fun e w' => e = .panicked [{ v := .iface 100 (.agg #[.int .i64 c]), recovered := false }] ∧ Below w.heap.size w w' := by
  have HT := hide hT
  clear hT
  go_enter Try.func52, Try.ntmps52
  go_wp2_with fail
  refine HT.out.mono ?_
  rintro e w1 ⟨rfl, B1⟩
  go_wp2_with fail
  exact ⟨rfl, rfl, B1⟩
set_option maxRecDepth 100000 in
theorem store1_ok (b x y z bp bf n : Nat) (MP MF : Nat → Nat) (A : Nat → Nat → Nat) (a : Int) (v : Nat) (h0 : 0 ≤ a) (h1 : a < 18446744073709551616) (hv : v < 18446744073709551616) (hn : n ≤ 4398046511104) (w : World)
    (hW : WordsM w b bp bf n MP MF A) (cx : w.cell? ⟨x, 0, none⟩ = some (.pointer (some ⟨b, 0, none⟩))) (cy : w.cell? ⟨y, 0, none⟩ = some (.int .u64 a)) (cz : w.cell? ⟨z, 0, none⟩ = some (.int .u64 (v : Int)))
    (hT : Calls Try.prog 49 #[.pointer (some ⟨b, 0, none⟩), .int .u64 a] w fun e w' => e = .returned (.tuple #[]) ∧ Below w.heap.size w w') :
    Calls Try.prog 52 #[.pointer (some ⟨x, 0, none⟩), .pointer (some ⟨y, 0, none⟩), .pointer (some ⟨z, 0, none⟩)] w fun e w' => e = .returned (.tuple #[]) ∧ ∃ w2, Below w.heap.size w w2 ∧ WPost w2 w' b bp bf (n + 1) MP MF (fun q => q ≠ a.toNat / 8192) (fun q j => if q = a.toNat / 8192 ∧ j = a.toNat % 8192 / 8 then v else wordAt MP MF A q j) := by
  have hxl := cell_lt cx
  have hyl := cell_lt cy
  have hzl := cell_lt cz
  have HW := hide hW
  have HT := hide hT
  clear hT hW
  obtain ⟨PO, hPO⟩ : ∃ PO : World → Prop, PO = fun w' => ∃ w2, Below w.heap.size w w2 ∧ WPost w2 w' b bp bf (n + 1) MP MF (fun q => q ≠ a.toNat / 8192) (fun q j => if q = a.toNat / 8192 ∧ j = a.toNat % 8192 / 8 then v else wordAt MP MF A q j) := ⟨_, rfl⟩
  suffices Calls Try.prog 52 #[.pointer (some ⟨x, 0, none⟩), .pointer (some ⟨y, 0, none⟩), .pointer (some ⟨z, 0, none⟩)] w fun e w' => e = .returned (.tuple #[]) ∧ PO w' by rw [hPO] at this; exact this
  have FIN := hide hPO
  clear hPO
  go_enter Try.func52, Try.ntmps52
  go_wp2_with fail
  refine HT.out.mono ?_
  rintro e w1 ⟨rfl, B1⟩
  have HB := hide B1
  have W1 := hide (HW.out.below B1)
  obtain ⟨q1, q2⟩ := bcell B1
  have cx1 := (q1 x 0 hxl).trans cx
  have cy1 := (q1 y 0 hyl).trans cy
  have cz1 := (q1 z 0 hzl).trans cz
  clear q1 q2 B1 HW HT cx cy cz
  go_wp2_with fail
  refine still_tail 5 (by kernel_rfl) (by kernel_rfl) ?_
  simp only [List.take_succ_cons, List.take_zero, List.drop_succ_cons, List.drop_zero]
  repeat still_step
  refine wpStill_nil ?_
  go_wp2_with fail
  refine (wstore_core b bp bf n MP MF A w1.drew (W1.out.below (drew_below _)) hn a h0 h1 v hv).mono ?_
  rintro e w' ⟨rfl, hP⟩
  go_wp2_with fail
  go_end0
  refine ⟨rfl, ?_⟩
  rw [FIN.out]
  exact ⟨w1.drew, HB.out.trans ((drew_below w1).mono HB.out.size), hP.out⟩
theorem zero1_bad (b x y z : Nat) (a n c : Int) (w : World) (cx : w.cell? ⟨x, 0, none⟩ = some (.pointer (some ⟨b, 0, none⟩))) (cy : w.cell? ⟨y, 0, none⟩ = some (.int .u64 a)) (cz : w.cell? ⟨z, 0, none⟩ = some (.int .u64 n))
    (hT : Calls Try.prog 55 #[.pointer (some ⟨b, 0, none⟩), .int .u64 a, .int .u64 n] w fun e w' => e = .panicked [{ v := .iface 100 (.agg #[.int .i64 c]), recovered := false }] ∧ Below w.heap.size w w') :
    Calls Try.prog 54 #[.pointer (some ⟨x, 0, none⟩), .pointer (some ⟨y, 0, none⟩), .pointer (some ⟨z, 0, none⟩)] w fun e w' => e = .panicked [{ v := .iface 100 (.agg #[.int .i64 c]), recovered := false }] ∧ Below w.heap.size w w' := by
  have HT := hide hT
  clear hT
  go_enter Try.func54, Try.ntmps54
  go_wp2_with fail
  refine HT.out.mono ?_
  rintro e w1 ⟨rfl, B1⟩
  go_wp2_with fail
  exact ⟨rfl, rfl, B1⟩
set_option maxRecDepth 100000 in
/-- What 'zero' within leaves: any contract of it. -/
theorem zero1_ok (b x y z bp bf n : Nat) (MP MF : Nat → Nat) (A : Nat → Nat → Nat) (a c : Int) (PO : World → World → Prop) (w : World)
    (hW : WordsM w b bp bf n MP MF A) (cx : w.cell? ⟨x, 0, none⟩ = some (.pointer (some ⟨b, 0, none⟩))) (cy : w.cell? ⟨y, 0, none⟩ = some (.int .u64 a)) (cz : w.cell? ⟨z, 0, none⟩ = some (.int .u64 c))
    (hT : Calls Try.prog 55 #[.pointer (some ⟨b, 0, none⟩), .int .u64 a, .int .u64 c] w fun e w' => e = .returned (.tuple #[]) ∧ Below w.heap.size w w')
    (hZ : ∀ w, WordsM w b bp bf n MP MF A → Calls Try.prog 56 #[.pointer (some ⟨b, 8, none⟩), .int .u64 a, .int .u64 c] w fun e w' => e = .returned (.tuple #[]) ∧ PO w w') :
    Calls Try.prog 54 #[.pointer (some ⟨x, 0, none⟩), .pointer (some ⟨y, 0, none⟩), .pointer (some ⟨z, 0, none⟩)] w fun e w' => e = .returned (.tuple #[]) ∧ ∃ w2, Below w.heap.size w w2 ∧ PO w2 w' := by
  have hxl := cell_lt cx
  have hyl := cell_lt cy
  have hzl := cell_lt cz
  have HW := hide hW
  have HT := hide hT
  have HZ := hide hZ
  clear hT hW hZ
  go_enter Try.func54, Try.ntmps54
  go_wp2_with fail
  refine HT.out.mono ?_
  rintro e w1 ⟨rfl, B1⟩
  have HB := hide B1
  have W1 := hide (HW.out.below B1)
  obtain ⟨q1, q2⟩ := bcell B1
  have cx1 := (q1 x 0 hxl).trans cx
  have cy1 := (q1 y 0 hyl).trans cy
  have cz1 := (q1 z 0 hzl).trans cz
  clear q1 q2 B1 HW HT cx cy cz
  go_wp2_with fail
  refine still_tail 5 (by kernel_rfl) (by kernel_rfl) ?_
  simp only [List.take_succ_cons, List.take_zero, List.drop_succ_cons, List.drop_zero]
  repeat still_step
  refine wpStill_nil ?_
  go_wp2_with fail
  refine (HZ.out w1.drew (W1.out.below (drew_below _))).mono ?_
  rintro e w' ⟨rfl, hP⟩
  have HP := hide hP
  clear hP
  go_wp2_with fail
  go_end0
  exact ⟨rfl, w1.drew, HB.out.trans ((drew_below w1).mono HB.out.size), HP.out⟩
end Go.Proofs.Ytlfcnaalkjpgnaa

/- The first place for pages, by rows. No program is spoken of. -/
namespace Go.Proofs.Sp
set_option linter.unusedVariables false
set_option linter.unusedSimpArgs false

/-- May so many pages be laid out in row i, from a page on? -/
def fitsR (R : List (Nat × Nat)) (a pages i : Nat) : Prop := (R[i]?.map (·.2)) = some 0 ∧ max a (startR R 34359738368 i) + pages ≤ startR R 34359738368 (i + 1)
def fromR (hint : Nat) : Nat := max ((hint + 511) / 512 * 512) 512
theorem rows_of_free {S : Sp} {R : List (Nat × Nat)} {hint pages i0 q : Nat} (h : Seg S.st 0 R 34359738368) (hA : Alt R) (hi0 : i0 < R.length) (h1 : R[i0].1 ≤ fromR hint) (hp : 0 < pages) (hf : free S pages q) (hq : hint ≤ q) :
    ∃ i, i0 ≤ i ∧ i < R.length ∧ fitsR R (fromR hint) pages i ∧ max (fromR hint) (startR R 34359738368 i) ≤ q := by
  obtain ⟨f1, f2, f3, f4⟩ := hf
  have hF : fromR hint ≤ q := by unfold fromR; omega
  obtain ⟨i, hi, q1, q2⟩ := h.at q (by omega) (by omega)
  have r := h.row i hi
  have z : R[i].2 = 0 := by rw [← r.2.2.2 q q1 q2]; exact f4 0 hp
  have hlt : q + pages ≤ startR R 34359738368 (i + 1) := by
    by_cases c : q + pages ≤ startR R 34359738368 (i + 1)
    · exact c
    · exfalso
      have hi1 : i + 1 < R.length := by
        by_cases d : i + 1 < R.length
        · exact d
        · rw [startR_ge (by omega)] at c; omega
      have r1 := h.row (i + 1) hi1
      have n := hA.get i hi1
      rw [startR_lt hi1] at c q2
      have e := f4 (R[i + 1].1 - q) (by omega)
      rw [show q + (R[i + 1].1 - q) = R[i + 1].1 by omega, r1.2.2.2 _ (Nat.le_refl _) r1.2.1] at e
      rw [z, e] at n
      exact n rfl
  refine ⟨i, ?_, hi, ⟨by rw [List.getElem?_eq_getElem hi]; simp [z], by rw [startR_lt hi]; omega⟩, by rw [startR_lt hi]; omega⟩
  by_cases c : i0 ≤ i
  · exact c
  · exfalso
    have := h.rise (i := i) (j := i0) (by omega) hi
    by_cases d : i0 = i + 1
    · subst d; rw [startR_lt hi0] at q2; omega
    · have hi1 : i + 1 < R.length := by omega
      have := h.rise (i := i + 1) (j := i0) (by omega) hi1
      rw [startR_lt hi1] at q2
      rw [startR_lt hi0] at this
      omega
theorem free_found {S : Sp} {R : List (Nat × Nat)} {hint pages i0 i : Nat} (h : Seg S.st 0 R 34359738368) (hA : Alt R) (hc : ∀ p, S.st p = 0 ↔ S.st (p / 512 * 512) = 0) (hi0 : i0 < R.length) (h1 : R[i0].1 ≤ fromR hint) (h2 : fromR hint < startR R 34359738368 (i0 + 1)) (hp : 0 < pages)
    (hii : i0 ≤ i) (hi : i < R.length) (hfit : fitsR R (fromR hint) pages i) (hno : ∀ k, i0 ≤ k → k < i → ¬ fitsR R (fromR hint) pages k) : firstFrom S hint pages = some (max (fromR hint) (startR R 34359738368 i)) := by
  obtain ⟨z, hl⟩ := hfit
  rw [List.getElem?_eq_getElem hi] at z
  have z' : R[i].2 = 0 := by simpa using z
  have r := h.row i hi
  have b := none_begins h hA hc hi z'
  rw [startR_lt hi] at hl ⊢
  have hin : fromR hint < startR R 34359738368 (i + 1) := by omega
  refine first_at hp ⟨?_, ?_, ?_, ?_⟩ ?_ ?_
  · have : fromR hint % 512 = 0 := by unfold fromR; omega
    omega
  · unfold fromR; omega
  · omega
  · intro k hk
    rw [r.2.2.2 _ (by omega) (by omega)]; exact z'
  · unfold fromR; omega
  · intro k k1 k2 hf
    obtain ⟨i', a1, a2, a3, a4⟩ := rows_of_free h hA hi0 h1 hp hf k1
    by_cases c : i' < i
    · exact hno i' a1 c a3
    · by_cases d : i' = i
      · subst d; rw [startR_lt hi] at a4; omega
      · have := h.rise (i := i) (j := i') (by omega) hi
        rw [startR_lt a2] at a4 this
        omega
theorem free_none {S : Sp} {R : List (Nat × Nat)} {hint pages i0 : Nat} (h : Seg S.st 0 R 34359738368) (hA : Alt R) (hi0 : i0 < R.length) (h1 : R[i0].1 ≤ fromR hint) (hp : 0 < pages) (hno : ∀ k, i0 ≤ k → k < R.length → ¬ fitsR R (fromR hint) pages k) : firstFrom S hint pages = none := by
  cases e : firstFrom S hint pages with
  | none => rfl
  | some q =>
    obtain ⟨a, b, _⟩ := first_some e
    obtain ⟨i', a1, a2, a3, _⟩ := rows_of_free h hA hi0 h1 hp a b
    exact absurd a3 (hno i' a1 a2)
theorem free_high {S : Sp} {hint pages : Nat} (hp : 0 < pages) (h : 34359738368 < hint + pages) : firstFrom S hint pages = none := by
  cases e : firstFrom S hint pages with
  | none => rfl
  | some q =>
    obtain ⟨a, b, _⟩ := first_some e
    have := a.2.2.1
    omega
end Go.Proofs.Sp

/- The landed package's 'free' and 'place'. -/
namespace Go.Proofs.Ytlfcnaalkjpgnaa
open Go.ChangeShapes Go.WideShapes Go.ChangeAt Go.RowKit Go.Proofs.Sp

/-- An answer that may lack. -/
def opt2 (x : Option Nat) : Value := .tuple #[.int .u64 ((x.getD 0 : Nat) : Int), .bool x.isSome]
set_option maxRecDepth 100000 in
set_option maxHeartbeats 2000000 in
theorem free_core (b o g cap : Nat) (R : List (Nat × Nat)) (S : Sp) (hint pages : Int) (h0 : 0 ≤ hint) (h0' : hint < 18446744073709551616) (hp : 0 < pages) (hp' : pages ≤ 134217728) (hp5 : pages % 512 = 0) (hn : R.length ≤ 70368744177664) (w : World) (hL : ListAt w b o g cap R) (hs : Seg S.st 0 R 34359738368) (hA : Alt R) (hc : ∀ p, S.st p = 0 ↔ S.st (p / 512 * 512) = 0) :
    Calls Try.prog 60 #[.pointer (some ⟨b, o, none⟩), .int .u64 hint, .int .u64 pages] w fun e w' => e = .returned (opt2 (firstFrom S hint.toNat pages.toNat)) ∧ Below w.heap.size w w' := by
  by_cases hh : 34359738368 - pages < hint
  · have e0 := free_high (S := S) (hint := hint.toNat) (pages := pages.toNat) (by omega) (by omega)
    rw [e0]
    clear hL hs hA hc e0
    go_enter Try.func60, Try.ntmps60
    go_wp2_with fail
    go_ret2
    exact ⟨rfl, Below.refl _ _⟩
  · have hl := hL.list
    have hlt := cell_lt hl
    obtain ⟨u, hu⟩ : ∃ u : Nat, u = fromR hint.toNat := ⟨_, rfl⟩
    have hu1 : u + pages.toNat ≤ 34359738368 := by rw [hu]; unfold fromR; omega
    obtain ⟨i0, hi0, a1, a2⟩ := hs.at u (by omega) (by omega)
    have found := fun i (x : i0 ≤ i) (y : i < R.length) z t => free_found hs hA hc hi0 (by rw [← hu]; exact a1) (by rw [← hu]; exact a2) (pages := pages.toNat) (by omega) x y z t
    have none := free_none hs hA hi0 (by rw [← hu]; exact a1) (pages := pages.toNat) (by omega)
    rw [← hu] at found none
    have FOUND := hide found
    have NONE := hide none
    have A12 := hide (And.intro a1 a2)
    have HL := hide hL
    have HS := hide hs
    have hcu : (hint + 511) / 512 * 512 ≤ 34359738368 := by omega
    have hm : (u : Int) = if (hint + 511) / 512 * 512 < 512 then 512 else (hint + 511) / 512 * 512 := by
      rw [hu]; unfold fromR; split <;> omega
    have HMx := hide hm
    clear found none a1 a2 hL hs hA hc hu hm
    go_enter Try.func60, Try.ntmps60
    go_wp2_with fail
    refine (chunkUp_core hint h0 (by omega) w).mono ?_
    rintro e w1 ⟨rfl, rfl⟩
    generalize hcx : (hint + 511) / 512 * 512 = cx at *
    clear hcx
    have hmx : (if cx < 512 then (512 : Int) else cx) = (u : Int) := HMx.out.symm
    clear HMx
    go_wp2_with fail
    refine (at_core b o g cap R S.st (u : Int) (by omega) (by omega) hn _ HL.out HS.out i0 hi0 (by have := A12.out.1; simpa using this) (by have := A12.out.2; simpa using this)).mono ?_
    rintro e w2 ⟨rfl, b2⟩
    clear hmx
    have L2 := hide (HL.out.below b2)
    go_wp2_with fail
    go_loopw [8] (fun iv wr => ∃ i : Nat, iv = .int .i64 (i : Int) ∧ i0 ≤ i ∧ i ≤ R.length ∧ wr = w2 ∧ Hid (∀ k, i0 ≤ k → k < i → ¬ fitsR R u pages.toNat k)) (fun iv _ => R.length - (intOf iv).toNat)
    case atStart => exact ⟨i0, rfl, Nat.le_refl _, by omega, rfl, fun k x y => by omega⟩
    case round =>
      obtain ⟨i, rfl, hi1, hi2, rfl, hno⟩ := hrel
      have ll := L2.out.list
      by_cases hi : i < R.length
      · have f1 := L2.out.first i hi
        have f2 := L2.out.state i hi
        have r := HS.out.row i hi
        have ec := end_core b o g cap R (i : Int) (by omega) (by omega) hn wr L2.out
        rw [show ((i : Int).toNat + 1) = i + 1 by omega] at ec
        have ft : fitsR R u pages.toNat i ↔ R[i].2 = 0 ∧ max u R[i].1 + pages.toNat ≤ startR R 34359738368 (i + 1) := by
          unfold fitsR; rw [List.getElem?_eq_getElem hi, startR_lt hi]; simp
        have fd := FOUND.out i hi1 hi
        rw [startR_lt hi] at fd
        obtain ⟨x, hx⟩ : ∃ x, x = R[i].1 := ⟨_, rfl⟩
        obtain ⟨s, hsx⟩ : ∃ s, s = R[i].2 := ⟨_, rfl⟩
        obtain ⟨y, hy⟩ : ∃ y, y = startR R 34359738368 (i + 1) := ⟨_, rfl⟩
        rw [← hx] at f1 ft fd
        rw [← hsx] at f2 ft
        rw [← hy] at ft ec
        have hxy : x < y := by rw [hx, hy]; exact r.2.1
        have hyl : y ≤ 34359738368 := by rw [hy]; exact r.2.2.1
        have huy : u < y := by
          by_cases c : i = i0
          · rw [hy, c]; exact A12.out.2
          · have := HS.out.rise (i := i0) (j := i) (by omega) hi0
            have h5 := A12.out.2
            have h6 : startR R 34359738368 (i0 + 1) ≤ R[i].1 := by
              by_cases d : i = i0 + 1
              · subst d; rw [startR_lt hi]; exact Nat.le_refl _
              · have hq : i0 + 1 < R.length := by omega
                have := HS.out.rise (i := i0 + 1) (j := i) (by omega) hq
                rw [startR_lt hi] at this
                rw [startR_lt hq]; omega
            omega
        obtain ⟨m, hmx⟩ : ∃ m, m = max u x := ⟨_, rfl⟩
        have hmi : ((u : Int) < (x : Int) ∧ m = x) ∨ (¬ (u : Int) < (x : Int) ∧ m = u) := by omega
        have hmy : m < y := by omega
        rw [← hmx] at ft fd
        have FTX := hide ft
        have FDX := hide fd
        have EC := hide ec
        clear ft fd ec hx hsx hy hmx r
        rcases hmi with ⟨hux, rfl⟩ | ⟨hux, rfl⟩
        all_goals
          by_cases hz : s = 0
          · have hz' : ((s : Int) == 0) = true := by rw [hz]; rfl
            by_cases hq : pages ≤ (y : Int) - (m : Int)
            · go_wp2_with (go_at_call 62; refine EC.out.mono ?_; rintro e w' ⟨rfl, rfl⟩)
              go_ret2
              have := FDX.out (FTX.out.2 ⟨hz, by omega⟩) hno.out
              exact ⟨by rw [this]; rfl, b2⟩
            · go_wp2_with (go_at_call 62; refine EC.out.mono ?_; rintro e w' ⟨rfl, rfl⟩)
              go_roundw
              case rel => exact ⟨i + 1, by go_num, by omega, by omega, trivial, hide fun k x y => by
                  by_cases c : k = i
                  · subst c; rw [FTX.out]; omega
                  · exact hno.out k x (by omega)⟩
              case measure => simp [intOf]; omega
          · have hz' : ((s : Int) == 0) = false := beq_eq_false_iff_ne.2 (by omega)
            go_wp2_with fail
            go_roundw
            case rel => exact ⟨i + 1, by go_num, by omega, by omega, trivial, hide fun k x y => by
                by_cases c : k = i
                · subst c; rw [FTX.out]; omega
                · exact hno.out k x (by omega)⟩
            case measure => simp [intOf]; omega
      · have fn := NONE.out fun k x y => hno.out k x (by omega)
        have FN := hide fn
        clear fn
        go_wp2_with fail
        go_ret2
        exact ⟨by rw [FN.out]; rfl, b2⟩
end Go.Proofs.Ytlfcnaalkjpgnaa
