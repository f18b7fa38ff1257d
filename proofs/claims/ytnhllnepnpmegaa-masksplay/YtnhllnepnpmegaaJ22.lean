/- J22 of the proof of both laws: texts Ab, Ad, Pl, one behind the other. -/
import Derived.Test.YtnhllnepnpmegaaJ19
import Derived.Test.YtnhllnepnpmegaaJ20
import Derived.Test.YtnhllnepnpmegaaJ21
/- act, what is cleared, read, counted: contracts. -/
namespace Go.Proofs.Ytnhllnepnpmegaa
open Go.ChangeShapes Go.WideShapes Go.ChangeAt Go.RowKit Go.Shelf Go.Proofs.Rx Go.Maps Go.Proofs.Bt
set_option linter.unusedVariables false
set_option linter.unusedSimpArgs false

attribute [local go_sem] Oper.semAt_some

theorem Sep.asK {N : Nat} {w W : World} {m r K K' : Nat} {f : Nat → Bool} (h : Sep N w W [tMk m f, tRl r f K]) (hK : K ≤ K') : Sep N w W [tMk m f, tRl r f K'] :=
  h.as 1 (show 1 < 2 by decide) (tRl r f K') (fun F ⟨k, hk, hF⟩ => ⟨k, Nat.le_trans hk hK, hF⟩)
/-- The law's masks, the reference's, an act's cells. -/
abbrev acL (m r : Nat) (f g : Nat → Bool) (K ab : Nat) (vs : Array Value) : List Thing := [tMk m f, tRl r g K, tBk ab 36 vs]
theorem acL_start {w W : World} {m r K : Nat} {f : Nat → Bool} (h : Sep w.heap.size w W [tMk m f, tRl r f K]) (vs : Array Value) : Sep w.heap.size w (W.alloc (.cells vs 36)) (acL m r f f K W.heap.size vs) :=
  h.more (below_alloc W _) (tBk W.heap.size 36 _) (F' := fun z => z = W.heap.size) ⟨World.alloc_heap_new W _, fun z => Iff.rfl⟩ (fun z hz => by rw [hz]; exact Nat.le_refl _)
theorem acL_cell {w Y : World} {m r K ab : Nat} {f g : Nat → Bool} {vs : Array Value} {l' : List Thing} (s : Sep w.heap.size w Y (acL m r f g K ab vs ++ l')) (k : Nat) (v : Value) (e : vs[k]? = some v) : Y.cell? ⟨ab, k, none⟩ = some v := by
  have b := s.fewer.bk 2 (show 2 < 3 by decide) rfl
  exact b.cell k _ e
set_option maxRecDepth 100000 in
set_option maxHeartbeats 2000000 in
theorem act_2 {w W : World} {m r K : Nat} {f : Nat → Bool} (h : Sep w.heap.size w W [tMk m f, tRl r f K]) (hK : K < 1000) (a b : Nat) (v3 v4 v5 : Value) (ha : a < 18446744073709551616) (hb : b < 18446744073709551616) :
    Calls Try.prog 9 #[.pointer (some ⟨m, 0, none⟩), .pointer (some ⟨r, 0, none⟩), .agg #[.int .i64 2, .int .u64 (a : Nat), .int .u64 (b : Nat), v3, v4, v5]] W fun e W' => e = .returned (.bool true) ∧ ∃ f', Sep w.heap.size w W' [tMk m f', tRl r f' (K + 1)] := by
  obtain ⟨R, hR⟩ : ∃ R : Ending → World → Prop, R = fun e W' => e = .returned (.bool true) ∧ ∃ f', Sep w.heap.size w W' [tMk m f', tRl r f' (K + 1)] := ⟨_, rfl⟩
  rw [← hR]
  have FIN := hide (show ∀ W' f' l', Sep w.heap.size w W' ([tMk m f', tRl r f' (K + 1)] ++ l') → R (.returned (.bool true)) W' from fun W' f' l' h => by rw [hR]; exact ⟨rfl, f', h.fewer⟩)
  clear hR
  obtain ⟨A, hA⟩ : ∃ z : Int, (a : Int) = z := ⟨_, rfl⟩
  obtain ⟨B, hB⟩ : ∃ z : Int, (b : Int) = z := ⟨_, rfl⟩
  have h1 := acL_start h #[.int .i64 2, .int .u64 A, .int .u64 B, v3, v4, v5]
  obtain ⟨WA, hWA⟩ : ∃ WA, W.alloc (.cells #[.int .i64 2, .int .u64 A, .int .u64 B, v3, v4, v5] 36) = WA := ⟨_, rfl⟩
  obtain ⟨ab, hab⟩ : ∃ ab, W.heap.size = ab := ⟨_, rfl⟩
  rw [hWA, hab] at h1
  have a0 := acL_cell (l' := []) h1 0 _ rfl
  have a1 := acL_cell (l' := []) h1 1 _ rfl
  have a2 := acL_cell (l' := []) h1 2 _ rfl
  obtain ⟨vs, hvs⟩ : ∃ vs : Array Value, #[.int .i64 2, .int .u64 A, .int .u64 B, v3, v4, v5] = vs := ⟨_, rfl⟩
  obtain ⟨EE, hEE⟩ : ∃ E, clearE a b = E := ⟨_, rfl⟩
  obtain ⟨f', hf'⟩ : ∃ f', clearF f a b = f' := ⟨_, rfl⟩
  have C1 := hide (show Calls Try.prog 14 #[.pointer (some ⟨m, 0, none⟩), .int .u64 A, .int .u64 B] WA.drew fun e Y' => e = .returned (.int .i64 EE) ∧ (Y'.cell? ⟨ab, 1, none⟩ = some (.int .u64 A) ∧ Y'.cell? ⟨ab, 2, none⟩ = some (.int .u64 B)) ∧ Sep w.heap.size w Y' (acL m r f' f K ab vs) from by
    have C := (h1.read (drew_below WA)).clear 0 (show 0 < 3 by decide) rfl a b ha hb
    rw [hEE, hf', hA, hB] at C
    refine C.mono fun e Y' ⟨he, s⟩ => ⟨he, ⟨acL_cell (l' := []) s 1 _ rfl, acL_cell (l' := []) s 2 _ rfl⟩, ?_⟩
    rw [← hvs]; exact s)
  have C2 := hide (show ∀ Y, Sep w.heap.size w Y (acL m r f' f K ab vs) → Calls Try.prog 17 #[.pointer (some ⟨r, 0, none⟩), .int .u64 A, .int .u64 B] Y fun e Y' => e = .returned (.int .i64 EE) ∧ (Y'.cell? ⟨ab, 1, none⟩ = some (.int .u64 A) ∧ Y'.cell? ⟨ab, 2, none⟩ = some (.int .u64 B)) ∧ R (.returned (.bool true)) Y' from fun Y s => by
    have C := s.rclear 1 (show 1 < 3 by decide) rfl (by omega) a b ha hb
    rw [hEE, hf', hA, hB] at C
    refine C.mono fun e Y' ⟨he, s'⟩ => ⟨he, ⟨acL_cell (l' := []) s' 1 _ (by rw [← hvs]; rfl), acL_cell (l' := []) s' 2 _ (by rw [← hvs]; rfl)⟩, FIN.out Y' f' _ s'⟩)
  have ne : (EE == EE) = true := by simp
  have HWA := hide hWA
  have HAB := hide hab
  rw [hA, hB]
  clear h h1 hA hB ha hb hWA hab hvs hEE hf' FIN
  go_enter Try.func9, Try.ntmps9
  go_upto_region 1 with fail
  rw [HWA.out, HAB.out]
  go_wp2_with fail
  go_region_held3 (fun w' : World => w'.cell? ⟨ab, 1, none⟩ = some (.int .u64 A) ∧ w'.cell? ⟨ab, 2, none⟩ = some (.int .u64 B)) (first | (go_keep; done)) (first
    | (go_at_call 14; refine C1.out.mono ?_; rintro e Y2 ⟨rfl, ⟨u1, u2⟩, s2⟩; have D2 := hide (C2.out Y2 s2); clear s2 C1 C2)
    | (go_at_call 17; refine D2.out.mono ?_; rintro e Y3 ⟨rfl, ⟨v1, v2⟩, r3⟩; have R3 := hide r3; clear r3 D2))
  go_wp2_with fail
  first | exact R3.out | (go_ret; exact R3.out)
set_option maxRecDepth 100000 in
set_option maxHeartbeats 2000000 in
theorem act_4 {w W : World} {m r K : Nat} {f : Nat → Bool} (h : Sep w.heap.size w W [tMk m f, tRl r f K]) (hK : K < 1000) (a b : Nat) (v3 v4 v5 : Value) (ha : a < 18446744073709551616) (hb : b < 18446744073709551616) :
    Calls Try.prog 9 #[.pointer (some ⟨m, 0, none⟩), .pointer (some ⟨r, 0, none⟩), .agg #[.int .i64 4, .int .u64 (a : Nat), .int .u64 (b : Nat), v3, v4, v5]] W fun e W' => e = .returned (.bool true) ∧ Sep w.heap.size w W' [tMk m f, tRl r f K] := by
  obtain ⟨R, hR⟩ : ∃ R : Ending → World → Prop, R = fun e W' => e = .returned (.bool true) ∧ Sep w.heap.size w W' [tMk m f, tRl r f K] := ⟨_, rfl⟩
  rw [← hR]
  have FIN := hide (show ∀ W' l', Sep w.heap.size w W' ([tMk m f, tRl r f K] ++ l') → R (.returned (.bool true)) W' from fun W' l' h => by rw [hR]; exact ⟨rfl, h.fewer⟩)
  clear hR
  obtain ⟨A, hA⟩ : ∃ z : Int, (a : Int) = z := ⟨_, rfl⟩
  obtain ⟨B, hB⟩ : ∃ z : Int, (b : Int) = z := ⟨_, rfl⟩
  have h1 := acL_start h #[.int .i64 4, .int .u64 A, .int .u64 B, v3, v4, v5]
  obtain ⟨WA, hWA⟩ : ∃ WA, W.alloc (.cells #[.int .i64 4, .int .u64 A, .int .u64 B, v3, v4, v5] 36) = WA := ⟨_, rfl⟩
  obtain ⟨ab, hab⟩ : ∃ ab, W.heap.size = ab := ⟨_, rfl⟩
  rw [hWA, hab] at h1
  have a0 := acL_cell (l' := []) h1 0 _ rfl
  have a1 := acL_cell (l' := []) h1 1 _ rfl
  have a2 := acL_cell (l' := []) h1 2 _ rfl
  obtain ⟨vs, hvs⟩ : ∃ vs : Array Value, #[.int .i64 4, .int .u64 A, .int .u64 B, v3, v4, v5] = vs := ⟨_, rfl⟩
  obtain ⟨EE, hEE⟩ : ∃ E, clearE a b = E := ⟨_, rfl⟩
  obtain ⟨PV, hPV⟩ : ∃ E : Int, (pointsV f a b : Int) = E := ⟨_, rfl⟩
  have C1 := hide (show Calls Try.prog 13 #[.pointer (some ⟨m, 0, none⟩), .int .u64 A, .int .u64 B] WA fun e Y' => e = .returned (.tuple #[.int .u64 PV, .int .i64 EE]) ∧ (Y'.cell? ⟨ab, 1, none⟩ = some (.int .u64 A) ∧ Y'.cell? ⟨ab, 2, none⟩ = some (.int .u64 B)) ∧ Sep w.heap.size w Y' (acL m r f f K ab vs) from by
    have C := h1.points 0 (show 0 < 3 by decide) rfl a b ha hb
    rw [hEE, hPV, hA, hB] at C
    refine C.mono fun e Y' ⟨he, _, s⟩ => ⟨he, ⟨acL_cell (l' := []) s 1 _ rfl, acL_cell (l' := []) s 2 _ rfl⟩, ?_⟩
    rw [← hvs]; exact s)
  have C2 := hide (show ∀ Y, Sep w.heap.size w Y (acL m r f f K ab vs) → Calls Try.prog 19 #[.pointer (some ⟨r, 0, none⟩), .int .u64 A, .int .u64 B] Y fun e Y' => e = .returned (.tuple #[.int .u64 PV, .int .i64 EE]) ∧ R (.returned (.bool true)) Y' from fun Y s => by
    have C := s.rpoints 1 (show 1 < 3 by decide) rfl (by omega) a b ha hb
    rw [hEE, hPV, hA, hB] at C
    exact C.mono fun e Y' ⟨he, _, s'⟩ => ⟨he, FIN.out Y' _ s'⟩)
  have ne : (EE == EE) = true := by simp
  have ne2 : (PV == PV) = true := by simp
  have HWA := hide hWA
  have HAB := hide hab
  rw [hA, hB]
  clear h h1 hA hB ha hb hWA hab hvs hEE hPV FIN
  go_enter Try.func9, Try.ntmps9
  go_upto_region 1 with fail
  rw [HWA.out, HAB.out]
  go_wp2_with fail
  refine C1.out.mono ?_
  rintro e Y2 ⟨rfl, ⟨u1, u2⟩, s2⟩
  have D2 := hide (C2.out Y2 s2)
  clear s2 C1 C2
  go_wp2_with fail
  refine D2.out.mono ?_
  rintro e Y3 ⟨rfl, r3⟩
  have R3 := hide r3
  clear r3 D2
  go_wp2_with fail
  first | exact R3.out | (go_ret; exact R3.out)
set_option maxRecDepth 100000 in
set_option maxHeartbeats 2000000 in
theorem act_0 {w W : World} {m r K : Nat} {f : Nat → Bool} (h : Sep w.heap.size w W [tMk m f, tRl r f K]) (WH : Int) (v1 v2 v3 v4 v5 : Value) (n1 : WH ≠ 1) (n2 : WH ≠ 2) (n3 : WH ≠ 3) (n4 : WH ≠ 4) :
    Calls Try.prog 9 #[.pointer (some ⟨m, 0, none⟩), .pointer (some ⟨r, 0, none⟩), .agg #[.int .i64 WH, v1, v2, v3, v4, v5]] W fun e W' => e = .returned (.bool true) ∧ Sep w.heap.size w W' [tMk m f, tRl r f K] := by
  obtain ⟨R, hR⟩ : ∃ R : Ending → World → Prop, R = fun e W' => e = .returned (.bool true) ∧ Sep w.heap.size w W' [tMk m f, tRl r f K] := ⟨_, rfl⟩
  rw [← hR]
  have h1 := acL_start h #[.int .i64 WH, v1, v2, v3, v4, v5]
  obtain ⟨WA, hWA⟩ : ∃ WA, W.alloc (.cells #[.int .i64 WH, v1, v2, v3, v4, v5] 36) = WA := ⟨_, rfl⟩
  obtain ⟨ab, hab⟩ : ∃ ab, W.heap.size = ab := ⟨_, rfl⟩
  rw [hWA, hab] at h1
  have a0 := acL_cell (l' := []) h1 0 _ rfl
  have d1 : (WH == 1) = false := beq_eq_false_iff_ne.2 n1
  have d2 : (WH == 2) = false := beq_eq_false_iff_ne.2 n2
  have d3 : (WH == 3) = false := beq_eq_false_iff_ne.2 n3
  have d4 : (WH == 4) = false := beq_eq_false_iff_ne.2 n4
  have FF := hide (show R (.returned (.bool true)) WA from by rw [hR]; exact ⟨rfl, Sep.fewer (l := [tMk m f, tRl r f K]) (l' := [_]) h1⟩)
  have HWA := hide hWA
  have HAB := hide hab
  clear hR h h1 hWA hab n1 n2 n3 n4
  go_enter Try.func9, Try.ntmps9
  go_upto_region 1 with fail
  rw [HWA.out, HAB.out]
  go_wp2_with fail
  first | exact FF.out | (go_ret; exact FF.out)
end Go.Proofs.Ytnhllnepnpmegaa

/- act, what is read: contract. -/
namespace Go.Proofs.Ytnhllnepnpmegaa
open Go.ChangeShapes Go.WideShapes Go.ChangeAt Go.RowKit Go.Shelf Go.Proofs.Rx Go.Maps Go.Proofs.Bt
set_option linter.unusedVariables false
set_option linter.unusedSimpArgs false

attribute [local go_sem] Oper.semAt_some

theorem Sep.rread_ok {N : Nat} {w W : World} {l : List Thing} {r K : Nat} {f : Nat → Bool} (h : Sep N w W l) (i : Nat) (hi : i < l.length) (e : l[i] = tRl r f K) (hK : K < 1000000) (a b : Nat) (ha : a < 18446744073709551616) (hb : b < 18446744073709551616) (hbs : b ≤ 1000000 ∨ 1048576 < b) (hr : readE a b = 0) (h1 : 1 ≤ b / 8) :
    Calls Try.prog 18 #[.pointer (some ⟨r, 0, none⟩), .int .u64 (a : Nat), .int .u64 (b : Nat)] W fun e W' => ∃ U cp, e = .returned (.tuple #[.slice (some ⟨U, 0, none⟩) (b / 8) cp, .int .i64 0]) ∧ Sep N w W' (l ++ [tBo U (b / 8) cp (fun k => f (a / 8 + k))]) := by
  refine (h.rread i hi e hK a b ha hb hbs).mono ?_
  rintro e W' ⟨v, rfl, hv, hbl, hs⟩
  unfold RReadV at hv
  rw [if_pos hr] at hv
  obtain ⟨U, cp, rfl, hU, bo⟩ := hv
  exact ⟨U, cp, by rw [hr], h.more hbl (tBo U (b / 8) cp (fun k => f (a / 8 + k))) (F' := fun z => z = U) ⟨⟨bo, bo.glt h1⟩, fun z => Iff.rfl⟩ (fun z hz => by rw [hz]; exact hU)⟩
theorem Sep.bo {N : Nat} {w W : World} {l : List Thing} (h : Sep N w W l) (i : Nat) (hi : i < l.length) {U L cp : Nat} {f : Nat → Bool} (e : l[i] = tBo U L cp f) : BoolsAt W (some ⟨U, 0, none⟩) L cp f := by
  obtain ⟨F, hF⟩ := h.have i hi
  rw [e] at hF
  exact hF.1.1
set_option maxRecDepth 100000 in
set_option maxHeartbeats 2000000 in
theorem act_3y {w W : World} {m r K : Nat} {f : Nat → Bool} (h : Sep w.heap.size w W [tMk m f, tRl r f K]) (hK : K < 1000) (a b : Nat) (v3 v4 v5 : Value) (ha : a < 18446744073709551616) (hb : b < 18446744073709551616) (hbs : b ≤ 40000) (hr : readE a b = 0) (hb1 : 8 ≤ b) :
    Calls Try.prog 9 #[.pointer (some ⟨m, 0, none⟩), .pointer (some ⟨r, 0, none⟩), .agg #[.int .i64 3, .int .u64 (a : Nat), .int .u64 (b : Nat), v3, v4, v5]] W fun e W' => e = .returned (.bool true) ∧ Sep w.heap.size w W' [tMk m f, tRl r f K] := by
  obtain ⟨R, hR⟩ : ∃ R : Ending → World → Prop, R = fun e W' => e = .returned (.bool true) ∧ Sep w.heap.size w W' [tMk m f, tRl r f K] := ⟨_, rfl⟩
  rw [← hR]
  have FIN := hide (show ∀ W' l', Sep w.heap.size w W' ([tMk m f, tRl r f K] ++ l') → R (.returned (.bool true)) W' from fun W' l' h => by rw [hR]; exact ⟨rfl, h.fewer⟩)
  clear hR
  obtain ⟨A, hA⟩ : ∃ z : Int, (a : Int) = z := ⟨_, rfl⟩
  obtain ⟨B, hB⟩ : ∃ z : Int, (b : Int) = z := ⟨_, rfl⟩
  obtain ⟨n, hn⟩ : ∃ n, b / 8 = n := ⟨_, rfl⟩
  obtain ⟨g, hg⟩ : ∃ g : Nat → Bool, (fun k => f (a / 8 + k)) = g := ⟨_, rfl⟩
  have n1 : 1 ≤ n := by omega
  have n2 : n ≤ 5000 := by omega
  have h1 := acL_start h #[.int .i64 3, .int .u64 A, .int .u64 B, v3, v4, v5]
  obtain ⟨WA, hWA⟩ : ∃ WA, W.alloc (.cells #[.int .i64 3, .int .u64 A, .int .u64 B, v3, v4, v5] 36) = WA := ⟨_, rfl⟩
  obtain ⟨ab, hab⟩ : ∃ ab, W.heap.size = ab := ⟨_, rfl⟩
  rw [hWA, hab] at h1
  have a0 := acL_cell (l' := []) h1 0 _ rfl
  have a1 := acL_cell (l' := []) h1 1 _ rfl
  have a2 := acL_cell (l' := []) h1 2 _ rfl
  obtain ⟨vs, hvs⟩ : ∃ vs : Array Value, #[.int .i64 3, .int .u64 A, .int .u64 B, v3, v4, v5] = vs := ⟨_, rfl⟩
  have CEL := hide (show ∀ Y l', Sep w.heap.size w Y (acL m r f f K ab vs ++ l') → Y.cell? ⟨ab, 1, none⟩ = some (.int .u64 A) ∧ Y.cell? ⟨ab, 2, none⟩ = some (.int .u64 B) from fun Y l' s => ⟨acL_cell s 1 _ (by rw [← hvs]; rfl), acL_cell s 2 _ (by rw [← hvs]; rfl)⟩)
  have C1 := hide (show Calls Try.prog 12 #[.pointer (some ⟨m, 0, none⟩), .int .u64 A, .int .u64 B] WA fun e Y' => ∃ U, e = .returned (.tuple #[.slice (some ⟨U, 0, none⟩) n n, .int .i64 0]) ∧ Sep w.heap.size w Y' (acL m r f f K ab vs ++ [tVb U n g]) from by
    have C := h1.rd_ok 0 (show 0 < 3 by decide) rfl a b ha hb hr
    rw [hA, hB, hn, hg, hvs] at C
    exact C.mono fun e Y' ⟨U, he, _, _, s⟩ => ⟨U, he, s⟩)
  have C2 := hide (show ∀ Y U, Sep w.heap.size w Y (acL m r f f K ab vs ++ [tVb U n g]) → Calls Try.prog 12 #[.pointer (some ⟨m, 0, none⟩), .int .u64 A, .int .u64 B] Y fun e Y' => ∃ U2, e = .returned (.tuple #[.slice (some ⟨U2, 0, none⟩) n n, .int .i64 0]) ∧ Sep w.heap.size w Y' (acL m r f f K ab vs ++ [tVb U n g, tVb U2 n g]) from fun Y U s => by
    have C := s.rd_ok 0 (show 0 < 4 by decide) rfl a b ha hb hr
    rw [hA, hB, hn, hg] at C
    exact C.mono fun e Y' ⟨U, he, _, _, s⟩ => ⟨U, he, s⟩)
  have C3 := hide (show ∀ Y U U2, Sep w.heap.size w Y (acL m r f f K ab vs ++ [tVb U n g, tVb U2 n g]) → Calls Try.prog 18 #[.pointer (some ⟨r, 0, none⟩), .int .u64 A, .int .u64 B] Y fun e Y' => ∃ U3 cp, e = .returned (.tuple #[.slice (some ⟨U3, 0, none⟩) n cp, .int .i64 0]) ∧ Sep w.heap.size w Y' (acL m r f f K ab vs ++ [tVb U n g, tVb U2 n g, tBo U3 n cp g]) from fun Y U U2 s => by
    have C := s.rread_ok 1 (show 1 < 5 by decide) rfl (by omega) a b ha hb (by omega) hr (by omega)
    rw [hA, hB, hn, hg] at C
    exact C)
  have T1 := hide (show ∀ Y U U2 U3 cp, Sep w.heap.size w Y (acL m r f f K ab vs ++ [tVb U n g, tVb U2 n g, tBo U3 n cp g]) → Calls Try.prog 15 #[.slice (some ⟨U, 0, none⟩) n n, .slice (some ⟨U3, 0, none⟩) n cp] Y fun e Y' => e = .returned (.bool true) ∧ Sep w.heap.size w Y' (acL m r f f K ab vs ++ [tVb U n g, tVb U2 n g, tBo U3 n cp g]) from fun Y U U2 U3 cp s => by
    refine (truths_same (bools_vec (s.row 3 (show 3 < 6 by decide) rfl)) (s.bo 5 (show 5 < 6 by decide) rfl) (by omega) (fun _ _ => rfl)).mono ?_
    rintro e Y' ⟨rfl, j, rfl⟩
    exact ⟨rfl, s.read (drewN_below _ j)⟩)
  have T2 := hide (show ∀ Y U2 U3 cp t, Sep w.heap.size w Y (acL m r f f K ab vs ++ [t, tVb U2 n g, tBo U3 n cp g]) → Calls Try.prog 15 #[.slice (some ⟨U2, 0, none⟩) n n, .slice (some ⟨U3, 0, none⟩) n cp] Y fun e Y' => e = .returned (.bool true) ∧ Sep w.heap.size w Y' (acL m r f f K ab vs ++ [t, tVb U2 n g, tBo U3 n cp g]) from fun Y U2 U3 cp t s => by
    refine (truths_same (bools_vec (s.row 4 (show 4 < 6 by decide) rfl)) (s.bo 5 (show 5 < 6 by decide) rfl) (by omega) (fun _ _ => rfl)).mono ?_
    rintro e Y' ⟨rfl, j, rfl⟩
    exact ⟨rfl, s.read (drewN_below _ j)⟩)
  have HWA := hide hWA
  have HAB := hide hab
  rw [hA, hB]
  clear h h1 hA hB ha hb hWA hab hvs hr hbs hb1 hn hg
  have l0 : (0 : Int) ≤ (n : Int) := by omega
  have l1 : (n : Int) ≤ 5000 := by omega
  go_enter Try.func9, Try.ntmps9
  go_upto_region 1 with fail
  rw [HWA.out, HAB.out]
  go_wp2_with fail
  refine C1.out.mono ?_
  rintro e Y2 ⟨U1, rfl, s2⟩
  obtain ⟨u1, u2⟩ := CEL.out Y2 _ s2
  have D2 := hide (C2.out Y2 U1 s2)
  clear s2 C1 C2
  go_wp2_with fail
  refine D2.out.mono ?_
  rintro e Y3 ⟨U2, rfl, s3⟩
  obtain ⟨u3, u4⟩ := CEL.out Y3 _ s3
  have D3 := hide (C3.out Y3 U1 U2 s3)
  clear s3 D2 C3
  go_wp2_with fail
  refine D3.out.mono ?_
  rintro e Y4 ⟨U3, cp, rfl, s4⟩
  have D4 := hide (T1.out Y4 U1 U2 U3 cp s4)
  clear s4 D3 T1
  go_wp2_with fail
  refine D4.out.mono ?_
  rintro e Y5 ⟨rfl, s5⟩
  have D5 := hide (T2.out Y5 U2 U3 cp _ s5)
  clear s5 D4
  go_wp2_with fail
  refine D5.out.mono ?_
  rintro e Y6 ⟨rfl, s6⟩
  have S6 := hide (show Sep w.heap.size w Y6 (acL m r f f K ab vs ++ [tAn U1 n, tVb U2 n g, tBo U3 n cp g]) from s6.anyVec 3 (show 3 < 6 by decide) rfl)
  clear s6 D5 u1 u2 u3 u4 a0 a1 a2
  go_wp2_with fail
  go_loopw [15] (fun vi wr => ∃ k : Nat, vi = .int .i64 (k : Nat) ∧ k ≤ n ∧ Hid (Sep w.heap.size w wr (acL m r f f K ab vs ++ [tAn U1 n, tVb U2 n g, tBo U3 n cp g]))) (fun vi _ => n - (zi vi).toNat)
  case atStart => exact ⟨0, rfl, Nat.zero_le _, S6⟩
  case round =>
    clear S6
    obtain ⟨k, rfl, hk, HS⟩ := hrel
    have k0 : (0 : Int) ≤ (k : Int) := by omega
    have k1 : (k : Int) ≤ 5000 := by omega
    by_cases ck : k < n
    · have dk : decide ((k : Int) < (n : Int)) = true := decide_eq_true (by omega)
      have dk' : decide (k < n) = true := decide_eq_true ck
      have jk : (k : Int) < (n : Int) := by omega
      obtain ⟨y, y1, y2, y3⟩ := HS.out.flip 3 (show 3 < 6 by decide) rfl k ck
      have Y3 := hide y3
      clear y3 T2 FIN
      go_wp2_with fail
      exact ⟨⟨k + 1, by rw [Int.natCast_add]; rfl, by omega, hide (Y3.out _)⟩, by simp [zi]; omega⟩
    · have dk : decide ((k : Int) < (n : Int)) = false := decide_eq_false (by omega)
      have dk' : decide (k < n) = false := decide_eq_false ck
      have D7 := hide (T2.out wr U2 U3 cp _ HS.out)
      clear HS T2 ck
      go_wp2_with fail
      refine D7.out.mono ?_
      rintro e Y8 ⟨rfl, s8⟩
      have FF := hide (FIN.out Y8 _ s8)
      clear s8 D7 FIN
      go_wp2_with fail
      first | exact FF.out | (go_ret; exact FF.out)
set_option maxRecDepth 100000 in
set_option maxHeartbeats 2000000 in
theorem act_3n {w W : World} {m r K : Nat} {f : Nat → Bool} (h : Sep w.heap.size w W [tMk m f, tRl r f K]) (hK : K < 1000) (a b : Nat) (v3 v4 v5 : Value) (ha : a < 18446744073709551616) (hb : b < 18446744073709551616) (hbs : b ≤ 40000 ∨ 1048576 < b) (hr : readE a b ≠ 0) :
    Calls Try.prog 9 #[.pointer (some ⟨m, 0, none⟩), .pointer (some ⟨r, 0, none⟩), .agg #[.int .i64 3, .int .u64 (a : Nat), .int .u64 (b : Nat), v3, v4, v5]] W fun e W' => e = .returned (.bool true) ∧ Sep w.heap.size w W' [tMk m f, tRl r f K] := by
  obtain ⟨R, hR⟩ : ∃ R : Ending → World → Prop, R = fun e W' => e = .returned (.bool true) ∧ Sep w.heap.size w W' [tMk m f, tRl r f K] := ⟨_, rfl⟩
  rw [← hR]
  have FIN := hide (show ∀ W' l', Sep w.heap.size w W' ([tMk m f, tRl r f K] ++ l') → R (.returned (.bool true)) W' from fun W' l' h => by rw [hR]; exact ⟨rfl, h.fewer⟩)
  clear hR
  obtain ⟨A, hA⟩ : ∃ z : Int, (a : Int) = z := ⟨_, rfl⟩
  obtain ⟨B, hB⟩ : ∃ z : Int, (b : Int) = z := ⟨_, rfl⟩
  obtain ⟨EE, hEE⟩ : ∃ z, readE a b = z := ⟨_, rfl⟩
  have h1 := acL_start h #[.int .i64 3, .int .u64 A, .int .u64 B, v3, v4, v5]
  obtain ⟨WA, hWA⟩ : ∃ WA, W.alloc (.cells #[.int .i64 3, .int .u64 A, .int .u64 B, v3, v4, v5] 36) = WA := ⟨_, rfl⟩
  obtain ⟨ab, hab⟩ : ∃ ab, W.heap.size = ab := ⟨_, rfl⟩
  rw [hWA, hab] at h1
  have a0 := acL_cell (l' := []) h1 0 _ rfl
  have a1 := acL_cell (l' := []) h1 1 _ rfl
  have a2 := acL_cell (l' := []) h1 2 _ rfl
  obtain ⟨vs, hvs⟩ : ∃ vs : Array Value, #[.int .i64 3, .int .u64 A, .int .u64 B, v3, v4, v5] = vs := ⟨_, rfl⟩
  have CEL := hide (show ∀ Y, Sep w.heap.size w Y (acL m r f f K ab vs) → Y.cell? ⟨ab, 1, none⟩ = some (.int .u64 A) ∧ Y.cell? ⟨ab, 2, none⟩ = some (.int .u64 B) from fun Y s => ⟨acL_cell (l' := []) s 1 _ (by rw [← hvs]; rfl), acL_cell (l' := []) s 2 _ (by rw [← hvs]; rfl)⟩)
  rw [hvs] at h1
  have C1 := hide (show ∀ Y, Sep w.heap.size w Y (acL m r f f K ab vs) → Calls Try.prog 12 #[.pointer (some ⟨m, 0, none⟩), .int .u64 A, .int .u64 B] Y fun e Y' => e = .returned (.tuple #[.slice none 0 0, .int .i64 EE]) ∧ Sep w.heap.size w Y' (acL m r f f K ab vs) from fun Y s => by
    have C := s.rd 0 (show 0 < 3 by decide) rfl a b ha hb
    rw [hA, hB, hEE] at C
    refine C.mono ?_
    rintro e Y' ⟨v, rfl, hv, _, s⟩
    unfold ReadV at hv
    rw [if_neg hr] at hv
    exact ⟨by rw [hv], s⟩)
  have C3 := hide (show ∀ Y, Sep w.heap.size w Y (acL m r f f K ab vs) → Calls Try.prog 18 #[.pointer (some ⟨r, 0, none⟩), .int .u64 A, .int .u64 B] Y fun e Y' => e = .returned (.tuple #[.slice none 0 0, .int .i64 EE]) ∧ Sep w.heap.size w Y' (acL m r f f K ab vs) from fun Y s => by
    have C := s.rread 1 (show 1 < 3 by decide) rfl (by omega) a b ha hb (by omega)
    rw [hA, hB, hEE] at C
    refine C.mono ?_
    rintro e Y' ⟨v, rfl, hv, _, s⟩
    unfold RReadV at hv
    rw [if_neg hr] at hv
    exact ⟨by rw [hv], s⟩)
  have T1 := hide (show ∀ Y, Sep w.heap.size w Y (acL m r f f K ab vs) → Calls Try.prog 15 #[.slice none 0 0, .slice none 0 0] Y fun e Y' => e = .returned (.bool true) ∧ Sep w.heap.size w Y' (acL m r f f K ab vs) from fun Y s => by
    refine (truths_same (bools_none Y) (bools_none Y) (by omega) (fun _ _ => rfl)).mono ?_
    rintro e Y' ⟨rfl, j, rfl⟩
    exact ⟨rfl, s.read (drewN_below _ j)⟩)
  have ne : (EE != EE) = false := by simp
  have H1 := hide h1
  have HWA := hide hWA
  have HAB := hide hab
  rw [hA, hB]
  clear h h1 hA hB ha hb hWA hab hvs hr hbs hEE
  go_enter Try.func9, Try.ntmps9
  go_upto_region 1 with fail
  rw [HWA.out, HAB.out]
  have D1 := hide (C1.out WA H1.out)
  clear H1
  go_wp2_with fail
  refine D1.out.mono ?_
  rintro e Y2 ⟨rfl, s2⟩
  obtain ⟨u1, u2⟩ := CEL.out Y2 s2
  have D2 := hide (C1.out Y2 s2)
  clear s2 C1 D1
  go_wp2_with fail
  refine D2.out.mono ?_
  rintro e Y3 ⟨rfl, s3⟩
  obtain ⟨u3, u4⟩ := CEL.out Y3 s3
  have D3 := hide (C3.out Y3 s3)
  clear s3 D2 C3
  go_wp2_with fail
  refine D3.out.mono ?_
  rintro e Y4 ⟨rfl, s4⟩
  have D4 := hide (T1.out Y4 s4)
  clear s4 D3
  go_wp2_with fail
  refine D4.out.mono ?_
  rintro e Y5 ⟨rfl, s5⟩
  have D5 := hide (T1.out Y5 s5)
  clear s5 D4
  go_wp2_with fail
  refine D5.out.mono ?_
  rintro e Y6 ⟨rfl, s6⟩
  have S6 := hide s6
  clear s6 D5 u1 u2 u3 u4 a0 a1 a2
  go_wp2_with fail
  go_loopw [15] (fun vi wr => vi = .int .i64 0 ∧ Hid (Sep w.heap.size w wr (acL m r f f K ab vs))) (fun vi _ => 0)
  case atStart => exact ⟨rfl, S6⟩
  case round =>
    clear S6
    obtain ⟨rfl, HS⟩ := hrel
    have D7 := hide (T1.out wr HS.out)
    clear HS T1
    go_wp2_with fail
    refine D7.out.mono ?_
    rintro e Y8 ⟨rfl, s8⟩
    have FF := hide (FIN.out Y8 [_] s8)
    clear s8 D7 FIN
    go_wp2_with fail
    first | exact FF.out | (go_ret; exact FF.out)
end Go.Proofs.Ytnhllnepnpmegaa

/- MasksPlay, walked. -/
namespace Go.Proofs.Ytnhllnepnpmegaa
open Go.ChangeShapes Go.WideShapes Go.ChangeAt Go.RowKit Go.Shelf Go.Proofs.Rx Go.Maps Go.Proofs.Bt
set_option linter.unusedVariables false
set_option linter.unusedSimpArgs false

attribute [local go_sem] Oper.semAt_some

theorem act_3 {w W : World} {m r K : Nat} {f : Nat → Bool} (h : Sep w.heap.size w W (plL m r f K)) (hK : K < 1000) (a b : Nat) (v3 v4 v5 : Value) (ha : a < 18446744073709551616) (hb : b < 18446744073709551616) (hbs : b ≤ 40000 ∨ 1048576 < b) :
    Calls Try.prog 9 #[.pointer (some ⟨m, 0, none⟩), .pointer (some ⟨r, 0, none⟩), .agg #[.int .i64 3, .int .u64 (a : Nat), .int .u64 (b : Nat), v3, v4, v5]] W fun e W' => e = .returned (.bool true) ∧ Sep w.heap.size w W' (plL m r f K) := by
  by_cases hr : readE a b = 0
  · have e : Right a b ∧ ¬ 1048576 < b := by
      unfold readE at hr
      split at hr
      · rename_i c
        split at hr
        · cases hr
        · exact ⟨c, by assumption⟩
      · cases hr
    obtain ⟨⟨r1, r2, r3, r4, r5⟩, e2⟩ := e
    exact act_3y h hK a b v3 v4 v5 ha hb (by omega) hr (by omega)
  · exact act_3n h hK a b v3 v4 v5 ha hb hbs hr
theorem act_any {w W : World} {m r K : Nat} {f : Nat → Bool} (h : Sep w.heap.size w W (plL m r f K)) (hK : K < 1000) (x : ActV) (hx : x.Ok) (hX : BoolsAt w x.o x.l x.c x.X) (hl : x.light) :
    Calls Try.prog 9 #[.pointer (some ⟨m, 0, none⟩), .pointer (some ⟨r, 0, none⟩), .agg #[.int .i64 x.what, .int .u64 (x.a : Nat), .int .u64 (x.b : Nat), .int .i64 x.wd, .slice x.o x.l x.c, .int .u64 (x.n : Nat)]] W fun e W' => e = .returned (.bool true) ∧ ∃ f', Sep w.heap.size w W' (plL m r f' (K + 1)) := by
  obtain ⟨what, a, b, wd, o, l, c, X, n⟩ := x
  obtain ⟨a0, a1, w0, w1, ab, bb, nb, lb⟩ := hx
  obtain ⟨l1, l2⟩ := hl
  dsimp only at *
  by_cases h1 : what = 1
  · subst h1; exact act_1 h hK a b n l c wd o X ab bb nb w0 w1 l1 hX
  · by_cases h2 : what = 2
    · subst h2; exact act_2 h hK a b _ _ _ ab bb
    · by_cases h3 : what = 3
      · subst h3
        exact (act_3 h hK a b _ _ _ ab bb (by omega)).mono fun e W' ⟨he, s⟩ => ⟨he, f, s.asK (Nat.le_succ K)⟩
      · by_cases h4 : what = 4
        · subst h4
          exact (act_4 h hK a b _ _ _ ab bb).mono fun e W' ⟨he, s⟩ => ⟨he, f, s.asK (Nat.le_succ K)⟩
        · exact (act_0 h what _ _ _ _ _ h1 h2 h3 h4).mono fun e W' ⟨he, s⟩ => ⟨he, f, s.asK (Nat.le_succ K)⟩
theorem ref_made {N : Nat} {w W : World} {l : List Thing} (h : Sep N w W l) : Sep N w (W.alloc (.cells #[.slice none 0 0] 29)) (l ++ [tRl W.heap.size (fun _ => false) 0]) :=
  h.more (below_alloc W _) (tRl W.heap.size (fun _ => false) 0) (F' := fun z => z = W.heap.size) ⟨0, Nat.le_refl _, .slice none 0 0, [], ⟨World.alloc_heap_new W _, ⟨rfl, .inl ⟨rfl, rfl⟩⟩, fun x hx => by cases hx⟩, rfl, rfl, fun z => ⟨.inl, fun u => by
    rcases u with u | u | ⟨x, hx, _⟩
    · exact u
    · cases u
    · cases hx⟩⟩ (fun z hz => by rw [hz]; exact Nat.le_refl _)
set_option maxRecDepth 100000 in
set_option maxHeartbeats 4000000 in
theorem play_any {w : World} {o : Option Addr} {len cap : Nat} {X : Nat → ActV} (hX : ActsAt w o len cap X) (hr : ∀ i, (X i).l ≤ reachBytes) (hlen : len ≤ maxLen) :
    Calls Try.prog 3 #[.slice o len cap] w fun e W' => e = .returned (.bool true) ∧ Below w.heap.size w W' := by
  obtain ⟨R, hR⟩ : ∃ R : Ending → World → Prop, R = fun e W' => e = .returned (.bool true) ∧ Below w.heap.size w W' := ⟨_, rfl⟩
  rw [← hR]
  have DONE := hide (show ∀ W', Below w.heap.size w W' → R (.returned (.bool true)) W' from fun W' b => by rw [hR]; exact ⟨rfl, b⟩)
  clear hR
  have CH := hide (heavy_any w o len cap X hX hr hlen)
  have HX := hide hX
  clear hX hr hlen
  go_enter Try.func3, Try.ntmps3
  go_wp2_with fail
  refine CH.out.mono ?_
  rintro e W0 ⟨he, b0⟩
  clear CH
  rcases he with rfl | ⟨rfl, hn, hli⟩
  · have FF := hide (DONE.out W0 b0)
    clear DONE HX b0
    go_wp2_with fail
    first | exact FF.out | (go_ret; exact FF.out)
  have s0 : Sep w.heap.size w W0 [] := (Sep.start w).read b0
  have C0 := hide s0.new
  have HL := hide hli
  have n9 : (len : Int) ≤ 60 := by omega
  have n0 : (0 : Int) ≤ (len : Int) := by omega
  have HN := hide hn
  have AW := hide awake15
  clear s0 hli b0
  go_wp2_with fail
  refine C0.out.mono ?_
  rintro e W1 ⟨m, rfl, h1⟩
  have H2 := hide (show Sep w.heap.size w (W1.alloc (.cells #[.slice none 0 0] 29)) (plL m W1.heap.size (fun _ => false) 0) from ref_made h1)
  clear C0 h1
  go_wp2_with fail
  obtain ⟨r, hr⟩ : ∃ r, W1.heap.size = r := ⟨_, rfl⟩
  obtain ⟨W2, hW2⟩ : ∃ W2, W1.alloc (.cells #[.slice none 0 0] 29) = W2 := ⟨_, rfl⟩
  rw [hr, hW2] at H2
  rw [hr, hW2]
  clear hr hW2
  go_loopw [5] (fun vi wr => ∃ i : Nat, vi = .int .i64 (i : Nat) ∧ i ≤ len ∧ Hid (∃ f, Sep w.heap.size w wr (plL m r f i))) (fun vi _ => len - (zi vi).toNat)
  case atStart => exact ⟨0, rfl, Nat.zero_le _, hide ⟨_, H2.out⟩⟩
  case round =>
    clear H2
    obtain ⟨i, rfl, hi, HP⟩ := hrel
    have i0 : (0 : Int) ≤ (i : Int) := by omega
    have i9 : (i : Int) ≤ 60 := by omega
    by_cases c : i < len
    · have d : decide ((i : Int) < (len : Int)) = true := decide_eq_true (by omega)
      have d' : decide (i < len) = true := decide_eq_true c
      have ii : (i : Int) < (len : Int) := by omega
      obtain ⟨f, h⟩ := HP.out
      obtain ⟨q0, f0, rfl, hb0, hcell⟩ := HX.out.at c
      obtain ⟨x0, x1, x2, x3, x4, x5⟩ := hcell i c
      have be : Below w.heap.size w wr := h.be
      have x0 := (be.cell (p := ⟨q0, f0 + i * 6, none⟩) hb0).trans x0
      have x1 := (be.cell (p := ⟨q0, f0 + i * 6 + 1, none⟩) hb0).trans x1
      have x2 := (be.cell (p := ⟨q0, f0 + i * 6 + 2, none⟩) hb0).trans x2
      have x3 := (be.cell (p := ⟨q0, f0 + i * 6 + 3, none⟩) hb0).trans x3
      have x4 := (be.cell (p := ⟨q0, f0 + i * 6 + 4, none⟩) hb0).trans x4
      have x5 := (be.cell (p := ⟨q0, f0 + i * 6 + 5, none⟩) hb0).trans x5
      have C1 := act_any h (by omega) (X i) (HX.out.ok i) (HX.out.ms i) (HL.out i c)
      obtain ⟨z0, hz0⟩ : ∃ z, (X i).what = z := ⟨_, rfl⟩
      obtain ⟨z1, hz1⟩ : ∃ z : Int, ((X i).a : Int) = z := ⟨_, rfl⟩
      obtain ⟨z2, hz2⟩ : ∃ z : Int, ((X i).b : Int) = z := ⟨_, rfl⟩
      obtain ⟨z3, hz3⟩ : ∃ z, (X i).wd = z := ⟨_, rfl⟩
      obtain ⟨z4, hz4⟩ : ∃ z, Value.slice (X i).o (X i).l (X i).c = z := ⟨_, rfl⟩
      obtain ⟨z5, hz5⟩ : ∃ z : Int, ((X i).n : Int) = z := ⟨_, rfl⟩
      rw [hz0] at x0 C1
      rw [hz1] at x1 C1
      rw [hz2] at x2 C1
      rw [hz3] at x3 C1
      rw [hz4] at x4 C1
      rw [hz5] at x5 C1
      have D1 := hide C1
      clear C1 h hb0 hcell be hz0 hz1 hz2 hz3 hz4 hz5 HP HL
      go_wp2_with fail
      refine D1.out.mono ?_
      rintro e W3 ⟨rfl, f', h3⟩
      have H3 := hide h3
      clear D1 h3 x0 x1 x2 x3 x4 x5
      go_wp2_with fail
      exact ⟨⟨i + 1, by rw [Int.natCast_add]; rfl, by omega, hide ⟨f', H3.out⟩⟩, by simp [zi]; omega⟩
    · have d : decide ((i : Int) < (len : Int)) = false := decide_eq_false (by omega)
      have d' : decide (i < len) = false := decide_eq_false c
      obtain ⟨f, h⟩ := HP.out
      obtain rfl : i = len := by omega
      have H := hide h
      clear h HP c hi
      go_wp2_with fail
      go_loopw [6] (fun vi wr => ∃ k : Nat, vi = .int .i64 (k : Nat) ∧ k ≤ i ∧ Hid (Sep w.heap.size w wr (plL m r f i))) (fun vi _ => i - (zi vi).toNat)
      case atStart => exact ⟨0, rfl, Nat.zero_le _, H⟩
      case round =>
        clear H
        obtain ⟨k, rfl, hk, HP⟩ := hrel
        have k0 : (0 : Int) ≤ (k : Int) := by omega
        have k9 : (k : Int) ≤ 60 := by omega
        by_cases c : k < i
        · have d : decide ((k : Int) < (i : Int)) = true := decide_eq_true (by omega)
          have d' : decide (k < i) = true := decide_eq_true c
          have ii : (k : Int) < (i : Int) := by omega
          obtain ⟨q0, f0, rfl, hb0, hcell⟩ := HX.out.at c
          obtain ⟨x0, x1, x2, x3, x4, x5⟩ := hcell k c
          have XC := hide (show ∀ W', Sep w.heap.size w W' (plL m r f i) → W'.cell? ⟨q0, f0 + k * 6 + 1, none⟩ = some (.int .u64 ((X k).a : Nat)) ∧ W'.cell? ⟨q0, f0 + k * 6 + 2, none⟩ = some (.int .u64 ((X k).b : Nat)) from fun W' s => ⟨(s.be.cell (p := ⟨q0, f0 + k * 6 + 1, none⟩) hb0).trans x1, (s.be.cell (p := ⟨q0, f0 + k * 6 + 2, none⟩) hb0).trans x2⟩)
          have ok := HX.out.ok k
          have C1 := act_4 (HP.out.read (drew_below wr)) (by have := HN.out; omega) (X k).a (X k).b (.int .i64 0) (.slice none 0 0) (.int .u64 0) ok.ab ok.bb
          have C3 := hide (show ∀ W', Sep w.heap.size w W' (plL m r f i) → 64 ≤ (X k).a → (X k).b ≤ 4096 → _ from fun W' s g1 g2 => act_3 s (by have := HN.out; omega) ((X k).a - 64) ((X k).b + 128) (.int .i64 0) (.slice none 0 0) (.int .u64 0) (by have := ok.ab; omega) (by omega) (by omega))
          obtain ⟨z1, hz1⟩ : ∃ z : Int, ((X k).a : Int) = z := ⟨_, rfl⟩
          obtain ⟨z2, hz2⟩ : ∃ z : Int, ((X k).b : Int) = z := ⟨_, rfl⟩
          have g0 : 0 ≤ z1 := by omega
          have g1 : z1 < 18446744073709551616 := by have := ok.ab; omega
          have g2 : 0 ≤ z2 := by omega
          have g3 : z2 < 18446744073709551616 := by have := ok.bb; omega
          rw [hz1, hz2] at C1
          simp only [hz1, hz2] at XC
          obtain ⟨y1, y2⟩ := XC.out wr HP.out
          have D1 := hide C1
          clear C1 x0 x1 x2 x3 x4 x5 hb0 hcell HP HL
          go_wp2_with fail
          go_region_held3 (fun w' : World => w'.cell? ⟨q0, f0 + k * 6 + 1, none⟩ = some (.int .u64 z1) ∧ w'.cell? ⟨q0, f0 + k * 6 + 2, none⟩ = some (.int .u64 z2)) (first | (go_keep; done)) (first
            | (go_at_call 9; refine D1.out.mono ?_; rintro e W3 ⟨rfl, h3⟩; obtain ⟨t1, t2⟩ := XC.out W3 h3; have H3 := hide h3; clear h3 D1))
          by_cases g4 : z2 ≤ 4096
          · have e4 : decide (z2 ≤ 4096) = true := decide_eq_true g4
            by_cases g5 : 64 ≤ z1
            · have e5 : decide (64 ≤ z1) = true := decide_eq_true g5
              have p1 : IntKind.u64.wrap (z1 - 64) = z1 - 64 := by rw [IntKind.wrap_u64]; omega
              have p2 : IntKind.u64.wrap (z2 + 128) = z2 + 128 := by rw [IntKind.wrap_u64]; omega
              have C4 := C3.out W3.drew (H3.out.read (drew_below W3)) (by omega) (by omega)
              rw [show (((X k).a - 64 : Nat) : Int) = z1 - 64 by omega, show (((X k).b + 128 : Nat) : Int) = z2 + 128 by omega] at C4
              have D4 := hide C4
              clear C4 C3 ok hz1 hz2
              go_wp2_with fail
              go_region_held3 (fun w' : World => w'.cell? ⟨q0, f0 + k * 6 + 1, none⟩ = some (.int .u64 z1) ∧ w'.cell? ⟨q0, f0 + k * 6 + 2, none⟩ = some (.int .u64 z2)) (first | (go_keep; done)) (first
                | (go_at_call 9; (try simp only [p1, p2]); refine D4.out.mono ?_; rintro e W4 ⟨rfl, h4⟩; obtain ⟨t3, t4⟩ := XC.out W4 h4; have H4 := hide h4; clear h4 D4))
              go_wp2_with fail
              exact ⟨⟨k + 1, by rw [Int.natCast_add]; rfl, by omega, H4⟩, by simp [zi]; omega⟩
            · have e5 : decide (64 ≤ z1) = false := decide_eq_false g5
              clear C3 ok hz1 hz2
              go_wp2_with fail
              go_quiet (fail)
              go_wp2_with fail
              exact ⟨⟨k + 1, by rw [Int.natCast_add]; rfl, by omega, hide (H3.out.read (drewN_below W3 _))⟩, by simp [zi]; omega⟩
          · have e4 : decide (z2 ≤ 4096) = false := decide_eq_false g4
            clear C3 ok hz1 hz2
            go_wp2_with fail
            go_quiet (fail)
            go_wp2_with fail
            exact ⟨⟨k + 1, by rw [Int.natCast_add]; rfl, by omega, hide (H3.out.read (drewN_below W3 _))⟩, by simp [zi]; omega⟩
        · have d : decide ((k : Int) < (i : Int)) = false := decide_eq_false (by omega)
          have d' : decide (k < i) = false := decide_eq_false c
          have D9 := hide ((AW.out wr).mono (R' := fun e W' => e = .returned (.bool true) ∧ R (.returned (.bool true)) W') fun e W' ⟨he, b⟩ => ⟨he, DONE.out W' (HP.out.be.trans (b.mono HP.out.nw))⟩)
          clear HP c HX HL DONE AW
          go_wp2_with fail
          refine D9.out.mono ?_
          rintro e W4 ⟨rfl, r4⟩
          have FF := hide r4
          clear r4 D9
          go_wp2_with fail
          first | exact FF.out | (go_ret; exact FF.out)
end Go.Proofs.Ytnhllnepnpmegaa
