/- act, what is written: contract. -/
import Derived.Test.YtnhllnepnpmegaaJ19
import Derived.Test.YtnhllnepnpmegaaJ20
namespace Go.Proofs.Ytnhllnepnpmegaa
open Go.ChangeShapes Go.WideShapes Go.ChangeAt Go.RowKit Go.Shelf Go.Proofs.Rx Go.Maps Go.Proofs.Bt
set_option linter.unusedVariables false
set_option linter.unusedSimpArgs false

attribute [local go_sem] Oper.semAt_some

theorem Sep.rwrite {N : Nat} {w W : World} {l : List Thing} {r K : Nat} {f : Nat → Bool} (h : Sep N w W l) (i : Nat) (hi : i < l.length) (e : l[i] = tRl r f K) (hK : K < 1000000) (a b n : Nat) (ha : a < 18446744073709551616) (hb : b < 18446744073709551616) (hn : n < 18446744073709551616) (wd : Int) (h0 : -9223372036854775808 ≤ wd) (h9 : wd ≤ 9223372036854775807) {o : Option Addr} {len cap : Nat} {X : Nat → Bool} (hl : len ≤ 9223372036854775807) (hX : BoolsAt W o len cap X) :
    Calls Try.prog 16 #[.pointer (some ⟨r, 0, none⟩), .int .u64 (a : Nat), .int .u64 (b : Nat), .agg #[.int .i64 wd, .slice o len cap], .int .u64 (n : Nat)] W fun e W' => e = .returned (.int .i64 (writeE a b wd len n)) ∧ Sep N w W' (l.set i (tRl r (writeF f a b wd len n X) (K + 1))) :=
  h.step i hi _ (R := fun e _ => e = .returned (.int .i64 (writeE a b wd len n))) (fun F hF => by
    rw [e] at hF
    obtain ⟨k, hk, hF⟩ := hF
    exact (rwrite_any hF (by omega) a b n ha hb hn wd h0 h9 hl hX).mono fun _ _ ⟨x, k', hk', F', y, z⟩ => ⟨x, F', ⟨k', by omega, y⟩, z⟩)
/-- The law's masks and the reference's. -/
abbrev plL (m r : Nat) (f : Nat → Bool) (K : Nat) : List Thing := [tMk m f, tRl r f K]
def ActV.cells (x : ActV) : Array Value := #[.int .i64 x.what, .int .u64 (x.a : Nat), .int .u64 (x.b : Nat), .int .i64 x.wd, .slice x.o x.l x.c, .int .u64 (x.n : Nat)]
structure Boxed (p : Prop) : Prop where
  out : p
theorem leaf_cut {L G : Prop} (h : Boxed L → G) (l : L) : G := h ⟨l⟩
set_option maxRecDepth 100000 in
set_option maxHeartbeats 4000000 in
theorem act_1 {w W : World} {m r K : Nat} {f : Nat → Bool} (h : Sep w.heap.size w W (plL m r f K)) (hK : K < 1000) (a b n len c : Nat) (WD : Int) (o : Option Addr) (X : Nat → Bool) (ha : a < 18446744073709551616) (hb : b < 18446744073709551616) (hn : n < 18446744073709551616) (h0 : -9223372036854775808 ≤ WD) (h9 : WD ≤ 9223372036854775807) (hl : len ≤ 20000) (hX : BoolsAt w o len c X) :
    Calls Try.prog 9 #[.pointer (some ⟨m, 0, none⟩), .pointer (some ⟨r, 0, none⟩), .agg #[.int .i64 1, .int .u64 (a : Nat), .int .u64 (b : Nat), .int .i64 WD, .slice o len c, .int .u64 (n : Nat)]] W fun e W' => e = .returned (.bool true) ∧ ∃ f', Sep w.heap.size w W' (plL m r f' (K + 1)) := by
  obtain ⟨R, hR⟩ : ∃ R : Ending → World → Prop, R = fun e W' => e = .returned (.bool true) ∧ ∃ f', Sep w.heap.size w W' (plL m r f' (K + 1)) := ⟨_, rfl⟩
  rw [← hR]
  have FIN := hide (show ∀ W' f' l', Sep w.heap.size w W' (plL m r f' (K + 1) ++ l') → R (.returned (.bool true)) W' from fun W' f' l' h => by rw [hR]; exact ⟨rfl, f', h.fewer⟩)
  clear hR
  have HX := hide hX
  have HLE := hide (show len ≤ 100000 by omega)
  have HLK := hide (show len < 200000 by omega)
  obtain ⟨A, hA⟩ : ∃ z : Int, (a : Int) = z := ⟨_, rfl⟩
  obtain ⟨B, hB⟩ : ∃ z : Int, (b : Int) = z := ⟨_, rfl⟩
  obtain ⟨NN, hN⟩ : ∃ z : Int, (n : Int) = z := ⟨_, rfl⟩
  obtain ⟨vs, hvs⟩ : ∃ vs : Array Value, #[.int .i64 1, .int .u64 A, .int .u64 B, .int .i64 WD, .slice o len c, .int .u64 NN] = vs := ⟨_, rfl⟩
  obtain ⟨WA, hWA⟩ : ∃ WA, W.alloc (.cells #[.int .i64 1, .int .u64 A, .int .u64 B, .int .i64 WD, .slice o len c, .int .u64 NN] 36) = WA := ⟨_, rfl⟩
  obtain ⟨ab, hab⟩ : ∃ ab, W.heap.size = ab := ⟨_, rfl⟩
  have h1 : Sep w.heap.size w WA [tMk m f, tRl r f K, tBk ab 36 vs, Thing.none, Thing.none, Thing.none] := by
    rw [← hWA, ← hab, ← hvs]
    exact (h.more (below_alloc W _) (tBk W.heap.size 36 _) (F' := fun z => z = W.heap.size) ⟨World.alloc_heap_new W _, fun z => Iff.rfl⟩ (fun z hz => by rw [hz]; exact Nat.le_refl _)).nones 3
  have CEL := hide (show ∀ Y x1 x2 l', Sep w.heap.size w Y ([x1, x2, tBk ab 36 vs] ++ l') → Y.cell? ⟨ab, 0, none⟩ = some (.int .i64 1) ∧ Y.cell? ⟨ab, 1, none⟩ = some (.int .u64 A) ∧ Y.cell? ⟨ab, 2, none⟩ = some (.int .u64 B) ∧ Y.cell? ⟨ab, 3, none⟩ = some (.int .i64 WD) ∧ Y.cell? ⟨ab, 4, none⟩ = some (.slice o len c) ∧ Y.cell? ⟨ab, 5, none⟩ = some (.int .u64 NN) from fun Y x1 x2 l' s => by
    have k := s.fewer.bk 2 (show 2 < 3 by decide) rfl
    rw [← hvs] at k
    exact ⟨k.cell 0 _ rfl, k.cell 1 _ rfl, k.cell 2 _ rfl, k.cell 3 _ rfl, k.cell 4 _ rfl, k.cell 5 _ rfl⟩)
  have SC := hide (show ∀ Y s3 s4 s5, Sep w.heap.size w Y [tMk m f, tRl r f K, tBk ab 36 vs, s3, s4, s5] → (fun w' : World => w'.cell? ⟨ab, 3, none⟩ = some (.int .i64 WD) ∧ w'.cell? ⟨ab, 4, none⟩ = some (.slice o len c)) Y from fun Y s3 s4 s5 s => ⟨(CEL.out Y _ _ [s3, s4, s5] s).2.2.2.1, (CEL.out Y _ _ [s3, s4, s5] s).2.2.2.2.1⟩)
  have H1 := hide h1
  have a0 := (CEL.out WA _ _ [Thing.none, Thing.none, Thing.none] h1).1
  have HWA := hide hWA
  have HAB := hide hab
  clear h1 hWA hab hvs hX h
  rw [hA, hB, hN]
  have HA := hide hA
  have HB := hide hB
  have HN := hide hN
  clear hA hB hN
  go_enter Try.func9, Try.ntmps9
  go_upto_region 1 with fail
  rw [HWA.out, HAB.out]
  go_wp2_with fail
  apply leaf_cut
  case h =>
    intro LEAF
    have HS := hide (show Sep w.heap.size w WA.drew [tMk m f, tRl r f K, tBk ab 36 vs, Thing.none, Thing.none, Thing.none] from H1.out.read (drew_below WA))
    refine wp_region_held_drew (S := fun w' : World => w'.cell? ⟨ab, 3, none⟩ = some (.int .i64 WD) ∧ w'.cell? ⟨ab, 4, none⟩ = some (.slice o len c)) (by kernel_rfl) (SC.out _ _ _ _ HS.out) (fun hHeld => ?_)
    generalize WA.drew = Y at HS hHeld ⊢
    -- {tree
    refine wpAnyH_take (i := 0) (oi := _) (v := ?_) rfl (by kernel_rfl) (by kernel_rfl) (by kernel_rfl) (fun _ _ _ h => h) (Or.inl ⟨by rfl, ?_⟩) (by assumption) ?_
    rotate_left
    · (intro w hSw; (try dsimp only at hSw); go_simp; try with_reducible rfl)
    try simp only [Act.put, List.setIfInBounds_toArray, List.set_cons_zero, List.set_cons_succ]
    refine wpAnyH_take (i := 1) (oi := _) (v := ?_) rfl (by kernel_rfl) (by kernel_rfl) (by kernel_rfl) (fun _ _ _ h => h) (Or.inl ⟨by rfl, ?_⟩) (by assumption) ?_
    rotate_left
    · (intro w hSw; (try dsimp only at hSw); go_simp; try with_reducible rfl)
    try simp only [Act.put, List.setIfInBounds_toArray, List.set_cons_zero, List.set_cons_succ]
    refine wpAnyH_take (i := 2) (oi := _) (v := ?_) rfl (by kernel_rfl) (by kernel_rfl) (by kernel_rfl) (fun _ _ _ h => h) (Or.inl ⟨by rfl, ?_⟩) (by assumption) ?_
    rotate_left
    · (intro w hSw; (try dsimp only at hSw); go_simp; try with_reducible rfl)
    try simp only [Act.put, List.setIfInBounds_toArray, List.set_cons_zero, List.set_cons_succ]
    refine wpAnyH_take (i := 4) (oi := _) (v := ?_) rfl (by kernel_rfl) (by kernel_rfl) (by kernel_rfl) (fun _ _ _ h => h) (Or.inl ⟨by rfl, ?_⟩) (by assumption) ?_
    rotate_left
    · (intro w hSw; (try dsimp only at hSw); go_simp; try with_reducible rfl)
    try simp only [Act.put, List.setIfInBounds_toArray, List.set_cons_zero, List.set_cons_succ]
    refine wpAnyH_take (i := 5) (oi := _) (v := ?_) rfl (by kernel_rfl) (by kernel_rfl) (by kernel_rfl) (fun _ _ _ h => h) (Or.inl ⟨by rfl, ?_⟩) (by assumption) ?_
    rotate_left
    · (intro w hSw; (try dsimp only at hSw); go_simp; try with_reducible rfl)
    try simp only [Act.put, List.setIfInBounds_toArray, List.set_cons_zero, List.set_cons_succ]
    refine wpAnyH_take (i := 6) (oi := _) (v := ?_) rfl (by kernel_rfl) (by kernel_rfl) (by kernel_rfl) (fun _ _ _ h => h) (Or.inl ⟨by rfl, ?_⟩) (by assumption) ?_
    rotate_left
    · (intro w hSw; (try dsimp only at hSw); go_simp; try with_reducible rfl)
    try simp only [Act.put, List.setIfInBounds_toArray, List.set_cons_zero, List.set_cons_succ]
    refine wpAnyH_take (i := 10) (oi := _) (v := ?_) rfl (by kernel_rfl) (by kernel_rfl) (by kernel_rfl) (fun _ _ _ h => h) (Or.inl ⟨by rfl, ?_⟩) (by assumption) ?_
    rotate_left
    · (intro w hSw; (try dsimp only at hSw); go_simp; try with_reducible rfl)
    try simp only [Act.put, List.setIfInBounds_toArray, List.set_cons_zero, List.set_cons_succ]
    refine wpAnyH_take (i := 11) (oi := _) (v := ?_) rfl (by kernel_rfl) (by kernel_rfl) (by kernel_rfl) (fun _ _ _ h => h) (Or.inl ⟨by rfl, ?_⟩) (by assumption) ?_
    rotate_left
    · (intro w hSw; (try dsimp only at hSw); go_simp; try with_reducible rfl)
    try simp only [Act.put, List.setIfInBounds_toArray, List.set_cons_zero, List.set_cons_succ]
    refine wpAnyH_take (i := 12) (oi := _) (v := ?_) rfl (by kernel_rfl) (by kernel_rfl) (by kernel_rfl) (fun _ _ _ h => h) (Or.inl ⟨by rfl, ?_⟩) (by assumption) ?_
    rotate_left
    · (intro w hSw; (try dsimp only at hSw); go_simp; try with_reducible rfl)
    try simp only [Act.put, List.setIfInBounds_toArray, List.set_cons_zero, List.set_cons_succ]
    refine wpAnyH_take (i := 13) (oi := _) (v := ?_) rfl (by kernel_rfl) (by kernel_rfl) (by kernel_rfl) (fun _ _ _ h => h) (Or.inl ⟨by rfl, ?_⟩) (by assumption) ?_
    rotate_left
    · (intro w hSw; (try dsimp only at hSw); go_simp; try with_reducible rfl)
    try simp only [Act.put, List.setIfInBounds_toArray, List.set_cons_zero, List.set_cons_succ]
    refine wpAnyH_ready (rs := [3, 8, 16]) (by kernel_rfl) (by simp) ?_
    refine AllReadyH.cons (o := _) rfl (fun KA hKA => ?_) (AllReadyH.cons (o := _) rfl (fun KA hKA => ?_) (AllReadyH.cons (o := _) rfl (fun KA hKA => ?_) AllReadyH.nil))
    ·
      go_simp
      have S2 := hide (show Sep w.heap.size w (Y.alloc (.cells #[] 4)) [tMk m f, tRl r f K, tBk ab 36 vs, tRw (.slice (some ⟨Y.heap.size, 0, none⟩) 0 0) 0 [], Thing.none, Thing.none] from HS.out.row0 3 (show 3 < 6 by decide) rfl)
      generalize Y.heap.size = b3 at S2 ⊢
      generalize Y.alloc (.cells #[] 4) = Y1 at S2 ⊢
      have HS2 := S2
      clear S2
      refine hKA.out _ _ (SC.out _ _ _ _ HS2.out) (fun hHeld => ?_)
      clear hKA KA HS
      have HS := HS2
      clear HS2
      try simp only [Act.put, List.setIfInBounds_toArray, List.set_cons_zero, List.set_cons_succ]
      refine wpAnyH_ready (rs := [7, 8, 16]) (by kernel_rfl) (by simp) ?_
      refine AllReadyH.cons (o := _) rfl (fun KA hKA => ?_) (AllReadyH.cons (o := _) rfl (fun KA hKA => ?_) (AllReadyH.cons (o := _) rfl (fun KA hKA => ?_) AllReadyH.nil))
      ·
        obtain ⟨v7, Y2, R7, s2⟩ := HS.out.app 3 (show 3 < 6 by decide) rfl (HX.out.below HS.out.be) HLE.out 32
        refine step_append_run (by rfl) (.tmp 27) (.tmp 30) 32 (by rfl) (by rfl) (by rfl) R7 ?_
        have S2 := hide (show Sep w.heap.size w Y2 [tMk m f, tRl r f K, tBk ab 36 vs, tRw v7 len ((List.range len).map X), Thing.none, Thing.none] from s2)
        clear R7 s2
        have HS2 := S2
        clear S2
        refine hKA.out _ _ (SC.out _ _ _ _ HS2.out) (fun hHeld => ?_)
        clear hKA KA HS
        have HS := HS2
        clear HS2
        try simp only [Act.put, List.setIfInBounds_toArray, List.set_cons_zero, List.set_cons_succ]
        refine wpAnyH_ready (rs := [8, 16]) (by kernel_rfl) (by simp) ?_
        refine AllReadyH.cons (o := _) rfl (fun KA hKA => ?_) (AllReadyH.cons (o := _) rfl (fun KA hKA => ?_) AllReadyH.nil)
        ·
          go_simp
          have S2 := hide (show Sep w.heap.size w (Y2.alloc (.cells #[.bool true] 4)) [tMk m f, tRl r f K, tBk ab 36 vs, tRw v7 len ((List.range len).map X), tBk Y2.heap.size 4 #[.bool true], Thing.none] from HS.out.blk 4 (show 4 < 6 by decide) rfl _ _)
          generalize Y2.heap.size = tb at S2 ⊢
          generalize Y2.alloc (.cells #[.bool true] 4) = Y3 at S2 ⊢
          have HS2 := S2
          clear S2
          refine hKA.out _ _ (SC.out _ _ _ _ HS2.out) (fun hHeld => ?_)
          clear hKA KA HS
          have HS := HS2
          clear HS2
          try simp only [Act.put, List.setIfInBounds_toArray, List.set_cons_zero, List.set_cons_succ]
          refine wpAnyH_ready (rs := [9, 16]) (by kernel_rfl) (by simp) ?_
          refine AllReadyH.cons (o := _) rfl (fun KA hKA => ?_) (AllReadyH.cons (o := _) rfl (fun KA hKA => ?_) AllReadyH.nil)
          ·
            obtain ⟨g, cp, Y4, R9, s2⟩ := HS.out.app1 3 4 (show 3 < 6 by decide) (show 4 < 6 by decide) rfl rfl HLK.out 32
            refine step_append_run (by rfl) (.tmp 31) (.tmp 32) 32 (by rfl) (by rfl) (by rfl) R9 ?_
            have S2 := hide (show Sep w.heap.size w Y4 [tMk m f, tRl r f K, tBk ab 36 vs, tRw (.slice (some ⟨g, 0, none⟩) (len + 1) cp) (len + 1) ((List.range len).map X ++ [true]), tBk tb 4 #[.bool true], Thing.none] from s2)
            obtain ⟨-, -, cpl⟩ := row_end (S2.out.rw 3 (show 3 < 6 by decide) rfl)
            have cpl1 : len ≤ cp := by omega
            clear R9 s2
            have HS2 := S2
            clear S2
            refine hKA.out _ _ (SC.out _ _ _ _ HS2.out) (fun hHeld => ?_)
            clear hKA KA HS
            have HS := HS2
            clear HS2
            try simp only [Act.put, List.setIfInBounds_toArray, List.set_cons_zero, List.set_cons_succ]
            refine wpAnyH_take (i := 14) (oi := _) (v := ?_) rfl (by kernel_rfl) (by kernel_rfl) (by kernel_rfl) (fun _ _ _ h => h) (Or.inl ⟨by rfl, ?_⟩) (by assumption) ?_
            rotate_left
            · (intro w hSw; (try dsimp only at hSw); go_simp; try with_reducible rfl)
            try simp only [Act.put, List.setIfInBounds_toArray, List.set_cons_zero, List.set_cons_succ]
            refine wpAnyH_take (i := 15) (oi := _) (v := ?_) rfl (by kernel_rfl) (by kernel_rfl) (by kernel_rfl) (fun _ _ _ h => h) (Or.inl ⟨by rfl, ?_⟩) (by assumption) ?_
            rotate_left
            · (intro w hSw; (try dsimp only at hSw); go_simp; try with_reducible rfl)
            try simp only [Act.put, List.setIfInBounds_toArray, List.set_cons_zero, List.set_cons_succ]
            refine wpAnyH_ready (rs := [16]) (by kernel_rfl) (by simp) ?_
            refine AllReadyH.cons (o := _) rfl (fun KA hKA => ?_) AllReadyH.nil
            go_simp
            have S2 := hide (show Sep w.heap.size w (Y4.alloc (.cells #[.int .i64 0, .slice none 0 0] 34)) [tMk m f, tRl r f K, tBk ab 36 vs, tRw (.slice (some ⟨g, 0, none⟩) (len + 1) cp) (len + 1) ((List.range len).map X ++ [true]), tBk tb 4 #[.bool true], tBk Y4.heap.size 34 #[.int .i64 0, .slice none 0 0]] from HS.out.blk 5 (show 5 < 6 by decide) rfl _ _)
            generalize Y4.heap.size = tt at S2 ⊢
            generalize Y4.alloc (.cells #[.int .i64 0, .slice none 0 0] 34) = Y5 at S2 ⊢
            have HS2 := S2
            clear S2
            refine hKA.out _ _ (SC.out _ _ _ _ HS2.out) (fun hHeld => ?_)
            clear hKA KA HS
            have HS := HS2
            clear HS2
            try simp only [Act.put, List.setIfInBounds_toArray, List.set_cons_zero, List.set_cons_succ]
            refine wpAnyH_ready (rs := [17]) (by kernel_rfl) (by simp) ?_
            refine AllReadyH.cons (o := _) rfl (fun KA hKA => ?_) AllReadyH.nil
            have tf0 := (HS.out.bk 5 (show 5 < 6 by decide) rfl).fz 0
            have tf1 := (HS.out.bk 5 (show 5 < 6 by decide) rfl).fz 1
            have tc0 := (HS.out.bk 5 (show 5 < 6 by decide) rfl).cell 0 _ rfl
            have tc1 := (HS.out.bk 5 (show 5 < 6 by decide) rfl).cell 1 _ rfl
            go_simp
            have S2 := hide (show Sep w.heap.size w ((Y5.setCell ⟨tt, 0, none⟩ (.int .i64 WD)).setCell ⟨tt, 1, none⟩ (.slice (some ⟨g, 0, none⟩) len cp)) [tMk m f, tRl r f K, tBk ab 36 vs, tRw (.slice (some ⟨g, 0, none⟩) (len + 1) cp) (len + 1) ((List.range len).map X ++ [true]), tBk tb 4 #[.bool true], tBk tt 34 #[.int .i64 WD, .slice (some ⟨g, 0, none⟩) len cp]] from (HS.out.put 5 (show 5 < 6 by decide) rfl 0 (.int .i64 WD)).put 5 (show 5 < 6 by decide) rfl 1 (.slice (some ⟨g, 0, none⟩) len cp))
            generalize (Y5.setCell ⟨tt, 0, none⟩ (.int .i64 WD)).setCell ⟨tt, 1, none⟩ (.slice (some ⟨g, 0, none⟩) len cp) = Y6 at S2 ⊢
            clear tf0 tf1 tc0 tc1
            have HS2 := S2
            clear S2
            refine hKA.out _ _ (SC.out _ _ _ _ HS2.out) (fun hHeld => ?_)
            clear hKA KA HS
            have HS := HS2
            clear HS2
            try simp only [Act.put, List.setIfInBounds_toArray, List.set_cons_zero, List.set_cons_succ]
            refine wpAnyH_done (by kernel_rfl) ?_ _
            clear hHeld cpl cpl1
            revert b3 v7 tb g cp tt Y6
            exact LEAF.out
          ·
            go_simp
            have S2 := hide (show Sep w.heap.size w (Y3.alloc (.cells #[.int .i64 0, .slice none 0 0] 34)) [tMk m f, tRl r f K, tBk ab 36 vs, tRw v7 len ((List.range len).map X), tBk tb 4 #[.bool true], tBk Y3.heap.size 34 #[.int .i64 0, .slice none 0 0]] from HS.out.blk 5 (show 5 < 6 by decide) rfl _ _)
            generalize Y3.heap.size = tt at S2 ⊢
            generalize Y3.alloc (.cells #[.int .i64 0, .slice none 0 0] 34) = Y7 at S2 ⊢
            have HS2 := S2
            clear S2
            refine hKA.out _ _ (SC.out _ _ _ _ HS2.out) (fun hHeld => ?_)
            clear hKA KA HS
            have HS := HS2
            clear HS2
            try simp only [Act.put, List.setIfInBounds_toArray, List.set_cons_zero, List.set_cons_succ]
            refine wpAnyH_ready (rs := [9]) (by kernel_rfl) (by simp) ?_
            refine AllReadyH.cons (o := _) rfl (fun KA hKA => ?_) AllReadyH.nil
            obtain ⟨g, cp, Y8, R9, s2⟩ := HS.out.app1 3 4 (show 3 < 6 by decide) (show 4 < 6 by decide) rfl rfl HLK.out 32
            refine step_append_run (by rfl) (.tmp 31) (.tmp 32) 32 (by rfl) (by rfl) (by rfl) R9 ?_
            have S2 := hide (show Sep w.heap.size w Y8 [tMk m f, tRl r f K, tBk ab 36 vs, tRw (.slice (some ⟨g, 0, none⟩) (len + 1) cp) (len + 1) ((List.range len).map X ++ [true]), tBk tb 4 #[.bool true], tBk tt 34 #[.int .i64 0, .slice none 0 0]] from s2)
            obtain ⟨-, -, cpl⟩ := row_end (S2.out.rw 3 (show 3 < 6 by decide) rfl)
            have cpl1 : len ≤ cp := by omega
            clear R9 s2
            have HS2 := S2
            clear S2
            refine hKA.out _ _ (SC.out _ _ _ _ HS2.out) (fun hHeld => ?_)
            clear hKA KA HS
            have HS := HS2
            clear HS2
            try simp only [Act.put, List.setIfInBounds_toArray, List.set_cons_zero, List.set_cons_succ]
            refine wpAnyH_take (i := 14) (oi := _) (v := ?_) rfl (by kernel_rfl) (by kernel_rfl) (by kernel_rfl) (fun _ _ _ h => h) (Or.inl ⟨by rfl, ?_⟩) (by assumption) ?_
            rotate_left
            · (intro w hSw; (try dsimp only at hSw); go_simp; try with_reducible rfl)
            try simp only [Act.put, List.setIfInBounds_toArray, List.set_cons_zero, List.set_cons_succ]
            refine wpAnyH_take (i := 15) (oi := _) (v := ?_) rfl (by kernel_rfl) (by kernel_rfl) (by kernel_rfl) (fun _ _ _ h => h) (Or.inl ⟨by rfl, ?_⟩) (by assumption) ?_
            rotate_left
            · (intro w hSw; (try dsimp only at hSw); go_simp; try with_reducible rfl)
            try simp only [Act.put, List.setIfInBounds_toArray, List.set_cons_zero, List.set_cons_succ]
            refine wpAnyH_ready (rs := [17]) (by kernel_rfl) (by simp) ?_
            refine AllReadyH.cons (o := _) rfl (fun KA hKA => ?_) AllReadyH.nil
            have tf0 := (HS.out.bk 5 (show 5 < 6 by decide) rfl).fz 0
            have tf1 := (HS.out.bk 5 (show 5 < 6 by decide) rfl).fz 1
            have tc0 := (HS.out.bk 5 (show 5 < 6 by decide) rfl).cell 0 _ rfl
            have tc1 := (HS.out.bk 5 (show 5 < 6 by decide) rfl).cell 1 _ rfl
            go_simp
            have S2 := hide (show Sep w.heap.size w ((Y8.setCell ⟨tt, 0, none⟩ (.int .i64 WD)).setCell ⟨tt, 1, none⟩ (.slice (some ⟨g, 0, none⟩) len cp)) [tMk m f, tRl r f K, tBk ab 36 vs, tRw (.slice (some ⟨g, 0, none⟩) (len + 1) cp) (len + 1) ((List.range len).map X ++ [true]), tBk tb 4 #[.bool true], tBk tt 34 #[.int .i64 WD, .slice (some ⟨g, 0, none⟩) len cp]] from (HS.out.put 5 (show 5 < 6 by decide) rfl 0 (.int .i64 WD)).put 5 (show 5 < 6 by decide) rfl 1 (.slice (some ⟨g, 0, none⟩) len cp))
            generalize (Y8.setCell ⟨tt, 0, none⟩ (.int .i64 WD)).setCell ⟨tt, 1, none⟩ (.slice (some ⟨g, 0, none⟩) len cp) = Y9 at S2 ⊢
            clear tf0 tf1 tc0 tc1
            have HS2 := S2
            clear S2
            refine hKA.out _ _ (SC.out _ _ _ _ HS2.out) (fun hHeld => ?_)
            clear hKA KA HS
            have HS := HS2
            clear HS2
            try simp only [Act.put, List.setIfInBounds_toArray, List.set_cons_zero, List.set_cons_succ]
            refine wpAnyH_done (by kernel_rfl) ?_ _
            clear hHeld cpl cpl1
            first | exact LEAF.out _ _ _ _ _ _ _ HS | exact LEAF.out _ _ _ _ _ _ _ _ HS
        ·
          go_simp
          have S2 := hide (show Sep w.heap.size w (Y2.alloc (.cells #[.int .i64 0, .slice none 0 0] 34)) [tMk m f, tRl r f K, tBk ab 36 vs, tRw v7 len ((List.range len).map X), Thing.none, tBk Y2.heap.size 34 #[.int .i64 0, .slice none 0 0]] from HS.out.blk 5 (show 5 < 6 by decide) rfl _ _)
          generalize Y2.heap.size = tt at S2 ⊢
          generalize Y2.alloc (.cells #[.int .i64 0, .slice none 0 0] 34) = Y10 at S2 ⊢
          have HS2 := S2
          clear S2
          refine hKA.out _ _ (SC.out _ _ _ _ HS2.out) (fun hHeld => ?_)
          clear hKA KA HS
          have HS := HS2
          clear HS2
          try simp only [Act.put, List.setIfInBounds_toArray, List.set_cons_zero, List.set_cons_succ]
          refine wpAnyH_ready (rs := [8]) (by kernel_rfl) (by simp) ?_
          refine AllReadyH.cons (o := _) rfl (fun KA hKA => ?_) AllReadyH.nil
          go_simp
          have S2 := hide (show Sep w.heap.size w (Y10.alloc (.cells #[.bool true] 4)) [tMk m f, tRl r f K, tBk ab 36 vs, tRw v7 len ((List.range len).map X), tBk Y10.heap.size 4 #[.bool true], tBk tt 34 #[.int .i64 0, .slice none 0 0]] from HS.out.blk 4 (show 4 < 6 by decide) rfl _ _)
          generalize Y10.heap.size = tb at S2 ⊢
          generalize Y10.alloc (.cells #[.bool true] 4) = Y11 at S2 ⊢
          have HS2 := S2
          clear S2
          refine hKA.out _ _ (SC.out _ _ _ _ HS2.out) (fun hHeld => ?_)
          clear hKA KA HS
          have HS := HS2
          clear HS2
          try simp only [Act.put, List.setIfInBounds_toArray, List.set_cons_zero, List.set_cons_succ]
          refine wpAnyH_ready (rs := [9]) (by kernel_rfl) (by simp) ?_
          refine AllReadyH.cons (o := _) rfl (fun KA hKA => ?_) AllReadyH.nil
          obtain ⟨g, cp, Y12, R9, s2⟩ := HS.out.app1 3 4 (show 3 < 6 by decide) (show 4 < 6 by decide) rfl rfl HLK.out 32
          refine step_append_run (by rfl) (.tmp 31) (.tmp 32) 32 (by rfl) (by rfl) (by rfl) R9 ?_
          have S2 := hide (show Sep w.heap.size w Y12 [tMk m f, tRl r f K, tBk ab 36 vs, tRw (.slice (some ⟨g, 0, none⟩) (len + 1) cp) (len + 1) ((List.range len).map X ++ [true]), tBk tb 4 #[.bool true], tBk tt 34 #[.int .i64 0, .slice none 0 0]] from s2)
          obtain ⟨-, -, cpl⟩ := row_end (S2.out.rw 3 (show 3 < 6 by decide) rfl)
          have cpl1 : len ≤ cp := by omega
          clear R9 s2
          have HS2 := S2
          clear S2
          refine hKA.out _ _ (SC.out _ _ _ _ HS2.out) (fun hHeld => ?_)
          clear hKA KA HS
          have HS := HS2
          clear HS2
          try simp only [Act.put, List.setIfInBounds_toArray, List.set_cons_zero, List.set_cons_succ]
          refine wpAnyH_take (i := 14) (oi := _) (v := ?_) rfl (by kernel_rfl) (by kernel_rfl) (by kernel_rfl) (fun _ _ _ h => h) (Or.inl ⟨by rfl, ?_⟩) (by assumption) ?_
          rotate_left
          · (intro w hSw; (try dsimp only at hSw); go_simp; try with_reducible rfl)
          try simp only [Act.put, List.setIfInBounds_toArray, List.set_cons_zero, List.set_cons_succ]
          refine wpAnyH_take (i := 15) (oi := _) (v := ?_) rfl (by kernel_rfl) (by kernel_rfl) (by kernel_rfl) (fun _ _ _ h => h) (Or.inl ⟨by rfl, ?_⟩) (by assumption) ?_
          rotate_left
          · (intro w hSw; (try dsimp only at hSw); go_simp; try with_reducible rfl)
          try simp only [Act.put, List.setIfInBounds_toArray, List.set_cons_zero, List.set_cons_succ]
          refine wpAnyH_ready (rs := [17]) (by kernel_rfl) (by simp) ?_
          refine AllReadyH.cons (o := _) rfl (fun KA hKA => ?_) AllReadyH.nil
          have tf0 := (HS.out.bk 5 (show 5 < 6 by decide) rfl).fz 0
          have tf1 := (HS.out.bk 5 (show 5 < 6 by decide) rfl).fz 1
          have tc0 := (HS.out.bk 5 (show 5 < 6 by decide) rfl).cell 0 _ rfl
          have tc1 := (HS.out.bk 5 (show 5 < 6 by decide) rfl).cell 1 _ rfl
          go_simp
          have S2 := hide (show Sep w.heap.size w ((Y12.setCell ⟨tt, 0, none⟩ (.int .i64 WD)).setCell ⟨tt, 1, none⟩ (.slice (some ⟨g, 0, none⟩) len cp)) [tMk m f, tRl r f K, tBk ab 36 vs, tRw (.slice (some ⟨g, 0, none⟩) (len + 1) cp) (len + 1) ((List.range len).map X ++ [true]), tBk tb 4 #[.bool true], tBk tt 34 #[.int .i64 WD, .slice (some ⟨g, 0, none⟩) len cp]] from (HS.out.put 5 (show 5 < 6 by decide) rfl 0 (.int .i64 WD)).put 5 (show 5 < 6 by decide) rfl 1 (.slice (some ⟨g, 0, none⟩) len cp))
          generalize (Y12.setCell ⟨tt, 0, none⟩ (.int .i64 WD)).setCell ⟨tt, 1, none⟩ (.slice (some ⟨g, 0, none⟩) len cp) = Y13 at S2 ⊢
          clear tf0 tf1 tc0 tc1
          have HS2 := S2
          clear S2
          refine hKA.out _ _ (SC.out _ _ _ _ HS2.out) (fun hHeld => ?_)
          clear hKA KA HS
          have HS := HS2
          clear HS2
          try simp only [Act.put, List.setIfInBounds_toArray, List.set_cons_zero, List.set_cons_succ]
          refine wpAnyH_done (by kernel_rfl) ?_ _
          clear hHeld cpl cpl1
          first | exact LEAF.out _ _ _ _ _ _ _ HS | exact LEAF.out _ _ _ _ _ _ _ _ HS
      ·
        go_simp
        have S2 := hide (show Sep w.heap.size w (Y1.alloc (.cells #[.bool true] 4)) [tMk m f, tRl r f K, tBk ab 36 vs, tRw (.slice (some ⟨b3, 0, none⟩) 0 0) 0 [], tBk Y1.heap.size 4 #[.bool true], Thing.none] from HS.out.blk 4 (show 4 < 6 by decide) rfl _ _)
        generalize Y1.heap.size = tb at S2 ⊢
        generalize Y1.alloc (.cells #[.bool true] 4) = Y14 at S2 ⊢
        have HS2 := S2
        clear S2
        refine hKA.out _ _ (SC.out _ _ _ _ HS2.out) (fun hHeld => ?_)
        clear hKA KA HS
        have HS := HS2
        clear HS2
        try simp only [Act.put, List.setIfInBounds_toArray, List.set_cons_zero, List.set_cons_succ]
        refine wpAnyH_ready (rs := [7, 16]) (by kernel_rfl) (by simp) ?_
        refine AllReadyH.cons (o := _) rfl (fun KA hKA => ?_) (AllReadyH.cons (o := _) rfl (fun KA hKA => ?_) AllReadyH.nil)
        ·
          obtain ⟨v7, Y15, R7, s2⟩ := HS.out.app 3 (show 3 < 6 by decide) rfl (HX.out.below HS.out.be) HLE.out 32
          refine step_append_run (by rfl) (.tmp 27) (.tmp 30) 32 (by rfl) (by rfl) (by rfl) R7 ?_
          have S2 := hide (show Sep w.heap.size w Y15 [tMk m f, tRl r f K, tBk ab 36 vs, tRw v7 len ((List.range len).map X), tBk tb 4 #[.bool true], Thing.none] from s2)
          clear R7 s2
          have HS2 := S2
          clear S2
          refine hKA.out _ _ (SC.out _ _ _ _ HS2.out) (fun hHeld => ?_)
          clear hKA KA HS
          have HS := HS2
          clear HS2
          try simp only [Act.put, List.setIfInBounds_toArray, List.set_cons_zero, List.set_cons_succ]
          refine wpAnyH_ready (rs := [9, 16]) (by kernel_rfl) (by simp) ?_
          refine AllReadyH.cons (o := _) rfl (fun KA hKA => ?_) (AllReadyH.cons (o := _) rfl (fun KA hKA => ?_) AllReadyH.nil)
          ·
            obtain ⟨g, cp, Y16, R9, s2⟩ := HS.out.app1 3 4 (show 3 < 6 by decide) (show 4 < 6 by decide) rfl rfl HLK.out 32
            refine step_append_run (by rfl) (.tmp 31) (.tmp 32) 32 (by rfl) (by rfl) (by rfl) R9 ?_
            have S2 := hide (show Sep w.heap.size w Y16 [tMk m f, tRl r f K, tBk ab 36 vs, tRw (.slice (some ⟨g, 0, none⟩) (len + 1) cp) (len + 1) ((List.range len).map X ++ [true]), tBk tb 4 #[.bool true], Thing.none] from s2)
            obtain ⟨-, -, cpl⟩ := row_end (S2.out.rw 3 (show 3 < 6 by decide) rfl)
            have cpl1 : len ≤ cp := by omega
            clear R9 s2
            have HS2 := S2
            clear S2
            refine hKA.out _ _ (SC.out _ _ _ _ HS2.out) (fun hHeld => ?_)
            clear hKA KA HS
            have HS := HS2
            clear HS2
            try simp only [Act.put, List.setIfInBounds_toArray, List.set_cons_zero, List.set_cons_succ]
            refine wpAnyH_take (i := 14) (oi := _) (v := ?_) rfl (by kernel_rfl) (by kernel_rfl) (by kernel_rfl) (fun _ _ _ h => h) (Or.inl ⟨by rfl, ?_⟩) (by assumption) ?_
            rotate_left
            · (intro w hSw; (try dsimp only at hSw); go_simp; try with_reducible rfl)
            try simp only [Act.put, List.setIfInBounds_toArray, List.set_cons_zero, List.set_cons_succ]
            refine wpAnyH_take (i := 15) (oi := _) (v := ?_) rfl (by kernel_rfl) (by kernel_rfl) (by kernel_rfl) (fun _ _ _ h => h) (Or.inl ⟨by rfl, ?_⟩) (by assumption) ?_
            rotate_left
            · (intro w hSw; (try dsimp only at hSw); go_simp; try with_reducible rfl)
            try simp only [Act.put, List.setIfInBounds_toArray, List.set_cons_zero, List.set_cons_succ]
            refine wpAnyH_ready (rs := [16]) (by kernel_rfl) (by simp) ?_
            refine AllReadyH.cons (o := _) rfl (fun KA hKA => ?_) AllReadyH.nil
            go_simp
            have S2 := hide (show Sep w.heap.size w (Y16.alloc (.cells #[.int .i64 0, .slice none 0 0] 34)) [tMk m f, tRl r f K, tBk ab 36 vs, tRw (.slice (some ⟨g, 0, none⟩) (len + 1) cp) (len + 1) ((List.range len).map X ++ [true]), tBk tb 4 #[.bool true], tBk Y16.heap.size 34 #[.int .i64 0, .slice none 0 0]] from HS.out.blk 5 (show 5 < 6 by decide) rfl _ _)
            generalize Y16.heap.size = tt at S2 ⊢
            generalize Y16.alloc (.cells #[.int .i64 0, .slice none 0 0] 34) = Y17 at S2 ⊢
            have HS2 := S2
            clear S2
            refine hKA.out _ _ (SC.out _ _ _ _ HS2.out) (fun hHeld => ?_)
            clear hKA KA HS
            have HS := HS2
            clear HS2
            try simp only [Act.put, List.setIfInBounds_toArray, List.set_cons_zero, List.set_cons_succ]
            refine wpAnyH_ready (rs := [17]) (by kernel_rfl) (by simp) ?_
            refine AllReadyH.cons (o := _) rfl (fun KA hKA => ?_) AllReadyH.nil
            have tf0 := (HS.out.bk 5 (show 5 < 6 by decide) rfl).fz 0
            have tf1 := (HS.out.bk 5 (show 5 < 6 by decide) rfl).fz 1
            have tc0 := (HS.out.bk 5 (show 5 < 6 by decide) rfl).cell 0 _ rfl
            have tc1 := (HS.out.bk 5 (show 5 < 6 by decide) rfl).cell 1 _ rfl
            go_simp
            have S2 := hide (show Sep w.heap.size w ((Y17.setCell ⟨tt, 0, none⟩ (.int .i64 WD)).setCell ⟨tt, 1, none⟩ (.slice (some ⟨g, 0, none⟩) len cp)) [tMk m f, tRl r f K, tBk ab 36 vs, tRw (.slice (some ⟨g, 0, none⟩) (len + 1) cp) (len + 1) ((List.range len).map X ++ [true]), tBk tb 4 #[.bool true], tBk tt 34 #[.int .i64 WD, .slice (some ⟨g, 0, none⟩) len cp]] from (HS.out.put 5 (show 5 < 6 by decide) rfl 0 (.int .i64 WD)).put 5 (show 5 < 6 by decide) rfl 1 (.slice (some ⟨g, 0, none⟩) len cp))
            generalize (Y17.setCell ⟨tt, 0, none⟩ (.int .i64 WD)).setCell ⟨tt, 1, none⟩ (.slice (some ⟨g, 0, none⟩) len cp) = Y18 at S2 ⊢
            clear tf0 tf1 tc0 tc1
            have HS2 := S2
            clear S2
            refine hKA.out _ _ (SC.out _ _ _ _ HS2.out) (fun hHeld => ?_)
            clear hKA KA HS
            have HS := HS2
            clear HS2
            try simp only [Act.put, List.setIfInBounds_toArray, List.set_cons_zero, List.set_cons_succ]
            refine wpAnyH_done (by kernel_rfl) ?_ _
            clear hHeld cpl cpl1
            first | exact LEAF.out _ _ _ _ _ _ _ HS | exact LEAF.out _ _ _ _ _ _ _ _ HS
          ·
            go_simp
            have S2 := hide (show Sep w.heap.size w (Y15.alloc (.cells #[.int .i64 0, .slice none 0 0] 34)) [tMk m f, tRl r f K, tBk ab 36 vs, tRw v7 len ((List.range len).map X), tBk tb 4 #[.bool true], tBk Y15.heap.size 34 #[.int .i64 0, .slice none 0 0]] from HS.out.blk 5 (show 5 < 6 by decide) rfl _ _)
            generalize Y15.heap.size = tt at S2 ⊢
            generalize Y15.alloc (.cells #[.int .i64 0, .slice none 0 0] 34) = Y19 at S2 ⊢
            have HS2 := S2
            clear S2
            refine hKA.out _ _ (SC.out _ _ _ _ HS2.out) (fun hHeld => ?_)
            clear hKA KA HS
            have HS := HS2
            clear HS2
            try simp only [Act.put, List.setIfInBounds_toArray, List.set_cons_zero, List.set_cons_succ]
            refine wpAnyH_ready (rs := [9]) (by kernel_rfl) (by simp) ?_
            refine AllReadyH.cons (o := _) rfl (fun KA hKA => ?_) AllReadyH.nil
            obtain ⟨g, cp, Y20, R9, s2⟩ := HS.out.app1 3 4 (show 3 < 6 by decide) (show 4 < 6 by decide) rfl rfl HLK.out 32
            refine step_append_run (by rfl) (.tmp 31) (.tmp 32) 32 (by rfl) (by rfl) (by rfl) R9 ?_
            have S2 := hide (show Sep w.heap.size w Y20 [tMk m f, tRl r f K, tBk ab 36 vs, tRw (.slice (some ⟨g, 0, none⟩) (len + 1) cp) (len + 1) ((List.range len).map X ++ [true]), tBk tb 4 #[.bool true], tBk tt 34 #[.int .i64 0, .slice none 0 0]] from s2)
            obtain ⟨-, -, cpl⟩ := row_end (S2.out.rw 3 (show 3 < 6 by decide) rfl)
            have cpl1 : len ≤ cp := by omega
            clear R9 s2
            have HS2 := S2
            clear S2
            refine hKA.out _ _ (SC.out _ _ _ _ HS2.out) (fun hHeld => ?_)
            clear hKA KA HS
            have HS := HS2
            clear HS2
            try simp only [Act.put, List.setIfInBounds_toArray, List.set_cons_zero, List.set_cons_succ]
            refine wpAnyH_take (i := 14) (oi := _) (v := ?_) rfl (by kernel_rfl) (by kernel_rfl) (by kernel_rfl) (fun _ _ _ h => h) (Or.inl ⟨by rfl, ?_⟩) (by assumption) ?_
            rotate_left
            · (intro w hSw; (try dsimp only at hSw); go_simp; try with_reducible rfl)
            try simp only [Act.put, List.setIfInBounds_toArray, List.set_cons_zero, List.set_cons_succ]
            refine wpAnyH_take (i := 15) (oi := _) (v := ?_) rfl (by kernel_rfl) (by kernel_rfl) (by kernel_rfl) (fun _ _ _ h => h) (Or.inl ⟨by rfl, ?_⟩) (by assumption) ?_
            rotate_left
            · (intro w hSw; (try dsimp only at hSw); go_simp; try with_reducible rfl)
            try simp only [Act.put, List.setIfInBounds_toArray, List.set_cons_zero, List.set_cons_succ]
            refine wpAnyH_ready (rs := [17]) (by kernel_rfl) (by simp) ?_
            refine AllReadyH.cons (o := _) rfl (fun KA hKA => ?_) AllReadyH.nil
            have tf0 := (HS.out.bk 5 (show 5 < 6 by decide) rfl).fz 0
            have tf1 := (HS.out.bk 5 (show 5 < 6 by decide) rfl).fz 1
            have tc0 := (HS.out.bk 5 (show 5 < 6 by decide) rfl).cell 0 _ rfl
            have tc1 := (HS.out.bk 5 (show 5 < 6 by decide) rfl).cell 1 _ rfl
            go_simp
            have S2 := hide (show Sep w.heap.size w ((Y20.setCell ⟨tt, 0, none⟩ (.int .i64 WD)).setCell ⟨tt, 1, none⟩ (.slice (some ⟨g, 0, none⟩) len cp)) [tMk m f, tRl r f K, tBk ab 36 vs, tRw (.slice (some ⟨g, 0, none⟩) (len + 1) cp) (len + 1) ((List.range len).map X ++ [true]), tBk tb 4 #[.bool true], tBk tt 34 #[.int .i64 WD, .slice (some ⟨g, 0, none⟩) len cp]] from (HS.out.put 5 (show 5 < 6 by decide) rfl 0 (.int .i64 WD)).put 5 (show 5 < 6 by decide) rfl 1 (.slice (some ⟨g, 0, none⟩) len cp))
            generalize (Y20.setCell ⟨tt, 0, none⟩ (.int .i64 WD)).setCell ⟨tt, 1, none⟩ (.slice (some ⟨g, 0, none⟩) len cp) = Y21 at S2 ⊢
            clear tf0 tf1 tc0 tc1
            have HS2 := S2
            clear S2
            refine hKA.out _ _ (SC.out _ _ _ _ HS2.out) (fun hHeld => ?_)
            clear hKA KA HS
            have HS := HS2
            clear HS2
            try simp only [Act.put, List.setIfInBounds_toArray, List.set_cons_zero, List.set_cons_succ]
            refine wpAnyH_done (by kernel_rfl) ?_ _
            clear hHeld cpl cpl1
            first | exact LEAF.out _ _ _ _ _ _ _ HS | exact LEAF.out _ _ _ _ _ _ _ _ HS
        ·
          go_simp
          have S2 := hide (show Sep w.heap.size w (Y14.alloc (.cells #[.int .i64 0, .slice none 0 0] 34)) [tMk m f, tRl r f K, tBk ab 36 vs, tRw (.slice (some ⟨b3, 0, none⟩) 0 0) 0 [], tBk tb 4 #[.bool true], tBk Y14.heap.size 34 #[.int .i64 0, .slice none 0 0]] from HS.out.blk 5 (show 5 < 6 by decide) rfl _ _)
          generalize Y14.heap.size = tt at S2 ⊢
          generalize Y14.alloc (.cells #[.int .i64 0, .slice none 0 0] 34) = Y22 at S2 ⊢
          have HS2 := S2
          clear S2
          refine hKA.out _ _ (SC.out _ _ _ _ HS2.out) (fun hHeld => ?_)
          clear hKA KA HS
          have HS := HS2
          clear HS2
          try simp only [Act.put, List.setIfInBounds_toArray, List.set_cons_zero, List.set_cons_succ]
          refine wpAnyH_ready (rs := [7]) (by kernel_rfl) (by simp) ?_
          refine AllReadyH.cons (o := _) rfl (fun KA hKA => ?_) AllReadyH.nil
          obtain ⟨v7, Y23, R7, s2⟩ := HS.out.app 3 (show 3 < 6 by decide) rfl (HX.out.below HS.out.be) HLE.out 32
          refine step_append_run (by rfl) (.tmp 27) (.tmp 30) 32 (by rfl) (by rfl) (by rfl) R7 ?_
          have S2 := hide (show Sep w.heap.size w Y23 [tMk m f, tRl r f K, tBk ab 36 vs, tRw v7 len ((List.range len).map X), tBk tb 4 #[.bool true], tBk tt 34 #[.int .i64 0, .slice none 0 0]] from s2)
          clear R7 s2
          have HS2 := S2
          clear S2
          refine hKA.out _ _ (SC.out _ _ _ _ HS2.out) (fun hHeld => ?_)
          clear hKA KA HS
          have HS := HS2
          clear HS2
          try simp only [Act.put, List.setIfInBounds_toArray, List.set_cons_zero, List.set_cons_succ]
          refine wpAnyH_ready (rs := [9]) (by kernel_rfl) (by simp) ?_
          refine AllReadyH.cons (o := _) rfl (fun KA hKA => ?_) AllReadyH.nil
          obtain ⟨g, cp, Y24, R9, s2⟩ := HS.out.app1 3 4 (show 3 < 6 by decide) (show 4 < 6 by decide) rfl rfl HLK.out 32
          refine step_append_run (by rfl) (.tmp 31) (.tmp 32) 32 (by rfl) (by rfl) (by rfl) R9 ?_
          have S2 := hide (show Sep w.heap.size w Y24 [tMk m f, tRl r f K, tBk ab 36 vs, tRw (.slice (some ⟨g, 0, none⟩) (len + 1) cp) (len + 1) ((List.range len).map X ++ [true]), tBk tb 4 #[.bool true], tBk tt 34 #[.int .i64 0, .slice none 0 0]] from s2)
          obtain ⟨-, -, cpl⟩ := row_end (S2.out.rw 3 (show 3 < 6 by decide) rfl)
          have cpl1 : len ≤ cp := by omega
          clear R9 s2
          have HS2 := S2
          clear S2
          refine hKA.out _ _ (SC.out _ _ _ _ HS2.out) (fun hHeld => ?_)
          clear hKA KA HS
          have HS := HS2
          clear HS2
          try simp only [Act.put, List.setIfInBounds_toArray, List.set_cons_zero, List.set_cons_succ]
          refine wpAnyH_take (i := 14) (oi := _) (v := ?_) rfl (by kernel_rfl) (by kernel_rfl) (by kernel_rfl) (fun _ _ _ h => h) (Or.inl ⟨by rfl, ?_⟩) (by assumption) ?_
          rotate_left
          · (intro w hSw; (try dsimp only at hSw); go_simp; try with_reducible rfl)
          try simp only [Act.put, List.setIfInBounds_toArray, List.set_cons_zero, List.set_cons_succ]
          refine wpAnyH_take (i := 15) (oi := _) (v := ?_) rfl (by kernel_rfl) (by kernel_rfl) (by kernel_rfl) (fun _ _ _ h => h) (Or.inl ⟨by rfl, ?_⟩) (by assumption) ?_
          rotate_left
          · (intro w hSw; (try dsimp only at hSw); go_simp; try with_reducible rfl)
          try simp only [Act.put, List.setIfInBounds_toArray, List.set_cons_zero, List.set_cons_succ]
          refine wpAnyH_ready (rs := [17]) (by kernel_rfl) (by simp) ?_
          refine AllReadyH.cons (o := _) rfl (fun KA hKA => ?_) AllReadyH.nil
          have tf0 := (HS.out.bk 5 (show 5 < 6 by decide) rfl).fz 0
          have tf1 := (HS.out.bk 5 (show 5 < 6 by decide) rfl).fz 1
          have tc0 := (HS.out.bk 5 (show 5 < 6 by decide) rfl).cell 0 _ rfl
          have tc1 := (HS.out.bk 5 (show 5 < 6 by decide) rfl).cell 1 _ rfl
          go_simp
          have S2 := hide (show Sep w.heap.size w ((Y24.setCell ⟨tt, 0, none⟩ (.int .i64 WD)).setCell ⟨tt, 1, none⟩ (.slice (some ⟨g, 0, none⟩) len cp)) [tMk m f, tRl r f K, tBk ab 36 vs, tRw (.slice (some ⟨g, 0, none⟩) (len + 1) cp) (len + 1) ((List.range len).map X ++ [true]), tBk tb 4 #[.bool true], tBk tt 34 #[.int .i64 WD, .slice (some ⟨g, 0, none⟩) len cp]] from (HS.out.put 5 (show 5 < 6 by decide) rfl 0 (.int .i64 WD)).put 5 (show 5 < 6 by decide) rfl 1 (.slice (some ⟨g, 0, none⟩) len cp))
          generalize (Y24.setCell ⟨tt, 0, none⟩ (.int .i64 WD)).setCell ⟨tt, 1, none⟩ (.slice (some ⟨g, 0, none⟩) len cp) = Y25 at S2 ⊢
          clear tf0 tf1 tc0 tc1
          have HS2 := S2
          clear S2
          refine hKA.out _ _ (SC.out _ _ _ _ HS2.out) (fun hHeld => ?_)
          clear hKA KA HS
          have HS := HS2
          clear HS2
          try simp only [Act.put, List.setIfInBounds_toArray, List.set_cons_zero, List.set_cons_succ]
          refine wpAnyH_done (by kernel_rfl) ?_ _
          clear hHeld cpl cpl1
          first | exact LEAF.out _ _ _ _ _ _ _ HS | exact LEAF.out _ _ _ _ _ _ _ _ HS
      ·
        go_simp
        have S2 := hide (show Sep w.heap.size w (Y1.alloc (.cells #[.int .i64 0, .slice none 0 0] 34)) [tMk m f, tRl r f K, tBk ab 36 vs, tRw (.slice (some ⟨b3, 0, none⟩) 0 0) 0 [], Thing.none, tBk Y1.heap.size 34 #[.int .i64 0, .slice none 0 0]] from HS.out.blk 5 (show 5 < 6 by decide) rfl _ _)
        generalize Y1.heap.size = tt at S2 ⊢
        generalize Y1.alloc (.cells #[.int .i64 0, .slice none 0 0] 34) = Y26 at S2 ⊢
        have HS2 := S2
        clear S2
        refine hKA.out _ _ (SC.out _ _ _ _ HS2.out) (fun hHeld => ?_)
        clear hKA KA HS
        have HS := HS2
        clear HS2
        try simp only [Act.put, List.setIfInBounds_toArray, List.set_cons_zero, List.set_cons_succ]
        refine wpAnyH_ready (rs := [7, 8]) (by kernel_rfl) (by simp) ?_
        refine AllReadyH.cons (o := _) rfl (fun KA hKA => ?_) (AllReadyH.cons (o := _) rfl (fun KA hKA => ?_) AllReadyH.nil)
        ·
          obtain ⟨v7, Y27, R7, s2⟩ := HS.out.app 3 (show 3 < 6 by decide) rfl (HX.out.below HS.out.be) HLE.out 32
          refine step_append_run (by rfl) (.tmp 27) (.tmp 30) 32 (by rfl) (by rfl) (by rfl) R7 ?_
          have S2 := hide (show Sep w.heap.size w Y27 [tMk m f, tRl r f K, tBk ab 36 vs, tRw v7 len ((List.range len).map X), Thing.none, tBk tt 34 #[.int .i64 0, .slice none 0 0]] from s2)
          clear R7 s2
          have HS2 := S2
          clear S2
          refine hKA.out _ _ (SC.out _ _ _ _ HS2.out) (fun hHeld => ?_)
          clear hKA KA HS
          have HS := HS2
          clear HS2
          try simp only [Act.put, List.setIfInBounds_toArray, List.set_cons_zero, List.set_cons_succ]
          refine wpAnyH_ready (rs := [8]) (by kernel_rfl) (by simp) ?_
          refine AllReadyH.cons (o := _) rfl (fun KA hKA => ?_) AllReadyH.nil
          go_simp
          have S2 := hide (show Sep w.heap.size w (Y27.alloc (.cells #[.bool true] 4)) [tMk m f, tRl r f K, tBk ab 36 vs, tRw v7 len ((List.range len).map X), tBk Y27.heap.size 4 #[.bool true], tBk tt 34 #[.int .i64 0, .slice none 0 0]] from HS.out.blk 4 (show 4 < 6 by decide) rfl _ _)
          generalize Y27.heap.size = tb at S2 ⊢
          generalize Y27.alloc (.cells #[.bool true] 4) = Y28 at S2 ⊢
          have HS2 := S2
          clear S2
          refine hKA.out _ _ (SC.out _ _ _ _ HS2.out) (fun hHeld => ?_)
          clear hKA KA HS
          have HS := HS2
          clear HS2
          try simp only [Act.put, List.setIfInBounds_toArray, List.set_cons_zero, List.set_cons_succ]
          refine wpAnyH_ready (rs := [9]) (by kernel_rfl) (by simp) ?_
          refine AllReadyH.cons (o := _) rfl (fun KA hKA => ?_) AllReadyH.nil
          obtain ⟨g, cp, Y29, R9, s2⟩ := HS.out.app1 3 4 (show 3 < 6 by decide) (show 4 < 6 by decide) rfl rfl HLK.out 32
          refine step_append_run (by rfl) (.tmp 31) (.tmp 32) 32 (by rfl) (by rfl) (by rfl) R9 ?_
          have S2 := hide (show Sep w.heap.size w Y29 [tMk m f, tRl r f K, tBk ab 36 vs, tRw (.slice (some ⟨g, 0, none⟩) (len + 1) cp) (len + 1) ((List.range len).map X ++ [true]), tBk tb 4 #[.bool true], tBk tt 34 #[.int .i64 0, .slice none 0 0]] from s2)
          obtain ⟨-, -, cpl⟩ := row_end (S2.out.rw 3 (show 3 < 6 by decide) rfl)
          have cpl1 : len ≤ cp := by omega
          clear R9 s2
          have HS2 := S2
          clear S2
          refine hKA.out _ _ (SC.out _ _ _ _ HS2.out) (fun hHeld => ?_)
          clear hKA KA HS
          have HS := HS2
          clear HS2
          try simp only [Act.put, List.setIfInBounds_toArray, List.set_cons_zero, List.set_cons_succ]
          refine wpAnyH_take (i := 14) (oi := _) (v := ?_) rfl (by kernel_rfl) (by kernel_rfl) (by kernel_rfl) (fun _ _ _ h => h) (Or.inl ⟨by rfl, ?_⟩) (by assumption) ?_
          rotate_left
          · (intro w hSw; (try dsimp only at hSw); go_simp; try with_reducible rfl)
          try simp only [Act.put, List.setIfInBounds_toArray, List.set_cons_zero, List.set_cons_succ]
          refine wpAnyH_take (i := 15) (oi := _) (v := ?_) rfl (by kernel_rfl) (by kernel_rfl) (by kernel_rfl) (fun _ _ _ h => h) (Or.inl ⟨by rfl, ?_⟩) (by assumption) ?_
          rotate_left
          · (intro w hSw; (try dsimp only at hSw); go_simp; try with_reducible rfl)
          try simp only [Act.put, List.setIfInBounds_toArray, List.set_cons_zero, List.set_cons_succ]
          refine wpAnyH_ready (rs := [17]) (by kernel_rfl) (by simp) ?_
          refine AllReadyH.cons (o := _) rfl (fun KA hKA => ?_) AllReadyH.nil
          have tf0 := (HS.out.bk 5 (show 5 < 6 by decide) rfl).fz 0
          have tf1 := (HS.out.bk 5 (show 5 < 6 by decide) rfl).fz 1
          have tc0 := (HS.out.bk 5 (show 5 < 6 by decide) rfl).cell 0 _ rfl
          have tc1 := (HS.out.bk 5 (show 5 < 6 by decide) rfl).cell 1 _ rfl
          go_simp
          have S2 := hide (show Sep w.heap.size w ((Y29.setCell ⟨tt, 0, none⟩ (.int .i64 WD)).setCell ⟨tt, 1, none⟩ (.slice (some ⟨g, 0, none⟩) len cp)) [tMk m f, tRl r f K, tBk ab 36 vs, tRw (.slice (some ⟨g, 0, none⟩) (len + 1) cp) (len + 1) ((List.range len).map X ++ [true]), tBk tb 4 #[.bool true], tBk tt 34 #[.int .i64 WD, .slice (some ⟨g, 0, none⟩) len cp]] from (HS.out.put 5 (show 5 < 6 by decide) rfl 0 (.int .i64 WD)).put 5 (show 5 < 6 by decide) rfl 1 (.slice (some ⟨g, 0, none⟩) len cp))
          generalize (Y29.setCell ⟨tt, 0, none⟩ (.int .i64 WD)).setCell ⟨tt, 1, none⟩ (.slice (some ⟨g, 0, none⟩) len cp) = Y30 at S2 ⊢
          clear tf0 tf1 tc0 tc1
          have HS2 := S2
          clear S2
          refine hKA.out _ _ (SC.out _ _ _ _ HS2.out) (fun hHeld => ?_)
          clear hKA KA HS
          have HS := HS2
          clear HS2
          try simp only [Act.put, List.setIfInBounds_toArray, List.set_cons_zero, List.set_cons_succ]
          refine wpAnyH_done (by kernel_rfl) ?_ _
          clear hHeld cpl cpl1
          first | exact LEAF.out _ _ _ _ _ _ _ HS | exact LEAF.out _ _ _ _ _ _ _ _ HS
        ·
          go_simp
          have S2 := hide (show Sep w.heap.size w (Y26.alloc (.cells #[.bool true] 4)) [tMk m f, tRl r f K, tBk ab 36 vs, tRw (.slice (some ⟨b3, 0, none⟩) 0 0) 0 [], tBk Y26.heap.size 4 #[.bool true], tBk tt 34 #[.int .i64 0, .slice none 0 0]] from HS.out.blk 4 (show 4 < 6 by decide) rfl _ _)
          generalize Y26.heap.size = tb at S2 ⊢
          generalize Y26.alloc (.cells #[.bool true] 4) = Y31 at S2 ⊢
          have HS2 := S2
          clear S2
          refine hKA.out _ _ (SC.out _ _ _ _ HS2.out) (fun hHeld => ?_)
          clear hKA KA HS
          have HS := HS2
          clear HS2
          try simp only [Act.put, List.setIfInBounds_toArray, List.set_cons_zero, List.set_cons_succ]
          refine wpAnyH_ready (rs := [7]) (by kernel_rfl) (by simp) ?_
          refine AllReadyH.cons (o := _) rfl (fun KA hKA => ?_) AllReadyH.nil
          obtain ⟨v7, Y32, R7, s2⟩ := HS.out.app 3 (show 3 < 6 by decide) rfl (HX.out.below HS.out.be) HLE.out 32
          refine step_append_run (by rfl) (.tmp 27) (.tmp 30) 32 (by rfl) (by rfl) (by rfl) R7 ?_
          have S2 := hide (show Sep w.heap.size w Y32 [tMk m f, tRl r f K, tBk ab 36 vs, tRw v7 len ((List.range len).map X), tBk tb 4 #[.bool true], tBk tt 34 #[.int .i64 0, .slice none 0 0]] from s2)
          clear R7 s2
          have HS2 := S2
          clear S2
          refine hKA.out _ _ (SC.out _ _ _ _ HS2.out) (fun hHeld => ?_)
          clear hKA KA HS
          have HS := HS2
          clear HS2
          try simp only [Act.put, List.setIfInBounds_toArray, List.set_cons_zero, List.set_cons_succ]
          refine wpAnyH_ready (rs := [9]) (by kernel_rfl) (by simp) ?_
          refine AllReadyH.cons (o := _) rfl (fun KA hKA => ?_) AllReadyH.nil
          obtain ⟨g, cp, Y33, R9, s2⟩ := HS.out.app1 3 4 (show 3 < 6 by decide) (show 4 < 6 by decide) rfl rfl HLK.out 32
          refine step_append_run (by rfl) (.tmp 31) (.tmp 32) 32 (by rfl) (by rfl) (by rfl) R9 ?_
          have S2 := hide (show Sep w.heap.size w Y33 [tMk m f, tRl r f K, tBk ab 36 vs, tRw (.slice (some ⟨g, 0, none⟩) (len + 1) cp) (len + 1) ((List.range len).map X ++ [true]), tBk tb 4 #[.bool true], tBk tt 34 #[.int .i64 0, .slice none 0 0]] from s2)
          obtain ⟨-, -, cpl⟩ := row_end (S2.out.rw 3 (show 3 < 6 by decide) rfl)
          have cpl1 : len ≤ cp := by omega
          clear R9 s2
          have HS2 := S2
          clear S2
          refine hKA.out _ _ (SC.out _ _ _ _ HS2.out) (fun hHeld => ?_)
          clear hKA KA HS
          have HS := HS2
          clear HS2
          try simp only [Act.put, List.setIfInBounds_toArray, List.set_cons_zero, List.set_cons_succ]
          refine wpAnyH_take (i := 14) (oi := _) (v := ?_) rfl (by kernel_rfl) (by kernel_rfl) (by kernel_rfl) (fun _ _ _ h => h) (Or.inl ⟨by rfl, ?_⟩) (by assumption) ?_
          rotate_left
          · (intro w hSw; (try dsimp only at hSw); go_simp; try with_reducible rfl)
          try simp only [Act.put, List.setIfInBounds_toArray, List.set_cons_zero, List.set_cons_succ]
          refine wpAnyH_take (i := 15) (oi := _) (v := ?_) rfl (by kernel_rfl) (by kernel_rfl) (by kernel_rfl) (fun _ _ _ h => h) (Or.inl ⟨by rfl, ?_⟩) (by assumption) ?_
          rotate_left
          · (intro w hSw; (try dsimp only at hSw); go_simp; try with_reducible rfl)
          try simp only [Act.put, List.setIfInBounds_toArray, List.set_cons_zero, List.set_cons_succ]
          refine wpAnyH_ready (rs := [17]) (by kernel_rfl) (by simp) ?_
          refine AllReadyH.cons (o := _) rfl (fun KA hKA => ?_) AllReadyH.nil
          have tf0 := (HS.out.bk 5 (show 5 < 6 by decide) rfl).fz 0
          have tf1 := (HS.out.bk 5 (show 5 < 6 by decide) rfl).fz 1
          have tc0 := (HS.out.bk 5 (show 5 < 6 by decide) rfl).cell 0 _ rfl
          have tc1 := (HS.out.bk 5 (show 5 < 6 by decide) rfl).cell 1 _ rfl
          go_simp
          have S2 := hide (show Sep w.heap.size w ((Y33.setCell ⟨tt, 0, none⟩ (.int .i64 WD)).setCell ⟨tt, 1, none⟩ (.slice (some ⟨g, 0, none⟩) len cp)) [tMk m f, tRl r f K, tBk ab 36 vs, tRw (.slice (some ⟨g, 0, none⟩) (len + 1) cp) (len + 1) ((List.range len).map X ++ [true]), tBk tb 4 #[.bool true], tBk tt 34 #[.int .i64 WD, .slice (some ⟨g, 0, none⟩) len cp]] from (HS.out.put 5 (show 5 < 6 by decide) rfl 0 (.int .i64 WD)).put 5 (show 5 < 6 by decide) rfl 1 (.slice (some ⟨g, 0, none⟩) len cp))
          generalize (Y33.setCell ⟨tt, 0, none⟩ (.int .i64 WD)).setCell ⟨tt, 1, none⟩ (.slice (some ⟨g, 0, none⟩) len cp) = Y34 at S2 ⊢
          clear tf0 tf1 tc0 tc1
          have HS2 := S2
          clear S2
          refine hKA.out _ _ (SC.out _ _ _ _ HS2.out) (fun hHeld => ?_)
          clear hKA KA HS
          have HS := HS2
          clear HS2
          try simp only [Act.put, List.setIfInBounds_toArray, List.set_cons_zero, List.set_cons_succ]
          refine wpAnyH_done (by kernel_rfl) ?_ _
          clear hHeld cpl cpl1
          first | exact LEAF.out _ _ _ _ _ _ _ HS | exact LEAF.out _ _ _ _ _ _ _ _ HS
    ·
      go_simp
      have S2 := hide (show Sep w.heap.size w (Y.alloc (.cells #[.bool true] 4)) [tMk m f, tRl r f K, tBk ab 36 vs, Thing.none, tBk Y.heap.size 4 #[.bool true], Thing.none] from HS.out.blk 4 (show 4 < 6 by decide) rfl _ _)
      generalize Y.heap.size = tb at S2 ⊢
      generalize Y.alloc (.cells #[.bool true] 4) = Y35 at S2 ⊢
      have HS2 := S2
      clear S2
      refine hKA.out _ _ (SC.out _ _ _ _ HS2.out) (fun hHeld => ?_)
      clear hKA KA HS
      have HS := HS2
      clear HS2
      try simp only [Act.put, List.setIfInBounds_toArray, List.set_cons_zero, List.set_cons_succ]
      refine wpAnyH_ready (rs := [3, 16]) (by kernel_rfl) (by simp) ?_
      refine AllReadyH.cons (o := _) rfl (fun KA hKA => ?_) (AllReadyH.cons (o := _) rfl (fun KA hKA => ?_) AllReadyH.nil)
      ·
        go_simp
        have S2 := hide (show Sep w.heap.size w (Y35.alloc (.cells #[] 4)) [tMk m f, tRl r f K, tBk ab 36 vs, tRw (.slice (some ⟨Y35.heap.size, 0, none⟩) 0 0) 0 [], tBk tb 4 #[.bool true], Thing.none] from HS.out.row0 3 (show 3 < 6 by decide) rfl)
        generalize Y35.heap.size = b3 at S2 ⊢
        generalize Y35.alloc (.cells #[] 4) = Y36 at S2 ⊢
        have HS2 := S2
        clear S2
        refine hKA.out _ _ (SC.out _ _ _ _ HS2.out) (fun hHeld => ?_)
        clear hKA KA HS
        have HS := HS2
        clear HS2
        try simp only [Act.put, List.setIfInBounds_toArray, List.set_cons_zero, List.set_cons_succ]
        refine wpAnyH_ready (rs := [7, 16]) (by kernel_rfl) (by simp) ?_
        refine AllReadyH.cons (o := _) rfl (fun KA hKA => ?_) (AllReadyH.cons (o := _) rfl (fun KA hKA => ?_) AllReadyH.nil)
        ·
          obtain ⟨v7, Y37, R7, s2⟩ := HS.out.app 3 (show 3 < 6 by decide) rfl (HX.out.below HS.out.be) HLE.out 32
          refine step_append_run (by rfl) (.tmp 27) (.tmp 30) 32 (by rfl) (by rfl) (by rfl) R7 ?_
          have S2 := hide (show Sep w.heap.size w Y37 [tMk m f, tRl r f K, tBk ab 36 vs, tRw v7 len ((List.range len).map X), tBk tb 4 #[.bool true], Thing.none] from s2)
          clear R7 s2
          have HS2 := S2
          clear S2
          refine hKA.out _ _ (SC.out _ _ _ _ HS2.out) (fun hHeld => ?_)
          clear hKA KA HS
          have HS := HS2
          clear HS2
          try simp only [Act.put, List.setIfInBounds_toArray, List.set_cons_zero, List.set_cons_succ]
          refine wpAnyH_ready (rs := [9, 16]) (by kernel_rfl) (by simp) ?_
          refine AllReadyH.cons (o := _) rfl (fun KA hKA => ?_) (AllReadyH.cons (o := _) rfl (fun KA hKA => ?_) AllReadyH.nil)
          ·
            obtain ⟨g, cp, Y38, R9, s2⟩ := HS.out.app1 3 4 (show 3 < 6 by decide) (show 4 < 6 by decide) rfl rfl HLK.out 32
            refine step_append_run (by rfl) (.tmp 31) (.tmp 32) 32 (by rfl) (by rfl) (by rfl) R9 ?_
            have S2 := hide (show Sep w.heap.size w Y38 [tMk m f, tRl r f K, tBk ab 36 vs, tRw (.slice (some ⟨g, 0, none⟩) (len + 1) cp) (len + 1) ((List.range len).map X ++ [true]), tBk tb 4 #[.bool true], Thing.none] from s2)
            obtain ⟨-, -, cpl⟩ := row_end (S2.out.rw 3 (show 3 < 6 by decide) rfl)
            have cpl1 : len ≤ cp := by omega
            clear R9 s2
            have HS2 := S2
            clear S2
            refine hKA.out _ _ (SC.out _ _ _ _ HS2.out) (fun hHeld => ?_)
            clear hKA KA HS
            have HS := HS2
            clear HS2
            try simp only [Act.put, List.setIfInBounds_toArray, List.set_cons_zero, List.set_cons_succ]
            refine wpAnyH_take (i := 14) (oi := _) (v := ?_) rfl (by kernel_rfl) (by kernel_rfl) (by kernel_rfl) (fun _ _ _ h => h) (Or.inl ⟨by rfl, ?_⟩) (by assumption) ?_
            rotate_left
            · (intro w hSw; (try dsimp only at hSw); go_simp; try with_reducible rfl)
            try simp only [Act.put, List.setIfInBounds_toArray, List.set_cons_zero, List.set_cons_succ]
            refine wpAnyH_take (i := 15) (oi := _) (v := ?_) rfl (by kernel_rfl) (by kernel_rfl) (by kernel_rfl) (fun _ _ _ h => h) (Or.inl ⟨by rfl, ?_⟩) (by assumption) ?_
            rotate_left
            · (intro w hSw; (try dsimp only at hSw); go_simp; try with_reducible rfl)
            try simp only [Act.put, List.setIfInBounds_toArray, List.set_cons_zero, List.set_cons_succ]
            refine wpAnyH_ready (rs := [16]) (by kernel_rfl) (by simp) ?_
            refine AllReadyH.cons (o := _) rfl (fun KA hKA => ?_) AllReadyH.nil
            go_simp
            have S2 := hide (show Sep w.heap.size w (Y38.alloc (.cells #[.int .i64 0, .slice none 0 0] 34)) [tMk m f, tRl r f K, tBk ab 36 vs, tRw (.slice (some ⟨g, 0, none⟩) (len + 1) cp) (len + 1) ((List.range len).map X ++ [true]), tBk tb 4 #[.bool true], tBk Y38.heap.size 34 #[.int .i64 0, .slice none 0 0]] from HS.out.blk 5 (show 5 < 6 by decide) rfl _ _)
            generalize Y38.heap.size = tt at S2 ⊢
            generalize Y38.alloc (.cells #[.int .i64 0, .slice none 0 0] 34) = Y39 at S2 ⊢
            have HS2 := S2
            clear S2
            refine hKA.out _ _ (SC.out _ _ _ _ HS2.out) (fun hHeld => ?_)
            clear hKA KA HS
            have HS := HS2
            clear HS2
            try simp only [Act.put, List.setIfInBounds_toArray, List.set_cons_zero, List.set_cons_succ]
            refine wpAnyH_ready (rs := [17]) (by kernel_rfl) (by simp) ?_
            refine AllReadyH.cons (o := _) rfl (fun KA hKA => ?_) AllReadyH.nil
            have tf0 := (HS.out.bk 5 (show 5 < 6 by decide) rfl).fz 0
            have tf1 := (HS.out.bk 5 (show 5 < 6 by decide) rfl).fz 1
            have tc0 := (HS.out.bk 5 (show 5 < 6 by decide) rfl).cell 0 _ rfl
            have tc1 := (HS.out.bk 5 (show 5 < 6 by decide) rfl).cell 1 _ rfl
            go_simp
            have S2 := hide (show Sep w.heap.size w ((Y39.setCell ⟨tt, 0, none⟩ (.int .i64 WD)).setCell ⟨tt, 1, none⟩ (.slice (some ⟨g, 0, none⟩) len cp)) [tMk m f, tRl r f K, tBk ab 36 vs, tRw (.slice (some ⟨g, 0, none⟩) (len + 1) cp) (len + 1) ((List.range len).map X ++ [true]), tBk tb 4 #[.bool true], tBk tt 34 #[.int .i64 WD, .slice (some ⟨g, 0, none⟩) len cp]] from (HS.out.put 5 (show 5 < 6 by decide) rfl 0 (.int .i64 WD)).put 5 (show 5 < 6 by decide) rfl 1 (.slice (some ⟨g, 0, none⟩) len cp))
            generalize (Y39.setCell ⟨tt, 0, none⟩ (.int .i64 WD)).setCell ⟨tt, 1, none⟩ (.slice (some ⟨g, 0, none⟩) len cp) = Y40 at S2 ⊢
            clear tf0 tf1 tc0 tc1
            have HS2 := S2
            clear S2
            refine hKA.out _ _ (SC.out _ _ _ _ HS2.out) (fun hHeld => ?_)
            clear hKA KA HS
            have HS := HS2
            clear HS2
            try simp only [Act.put, List.setIfInBounds_toArray, List.set_cons_zero, List.set_cons_succ]
            refine wpAnyH_done (by kernel_rfl) ?_ _
            clear hHeld cpl cpl1
            first | exact LEAF.out _ _ _ _ _ _ _ HS | exact LEAF.out _ _ _ _ _ _ _ _ HS
          ·
            go_simp
            have S2 := hide (show Sep w.heap.size w (Y37.alloc (.cells #[.int .i64 0, .slice none 0 0] 34)) [tMk m f, tRl r f K, tBk ab 36 vs, tRw v7 len ((List.range len).map X), tBk tb 4 #[.bool true], tBk Y37.heap.size 34 #[.int .i64 0, .slice none 0 0]] from HS.out.blk 5 (show 5 < 6 by decide) rfl _ _)
            generalize Y37.heap.size = tt at S2 ⊢
            generalize Y37.alloc (.cells #[.int .i64 0, .slice none 0 0] 34) = Y41 at S2 ⊢
            have HS2 := S2
            clear S2
            refine hKA.out _ _ (SC.out _ _ _ _ HS2.out) (fun hHeld => ?_)
            clear hKA KA HS
            have HS := HS2
            clear HS2
            try simp only [Act.put, List.setIfInBounds_toArray, List.set_cons_zero, List.set_cons_succ]
            refine wpAnyH_ready (rs := [9]) (by kernel_rfl) (by simp) ?_
            refine AllReadyH.cons (o := _) rfl (fun KA hKA => ?_) AllReadyH.nil
            obtain ⟨g, cp, Y42, R9, s2⟩ := HS.out.app1 3 4 (show 3 < 6 by decide) (show 4 < 6 by decide) rfl rfl HLK.out 32
            refine step_append_run (by rfl) (.tmp 31) (.tmp 32) 32 (by rfl) (by rfl) (by rfl) R9 ?_
            have S2 := hide (show Sep w.heap.size w Y42 [tMk m f, tRl r f K, tBk ab 36 vs, tRw (.slice (some ⟨g, 0, none⟩) (len + 1) cp) (len + 1) ((List.range len).map X ++ [true]), tBk tb 4 #[.bool true], tBk tt 34 #[.int .i64 0, .slice none 0 0]] from s2)
            obtain ⟨-, -, cpl⟩ := row_end (S2.out.rw 3 (show 3 < 6 by decide) rfl)
            have cpl1 : len ≤ cp := by omega
            clear R9 s2
            have HS2 := S2
            clear S2
            refine hKA.out _ _ (SC.out _ _ _ _ HS2.out) (fun hHeld => ?_)
            clear hKA KA HS
            have HS := HS2
            clear HS2
            try simp only [Act.put, List.setIfInBounds_toArray, List.set_cons_zero, List.set_cons_succ]
            refine wpAnyH_take (i := 14) (oi := _) (v := ?_) rfl (by kernel_rfl) (by kernel_rfl) (by kernel_rfl) (fun _ _ _ h => h) (Or.inl ⟨by rfl, ?_⟩) (by assumption) ?_
            rotate_left
            · (intro w hSw; (try dsimp only at hSw); go_simp; try with_reducible rfl)
            try simp only [Act.put, List.setIfInBounds_toArray, List.set_cons_zero, List.set_cons_succ]
            refine wpAnyH_take (i := 15) (oi := _) (v := ?_) rfl (by kernel_rfl) (by kernel_rfl) (by kernel_rfl) (fun _ _ _ h => h) (Or.inl ⟨by rfl, ?_⟩) (by assumption) ?_
            rotate_left
            · (intro w hSw; (try dsimp only at hSw); go_simp; try with_reducible rfl)
            try simp only [Act.put, List.setIfInBounds_toArray, List.set_cons_zero, List.set_cons_succ]
            refine wpAnyH_ready (rs := [17]) (by kernel_rfl) (by simp) ?_
            refine AllReadyH.cons (o := _) rfl (fun KA hKA => ?_) AllReadyH.nil
            have tf0 := (HS.out.bk 5 (show 5 < 6 by decide) rfl).fz 0
            have tf1 := (HS.out.bk 5 (show 5 < 6 by decide) rfl).fz 1
            have tc0 := (HS.out.bk 5 (show 5 < 6 by decide) rfl).cell 0 _ rfl
            have tc1 := (HS.out.bk 5 (show 5 < 6 by decide) rfl).cell 1 _ rfl
            go_simp
            have S2 := hide (show Sep w.heap.size w ((Y42.setCell ⟨tt, 0, none⟩ (.int .i64 WD)).setCell ⟨tt, 1, none⟩ (.slice (some ⟨g, 0, none⟩) len cp)) [tMk m f, tRl r f K, tBk ab 36 vs, tRw (.slice (some ⟨g, 0, none⟩) (len + 1) cp) (len + 1) ((List.range len).map X ++ [true]), tBk tb 4 #[.bool true], tBk tt 34 #[.int .i64 WD, .slice (some ⟨g, 0, none⟩) len cp]] from (HS.out.put 5 (show 5 < 6 by decide) rfl 0 (.int .i64 WD)).put 5 (show 5 < 6 by decide) rfl 1 (.slice (some ⟨g, 0, none⟩) len cp))
            generalize (Y42.setCell ⟨tt, 0, none⟩ (.int .i64 WD)).setCell ⟨tt, 1, none⟩ (.slice (some ⟨g, 0, none⟩) len cp) = Y43 at S2 ⊢
            clear tf0 tf1 tc0 tc1
            have HS2 := S2
            clear S2
            refine hKA.out _ _ (SC.out _ _ _ _ HS2.out) (fun hHeld => ?_)
            clear hKA KA HS
            have HS := HS2
            clear HS2
            try simp only [Act.put, List.setIfInBounds_toArray, List.set_cons_zero, List.set_cons_succ]
            refine wpAnyH_done (by kernel_rfl) ?_ _
            clear hHeld cpl cpl1
            first | exact LEAF.out _ _ _ _ _ _ _ HS | exact LEAF.out _ _ _ _ _ _ _ _ HS
        ·
          go_simp
          have S2 := hide (show Sep w.heap.size w (Y36.alloc (.cells #[.int .i64 0, .slice none 0 0] 34)) [tMk m f, tRl r f K, tBk ab 36 vs, tRw (.slice (some ⟨b3, 0, none⟩) 0 0) 0 [], tBk tb 4 #[.bool true], tBk Y36.heap.size 34 #[.int .i64 0, .slice none 0 0]] from HS.out.blk 5 (show 5 < 6 by decide) rfl _ _)
          generalize Y36.heap.size = tt at S2 ⊢
          generalize Y36.alloc (.cells #[.int .i64 0, .slice none 0 0] 34) = Y44 at S2 ⊢
          have HS2 := S2
          clear S2
          refine hKA.out _ _ (SC.out _ _ _ _ HS2.out) (fun hHeld => ?_)
          clear hKA KA HS
          have HS := HS2
          clear HS2
          try simp only [Act.put, List.setIfInBounds_toArray, List.set_cons_zero, List.set_cons_succ]
          refine wpAnyH_ready (rs := [7]) (by kernel_rfl) (by simp) ?_
          refine AllReadyH.cons (o := _) rfl (fun KA hKA => ?_) AllReadyH.nil
          obtain ⟨v7, Y45, R7, s2⟩ := HS.out.app 3 (show 3 < 6 by decide) rfl (HX.out.below HS.out.be) HLE.out 32
          refine step_append_run (by rfl) (.tmp 27) (.tmp 30) 32 (by rfl) (by rfl) (by rfl) R7 ?_
          have S2 := hide (show Sep w.heap.size w Y45 [tMk m f, tRl r f K, tBk ab 36 vs, tRw v7 len ((List.range len).map X), tBk tb 4 #[.bool true], tBk tt 34 #[.int .i64 0, .slice none 0 0]] from s2)
          clear R7 s2
          have HS2 := S2
          clear S2
          refine hKA.out _ _ (SC.out _ _ _ _ HS2.out) (fun hHeld => ?_)
          clear hKA KA HS
          have HS := HS2
          clear HS2
          try simp only [Act.put, List.setIfInBounds_toArray, List.set_cons_zero, List.set_cons_succ]
          refine wpAnyH_ready (rs := [9]) (by kernel_rfl) (by simp) ?_
          refine AllReadyH.cons (o := _) rfl (fun KA hKA => ?_) AllReadyH.nil
          obtain ⟨g, cp, Y46, R9, s2⟩ := HS.out.app1 3 4 (show 3 < 6 by decide) (show 4 < 6 by decide) rfl rfl HLK.out 32
          refine step_append_run (by rfl) (.tmp 31) (.tmp 32) 32 (by rfl) (by rfl) (by rfl) R9 ?_
          have S2 := hide (show Sep w.heap.size w Y46 [tMk m f, tRl r f K, tBk ab 36 vs, tRw (.slice (some ⟨g, 0, none⟩) (len + 1) cp) (len + 1) ((List.range len).map X ++ [true]), tBk tb 4 #[.bool true], tBk tt 34 #[.int .i64 0, .slice none 0 0]] from s2)
          obtain ⟨-, -, cpl⟩ := row_end (S2.out.rw 3 (show 3 < 6 by decide) rfl)
          have cpl1 : len ≤ cp := by omega
          clear R9 s2
          have HS2 := S2
          clear S2
          refine hKA.out _ _ (SC.out _ _ _ _ HS2.out) (fun hHeld => ?_)
          clear hKA KA HS
          have HS := HS2
          clear HS2
          try simp only [Act.put, List.setIfInBounds_toArray, List.set_cons_zero, List.set_cons_succ]
          refine wpAnyH_take (i := 14) (oi := _) (v := ?_) rfl (by kernel_rfl) (by kernel_rfl) (by kernel_rfl) (fun _ _ _ h => h) (Or.inl ⟨by rfl, ?_⟩) (by assumption) ?_
          rotate_left
          · (intro w hSw; (try dsimp only at hSw); go_simp; try with_reducible rfl)
          try simp only [Act.put, List.setIfInBounds_toArray, List.set_cons_zero, List.set_cons_succ]
          refine wpAnyH_take (i := 15) (oi := _) (v := ?_) rfl (by kernel_rfl) (by kernel_rfl) (by kernel_rfl) (fun _ _ _ h => h) (Or.inl ⟨by rfl, ?_⟩) (by assumption) ?_
          rotate_left
          · (intro w hSw; (try dsimp only at hSw); go_simp; try with_reducible rfl)
          try simp only [Act.put, List.setIfInBounds_toArray, List.set_cons_zero, List.set_cons_succ]
          refine wpAnyH_ready (rs := [17]) (by kernel_rfl) (by simp) ?_
          refine AllReadyH.cons (o := _) rfl (fun KA hKA => ?_) AllReadyH.nil
          have tf0 := (HS.out.bk 5 (show 5 < 6 by decide) rfl).fz 0
          have tf1 := (HS.out.bk 5 (show 5 < 6 by decide) rfl).fz 1
          have tc0 := (HS.out.bk 5 (show 5 < 6 by decide) rfl).cell 0 _ rfl
          have tc1 := (HS.out.bk 5 (show 5 < 6 by decide) rfl).cell 1 _ rfl
          go_simp
          have S2 := hide (show Sep w.heap.size w ((Y46.setCell ⟨tt, 0, none⟩ (.int .i64 WD)).setCell ⟨tt, 1, none⟩ (.slice (some ⟨g, 0, none⟩) len cp)) [tMk m f, tRl r f K, tBk ab 36 vs, tRw (.slice (some ⟨g, 0, none⟩) (len + 1) cp) (len + 1) ((List.range len).map X ++ [true]), tBk tb 4 #[.bool true], tBk tt 34 #[.int .i64 WD, .slice (some ⟨g, 0, none⟩) len cp]] from (HS.out.put 5 (show 5 < 6 by decide) rfl 0 (.int .i64 WD)).put 5 (show 5 < 6 by decide) rfl 1 (.slice (some ⟨g, 0, none⟩) len cp))
          generalize (Y46.setCell ⟨tt, 0, none⟩ (.int .i64 WD)).setCell ⟨tt, 1, none⟩ (.slice (some ⟨g, 0, none⟩) len cp) = Y47 at S2 ⊢
          clear tf0 tf1 tc0 tc1
          have HS2 := S2
          clear S2
          refine hKA.out _ _ (SC.out _ _ _ _ HS2.out) (fun hHeld => ?_)
          clear hKA KA HS
          have HS := HS2
          clear HS2
          try simp only [Act.put, List.setIfInBounds_toArray, List.set_cons_zero, List.set_cons_succ]
          refine wpAnyH_done (by kernel_rfl) ?_ _
          clear hHeld cpl cpl1
          first | exact LEAF.out _ _ _ _ _ _ _ HS | exact LEAF.out _ _ _ _ _ _ _ _ HS
      ·
        go_simp
        have S2 := hide (show Sep w.heap.size w (Y35.alloc (.cells #[.int .i64 0, .slice none 0 0] 34)) [tMk m f, tRl r f K, tBk ab 36 vs, Thing.none, tBk tb 4 #[.bool true], tBk Y35.heap.size 34 #[.int .i64 0, .slice none 0 0]] from HS.out.blk 5 (show 5 < 6 by decide) rfl _ _)
        generalize Y35.heap.size = tt at S2 ⊢
        generalize Y35.alloc (.cells #[.int .i64 0, .slice none 0 0] 34) = Y48 at S2 ⊢
        have HS2 := S2
        clear S2
        refine hKA.out _ _ (SC.out _ _ _ _ HS2.out) (fun hHeld => ?_)
        clear hKA KA HS
        have HS := HS2
        clear HS2
        try simp only [Act.put, List.setIfInBounds_toArray, List.set_cons_zero, List.set_cons_succ]
        refine wpAnyH_ready (rs := [3]) (by kernel_rfl) (by simp) ?_
        refine AllReadyH.cons (o := _) rfl (fun KA hKA => ?_) AllReadyH.nil
        go_simp
        have S2 := hide (show Sep w.heap.size w (Y48.alloc (.cells #[] 4)) [tMk m f, tRl r f K, tBk ab 36 vs, tRw (.slice (some ⟨Y48.heap.size, 0, none⟩) 0 0) 0 [], tBk tb 4 #[.bool true], tBk tt 34 #[.int .i64 0, .slice none 0 0]] from HS.out.row0 3 (show 3 < 6 by decide) rfl)
        generalize Y48.heap.size = b3 at S2 ⊢
        generalize Y48.alloc (.cells #[] 4) = Y49 at S2 ⊢
        have HS2 := S2
        clear S2
        refine hKA.out _ _ (SC.out _ _ _ _ HS2.out) (fun hHeld => ?_)
        clear hKA KA HS
        have HS := HS2
        clear HS2
        try simp only [Act.put, List.setIfInBounds_toArray, List.set_cons_zero, List.set_cons_succ]
        refine wpAnyH_ready (rs := [7]) (by kernel_rfl) (by simp) ?_
        refine AllReadyH.cons (o := _) rfl (fun KA hKA => ?_) AllReadyH.nil
        obtain ⟨v7, Y50, R7, s2⟩ := HS.out.app 3 (show 3 < 6 by decide) rfl (HX.out.below HS.out.be) HLE.out 32
        refine step_append_run (by rfl) (.tmp 27) (.tmp 30) 32 (by rfl) (by rfl) (by rfl) R7 ?_
        have S2 := hide (show Sep w.heap.size w Y50 [tMk m f, tRl r f K, tBk ab 36 vs, tRw v7 len ((List.range len).map X), tBk tb 4 #[.bool true], tBk tt 34 #[.int .i64 0, .slice none 0 0]] from s2)
        clear R7 s2
        have HS2 := S2
        clear S2
        refine hKA.out _ _ (SC.out _ _ _ _ HS2.out) (fun hHeld => ?_)
        clear hKA KA HS
        have HS := HS2
        clear HS2
        try simp only [Act.put, List.setIfInBounds_toArray, List.set_cons_zero, List.set_cons_succ]
        refine wpAnyH_ready (rs := [9]) (by kernel_rfl) (by simp) ?_
        refine AllReadyH.cons (o := _) rfl (fun KA hKA => ?_) AllReadyH.nil
        obtain ⟨g, cp, Y51, R9, s2⟩ := HS.out.app1 3 4 (show 3 < 6 by decide) (show 4 < 6 by decide) rfl rfl HLK.out 32
        refine step_append_run (by rfl) (.tmp 31) (.tmp 32) 32 (by rfl) (by rfl) (by rfl) R9 ?_
        have S2 := hide (show Sep w.heap.size w Y51 [tMk m f, tRl r f K, tBk ab 36 vs, tRw (.slice (some ⟨g, 0, none⟩) (len + 1) cp) (len + 1) ((List.range len).map X ++ [true]), tBk tb 4 #[.bool true], tBk tt 34 #[.int .i64 0, .slice none 0 0]] from s2)
        obtain ⟨-, -, cpl⟩ := row_end (S2.out.rw 3 (show 3 < 6 by decide) rfl)
        have cpl1 : len ≤ cp := by omega
        clear R9 s2
        have HS2 := S2
        clear S2
        refine hKA.out _ _ (SC.out _ _ _ _ HS2.out) (fun hHeld => ?_)
        clear hKA KA HS
        have HS := HS2
        clear HS2
        try simp only [Act.put, List.setIfInBounds_toArray, List.set_cons_zero, List.set_cons_succ]
        refine wpAnyH_take (i := 14) (oi := _) (v := ?_) rfl (by kernel_rfl) (by kernel_rfl) (by kernel_rfl) (fun _ _ _ h => h) (Or.inl ⟨by rfl, ?_⟩) (by assumption) ?_
        rotate_left
        · (intro w hSw; (try dsimp only at hSw); go_simp; try with_reducible rfl)
        try simp only [Act.put, List.setIfInBounds_toArray, List.set_cons_zero, List.set_cons_succ]
        refine wpAnyH_take (i := 15) (oi := _) (v := ?_) rfl (by kernel_rfl) (by kernel_rfl) (by kernel_rfl) (fun _ _ _ h => h) (Or.inl ⟨by rfl, ?_⟩) (by assumption) ?_
        rotate_left
        · (intro w hSw; (try dsimp only at hSw); go_simp; try with_reducible rfl)
        try simp only [Act.put, List.setIfInBounds_toArray, List.set_cons_zero, List.set_cons_succ]
        refine wpAnyH_ready (rs := [17]) (by kernel_rfl) (by simp) ?_
        refine AllReadyH.cons (o := _) rfl (fun KA hKA => ?_) AllReadyH.nil
        have tf0 := (HS.out.bk 5 (show 5 < 6 by decide) rfl).fz 0
        have tf1 := (HS.out.bk 5 (show 5 < 6 by decide) rfl).fz 1
        have tc0 := (HS.out.bk 5 (show 5 < 6 by decide) rfl).cell 0 _ rfl
        have tc1 := (HS.out.bk 5 (show 5 < 6 by decide) rfl).cell 1 _ rfl
        go_simp
        have S2 := hide (show Sep w.heap.size w ((Y51.setCell ⟨tt, 0, none⟩ (.int .i64 WD)).setCell ⟨tt, 1, none⟩ (.slice (some ⟨g, 0, none⟩) len cp)) [tMk m f, tRl r f K, tBk ab 36 vs, tRw (.slice (some ⟨g, 0, none⟩) (len + 1) cp) (len + 1) ((List.range len).map X ++ [true]), tBk tb 4 #[.bool true], tBk tt 34 #[.int .i64 WD, .slice (some ⟨g, 0, none⟩) len cp]] from (HS.out.put 5 (show 5 < 6 by decide) rfl 0 (.int .i64 WD)).put 5 (show 5 < 6 by decide) rfl 1 (.slice (some ⟨g, 0, none⟩) len cp))
        generalize (Y51.setCell ⟨tt, 0, none⟩ (.int .i64 WD)).setCell ⟨tt, 1, none⟩ (.slice (some ⟨g, 0, none⟩) len cp) = Y52 at S2 ⊢
        clear tf0 tf1 tc0 tc1
        have HS2 := S2
        clear S2
        refine hKA.out _ _ (SC.out _ _ _ _ HS2.out) (fun hHeld => ?_)
        clear hKA KA HS
        have HS := HS2
        clear HS2
        try simp only [Act.put, List.setIfInBounds_toArray, List.set_cons_zero, List.set_cons_succ]
        refine wpAnyH_done (by kernel_rfl) ?_ _
        clear hHeld cpl cpl1
        first | exact LEAF.out _ _ _ _ _ _ _ HS | exact LEAF.out _ _ _ _ _ _ _ _ HS
    ·
      go_simp
      have S2 := hide (show Sep w.heap.size w (Y.alloc (.cells #[.int .i64 0, .slice none 0 0] 34)) [tMk m f, tRl r f K, tBk ab 36 vs, Thing.none, Thing.none, tBk Y.heap.size 34 #[.int .i64 0, .slice none 0 0]] from HS.out.blk 5 (show 5 < 6 by decide) rfl _ _)
      generalize Y.heap.size = tt at S2 ⊢
      generalize Y.alloc (.cells #[.int .i64 0, .slice none 0 0] 34) = Y53 at S2 ⊢
      have HS2 := S2
      clear S2
      refine hKA.out _ _ (SC.out _ _ _ _ HS2.out) (fun hHeld => ?_)
      clear hKA KA HS
      have HS := HS2
      clear HS2
      try simp only [Act.put, List.setIfInBounds_toArray, List.set_cons_zero, List.set_cons_succ]
      refine wpAnyH_ready (rs := [3, 8]) (by kernel_rfl) (by simp) ?_
      refine AllReadyH.cons (o := _) rfl (fun KA hKA => ?_) (AllReadyH.cons (o := _) rfl (fun KA hKA => ?_) AllReadyH.nil)
      ·
        go_simp
        have S2 := hide (show Sep w.heap.size w (Y53.alloc (.cells #[] 4)) [tMk m f, tRl r f K, tBk ab 36 vs, tRw (.slice (some ⟨Y53.heap.size, 0, none⟩) 0 0) 0 [], Thing.none, tBk tt 34 #[.int .i64 0, .slice none 0 0]] from HS.out.row0 3 (show 3 < 6 by decide) rfl)
        generalize Y53.heap.size = b3 at S2 ⊢
        generalize Y53.alloc (.cells #[] 4) = Y54 at S2 ⊢
        have HS2 := S2
        clear S2
        refine hKA.out _ _ (SC.out _ _ _ _ HS2.out) (fun hHeld => ?_)
        clear hKA KA HS
        have HS := HS2
        clear HS2
        try simp only [Act.put, List.setIfInBounds_toArray, List.set_cons_zero, List.set_cons_succ]
        refine wpAnyH_ready (rs := [7, 8]) (by kernel_rfl) (by simp) ?_
        refine AllReadyH.cons (o := _) rfl (fun KA hKA => ?_) (AllReadyH.cons (o := _) rfl (fun KA hKA => ?_) AllReadyH.nil)
        ·
          obtain ⟨v7, Y55, R7, s2⟩ := HS.out.app 3 (show 3 < 6 by decide) rfl (HX.out.below HS.out.be) HLE.out 32
          refine step_append_run (by rfl) (.tmp 27) (.tmp 30) 32 (by rfl) (by rfl) (by rfl) R7 ?_
          have S2 := hide (show Sep w.heap.size w Y55 [tMk m f, tRl r f K, tBk ab 36 vs, tRw v7 len ((List.range len).map X), Thing.none, tBk tt 34 #[.int .i64 0, .slice none 0 0]] from s2)
          clear R7 s2
          have HS2 := S2
          clear S2
          refine hKA.out _ _ (SC.out _ _ _ _ HS2.out) (fun hHeld => ?_)
          clear hKA KA HS
          have HS := HS2
          clear HS2
          try simp only [Act.put, List.setIfInBounds_toArray, List.set_cons_zero, List.set_cons_succ]
          refine wpAnyH_ready (rs := [8]) (by kernel_rfl) (by simp) ?_
          refine AllReadyH.cons (o := _) rfl (fun KA hKA => ?_) AllReadyH.nil
          go_simp
          have S2 := hide (show Sep w.heap.size w (Y55.alloc (.cells #[.bool true] 4)) [tMk m f, tRl r f K, tBk ab 36 vs, tRw v7 len ((List.range len).map X), tBk Y55.heap.size 4 #[.bool true], tBk tt 34 #[.int .i64 0, .slice none 0 0]] from HS.out.blk 4 (show 4 < 6 by decide) rfl _ _)
          generalize Y55.heap.size = tb at S2 ⊢
          generalize Y55.alloc (.cells #[.bool true] 4) = Y56 at S2 ⊢
          have HS2 := S2
          clear S2
          refine hKA.out _ _ (SC.out _ _ _ _ HS2.out) (fun hHeld => ?_)
          clear hKA KA HS
          have HS := HS2
          clear HS2
          try simp only [Act.put, List.setIfInBounds_toArray, List.set_cons_zero, List.set_cons_succ]
          refine wpAnyH_ready (rs := [9]) (by kernel_rfl) (by simp) ?_
          refine AllReadyH.cons (o := _) rfl (fun KA hKA => ?_) AllReadyH.nil
          obtain ⟨g, cp, Y57, R9, s2⟩ := HS.out.app1 3 4 (show 3 < 6 by decide) (show 4 < 6 by decide) rfl rfl HLK.out 32
          refine step_append_run (by rfl) (.tmp 31) (.tmp 32) 32 (by rfl) (by rfl) (by rfl) R9 ?_
          have S2 := hide (show Sep w.heap.size w Y57 [tMk m f, tRl r f K, tBk ab 36 vs, tRw (.slice (some ⟨g, 0, none⟩) (len + 1) cp) (len + 1) ((List.range len).map X ++ [true]), tBk tb 4 #[.bool true], tBk tt 34 #[.int .i64 0, .slice none 0 0]] from s2)
          obtain ⟨-, -, cpl⟩ := row_end (S2.out.rw 3 (show 3 < 6 by decide) rfl)
          have cpl1 : len ≤ cp := by omega
          clear R9 s2
          have HS2 := S2
          clear S2
          refine hKA.out _ _ (SC.out _ _ _ _ HS2.out) (fun hHeld => ?_)
          clear hKA KA HS
          have HS := HS2
          clear HS2
          try simp only [Act.put, List.setIfInBounds_toArray, List.set_cons_zero, List.set_cons_succ]
          refine wpAnyH_take (i := 14) (oi := _) (v := ?_) rfl (by kernel_rfl) (by kernel_rfl) (by kernel_rfl) (fun _ _ _ h => h) (Or.inl ⟨by rfl, ?_⟩) (by assumption) ?_
          rotate_left
          · (intro w hSw; (try dsimp only at hSw); go_simp; try with_reducible rfl)
          try simp only [Act.put, List.setIfInBounds_toArray, List.set_cons_zero, List.set_cons_succ]
          refine wpAnyH_take (i := 15) (oi := _) (v := ?_) rfl (by kernel_rfl) (by kernel_rfl) (by kernel_rfl) (fun _ _ _ h => h) (Or.inl ⟨by rfl, ?_⟩) (by assumption) ?_
          rotate_left
          · (intro w hSw; (try dsimp only at hSw); go_simp; try with_reducible rfl)
          try simp only [Act.put, List.setIfInBounds_toArray, List.set_cons_zero, List.set_cons_succ]
          refine wpAnyH_ready (rs := [17]) (by kernel_rfl) (by simp) ?_
          refine AllReadyH.cons (o := _) rfl (fun KA hKA => ?_) AllReadyH.nil
          have tf0 := (HS.out.bk 5 (show 5 < 6 by decide) rfl).fz 0
          have tf1 := (HS.out.bk 5 (show 5 < 6 by decide) rfl).fz 1
          have tc0 := (HS.out.bk 5 (show 5 < 6 by decide) rfl).cell 0 _ rfl
          have tc1 := (HS.out.bk 5 (show 5 < 6 by decide) rfl).cell 1 _ rfl
          go_simp
          have S2 := hide (show Sep w.heap.size w ((Y57.setCell ⟨tt, 0, none⟩ (.int .i64 WD)).setCell ⟨tt, 1, none⟩ (.slice (some ⟨g, 0, none⟩) len cp)) [tMk m f, tRl r f K, tBk ab 36 vs, tRw (.slice (some ⟨g, 0, none⟩) (len + 1) cp) (len + 1) ((List.range len).map X ++ [true]), tBk tb 4 #[.bool true], tBk tt 34 #[.int .i64 WD, .slice (some ⟨g, 0, none⟩) len cp]] from (HS.out.put 5 (show 5 < 6 by decide) rfl 0 (.int .i64 WD)).put 5 (show 5 < 6 by decide) rfl 1 (.slice (some ⟨g, 0, none⟩) len cp))
          generalize (Y57.setCell ⟨tt, 0, none⟩ (.int .i64 WD)).setCell ⟨tt, 1, none⟩ (.slice (some ⟨g, 0, none⟩) len cp) = Y58 at S2 ⊢
          clear tf0 tf1 tc0 tc1
          have HS2 := S2
          clear S2
          refine hKA.out _ _ (SC.out _ _ _ _ HS2.out) (fun hHeld => ?_)
          clear hKA KA HS
          have HS := HS2
          clear HS2
          try simp only [Act.put, List.setIfInBounds_toArray, List.set_cons_zero, List.set_cons_succ]
          refine wpAnyH_done (by kernel_rfl) ?_ _
          clear hHeld cpl cpl1
          first | exact LEAF.out _ _ _ _ _ _ _ HS | exact LEAF.out _ _ _ _ _ _ _ _ HS
        ·
          go_simp
          have S2 := hide (show Sep w.heap.size w (Y54.alloc (.cells #[.bool true] 4)) [tMk m f, tRl r f K, tBk ab 36 vs, tRw (.slice (some ⟨b3, 0, none⟩) 0 0) 0 [], tBk Y54.heap.size 4 #[.bool true], tBk tt 34 #[.int .i64 0, .slice none 0 0]] from HS.out.blk 4 (show 4 < 6 by decide) rfl _ _)
          generalize Y54.heap.size = tb at S2 ⊢
          generalize Y54.alloc (.cells #[.bool true] 4) = Y59 at S2 ⊢
          have HS2 := S2
          clear S2
          refine hKA.out _ _ (SC.out _ _ _ _ HS2.out) (fun hHeld => ?_)
          clear hKA KA HS
          have HS := HS2
          clear HS2
          try simp only [Act.put, List.setIfInBounds_toArray, List.set_cons_zero, List.set_cons_succ]
          refine wpAnyH_ready (rs := [7]) (by kernel_rfl) (by simp) ?_
          refine AllReadyH.cons (o := _) rfl (fun KA hKA => ?_) AllReadyH.nil
          obtain ⟨v7, Y60, R7, s2⟩ := HS.out.app 3 (show 3 < 6 by decide) rfl (HX.out.below HS.out.be) HLE.out 32
          refine step_append_run (by rfl) (.tmp 27) (.tmp 30) 32 (by rfl) (by rfl) (by rfl) R7 ?_
          have S2 := hide (show Sep w.heap.size w Y60 [tMk m f, tRl r f K, tBk ab 36 vs, tRw v7 len ((List.range len).map X), tBk tb 4 #[.bool true], tBk tt 34 #[.int .i64 0, .slice none 0 0]] from s2)
          clear R7 s2
          have HS2 := S2
          clear S2
          refine hKA.out _ _ (SC.out _ _ _ _ HS2.out) (fun hHeld => ?_)
          clear hKA KA HS
          have HS := HS2
          clear HS2
          try simp only [Act.put, List.setIfInBounds_toArray, List.set_cons_zero, List.set_cons_succ]
          refine wpAnyH_ready (rs := [9]) (by kernel_rfl) (by simp) ?_
          refine AllReadyH.cons (o := _) rfl (fun KA hKA => ?_) AllReadyH.nil
          obtain ⟨g, cp, Y61, R9, s2⟩ := HS.out.app1 3 4 (show 3 < 6 by decide) (show 4 < 6 by decide) rfl rfl HLK.out 32
          refine step_append_run (by rfl) (.tmp 31) (.tmp 32) 32 (by rfl) (by rfl) (by rfl) R9 ?_
          have S2 := hide (show Sep w.heap.size w Y61 [tMk m f, tRl r f K, tBk ab 36 vs, tRw (.slice (some ⟨g, 0, none⟩) (len + 1) cp) (len + 1) ((List.range len).map X ++ [true]), tBk tb 4 #[.bool true], tBk tt 34 #[.int .i64 0, .slice none 0 0]] from s2)
          obtain ⟨-, -, cpl⟩ := row_end (S2.out.rw 3 (show 3 < 6 by decide) rfl)
          have cpl1 : len ≤ cp := by omega
          clear R9 s2
          have HS2 := S2
          clear S2
          refine hKA.out _ _ (SC.out _ _ _ _ HS2.out) (fun hHeld => ?_)
          clear hKA KA HS
          have HS := HS2
          clear HS2
          try simp only [Act.put, List.setIfInBounds_toArray, List.set_cons_zero, List.set_cons_succ]
          refine wpAnyH_take (i := 14) (oi := _) (v := ?_) rfl (by kernel_rfl) (by kernel_rfl) (by kernel_rfl) (fun _ _ _ h => h) (Or.inl ⟨by rfl, ?_⟩) (by assumption) ?_
          rotate_left
          · (intro w hSw; (try dsimp only at hSw); go_simp; try with_reducible rfl)
          try simp only [Act.put, List.setIfInBounds_toArray, List.set_cons_zero, List.set_cons_succ]
          refine wpAnyH_take (i := 15) (oi := _) (v := ?_) rfl (by kernel_rfl) (by kernel_rfl) (by kernel_rfl) (fun _ _ _ h => h) (Or.inl ⟨by rfl, ?_⟩) (by assumption) ?_
          rotate_left
          · (intro w hSw; (try dsimp only at hSw); go_simp; try with_reducible rfl)
          try simp only [Act.put, List.setIfInBounds_toArray, List.set_cons_zero, List.set_cons_succ]
          refine wpAnyH_ready (rs := [17]) (by kernel_rfl) (by simp) ?_
          refine AllReadyH.cons (o := _) rfl (fun KA hKA => ?_) AllReadyH.nil
          have tf0 := (HS.out.bk 5 (show 5 < 6 by decide) rfl).fz 0
          have tf1 := (HS.out.bk 5 (show 5 < 6 by decide) rfl).fz 1
          have tc0 := (HS.out.bk 5 (show 5 < 6 by decide) rfl).cell 0 _ rfl
          have tc1 := (HS.out.bk 5 (show 5 < 6 by decide) rfl).cell 1 _ rfl
          go_simp
          have S2 := hide (show Sep w.heap.size w ((Y61.setCell ⟨tt, 0, none⟩ (.int .i64 WD)).setCell ⟨tt, 1, none⟩ (.slice (some ⟨g, 0, none⟩) len cp)) [tMk m f, tRl r f K, tBk ab 36 vs, tRw (.slice (some ⟨g, 0, none⟩) (len + 1) cp) (len + 1) ((List.range len).map X ++ [true]), tBk tb 4 #[.bool true], tBk tt 34 #[.int .i64 WD, .slice (some ⟨g, 0, none⟩) len cp]] from (HS.out.put 5 (show 5 < 6 by decide) rfl 0 (.int .i64 WD)).put 5 (show 5 < 6 by decide) rfl 1 (.slice (some ⟨g, 0, none⟩) len cp))
          generalize (Y61.setCell ⟨tt, 0, none⟩ (.int .i64 WD)).setCell ⟨tt, 1, none⟩ (.slice (some ⟨g, 0, none⟩) len cp) = Y62 at S2 ⊢
          clear tf0 tf1 tc0 tc1
          have HS2 := S2
          clear S2
          refine hKA.out _ _ (SC.out _ _ _ _ HS2.out) (fun hHeld => ?_)
          clear hKA KA HS
          have HS := HS2
          clear HS2
          try simp only [Act.put, List.setIfInBounds_toArray, List.set_cons_zero, List.set_cons_succ]
          refine wpAnyH_done (by kernel_rfl) ?_ _
          clear hHeld cpl cpl1
          first | exact LEAF.out _ _ _ _ _ _ _ HS | exact LEAF.out _ _ _ _ _ _ _ _ HS
      ·
        go_simp
        have S2 := hide (show Sep w.heap.size w (Y53.alloc (.cells #[.bool true] 4)) [tMk m f, tRl r f K, tBk ab 36 vs, Thing.none, tBk Y53.heap.size 4 #[.bool true], tBk tt 34 #[.int .i64 0, .slice none 0 0]] from HS.out.blk 4 (show 4 < 6 by decide) rfl _ _)
        generalize Y53.heap.size = tb at S2 ⊢
        generalize Y53.alloc (.cells #[.bool true] 4) = Y63 at S2 ⊢
        have HS2 := S2
        clear S2
        refine hKA.out _ _ (SC.out _ _ _ _ HS2.out) (fun hHeld => ?_)
        clear hKA KA HS
        have HS := HS2
        clear HS2
        try simp only [Act.put, List.setIfInBounds_toArray, List.set_cons_zero, List.set_cons_succ]
        refine wpAnyH_ready (rs := [3]) (by kernel_rfl) (by simp) ?_
        refine AllReadyH.cons (o := _) rfl (fun KA hKA => ?_) AllReadyH.nil
        go_simp
        have S2 := hide (show Sep w.heap.size w (Y63.alloc (.cells #[] 4)) [tMk m f, tRl r f K, tBk ab 36 vs, tRw (.slice (some ⟨Y63.heap.size, 0, none⟩) 0 0) 0 [], tBk tb 4 #[.bool true], tBk tt 34 #[.int .i64 0, .slice none 0 0]] from HS.out.row0 3 (show 3 < 6 by decide) rfl)
        generalize Y63.heap.size = b3 at S2 ⊢
        generalize Y63.alloc (.cells #[] 4) = Y64 at S2 ⊢
        have HS2 := S2
        clear S2
        refine hKA.out _ _ (SC.out _ _ _ _ HS2.out) (fun hHeld => ?_)
        clear hKA KA HS
        have HS := HS2
        clear HS2
        try simp only [Act.put, List.setIfInBounds_toArray, List.set_cons_zero, List.set_cons_succ]
        refine wpAnyH_ready (rs := [7]) (by kernel_rfl) (by simp) ?_
        refine AllReadyH.cons (o := _) rfl (fun KA hKA => ?_) AllReadyH.nil
        obtain ⟨v7, Y65, R7, s2⟩ := HS.out.app 3 (show 3 < 6 by decide) rfl (HX.out.below HS.out.be) HLE.out 32
        refine step_append_run (by rfl) (.tmp 27) (.tmp 30) 32 (by rfl) (by rfl) (by rfl) R7 ?_
        have S2 := hide (show Sep w.heap.size w Y65 [tMk m f, tRl r f K, tBk ab 36 vs, tRw v7 len ((List.range len).map X), tBk tb 4 #[.bool true], tBk tt 34 #[.int .i64 0, .slice none 0 0]] from s2)
        clear R7 s2
        have HS2 := S2
        clear S2
        refine hKA.out _ _ (SC.out _ _ _ _ HS2.out) (fun hHeld => ?_)
        clear hKA KA HS
        have HS := HS2
        clear HS2
        try simp only [Act.put, List.setIfInBounds_toArray, List.set_cons_zero, List.set_cons_succ]
        refine wpAnyH_ready (rs := [9]) (by kernel_rfl) (by simp) ?_
        refine AllReadyH.cons (o := _) rfl (fun KA hKA => ?_) AllReadyH.nil
        obtain ⟨g, cp, Y66, R9, s2⟩ := HS.out.app1 3 4 (show 3 < 6 by decide) (show 4 < 6 by decide) rfl rfl HLK.out 32
        refine step_append_run (by rfl) (.tmp 31) (.tmp 32) 32 (by rfl) (by rfl) (by rfl) R9 ?_
        have S2 := hide (show Sep w.heap.size w Y66 [tMk m f, tRl r f K, tBk ab 36 vs, tRw (.slice (some ⟨g, 0, none⟩) (len + 1) cp) (len + 1) ((List.range len).map X ++ [true]), tBk tb 4 #[.bool true], tBk tt 34 #[.int .i64 0, .slice none 0 0]] from s2)
        obtain ⟨-, -, cpl⟩ := row_end (S2.out.rw 3 (show 3 < 6 by decide) rfl)
        have cpl1 : len ≤ cp := by omega
        clear R9 s2
        have HS2 := S2
        clear S2
        refine hKA.out _ _ (SC.out _ _ _ _ HS2.out) (fun hHeld => ?_)
        clear hKA KA HS
        have HS := HS2
        clear HS2
        try simp only [Act.put, List.setIfInBounds_toArray, List.set_cons_zero, List.set_cons_succ]
        refine wpAnyH_take (i := 14) (oi := _) (v := ?_) rfl (by kernel_rfl) (by kernel_rfl) (by kernel_rfl) (fun _ _ _ h => h) (Or.inl ⟨by rfl, ?_⟩) (by assumption) ?_
        rotate_left
        · (intro w hSw; (try dsimp only at hSw); go_simp; try with_reducible rfl)
        try simp only [Act.put, List.setIfInBounds_toArray, List.set_cons_zero, List.set_cons_succ]
        refine wpAnyH_take (i := 15) (oi := _) (v := ?_) rfl (by kernel_rfl) (by kernel_rfl) (by kernel_rfl) (fun _ _ _ h => h) (Or.inl ⟨by rfl, ?_⟩) (by assumption) ?_
        rotate_left
        · (intro w hSw; (try dsimp only at hSw); go_simp; try with_reducible rfl)
        try simp only [Act.put, List.setIfInBounds_toArray, List.set_cons_zero, List.set_cons_succ]
        refine wpAnyH_ready (rs := [17]) (by kernel_rfl) (by simp) ?_
        refine AllReadyH.cons (o := _) rfl (fun KA hKA => ?_) AllReadyH.nil
        have tf0 := (HS.out.bk 5 (show 5 < 6 by decide) rfl).fz 0
        have tf1 := (HS.out.bk 5 (show 5 < 6 by decide) rfl).fz 1
        have tc0 := (HS.out.bk 5 (show 5 < 6 by decide) rfl).cell 0 _ rfl
        have tc1 := (HS.out.bk 5 (show 5 < 6 by decide) rfl).cell 1 _ rfl
        go_simp
        have S2 := hide (show Sep w.heap.size w ((Y66.setCell ⟨tt, 0, none⟩ (.int .i64 WD)).setCell ⟨tt, 1, none⟩ (.slice (some ⟨g, 0, none⟩) len cp)) [tMk m f, tRl r f K, tBk ab 36 vs, tRw (.slice (some ⟨g, 0, none⟩) (len + 1) cp) (len + 1) ((List.range len).map X ++ [true]), tBk tb 4 #[.bool true], tBk tt 34 #[.int .i64 WD, .slice (some ⟨g, 0, none⟩) len cp]] from (HS.out.put 5 (show 5 < 6 by decide) rfl 0 (.int .i64 WD)).put 5 (show 5 < 6 by decide) rfl 1 (.slice (some ⟨g, 0, none⟩) len cp))
        generalize (Y66.setCell ⟨tt, 0, none⟩ (.int .i64 WD)).setCell ⟨tt, 1, none⟩ (.slice (some ⟨g, 0, none⟩) len cp) = Y67 at S2 ⊢
        clear tf0 tf1 tc0 tc1
        have HS2 := S2
        clear S2
        refine hKA.out _ _ (SC.out _ _ _ _ HS2.out) (fun hHeld => ?_)
        clear hKA KA HS
        have HS := HS2
        clear HS2
        try simp only [Act.put, List.setIfInBounds_toArray, List.set_cons_zero, List.set_cons_succ]
        refine wpAnyH_done (by kernel_rfl) ?_ _
        clear hHeld cpl cpl1
        first | exact LEAF.out _ _ _ _ _ _ _ HS | exact LEAF.out _ _ _ _ _ _ _ _ HS
    -- tree}
  case l =>
    clear H1 SC a0 HLE HLK
    intro b3 v7 tb g cp tt Y HS
    obtain ⟨gX, gT, gC⟩ := row_end (HS.out.rw 3 (show 3 < 6 by decide) rfl)
    have l1 : (len : Int) ≤ 20000 := by omega
    have l0 : (0 : Int) ≤ (len : Int) := by omega
    have l2 : len + 1 ≤ cp := gC
    have l3 : (len : Int) + 1 ≤ (cp : Int) := by omega
    obtain ⟨EE, hEE⟩ : ∃ E, writeE a b WD len n = E := ⟨_, rfl⟩
    obtain ⟨f', hf'⟩ : ∃ f', writeF f a b WD len n X = f' := ⟨_, rfl⟩
    have CC := hide (show ∀ Y x1 x2, Sep w.heap.size w Y [x1, x2, tBk ab 36 vs, tRw (.slice (some ⟨g, 0, none⟩) (len + 1) cp) (len + 1) ((List.range len).map X ++ [true]), tBk tb 4 #[.bool true], tBk tt 34 #[.int .i64 WD, .slice (some ⟨g, 0, none⟩) len cp]] →
        (fun w' : World => w'.cell? ⟨ab, 1, none⟩ = some (.int .u64 A) ∧ w'.cell? ⟨ab, 2, none⟩ = some (.int .u64 B) ∧ w'.cell? ⟨ab, 3, none⟩ = some (.int .i64 WD) ∧ w'.cell? ⟨ab, 4, none⟩ = some (.slice o len c) ∧ w'.cell? ⟨ab, 5, none⟩ = some (.int .u64 NN) ∧ w'.cell? ⟨tt, 0, none⟩ = some (.int .i64 WD) ∧ w'.cell? ⟨tt, 1, none⟩ = some (.slice (some ⟨g, 0, none⟩) len cp) ∧ w'.cell? ⟨g, len, none⟩ = some (.bool true)) Y from fun Y x1 x2 s => by
      have k := CEL.out Y x1 x2 [_, _, _] s
      have k2 := s.bk 5 (show 5 < 6 by decide) rfl
      have k3 := (row_end (s.rw 3 (show 3 < 6 by decide) rfl)).2.1
      exact ⟨k.2.1, k.2.2.1, k.2.2.2.1, k.2.2.2.2.1, k.2.2.2.2.2, k2.cell 0 _ rfl, k2.cell 1 _ rfl, k3⟩)
    have CW := hide (show ∀ Y, Sep w.heap.size w Y [tMk m f, tRl r f K, tBk ab 36 vs, tRw (.slice (some ⟨g, 0, none⟩) (len + 1) cp) (len + 1) ((List.range len).map X ++ [true]), tBk tb 4 #[.bool true], tBk tt 34 #[.int .i64 WD, .slice (some ⟨g, 0, none⟩) len cp]] →
        Calls Try.prog 11 #[.pointer (some ⟨m, 0, none⟩), .int .u64 A, .int .u64 B, .agg #[.int .i64 WD, .slice (some ⟨g, 0, none⟩) len cp], .int .u64 NN] Y fun e Y' => e = .returned (.int .i64 EE) ∧ Sep w.heap.size w Y' [tMk m f', tRl r f K, tBk ab 36 vs, tRw (.slice (some ⟨g, 0, none⟩) (len + 1) cp) (len + 1) ((List.range len).map X ++ [true]), tBk tb 4 #[.bool true], tBk tt 34 #[.int .i64 WD, .slice (some ⟨g, 0, none⟩) len cp]] from fun Y s => by
      have C := s.write 0 (show 0 < 6 by decide) rfl a b n ha hb hn WD h0 h9 (by omega) (row_end (s.rw 3 (show 3 < 6 by decide) rfl)).1
      rw [hEE, hf', HA.out, HB.out, HN.out] at C
      exact C)
    have CV := hide (show ∀ Y, Sep w.heap.size w Y [tMk m f', tRl r f K, tBk ab 36 vs, tRw (.slice (some ⟨g, 0, none⟩) (len + 1) cp) (len + 1) ((List.range len).map X ++ [true]), tBk tb 4 #[.bool true], tBk tt 34 #[.int .i64 WD, .slice (some ⟨g, 0, none⟩) len cp]] →
        Calls Try.prog 16 #[.pointer (some ⟨r, 0, none⟩), .int .u64 A, .int .u64 B, .agg #[.int .i64 WD, .slice o len c], .int .u64 NN] Y fun e Y' => e = .returned (.int .i64 EE) ∧ Sep w.heap.size w Y' [tMk m f', tRl r f' (K + 1), tBk ab 36 vs, tRw (.slice (some ⟨g, 0, none⟩) (len + 1) cp) (len + 1) ((List.range len).map X ++ [true]), tBk tb 4 #[.bool true], tBk tt 34 #[.int .i64 WD, .slice (some ⟨g, 0, none⟩) len cp]] from fun Y s => by
      have C := s.rwrite 1 (show 1 < 6 by decide) rfl (by omega) a b n ha hb hn WD h0 h9 (by omega) (HX.out.below s.be)
      rw [hEE, hf', HA.out, HB.out, HN.out] at C
      exact C)
    have CT := hide (show ∀ Y x1 x2, Sep w.heap.size w Y [x1, x2, tBk ab 36 vs, tRw (.slice (some ⟨g, 0, none⟩) (len + 1) cp) (len + 1) ((List.range len).map X ++ [true]), tBk tb 4 #[.bool true], tBk tt 34 #[.int .i64 WD, .slice (some ⟨g, 0, none⟩) len cp]] →
        Calls Try.prog 15 #[.slice (some ⟨g, 0, none⟩) len cp, .slice o len c] Y fun e Y' => e = .returned (.bool true) ∧ Sep w.heap.size w Y' [x1, x2, tBk ab 36 vs, tRw (.slice (some ⟨g, 0, none⟩) (len + 1) cp) (len + 1) ((List.range len).map X ++ [true]), tBk tb 4 #[.bool true], tBk tt 34 #[.int .i64 WD, .slice (some ⟨g, 0, none⟩) len cp]] from fun Y x1 x2 s => by
      refine (truths_same (row_end (s.rw 3 (show 3 < 6 by decide) rfl)).1 (HX.out.below s.be) (by omega) (fun _ _ => rfl)).mono ?_
      rintro e Y' ⟨rfl, j, rfl⟩
      exact ⟨rfl, s.read (drewN_below _ j)⟩)
    have ne : (EE != EE) = false := by simp
    obtain ⟨q1, q2, q3, q4, q5, q6, q7, q8⟩ := CC.out Y _ _ HS.out
    have CW1 := hide (CW.out Y.drew (HS.out.read (drew_below Y)))
    have l4 : (0 : Int) ≤ (len : Int) + 1 := by omega
    have l5 : (len : Int) < (len : Int) + 1 := by omega
    have pw : IntKind.i64.wrap ((len : Int) + 1) = (len : Int) + 1 := by rw [IntKind.wrap_i64]; omega
    clear gX gT hEE hf' HX HA HB HN ha hb hn h0 h9 CW HS HWA HAB CEL
    go_wp2_with fail
    go_region_held3 (fun w' : World => w'.cell? ⟨ab, 1, none⟩ = some (.int .u64 A) ∧ w'.cell? ⟨ab, 2, none⟩ = some (.int .u64 B) ∧ w'.cell? ⟨ab, 3, none⟩ = some (.int .i64 WD) ∧ w'.cell? ⟨ab, 4, none⟩ = some (.slice o len c) ∧ w'.cell? ⟨ab, 5, none⟩ = some (.int .u64 NN) ∧ w'.cell? ⟨tt, 0, none⟩ = some (.int .i64 WD) ∧ w'.cell? ⟨tt, 1, none⟩ = some (.slice (some ⟨g, 0, none⟩) len cp) ∧ w'.cell? ⟨g, len, none⟩ = some (.bool true)) (first | (go_keep; done)) (first
      | (go_at_call 11; refine CW1.out.mono ?_; rintro e Y2 ⟨rfl, s2⟩; have CV1 := hide (CV.out Y2 s2); obtain ⟨u1, u2, u3, u4, u5, u6, u7, u8⟩ := CC.out Y2 _ _ s2; clear s2 CW1)
      | (go_at_call 16; refine CV1.out.mono ?_; rintro e Y3 ⟨rfl, s3⟩; have CT1 := hide (CT.out Y3 _ _ s3); obtain ⟨v1, v2, v3, v4, v5, v6, v7, v8⟩ := CC.out Y3 _ _ s3; clear s3 CV1)
      | (go_at_call 15; refine CT1.out.mono ?_; rintro e Y4 ⟨rfl, s4⟩; have S4 := hide s4; obtain ⟨z1, z2, z3, z4, z5, z6, z7, z8⟩ := CC.out Y4 _ _ s4; clear s4 CT1))
    have A4 := hide (show Sep w.heap.size w Y4 [tMk m f', tRl r f' (K + 1), tBk ab 36 vs, tAn g len, tBk tb 4 #[.bool true], tBk tt 34 #[.int .i64 WD, .slice (some ⟨g, 0, none⟩) len cp]] from S4.out.anyRow 3 (show 3 < 6 by decide) rfl len (by omega))
    clear q1 q2 q3 q4 q5 q6 q7 q8 u1 u2 u3 u4 u5 u6 u7 u8 v1 v2 v3 v4 v5 v6 v7 v8 z1 z2 z3 z4 z5 z6 z7 z8 S4 CV CT CC
    go_wp2_with fail
    go_loopw [8] (fun vi wr => ∃ k : Nat, vi = .int .i64 (k : Nat) ∧ k ≤ len ∧ Hid (Sep w.heap.size w wr [tMk m f', tRl r f' (K + 1), tBk ab 36 vs, tAn g len, tBk tb 4 #[.bool true], tBk tt 34 #[.int .i64 WD, .slice (some ⟨g, 0, none⟩) len cp]])) (fun vi _ => len - (zi vi).toNat)
    case atStart => exact ⟨0, rfl, Nat.zero_le _, A4⟩
    case round =>
      clear A4
      obtain ⟨k, rfl, hk, HS⟩ := hrel
      have k2 := HS.out.bk 5 (show 5 < 6 by decide) rfl
      have t1 := k2.cell 1 _ rfl
      have k0 : (0 : Int) ≤ (k : Int) := by omega
      have k1 : (k : Int) ≤ 20000 := by omega
      clear k2
      by_cases ck : k < len
      · have dk : decide ((k : Int) < (len : Int)) = true := decide_eq_true (by omega)
        have dk' : decide (k < len) = true := decide_eq_true ck
        have jk : (k : Int) < (len : Int) := by omega
        obtain ⟨y, y1, y2, y3⟩ := HS.out.flip 3 (show 3 < 6 by decide) rfl k ck
        have Y3 := hide y3
        clear y3
        go_wp2_with fail
        refine still_tail 9 (by kernel_rfl) (by kernel_rfl) ?_
        simp only [List.take_succ_cons, List.take_zero, List.drop_succ_cons, List.drop_zero]
        repeat still_step
        refine wpStill_nil ?_
        go_wp2_with fail
        exact ⟨⟨k + 1, by rw [Int.natCast_add]; rfl, by omega, hide ((Y3.out _).read (drew_below _))⟩, by simp [zi]; omega⟩
      · have dk : decide ((k : Int) < (len : Int)) = false := decide_eq_false (by omega)
        have dk' : decide (k < len) = false := decide_eq_false ck
        have FF := hide (FIN.out wr f' _ HS.out)
        clear HS FIN
        go_wp2_with fail
        first | exact FF.out | (go_ret; exact FF.out)
end Go.Proofs.Ytnhllnepnpmegaa
