/- The reference of chapter 3: New: its contract. -/
import Derived.Test.YtlfcnaalkjpgnaaJ26
import Derived.Test.YtlfcnaalkjpgnaaJ02
namespace Go.Proofs.Ytlfcnaalkjpgnaa
open Go.ChangeShapes Go.WideShapes Go.ChangeAt Go.RowKit Go.Proofs.Sp Go.Maps
set_option linter.unusedVariables false
set_option linter.unusedSimpArgs false

/-- A machine that has just been made, of three rows that lie behind w0. -/
theorem RI.start2 {w0 X3 : World} {s0 s1 s2 : Value} {pl : List Nat} {re : List Bool} {fi : List Nat} {B n0 n1 n2 : Nat} (b0 : ∀ x ∈ pl, x < 18446744073709551616) (b2 : ∀ x ∈ fi, x < 18446744073709551616)
    (w1 : w0.heap.size ≤ B) (x3 : Below w0.heap.size w0 X3)
    (o0 : X3.ownsRow B 33 1 s0 n0 (u64s pl)) (o1 : X3.ownsRow B 4 1 s1 n1 (bools re)) (o2 : X3.ownsRow B 33 1 s2 n2 (u64s fi)) :
    ∃ F, RI (X3.alloc (.cells #[s0, s1, s2, .slice none 0 0, .slice none 0 0] 57)) ⟨X3.heap.size, 0, none⟩ (Sp.new pl re fi) F 0 ∧ Kept (fun _ => False) w0 (X3.alloc (.cells #[s0, s1, s2, .slice none 0 0, .slice none 0 0] 57)) ∧ ∀ b, F b → w0.heap.size ≤ b := by
  have t3 := x3.size
  have hh := heap_alloc_new X3 (.cells #[s0, s1, s2, .slice none 0 0, .slice none 0 0] 57)
  have hb : Below X3.heap.size X3 (X3.alloc (.cells #[s0, s1, s2, .slice none 0 0, .slice none 0 0] 57)) := (Below.refl _ _).alloc (Nat.le_refl _) _
  have hf : ∀ k, (X3.alloc (.cells #[s0, s1, s2, .slice none 0 0, .slice none 0 0] 57)).frozen? ⟨X3.heap.size, k, none⟩ = false := fun k => by simp [go_sem]
  have hs : X3.heap.size < (X3.alloc (.cells #[s0, s1, s2, .slice none 0 0, .slice none 0 0] 57)).heap.size := by simp
  have hc := fun k => cell_of_row (X3.alloc (.cells #[s0, s1, s2, .slice none 0 0, .slice none 0 0] 57)) X3.heap.size k _ _ (0, 0) hh
  generalize X3.alloc (.cells #[s0, s1, s2, .slice none 0 0, .slice none 0 0] 57) = W at *
  have r0 : Sl W s0 (u64s pl) := (sl_of_owns o0).low hb
  have r1 : Sl W s1 (bools re) := (sl_of_owns o1).low hb
  have r2 : Sl W s2 (u64s fi) := (sl_of_owns o2).low hb
  have hC : RefC W X3.heap.size (Sp.new pl re fi) (fun _ => 0) [] s0 s1 s2 none 0 none 0 :=
    ⟨WF.new _ _ _, fun k _ => hf k, hc 0, hc 1, hc 2, hc 3, hc 4, r0, r1, r2, ⟨rfl, Or.inl ⟨rfl, rfl⟩⟩, ⟨rfl, Or.inl ⟨rfl, rfl⟩⟩, List.Pairwise.nil, (fun x hx => by cases hx), (fun _ => by decide), fun a _ h => by cases h⟩
  have hA : Apart X3.heap.size s0 s1 s2 none none :=
    ⟨fun e => by have := (o0.lt _ e).2; omega, fun e => by have := (o1.lt _ e).2; omega, fun e => by have := (o2.lt _ e).2; omega, (fun e => by cases e), (fun e => by cases e), (fun b e => by cases e), fun b e => by cases e⟩
  refine ⟨inRef X3.heap.size s0 s1 s2 none none, ⟨X3.heap.size, _, [], s0, s1, s2, none, 0, none, 0, rfl, hC, hA, fun _ => Iff.rfl, fun b h => hC.lt b h, Nat.le_refl _, Nat.le_refl _, b0, b2⟩, Kept.of_below (x3.trans (hb.mono t3)), fun b h => ?_⟩
  rcases h with h | h | h | h | h | h
  · omega
  · have := (o0.lt _ h).1; omega
  · have := (o1.lt _ h).1; omega
  · have := (o2.lt _ h).1; omega
  · cases h
  · cases h
theorem sne {B c : Nat} : Value.slice (some ⟨B, 0, none⟩) 0 c ≠ .slice none 0 0 := fun h => by cases h
set_option maxRecDepth 100000 in
set_option maxHeartbeats 4000000 in
theorem rnew (w : World) (v0 v1 v2 : Value) (pl : List Nat) (re : List Bool) (fi : List Nat) (h0 : Sl w v0 (u64s pl)) (h1 : Sl w v1 (bools re)) (h2 : Sl w v2 (u64s fi)) (b0 : ∀ x ∈ pl, x < 18446744073709551616) (b2 : ∀ x ∈ fi, x < 18446744073709551616)
    (l0 : pl.length ≤ 1048576) (l1 : re.length ≤ 1048576) (l2 : fi.length ≤ 1048576) :
    Calls Try.prog 8 #[.agg #[v0, v1, v2]] w fun e w' => ∃ m F, e = .returned (.pointer (some m)) ∧ RI w' m (Sp.new pl re fi) F 0 ∧ Kept (fun _ => False) w w' ∧ ∀ b, F b → w.heap.size ≤ b := by
  obtain ⟨W, hW⟩ : ∃ W, W = w.alloc (.cells #[v0, v1, v2] 25) := ⟨_, rfl⟩
  have BW : Below w.heap.size w W := by rw [hW]; exact (Below.refl _ _).alloc (Nat.le_refl _) _
  have hlt : w.heap.size < W.heap.size := by rw [hW]; simp
  have c0 : W.cell? ⟨w.heap.size, 0, none⟩ = some v0 := by rw [hW]; simp [go_sem]
  have c1 : W.cell? ⟨w.heap.size, 1, none⟩ = some v1 := by rw [hW]; simp [go_sem]
  have c2 : W.cell? ⟨w.heap.size, 2, none⟩ = some v2 := by rw [hW]; simp [go_sem]
  have S0 := hide (h0.low BW)
  have S1 := hide (h1.low BW)
  have S2 := hide (h2.low BW)
  have CEL := hide (show ∀ Y : World, Below W.heap.size W Y → (Y.cell? ⟨w.heap.size, 0, none⟩ = some v0 ∧ Y.cell? ⟨w.heap.size, 1, none⟩ = some v1 ∧ Y.cell? ⟨w.heap.size, 2, none⟩ = some v2) from fun Y hY => by
    have e := hY.block w.heap.size hlt
    exact ⟨(World.cell?_of_block (a := ⟨w.heap.size, 0, none⟩) e).trans c0, (World.cell?_of_block (a := ⟨w.heap.size, 1, none⟩) e).trans c1, (World.cell?_of_block (a := ⟨w.heap.size, 2, none⟩) e).trans c2⟩)
  have HW := hide hW
  have FIN := hide (show ∀ (Y : World) (s0 s1 s2 : Value), Gs W Y s0 (u64s pl).length (u64s pl) s1 (bools re).length (bools re) s2 (u64s fi).length (u64s fi) →
      ∃ m F, Ending.returned (.pointer (some ⟨Y.heap.size, 0, none⟩)) = .returned (.pointer (some m)) ∧ RI (Y.alloc (.cells #[s0, s1, s2, .slice none 0 0, .slice none 0 0] 57)) m (Sp.new pl re fi) F 0 ∧ Kept (fun _ => False) w (Y.alloc (.cells #[s0, s1, s2, .slice none 0 0, .slice none 0 0] 57)) ∧ ∀ b, F b → w.heap.size ≤ b from fun Y s0 s1 s2 g => by
    obtain ⟨F, h1, h2, h3⟩ := RI.start2 b0 b2 (Nat.le_of_lt hlt) (BW.trans (g.be.mono BW.size)) g.o0 g.o1 g.o2
    exact ⟨_, F, rfl, h1, h2, h3⟩)
  have L0 := hide (show (u64s pl).length ≤ 1048576 by rw [u64s_len]; exact l0)
  have L1 := hide (show (bools re).length ≤ 1048576 by rw [bools_len]; exact l1)
  have L2 := hide (show (u64s fi).length ≤ 1048576 by rw [u64s_len]; exact l2)
  have B0 := hide b0
  have B2 := hide b2
  clear c0 c1 c2 hlt BW hW h0 h1 h2 l0 l1 l2 b0 b2
  go_enter Try.func8, Try.ntmps8
  go_wp2_with fail
  rw [← HW.out]
  clear HW
  have G := hide (Gs.start W)
  refine wp_region_held_drew (S := fun w' => w'.cell? ⟨w.heap.size, 0, none⟩ = some v0 ∧ w'.cell? ⟨w.heap.size, 1, none⟩ = some v1 ∧ w'.cell? ⟨w.heap.size, 2, none⟩ = some v2) (by kernel_rfl) (CEL.out _ G.out.be) (fun hHeld => ?_)
  refine wpAnyH_take (i := 1) (oi := ⟨some 4, _, _, _, _, _⟩) (v := ?_) rfl (by kernel_rfl) (by kernel_rfl) (by kernel_rfl) (fun _ _ _ h => h) (Or.inl ⟨by rfl, ?_⟩) (by assumption) ?_
  rotate_left
  · (intro w hSw; (try dsimp only at hSw); go_simp; try with_reducible rfl)
  try simp only [Act.put, List.setIfInBounds_toArray, List.set_cons_zero, List.set_cons_succ]
  refine wpAnyH_take (i := 2) (oi := ⟨some 5, _, _, _, _, _⟩) (v := ?_) rfl (by kernel_rfl) (by kernel_rfl) (by kernel_rfl) (fun _ _ _ h => h) (Or.inl ⟨by rfl, ?_⟩) (by assumption) ?_
  rotate_left
  · (intro w hSw; (try dsimp only at hSw); go_simp; try with_reducible rfl)
  try simp only [Act.put, List.setIfInBounds_toArray, List.set_cons_zero, List.set_cons_succ]
  refine wpAnyH_take (i := 5) (oi := ⟨some 8, _, _, _, _, _⟩) (v := ?_) rfl (by kernel_rfl) (by kernel_rfl) (by kernel_rfl) (fun _ _ _ h => h) (Or.inl ⟨by rfl, ?_⟩) (by assumption) ?_
  rotate_left
  · (intro w hSw; (try dsimp only at hSw); go_simp; try with_reducible rfl)
  try simp only [Act.put, List.setIfInBounds_toArray, List.set_cons_zero, List.set_cons_succ]
  refine wpAnyH_take (i := 6) (oi := ⟨some 9, _, _, _, _, _⟩) (v := ?_) rfl (by kernel_rfl) (by kernel_rfl) (by kernel_rfl) (fun _ _ _ h => h) (Or.inl ⟨by rfl, ?_⟩) (by assumption) ?_
  rotate_left
  · (intro w hSw; (try dsimp only at hSw); go_simp; try with_reducible rfl)
  try simp only [Act.put, List.setIfInBounds_toArray, List.set_cons_zero, List.set_cons_succ]
  refine wpAnyH_take (i := 9) (oi := ⟨some 12, _, _, _, _, _⟩) (v := ?_) rfl (by kernel_rfl) (by kernel_rfl) (by kernel_rfl) (fun _ _ _ h => h) (Or.inl ⟨by rfl, ?_⟩) (by assumption) ?_
  rotate_left
  · (intro w hSw; (try dsimp only at hSw); go_simp; try with_reducible rfl)
  try simp only [Act.put, List.setIfInBounds_toArray, List.set_cons_zero, List.set_cons_succ]
  refine wpAnyH_take (i := 10) (oi := ⟨some 13, _, _, _, _, _⟩) (v := ?_) rfl (by kernel_rfl) (by kernel_rfl) (by kernel_rfl) (fun _ _ _ h => h) (Or.inl ⟨by rfl, ?_⟩) (by assumption) ?_
  rotate_left
  · (intro w hSw; (try dsimp only at hSw); go_simp; try with_reducible rfl)
  try simp only [Act.put, List.setIfInBounds_toArray, List.set_cons_zero, List.set_cons_succ]
  refine wpAnyH_ready (rs := [0, 4, 8]) (by kernel_rfl) (by simp) ?_
  refine AllReadyH.cons (o := ⟨some 3, _, _, _, _, _⟩) rfl (fun K hK => ?_) (AllReadyH.cons (o := ⟨some 7, _, _, _, _, _⟩) rfl (fun K hK => ?_) (AllReadyH.cons (o := ⟨some 11, _, _, _, _, _⟩) rfl (fun K hK => ?_) AllReadyH.nil))
  focus
    refine step_build (by kernel_rfl) 3 (by kernel_rfl) 22 33 (by kernel_rfl) build_u ?_
    have G := hide G.out.make0
    refine hK.out _ _ (CEL.out _ G.out.be) (fun hHeld => ?_)
    clear hK K
    try simp only [Act.put, List.setIfInBounds_toArray, List.set_cons_zero, List.set_cons_succ]
    refine wpAnyH_ready (rs := [3, 4, 8]) (by kernel_rfl) (by simp) ?_
    refine AllReadyH.cons (o := ⟨some 6, _, _, _, _, _⟩) rfl (fun K hK => ?_) (AllReadyH.cons (o := ⟨some 7, _, _, _, _, _⟩) rfl (fun K hK => ?_) (AllReadyH.cons (o := ⟨some 11, _, _, _, _, _⟩) rfl (fun K hK => ?_) AllReadyH.nil))
    focus
      refine G.out.sapp0 sne S0.out L0.out (u64s_one8 pl) (by kernel_rfl) (.tmp 3) (.tmp 5) (by kernel_rfl) (by kernel_rfl) (by kernel_rfl) (fun o0 k0 Y0 g0 => ?_)
      have G := hide g0
      clear g0
      refine hK.out _ _ (CEL.out _ G.out.be) (fun hHeld => ?_)
      clear hK K
      try simp only [Act.put, List.setIfInBounds_toArray, List.set_cons_zero, List.set_cons_succ]
      refine wpAnyH_ready (rs := [4, 8]) (by kernel_rfl) (by simp) ?_
      refine AllReadyH.cons (o := ⟨some 7, _, _, _, _, _⟩) rfl (fun K hK => ?_) (AllReadyH.cons (o := ⟨some 11, _, _, _, _, _⟩) rfl (fun K hK => ?_) AllReadyH.nil)
      focus
        refine step_build (by kernel_rfl) 7 (by kernel_rfl) 23 4 (by kernel_rfl) build_b ?_
        have G := hide G.out.make1
        refine hK.out _ _ (CEL.out _ G.out.be) (fun hHeld => ?_)
        clear hK K
        try simp only [Act.put, List.setIfInBounds_toArray, List.set_cons_zero, List.set_cons_succ]
        refine wpAnyH_ready (rs := [7, 8]) (by kernel_rfl) (by simp) ?_
        refine AllReadyH.cons (o := ⟨some 10, _, _, _, _, _⟩) rfl (fun K hK => ?_) (AllReadyH.cons (o := ⟨some 11, _, _, _, _, _⟩) rfl (fun K hK => ?_) AllReadyH.nil)
        focus
          refine G.out.sapp1 sne S1.out L1.out (bools_one1 re) (by kernel_rfl) (.tmp 7) (.tmp 9) (by kernel_rfl) (by kernel_rfl) (by kernel_rfl) (fun o1 k1 Y1 g1 => ?_)
          have G := hide g1
          clear g1
          refine hK.out _ _ (CEL.out _ G.out.be) (fun hHeld => ?_)
          clear hK K
          try simp only [Act.put, List.setIfInBounds_toArray, List.set_cons_zero, List.set_cons_succ]
          refine wpAnyH_ready (rs := [8]) (by kernel_rfl) (by simp) ?_
          refine AllReadyH.cons (o := ⟨some 11, _, _, _, _, _⟩) rfl (fun K hK => ?_) AllReadyH.nil
          refine step_build (by kernel_rfl) 11 (by kernel_rfl) 22 33 (by kernel_rfl) build_u ?_
          have G := hide G.out.make2
          refine hK.out _ _ (CEL.out _ G.out.be) (fun hHeld => ?_)
          clear hK K
          try simp only [Act.put, List.setIfInBounds_toArray, List.set_cons_zero, List.set_cons_succ]
          refine wpAnyH_ready (rs := [11]) (by kernel_rfl) (by simp) ?_
          refine AllReadyH.cons (o := ⟨some 14, _, _, _, _, _⟩) rfl (fun K hK => ?_) AllReadyH.nil
          refine G.out.sapp2 sne S2.out L2.out (u64s_one8 fi) (by kernel_rfl) (.tmp 11) (.tmp 13) (by kernel_rfl) (by kernel_rfl) (by kernel_rfl) (fun o2 k2 Y2 g2 => ?_)
          have G := hide g2
          clear g2
          refine hK.out _ _ (CEL.out _ G.out.be) (fun hHeld => ?_)
          clear hK K
          try simp only [Act.put, List.setIfInBounds_toArray, List.set_cons_zero, List.set_cons_succ]
          refine wpAnyH_take (i := 12) (oi := ⟨some 15, _, _, _, _, _⟩) (v := ?_) rfl (by kernel_rfl) (by kernel_rfl) (by kernel_rfl) (fun _ _ _ h => h) (Or.inl ⟨by rfl, ?_⟩) (by assumption) ?_
          rotate_left
          · (intro w hSw; (try dsimp only at hSw); go_simp; try with_reducible rfl)
          try simp only [Act.put, List.setIfInBounds_toArray, List.set_cons_zero, List.set_cons_succ]
          refine wpAnyH_take (i := 13) (oi := ⟨some 16, _, _, _, _, _⟩) (v := ?_) rfl (by kernel_rfl) (by kernel_rfl) (by kernel_rfl) (fun _ _ _ h => h) (Or.inl ⟨by rfl, ?_⟩) (by assumption) ?_
          rotate_left
          · (intro w hSw; (try dsimp only at hSw); go_simp; try with_reducible rfl)
          try simp only [Act.put, List.setIfInBounds_toArray, List.set_cons_zero, List.set_cons_succ]
          refine wpAnyH_ready (rs := [14]) (by kernel_rfl) (by simp) ?_
          refine AllReadyH.cons (o := ⟨some 17, _, _, _, _, _⟩) rfl (fun K hK => ?_) AllReadyH.nil
          go_simp
          refine hK.out _ _ (CEL.out _ (G.out.be.alloc G.out.be.size _)) (fun hHeld => ?_)
          clear hK K
          try simp only [Act.put, List.setIfInBounds_toArray, List.set_cons_zero, List.set_cons_succ]
          refine wpAnyH_take (i := 15) (oi := ⟨some 2, _, _, _, _, _⟩) (v := ?_) rfl (by kernel_rfl) (by kernel_rfl) (by kernel_rfl) (fun _ _ _ h => h) (Or.inl ⟨by rfl, ?_⟩) (by assumption) ?_
          rotate_left
          · (intro w hSw; (try dsimp only at hSw); go_simp; try with_reducible rfl)
          try simp only [Act.put, List.setIfInBounds_toArray, List.set_cons_zero, List.set_cons_succ]
          refine wpAnyH_done (by kernel_rfl) ?_ _
          clear hHeld
          go_wp2_with fail
          go_ret
          exact FIN.out _ _ _ _ G.out
        focus
          refine step_build (by kernel_rfl) 11 (by kernel_rfl) 22 33 (by kernel_rfl) build_u ?_
          have G := hide G.out.make2
          refine hK.out _ _ (CEL.out _ G.out.be) (fun hHeld => ?_)
          clear hK K
          try simp only [Act.put, List.setIfInBounds_toArray, List.set_cons_zero, List.set_cons_succ]
          refine wpAnyH_ready (rs := [7]) (by kernel_rfl) (by simp) ?_
          refine AllReadyH.cons (o := ⟨some 10, _, _, _, _, _⟩) rfl (fun K hK => ?_) AllReadyH.nil
          refine G.out.sapp1 sne S1.out L1.out (bools_one1 re) (by kernel_rfl) (.tmp 7) (.tmp 9) (by kernel_rfl) (by kernel_rfl) (by kernel_rfl) (fun o1 k1 Y1 g1 => ?_)
          have G := hide g1
          clear g1
          refine hK.out _ _ (CEL.out _ G.out.be) (fun hHeld => ?_)
          clear hK K
          try simp only [Act.put, List.setIfInBounds_toArray, List.set_cons_zero, List.set_cons_succ]
          refine wpAnyH_ready (rs := [11]) (by kernel_rfl) (by simp) ?_
          refine AllReadyH.cons (o := ⟨some 14, _, _, _, _, _⟩) rfl (fun K hK => ?_) AllReadyH.nil
          refine G.out.sapp2 sne S2.out L2.out (u64s_one8 fi) (by kernel_rfl) (.tmp 11) (.tmp 13) (by kernel_rfl) (by kernel_rfl) (by kernel_rfl) (fun o2 k2 Y2 g2 => ?_)
          have G := hide g2
          clear g2
          refine hK.out _ _ (CEL.out _ G.out.be) (fun hHeld => ?_)
          clear hK K
          try simp only [Act.put, List.setIfInBounds_toArray, List.set_cons_zero, List.set_cons_succ]
          refine wpAnyH_take (i := 12) (oi := ⟨some 15, _, _, _, _, _⟩) (v := ?_) rfl (by kernel_rfl) (by kernel_rfl) (by kernel_rfl) (fun _ _ _ h => h) (Or.inl ⟨by rfl, ?_⟩) (by assumption) ?_
          rotate_left
          · (intro w hSw; (try dsimp only at hSw); go_simp; try with_reducible rfl)
          try simp only [Act.put, List.setIfInBounds_toArray, List.set_cons_zero, List.set_cons_succ]
          refine wpAnyH_take (i := 13) (oi := ⟨some 16, _, _, _, _, _⟩) (v := ?_) rfl (by kernel_rfl) (by kernel_rfl) (by kernel_rfl) (fun _ _ _ h => h) (Or.inl ⟨by rfl, ?_⟩) (by assumption) ?_
          rotate_left
          · (intro w hSw; (try dsimp only at hSw); go_simp; try with_reducible rfl)
          try simp only [Act.put, List.setIfInBounds_toArray, List.set_cons_zero, List.set_cons_succ]
          refine wpAnyH_ready (rs := [14]) (by kernel_rfl) (by simp) ?_
          refine AllReadyH.cons (o := ⟨some 17, _, _, _, _, _⟩) rfl (fun K hK => ?_) AllReadyH.nil
          go_simp
          refine hK.out _ _ (CEL.out _ (G.out.be.alloc G.out.be.size _)) (fun hHeld => ?_)
          clear hK K
          try simp only [Act.put, List.setIfInBounds_toArray, List.set_cons_zero, List.set_cons_succ]
          refine wpAnyH_take (i := 15) (oi := ⟨some 2, _, _, _, _, _⟩) (v := ?_) rfl (by kernel_rfl) (by kernel_rfl) (by kernel_rfl) (fun _ _ _ h => h) (Or.inl ⟨by rfl, ?_⟩) (by assumption) ?_
          rotate_left
          · (intro w hSw; (try dsimp only at hSw); go_simp; try with_reducible rfl)
          try simp only [Act.put, List.setIfInBounds_toArray, List.set_cons_zero, List.set_cons_succ]
          refine wpAnyH_done (by kernel_rfl) ?_ _
          clear hHeld
          go_wp2_with fail
          go_ret
          exact FIN.out _ _ _ _ G.out
      focus
        refine step_build (by kernel_rfl) 11 (by kernel_rfl) 22 33 (by kernel_rfl) build_u ?_
        have G := hide G.out.make2
        refine hK.out _ _ (CEL.out _ G.out.be) (fun hHeld => ?_)
        clear hK K
        try simp only [Act.put, List.setIfInBounds_toArray, List.set_cons_zero, List.set_cons_succ]
        refine wpAnyH_ready (rs := [4]) (by kernel_rfl) (by simp) ?_
        refine AllReadyH.cons (o := ⟨some 7, _, _, _, _, _⟩) rfl (fun K hK => ?_) AllReadyH.nil
        refine step_build (by kernel_rfl) 7 (by kernel_rfl) 23 4 (by kernel_rfl) build_b ?_
        have G := hide G.out.make1
        refine hK.out _ _ (CEL.out _ G.out.be) (fun hHeld => ?_)
        clear hK K
        try simp only [Act.put, List.setIfInBounds_toArray, List.set_cons_zero, List.set_cons_succ]
        refine wpAnyH_ready (rs := [7]) (by kernel_rfl) (by simp) ?_
        refine AllReadyH.cons (o := ⟨some 10, _, _, _, _, _⟩) rfl (fun K hK => ?_) AllReadyH.nil
        refine G.out.sapp1 sne S1.out L1.out (bools_one1 re) (by kernel_rfl) (.tmp 7) (.tmp 9) (by kernel_rfl) (by kernel_rfl) (by kernel_rfl) (fun o1 k1 Y1 g1 => ?_)
        have G := hide g1
        clear g1
        refine hK.out _ _ (CEL.out _ G.out.be) (fun hHeld => ?_)
        clear hK K
        try simp only [Act.put, List.setIfInBounds_toArray, List.set_cons_zero, List.set_cons_succ]
        refine wpAnyH_ready (rs := [11]) (by kernel_rfl) (by simp) ?_
        refine AllReadyH.cons (o := ⟨some 14, _, _, _, _, _⟩) rfl (fun K hK => ?_) AllReadyH.nil
        refine G.out.sapp2 sne S2.out L2.out (u64s_one8 fi) (by kernel_rfl) (.tmp 11) (.tmp 13) (by kernel_rfl) (by kernel_rfl) (by kernel_rfl) (fun o2 k2 Y2 g2 => ?_)
        have G := hide g2
        clear g2
        refine hK.out _ _ (CEL.out _ G.out.be) (fun hHeld => ?_)
        clear hK K
        try simp only [Act.put, List.setIfInBounds_toArray, List.set_cons_zero, List.set_cons_succ]
        refine wpAnyH_take (i := 12) (oi := ⟨some 15, _, _, _, _, _⟩) (v := ?_) rfl (by kernel_rfl) (by kernel_rfl) (by kernel_rfl) (fun _ _ _ h => h) (Or.inl ⟨by rfl, ?_⟩) (by assumption) ?_
        rotate_left
        · (intro w hSw; (try dsimp only at hSw); go_simp; try with_reducible rfl)
        try simp only [Act.put, List.setIfInBounds_toArray, List.set_cons_zero, List.set_cons_succ]
        refine wpAnyH_take (i := 13) (oi := ⟨some 16, _, _, _, _, _⟩) (v := ?_) rfl (by kernel_rfl) (by kernel_rfl) (by kernel_rfl) (fun _ _ _ h => h) (Or.inl ⟨by rfl, ?_⟩) (by assumption) ?_
        rotate_left
        · (intro w hSw; (try dsimp only at hSw); go_simp; try with_reducible rfl)
        try simp only [Act.put, List.setIfInBounds_toArray, List.set_cons_zero, List.set_cons_succ]
        refine wpAnyH_ready (rs := [14]) (by kernel_rfl) (by simp) ?_
        refine AllReadyH.cons (o := ⟨some 17, _, _, _, _, _⟩) rfl (fun K hK => ?_) AllReadyH.nil
        go_simp
        refine hK.out _ _ (CEL.out _ (G.out.be.alloc G.out.be.size _)) (fun hHeld => ?_)
        clear hK K
        try simp only [Act.put, List.setIfInBounds_toArray, List.set_cons_zero, List.set_cons_succ]
        refine wpAnyH_take (i := 15) (oi := ⟨some 2, _, _, _, _, _⟩) (v := ?_) rfl (by kernel_rfl) (by kernel_rfl) (by kernel_rfl) (fun _ _ _ h => h) (Or.inl ⟨by rfl, ?_⟩) (by assumption) ?_
        rotate_left
        · (intro w hSw; (try dsimp only at hSw); go_simp; try with_reducible rfl)
        try simp only [Act.put, List.setIfInBounds_toArray, List.set_cons_zero, List.set_cons_succ]
        refine wpAnyH_done (by kernel_rfl) ?_ _
        clear hHeld
        go_wp2_with fail
        go_ret
        exact FIN.out _ _ _ _ G.out
    focus
      refine step_build (by kernel_rfl) 7 (by kernel_rfl) 23 4 (by kernel_rfl) build_b ?_
      have G := hide G.out.make1
      refine hK.out _ _ (CEL.out _ G.out.be) (fun hHeld => ?_)
      clear hK K
      try simp only [Act.put, List.setIfInBounds_toArray, List.set_cons_zero, List.set_cons_succ]
      refine wpAnyH_ready (rs := [3, 8]) (by kernel_rfl) (by simp) ?_
      refine AllReadyH.cons (o := ⟨some 6, _, _, _, _, _⟩) rfl (fun K hK => ?_) (AllReadyH.cons (o := ⟨some 11, _, _, _, _, _⟩) rfl (fun K hK => ?_) AllReadyH.nil)
      focus
        refine G.out.sapp0 sne S0.out L0.out (u64s_one8 pl) (by kernel_rfl) (.tmp 3) (.tmp 5) (by kernel_rfl) (by kernel_rfl) (by kernel_rfl) (fun o0 k0 Y0 g0 => ?_)
        have G := hide g0
        clear g0
        refine hK.out _ _ (CEL.out _ G.out.be) (fun hHeld => ?_)
        clear hK K
        try simp only [Act.put, List.setIfInBounds_toArray, List.set_cons_zero, List.set_cons_succ]
        refine wpAnyH_ready (rs := [7, 8]) (by kernel_rfl) (by simp) ?_
        refine AllReadyH.cons (o := ⟨some 10, _, _, _, _, _⟩) rfl (fun K hK => ?_) (AllReadyH.cons (o := ⟨some 11, _, _, _, _, _⟩) rfl (fun K hK => ?_) AllReadyH.nil)
        focus
          refine G.out.sapp1 sne S1.out L1.out (bools_one1 re) (by kernel_rfl) (.tmp 7) (.tmp 9) (by kernel_rfl) (by kernel_rfl) (by kernel_rfl) (fun o1 k1 Y1 g1 => ?_)
          have G := hide g1
          clear g1
          refine hK.out _ _ (CEL.out _ G.out.be) (fun hHeld => ?_)
          clear hK K
          try simp only [Act.put, List.setIfInBounds_toArray, List.set_cons_zero, List.set_cons_succ]
          refine wpAnyH_ready (rs := [8]) (by kernel_rfl) (by simp) ?_
          refine AllReadyH.cons (o := ⟨some 11, _, _, _, _, _⟩) rfl (fun K hK => ?_) AllReadyH.nil
          refine step_build (by kernel_rfl) 11 (by kernel_rfl) 22 33 (by kernel_rfl) build_u ?_
          have G := hide G.out.make2
          refine hK.out _ _ (CEL.out _ G.out.be) (fun hHeld => ?_)
          clear hK K
          try simp only [Act.put, List.setIfInBounds_toArray, List.set_cons_zero, List.set_cons_succ]
          refine wpAnyH_ready (rs := [11]) (by kernel_rfl) (by simp) ?_
          refine AllReadyH.cons (o := ⟨some 14, _, _, _, _, _⟩) rfl (fun K hK => ?_) AllReadyH.nil
          refine G.out.sapp2 sne S2.out L2.out (u64s_one8 fi) (by kernel_rfl) (.tmp 11) (.tmp 13) (by kernel_rfl) (by kernel_rfl) (by kernel_rfl) (fun o2 k2 Y2 g2 => ?_)
          have G := hide g2
          clear g2
          refine hK.out _ _ (CEL.out _ G.out.be) (fun hHeld => ?_)
          clear hK K
          try simp only [Act.put, List.setIfInBounds_toArray, List.set_cons_zero, List.set_cons_succ]
          refine wpAnyH_take (i := 12) (oi := ⟨some 15, _, _, _, _, _⟩) (v := ?_) rfl (by kernel_rfl) (by kernel_rfl) (by kernel_rfl) (fun _ _ _ h => h) (Or.inl ⟨by rfl, ?_⟩) (by assumption) ?_
          rotate_left
          · (intro w hSw; (try dsimp only at hSw); go_simp; try with_reducible rfl)
          try simp only [Act.put, List.setIfInBounds_toArray, List.set_cons_zero, List.set_cons_succ]
          refine wpAnyH_take (i := 13) (oi := ⟨some 16, _, _, _, _, _⟩) (v := ?_) rfl (by kernel_rfl) (by kernel_rfl) (by kernel_rfl) (fun _ _ _ h => h) (Or.inl ⟨by rfl, ?_⟩) (by assumption) ?_
          rotate_left
          · (intro w hSw; (try dsimp only at hSw); go_simp; try with_reducible rfl)
          try simp only [Act.put, List.setIfInBounds_toArray, List.set_cons_zero, List.set_cons_succ]
          refine wpAnyH_ready (rs := [14]) (by kernel_rfl) (by simp) ?_
          refine AllReadyH.cons (o := ⟨some 17, _, _, _, _, _⟩) rfl (fun K hK => ?_) AllReadyH.nil
          go_simp
          refine hK.out _ _ (CEL.out _ (G.out.be.alloc G.out.be.size _)) (fun hHeld => ?_)
          clear hK K
          try simp only [Act.put, List.setIfInBounds_toArray, List.set_cons_zero, List.set_cons_succ]
          refine wpAnyH_take (i := 15) (oi := ⟨some 2, _, _, _, _, _⟩) (v := ?_) rfl (by kernel_rfl) (by kernel_rfl) (by kernel_rfl) (fun _ _ _ h => h) (Or.inl ⟨by rfl, ?_⟩) (by assumption) ?_
          rotate_left
          · (intro w hSw; (try dsimp only at hSw); go_simp; try with_reducible rfl)
          try simp only [Act.put, List.setIfInBounds_toArray, List.set_cons_zero, List.set_cons_succ]
          refine wpAnyH_done (by kernel_rfl) ?_ _
          clear hHeld
          go_wp2_with fail
          go_ret
          exact FIN.out _ _ _ _ G.out
        focus
          refine step_build (by kernel_rfl) 11 (by kernel_rfl) 22 33 (by kernel_rfl) build_u ?_
          have G := hide G.out.make2
          refine hK.out _ _ (CEL.out _ G.out.be) (fun hHeld => ?_)
          clear hK K
          try simp only [Act.put, List.setIfInBounds_toArray, List.set_cons_zero, List.set_cons_succ]
          refine wpAnyH_ready (rs := [7]) (by kernel_rfl) (by simp) ?_
          refine AllReadyH.cons (o := ⟨some 10, _, _, _, _, _⟩) rfl (fun K hK => ?_) AllReadyH.nil
          refine G.out.sapp1 sne S1.out L1.out (bools_one1 re) (by kernel_rfl) (.tmp 7) (.tmp 9) (by kernel_rfl) (by kernel_rfl) (by kernel_rfl) (fun o1 k1 Y1 g1 => ?_)
          have G := hide g1
          clear g1
          refine hK.out _ _ (CEL.out _ G.out.be) (fun hHeld => ?_)
          clear hK K
          try simp only [Act.put, List.setIfInBounds_toArray, List.set_cons_zero, List.set_cons_succ]
          refine wpAnyH_ready (rs := [11]) (by kernel_rfl) (by simp) ?_
          refine AllReadyH.cons (o := ⟨some 14, _, _, _, _, _⟩) rfl (fun K hK => ?_) AllReadyH.nil
          refine G.out.sapp2 sne S2.out L2.out (u64s_one8 fi) (by kernel_rfl) (.tmp 11) (.tmp 13) (by kernel_rfl) (by kernel_rfl) (by kernel_rfl) (fun o2 k2 Y2 g2 => ?_)
          have G := hide g2
          clear g2
          refine hK.out _ _ (CEL.out _ G.out.be) (fun hHeld => ?_)
          clear hK K
          try simp only [Act.put, List.setIfInBounds_toArray, List.set_cons_zero, List.set_cons_succ]
          refine wpAnyH_take (i := 12) (oi := ⟨some 15, _, _, _, _, _⟩) (v := ?_) rfl (by kernel_rfl) (by kernel_rfl) (by kernel_rfl) (fun _ _ _ h => h) (Or.inl ⟨by rfl, ?_⟩) (by assumption) ?_
          rotate_left
          · (intro w hSw; (try dsimp only at hSw); go_simp; try with_reducible rfl)
          try simp only [Act.put, List.setIfInBounds_toArray, List.set_cons_zero, List.set_cons_succ]
          refine wpAnyH_take (i := 13) (oi := ⟨some 16, _, _, _, _, _⟩) (v := ?_) rfl (by kernel_rfl) (by kernel_rfl) (by kernel_rfl) (fun _ _ _ h => h) (Or.inl ⟨by rfl, ?_⟩) (by assumption) ?_
          rotate_left
          · (intro w hSw; (try dsimp only at hSw); go_simp; try with_reducible rfl)
          try simp only [Act.put, List.setIfInBounds_toArray, List.set_cons_zero, List.set_cons_succ]
          refine wpAnyH_ready (rs := [14]) (by kernel_rfl) (by simp) ?_
          refine AllReadyH.cons (o := ⟨some 17, _, _, _, _, _⟩) rfl (fun K hK => ?_) AllReadyH.nil
          go_simp
          refine hK.out _ _ (CEL.out _ (G.out.be.alloc G.out.be.size _)) (fun hHeld => ?_)
          clear hK K
          try simp only [Act.put, List.setIfInBounds_toArray, List.set_cons_zero, List.set_cons_succ]
          refine wpAnyH_take (i := 15) (oi := ⟨some 2, _, _, _, _, _⟩) (v := ?_) rfl (by kernel_rfl) (by kernel_rfl) (by kernel_rfl) (fun _ _ _ h => h) (Or.inl ⟨by rfl, ?_⟩) (by assumption) ?_
          rotate_left
          · (intro w hSw; (try dsimp only at hSw); go_simp; try with_reducible rfl)
          try simp only [Act.put, List.setIfInBounds_toArray, List.set_cons_zero, List.set_cons_succ]
          refine wpAnyH_done (by kernel_rfl) ?_ _
          clear hHeld
          go_wp2_with fail
          go_ret
          exact FIN.out _ _ _ _ G.out
      focus
        refine step_build (by kernel_rfl) 11 (by kernel_rfl) 22 33 (by kernel_rfl) build_u ?_
        have G := hide G.out.make2
        refine hK.out _ _ (CEL.out _ G.out.be) (fun hHeld => ?_)
        clear hK K
        try simp only [Act.put, List.setIfInBounds_toArray, List.set_cons_zero, List.set_cons_succ]
        refine wpAnyH_ready (rs := [3]) (by kernel_rfl) (by simp) ?_
        refine AllReadyH.cons (o := ⟨some 6, _, _, _, _, _⟩) rfl (fun K hK => ?_) AllReadyH.nil
        refine G.out.sapp0 sne S0.out L0.out (u64s_one8 pl) (by kernel_rfl) (.tmp 3) (.tmp 5) (by kernel_rfl) (by kernel_rfl) (by kernel_rfl) (fun o0 k0 Y0 g0 => ?_)
        have G := hide g0
        clear g0
        refine hK.out _ _ (CEL.out _ G.out.be) (fun hHeld => ?_)
        clear hK K
        try simp only [Act.put, List.setIfInBounds_toArray, List.set_cons_zero, List.set_cons_succ]
        refine wpAnyH_ready (rs := [7]) (by kernel_rfl) (by simp) ?_
        refine AllReadyH.cons (o := ⟨some 10, _, _, _, _, _⟩) rfl (fun K hK => ?_) AllReadyH.nil
        refine G.out.sapp1 sne S1.out L1.out (bools_one1 re) (by kernel_rfl) (.tmp 7) (.tmp 9) (by kernel_rfl) (by kernel_rfl) (by kernel_rfl) (fun o1 k1 Y1 g1 => ?_)
        have G := hide g1
        clear g1
        refine hK.out _ _ (CEL.out _ G.out.be) (fun hHeld => ?_)
        clear hK K
        try simp only [Act.put, List.setIfInBounds_toArray, List.set_cons_zero, List.set_cons_succ]
        refine wpAnyH_ready (rs := [11]) (by kernel_rfl) (by simp) ?_
        refine AllReadyH.cons (o := ⟨some 14, _, _, _, _, _⟩) rfl (fun K hK => ?_) AllReadyH.nil
        refine G.out.sapp2 sne S2.out L2.out (u64s_one8 fi) (by kernel_rfl) (.tmp 11) (.tmp 13) (by kernel_rfl) (by kernel_rfl) (by kernel_rfl) (fun o2 k2 Y2 g2 => ?_)
        have G := hide g2
        clear g2
        refine hK.out _ _ (CEL.out _ G.out.be) (fun hHeld => ?_)
        clear hK K
        try simp only [Act.put, List.setIfInBounds_toArray, List.set_cons_zero, List.set_cons_succ]
        refine wpAnyH_take (i := 12) (oi := ⟨some 15, _, _, _, _, _⟩) (v := ?_) rfl (by kernel_rfl) (by kernel_rfl) (by kernel_rfl) (fun _ _ _ h => h) (Or.inl ⟨by rfl, ?_⟩) (by assumption) ?_
        rotate_left
        · (intro w hSw; (try dsimp only at hSw); go_simp; try with_reducible rfl)
        try simp only [Act.put, List.setIfInBounds_toArray, List.set_cons_zero, List.set_cons_succ]
        refine wpAnyH_take (i := 13) (oi := ⟨some 16, _, _, _, _, _⟩) (v := ?_) rfl (by kernel_rfl) (by kernel_rfl) (by kernel_rfl) (fun _ _ _ h => h) (Or.inl ⟨by rfl, ?_⟩) (by assumption) ?_
        rotate_left
        · (intro w hSw; (try dsimp only at hSw); go_simp; try with_reducible rfl)
        try simp only [Act.put, List.setIfInBounds_toArray, List.set_cons_zero, List.set_cons_succ]
        refine wpAnyH_ready (rs := [14]) (by kernel_rfl) (by simp) ?_
        refine AllReadyH.cons (o := ⟨some 17, _, _, _, _, _⟩) rfl (fun K hK => ?_) AllReadyH.nil
        go_simp
        refine hK.out _ _ (CEL.out _ (G.out.be.alloc G.out.be.size _)) (fun hHeld => ?_)
        clear hK K
        try simp only [Act.put, List.setIfInBounds_toArray, List.set_cons_zero, List.set_cons_succ]
        refine wpAnyH_take (i := 15) (oi := ⟨some 2, _, _, _, _, _⟩) (v := ?_) rfl (by kernel_rfl) (by kernel_rfl) (by kernel_rfl) (fun _ _ _ h => h) (Or.inl ⟨by rfl, ?_⟩) (by assumption) ?_
        rotate_left
        · (intro w hSw; (try dsimp only at hSw); go_simp; try with_reducible rfl)
        try simp only [Act.put, List.setIfInBounds_toArray, List.set_cons_zero, List.set_cons_succ]
        refine wpAnyH_done (by kernel_rfl) ?_ _
        clear hHeld
        go_wp2_with fail
        go_ret
        exact FIN.out _ _ _ _ G.out
    focus
      refine step_build (by kernel_rfl) 11 (by kernel_rfl) 22 33 (by kernel_rfl) build_u ?_
      have G := hide G.out.make2
      refine hK.out _ _ (CEL.out _ G.out.be) (fun hHeld => ?_)
      clear hK K
      try simp only [Act.put, List.setIfInBounds_toArray, List.set_cons_zero, List.set_cons_succ]
      refine wpAnyH_ready (rs := [3, 4]) (by kernel_rfl) (by simp) ?_
      refine AllReadyH.cons (o := ⟨some 6, _, _, _, _, _⟩) rfl (fun K hK => ?_) (AllReadyH.cons (o := ⟨some 7, _, _, _, _, _⟩) rfl (fun K hK => ?_) AllReadyH.nil)
      focus
        refine G.out.sapp0 sne S0.out L0.out (u64s_one8 pl) (by kernel_rfl) (.tmp 3) (.tmp 5) (by kernel_rfl) (by kernel_rfl) (by kernel_rfl) (fun o0 k0 Y0 g0 => ?_)
        have G := hide g0
        clear g0
        refine hK.out _ _ (CEL.out _ G.out.be) (fun hHeld => ?_)
        clear hK K
        try simp only [Act.put, List.setIfInBounds_toArray, List.set_cons_zero, List.set_cons_succ]
        refine wpAnyH_ready (rs := [4]) (by kernel_rfl) (by simp) ?_
        refine AllReadyH.cons (o := ⟨some 7, _, _, _, _, _⟩) rfl (fun K hK => ?_) AllReadyH.nil
        refine step_build (by kernel_rfl) 7 (by kernel_rfl) 23 4 (by kernel_rfl) build_b ?_
        have G := hide G.out.make1
        refine hK.out _ _ (CEL.out _ G.out.be) (fun hHeld => ?_)
        clear hK K
        try simp only [Act.put, List.setIfInBounds_toArray, List.set_cons_zero, List.set_cons_succ]
        refine wpAnyH_ready (rs := [7]) (by kernel_rfl) (by simp) ?_
        refine AllReadyH.cons (o := ⟨some 10, _, _, _, _, _⟩) rfl (fun K hK => ?_) AllReadyH.nil
        refine G.out.sapp1 sne S1.out L1.out (bools_one1 re) (by kernel_rfl) (.tmp 7) (.tmp 9) (by kernel_rfl) (by kernel_rfl) (by kernel_rfl) (fun o1 k1 Y1 g1 => ?_)
        have G := hide g1
        clear g1
        refine hK.out _ _ (CEL.out _ G.out.be) (fun hHeld => ?_)
        clear hK K
        try simp only [Act.put, List.setIfInBounds_toArray, List.set_cons_zero, List.set_cons_succ]
        refine wpAnyH_ready (rs := [11]) (by kernel_rfl) (by simp) ?_
        refine AllReadyH.cons (o := ⟨some 14, _, _, _, _, _⟩) rfl (fun K hK => ?_) AllReadyH.nil
        refine G.out.sapp2 sne S2.out L2.out (u64s_one8 fi) (by kernel_rfl) (.tmp 11) (.tmp 13) (by kernel_rfl) (by kernel_rfl) (by kernel_rfl) (fun o2 k2 Y2 g2 => ?_)
        have G := hide g2
        clear g2
        refine hK.out _ _ (CEL.out _ G.out.be) (fun hHeld => ?_)
        clear hK K
        try simp only [Act.put, List.setIfInBounds_toArray, List.set_cons_zero, List.set_cons_succ]
        refine wpAnyH_take (i := 12) (oi := ⟨some 15, _, _, _, _, _⟩) (v := ?_) rfl (by kernel_rfl) (by kernel_rfl) (by kernel_rfl) (fun _ _ _ h => h) (Or.inl ⟨by rfl, ?_⟩) (by assumption) ?_
        rotate_left
        · (intro w hSw; (try dsimp only at hSw); go_simp; try with_reducible rfl)
        try simp only [Act.put, List.setIfInBounds_toArray, List.set_cons_zero, List.set_cons_succ]
        refine wpAnyH_take (i := 13) (oi := ⟨some 16, _, _, _, _, _⟩) (v := ?_) rfl (by kernel_rfl) (by kernel_rfl) (by kernel_rfl) (fun _ _ _ h => h) (Or.inl ⟨by rfl, ?_⟩) (by assumption) ?_
        rotate_left
        · (intro w hSw; (try dsimp only at hSw); go_simp; try with_reducible rfl)
        try simp only [Act.put, List.setIfInBounds_toArray, List.set_cons_zero, List.set_cons_succ]
        refine wpAnyH_ready (rs := [14]) (by kernel_rfl) (by simp) ?_
        refine AllReadyH.cons (o := ⟨some 17, _, _, _, _, _⟩) rfl (fun K hK => ?_) AllReadyH.nil
        go_simp
        refine hK.out _ _ (CEL.out _ (G.out.be.alloc G.out.be.size _)) (fun hHeld => ?_)
        clear hK K
        try simp only [Act.put, List.setIfInBounds_toArray, List.set_cons_zero, List.set_cons_succ]
        refine wpAnyH_take (i := 15) (oi := ⟨some 2, _, _, _, _, _⟩) (v := ?_) rfl (by kernel_rfl) (by kernel_rfl) (by kernel_rfl) (fun _ _ _ h => h) (Or.inl ⟨by rfl, ?_⟩) (by assumption) ?_
        rotate_left
        · (intro w hSw; (try dsimp only at hSw); go_simp; try with_reducible rfl)
        try simp only [Act.put, List.setIfInBounds_toArray, List.set_cons_zero, List.set_cons_succ]
        refine wpAnyH_done (by kernel_rfl) ?_ _
        clear hHeld
        go_wp2_with fail
        go_ret
        exact FIN.out _ _ _ _ G.out
      focus
        refine step_build (by kernel_rfl) 7 (by kernel_rfl) 23 4 (by kernel_rfl) build_b ?_
        have G := hide G.out.make1
        refine hK.out _ _ (CEL.out _ G.out.be) (fun hHeld => ?_)
        clear hK K
        try simp only [Act.put, List.setIfInBounds_toArray, List.set_cons_zero, List.set_cons_succ]
        refine wpAnyH_ready (rs := [3]) (by kernel_rfl) (by simp) ?_
        refine AllReadyH.cons (o := ⟨some 6, _, _, _, _, _⟩) rfl (fun K hK => ?_) AllReadyH.nil
        refine G.out.sapp0 sne S0.out L0.out (u64s_one8 pl) (by kernel_rfl) (.tmp 3) (.tmp 5) (by kernel_rfl) (by kernel_rfl) (by kernel_rfl) (fun o0 k0 Y0 g0 => ?_)
        have G := hide g0
        clear g0
        refine hK.out _ _ (CEL.out _ G.out.be) (fun hHeld => ?_)
        clear hK K
        try simp only [Act.put, List.setIfInBounds_toArray, List.set_cons_zero, List.set_cons_succ]
        refine wpAnyH_ready (rs := [7]) (by kernel_rfl) (by simp) ?_
        refine AllReadyH.cons (o := ⟨some 10, _, _, _, _, _⟩) rfl (fun K hK => ?_) AllReadyH.nil
        refine G.out.sapp1 sne S1.out L1.out (bools_one1 re) (by kernel_rfl) (.tmp 7) (.tmp 9) (by kernel_rfl) (by kernel_rfl) (by kernel_rfl) (fun o1 k1 Y1 g1 => ?_)
        have G := hide g1
        clear g1
        refine hK.out _ _ (CEL.out _ G.out.be) (fun hHeld => ?_)
        clear hK K
        try simp only [Act.put, List.setIfInBounds_toArray, List.set_cons_zero, List.set_cons_succ]
        refine wpAnyH_ready (rs := [11]) (by kernel_rfl) (by simp) ?_
        refine AllReadyH.cons (o := ⟨some 14, _, _, _, _, _⟩) rfl (fun K hK => ?_) AllReadyH.nil
        refine G.out.sapp2 sne S2.out L2.out (u64s_one8 fi) (by kernel_rfl) (.tmp 11) (.tmp 13) (by kernel_rfl) (by kernel_rfl) (by kernel_rfl) (fun o2 k2 Y2 g2 => ?_)
        have G := hide g2
        clear g2
        refine hK.out _ _ (CEL.out _ G.out.be) (fun hHeld => ?_)
        clear hK K
        try simp only [Act.put, List.setIfInBounds_toArray, List.set_cons_zero, List.set_cons_succ]
        refine wpAnyH_take (i := 12) (oi := ⟨some 15, _, _, _, _, _⟩) (v := ?_) rfl (by kernel_rfl) (by kernel_rfl) (by kernel_rfl) (fun _ _ _ h => h) (Or.inl ⟨by rfl, ?_⟩) (by assumption) ?_
        rotate_left
        · (intro w hSw; (try dsimp only at hSw); go_simp; try with_reducible rfl)
        try simp only [Act.put, List.setIfInBounds_toArray, List.set_cons_zero, List.set_cons_succ]
        refine wpAnyH_take (i := 13) (oi := ⟨some 16, _, _, _, _, _⟩) (v := ?_) rfl (by kernel_rfl) (by kernel_rfl) (by kernel_rfl) (fun _ _ _ h => h) (Or.inl ⟨by rfl, ?_⟩) (by assumption) ?_
        rotate_left
        · (intro w hSw; (try dsimp only at hSw); go_simp; try with_reducible rfl)
        try simp only [Act.put, List.setIfInBounds_toArray, List.set_cons_zero, List.set_cons_succ]
        refine wpAnyH_ready (rs := [14]) (by kernel_rfl) (by simp) ?_
        refine AllReadyH.cons (o := ⟨some 17, _, _, _, _, _⟩) rfl (fun K hK => ?_) AllReadyH.nil
        go_simp
        refine hK.out _ _ (CEL.out _ (G.out.be.alloc G.out.be.size _)) (fun hHeld => ?_)
        clear hK K
        try simp only [Act.put, List.setIfInBounds_toArray, List.set_cons_zero, List.set_cons_succ]
        refine wpAnyH_take (i := 15) (oi := ⟨some 2, _, _, _, _, _⟩) (v := ?_) rfl (by kernel_rfl) (by kernel_rfl) (by kernel_rfl) (fun _ _ _ h => h) (Or.inl ⟨by rfl, ?_⟩) (by assumption) ?_
        rotate_left
        · (intro w hSw; (try dsimp only at hSw); go_simp; try with_reducible rfl)
        try simp only [Act.put, List.setIfInBounds_toArray, List.set_cons_zero, List.set_cons_succ]
        refine wpAnyH_done (by kernel_rfl) ?_ _
        clear hHeld
        go_wp2_with fail
        go_ret
        exact FIN.out _ _ _ _ G.out
  focus
    refine step_build (by kernel_rfl) 7 (by kernel_rfl) 23 4 (by kernel_rfl) build_b ?_
    have G := hide G.out.make1
    refine hK.out _ _ (CEL.out _ G.out.be) (fun hHeld => ?_)
    clear hK K
    try simp only [Act.put, List.setIfInBounds_toArray, List.set_cons_zero, List.set_cons_succ]
    refine wpAnyH_ready (rs := [0, 8]) (by kernel_rfl) (by simp) ?_
    refine AllReadyH.cons (o := ⟨some 3, _, _, _, _, _⟩) rfl (fun K hK => ?_) (AllReadyH.cons (o := ⟨some 11, _, _, _, _, _⟩) rfl (fun K hK => ?_) AllReadyH.nil)
    focus
      refine step_build (by kernel_rfl) 3 (by kernel_rfl) 22 33 (by kernel_rfl) build_u ?_
      have G := hide G.out.make0
      refine hK.out _ _ (CEL.out _ G.out.be) (fun hHeld => ?_)
      clear hK K
      try simp only [Act.put, List.setIfInBounds_toArray, List.set_cons_zero, List.set_cons_succ]
      refine wpAnyH_ready (rs := [3, 8]) (by kernel_rfl) (by simp) ?_
      refine AllReadyH.cons (o := ⟨some 6, _, _, _, _, _⟩) rfl (fun K hK => ?_) (AllReadyH.cons (o := ⟨some 11, _, _, _, _, _⟩) rfl (fun K hK => ?_) AllReadyH.nil)
      focus
        refine G.out.sapp0 sne S0.out L0.out (u64s_one8 pl) (by kernel_rfl) (.tmp 3) (.tmp 5) (by kernel_rfl) (by kernel_rfl) (by kernel_rfl) (fun o0 k0 Y0 g0 => ?_)
        have G := hide g0
        clear g0
        refine hK.out _ _ (CEL.out _ G.out.be) (fun hHeld => ?_)
        clear hK K
        try simp only [Act.put, List.setIfInBounds_toArray, List.set_cons_zero, List.set_cons_succ]
        refine wpAnyH_ready (rs := [7, 8]) (by kernel_rfl) (by simp) ?_
        refine AllReadyH.cons (o := ⟨some 10, _, _, _, _, _⟩) rfl (fun K hK => ?_) (AllReadyH.cons (o := ⟨some 11, _, _, _, _, _⟩) rfl (fun K hK => ?_) AllReadyH.nil)
        focus
          refine G.out.sapp1 sne S1.out L1.out (bools_one1 re) (by kernel_rfl) (.tmp 7) (.tmp 9) (by kernel_rfl) (by kernel_rfl) (by kernel_rfl) (fun o1 k1 Y1 g1 => ?_)
          have G := hide g1
          clear g1
          refine hK.out _ _ (CEL.out _ G.out.be) (fun hHeld => ?_)
          clear hK K
          try simp only [Act.put, List.setIfInBounds_toArray, List.set_cons_zero, List.set_cons_succ]
          refine wpAnyH_ready (rs := [8]) (by kernel_rfl) (by simp) ?_
          refine AllReadyH.cons (o := ⟨some 11, _, _, _, _, _⟩) rfl (fun K hK => ?_) AllReadyH.nil
          refine step_build (by kernel_rfl) 11 (by kernel_rfl) 22 33 (by kernel_rfl) build_u ?_
          have G := hide G.out.make2
          refine hK.out _ _ (CEL.out _ G.out.be) (fun hHeld => ?_)
          clear hK K
          try simp only [Act.put, List.setIfInBounds_toArray, List.set_cons_zero, List.set_cons_succ]
          refine wpAnyH_ready (rs := [11]) (by kernel_rfl) (by simp) ?_
          refine AllReadyH.cons (o := ⟨some 14, _, _, _, _, _⟩) rfl (fun K hK => ?_) AllReadyH.nil
          refine G.out.sapp2 sne S2.out L2.out (u64s_one8 fi) (by kernel_rfl) (.tmp 11) (.tmp 13) (by kernel_rfl) (by kernel_rfl) (by kernel_rfl) (fun o2 k2 Y2 g2 => ?_)
          have G := hide g2
          clear g2
          refine hK.out _ _ (CEL.out _ G.out.be) (fun hHeld => ?_)
          clear hK K
          try simp only [Act.put, List.setIfInBounds_toArray, List.set_cons_zero, List.set_cons_succ]
          refine wpAnyH_take (i := 12) (oi := ⟨some 15, _, _, _, _, _⟩) (v := ?_) rfl (by kernel_rfl) (by kernel_rfl) (by kernel_rfl) (fun _ _ _ h => h) (Or.inl ⟨by rfl, ?_⟩) (by assumption) ?_
          rotate_left
          · (intro w hSw; (try dsimp only at hSw); go_simp; try with_reducible rfl)
          try simp only [Act.put, List.setIfInBounds_toArray, List.set_cons_zero, List.set_cons_succ]
          refine wpAnyH_take (i := 13) (oi := ⟨some 16, _, _, _, _, _⟩) (v := ?_) rfl (by kernel_rfl) (by kernel_rfl) (by kernel_rfl) (fun _ _ _ h => h) (Or.inl ⟨by rfl, ?_⟩) (by assumption) ?_
          rotate_left
          · (intro w hSw; (try dsimp only at hSw); go_simp; try with_reducible rfl)
          try simp only [Act.put, List.setIfInBounds_toArray, List.set_cons_zero, List.set_cons_succ]
          refine wpAnyH_ready (rs := [14]) (by kernel_rfl) (by simp) ?_
          refine AllReadyH.cons (o := ⟨some 17, _, _, _, _, _⟩) rfl (fun K hK => ?_) AllReadyH.nil
          go_simp
          refine hK.out _ _ (CEL.out _ (G.out.be.alloc G.out.be.size _)) (fun hHeld => ?_)
          clear hK K
          try simp only [Act.put, List.setIfInBounds_toArray, List.set_cons_zero, List.set_cons_succ]
          refine wpAnyH_take (i := 15) (oi := ⟨some 2, _, _, _, _, _⟩) (v := ?_) rfl (by kernel_rfl) (by kernel_rfl) (by kernel_rfl) (fun _ _ _ h => h) (Or.inl ⟨by rfl, ?_⟩) (by assumption) ?_
          rotate_left
          · (intro w hSw; (try dsimp only at hSw); go_simp; try with_reducible rfl)
          try simp only [Act.put, List.setIfInBounds_toArray, List.set_cons_zero, List.set_cons_succ]
          refine wpAnyH_done (by kernel_rfl) ?_ _
          clear hHeld
          go_wp2_with fail
          go_ret
          exact FIN.out _ _ _ _ G.out
        focus
          refine step_build (by kernel_rfl) 11 (by kernel_rfl) 22 33 (by kernel_rfl) build_u ?_
          have G := hide G.out.make2
          refine hK.out _ _ (CEL.out _ G.out.be) (fun hHeld => ?_)
          clear hK K
          try simp only [Act.put, List.setIfInBounds_toArray, List.set_cons_zero, List.set_cons_succ]
          refine wpAnyH_ready (rs := [7]) (by kernel_rfl) (by simp) ?_
          refine AllReadyH.cons (o := ⟨some 10, _, _, _, _, _⟩) rfl (fun K hK => ?_) AllReadyH.nil
          refine G.out.sapp1 sne S1.out L1.out (bools_one1 re) (by kernel_rfl) (.tmp 7) (.tmp 9) (by kernel_rfl) (by kernel_rfl) (by kernel_rfl) (fun o1 k1 Y1 g1 => ?_)
          have G := hide g1
          clear g1
          refine hK.out _ _ (CEL.out _ G.out.be) (fun hHeld => ?_)
          clear hK K
          try simp only [Act.put, List.setIfInBounds_toArray, List.set_cons_zero, List.set_cons_succ]
          refine wpAnyH_ready (rs := [11]) (by kernel_rfl) (by simp) ?_
          refine AllReadyH.cons (o := ⟨some 14, _, _, _, _, _⟩) rfl (fun K hK => ?_) AllReadyH.nil
          refine G.out.sapp2 sne S2.out L2.out (u64s_one8 fi) (by kernel_rfl) (.tmp 11) (.tmp 13) (by kernel_rfl) (by kernel_rfl) (by kernel_rfl) (fun o2 k2 Y2 g2 => ?_)
          have G := hide g2
          clear g2
          refine hK.out _ _ (CEL.out _ G.out.be) (fun hHeld => ?_)
          clear hK K
          try simp only [Act.put, List.setIfInBounds_toArray, List.set_cons_zero, List.set_cons_succ]
          refine wpAnyH_take (i := 12) (oi := ⟨some 15, _, _, _, _, _⟩) (v := ?_) rfl (by kernel_rfl) (by kernel_rfl) (by kernel_rfl) (fun _ _ _ h => h) (Or.inl ⟨by rfl, ?_⟩) (by assumption) ?_
          rotate_left
          · (intro w hSw; (try dsimp only at hSw); go_simp; try with_reducible rfl)
          try simp only [Act.put, List.setIfInBounds_toArray, List.set_cons_zero, List.set_cons_succ]
          refine wpAnyH_take (i := 13) (oi := ⟨some 16, _, _, _, _, _⟩) (v := ?_) rfl (by kernel_rfl) (by kernel_rfl) (by kernel_rfl) (fun _ _ _ h => h) (Or.inl ⟨by rfl, ?_⟩) (by assumption) ?_
          rotate_left
          · (intro w hSw; (try dsimp only at hSw); go_simp; try with_reducible rfl)
          try simp only [Act.put, List.setIfInBounds_toArray, List.set_cons_zero, List.set_cons_succ]
          refine wpAnyH_ready (rs := [14]) (by kernel_rfl) (by simp) ?_
          refine AllReadyH.cons (o := ⟨some 17, _, _, _, _, _⟩) rfl (fun K hK => ?_) AllReadyH.nil
          go_simp
          refine hK.out _ _ (CEL.out _ (G.out.be.alloc G.out.be.size _)) (fun hHeld => ?_)
          clear hK K
          try simp only [Act.put, List.setIfInBounds_toArray, List.set_cons_zero, List.set_cons_succ]
          refine wpAnyH_take (i := 15) (oi := ⟨some 2, _, _, _, _, _⟩) (v := ?_) rfl (by kernel_rfl) (by kernel_rfl) (by kernel_rfl) (fun _ _ _ h => h) (Or.inl ⟨by rfl, ?_⟩) (by assumption) ?_
          rotate_left
          · (intro w hSw; (try dsimp only at hSw); go_simp; try with_reducible rfl)
          try simp only [Act.put, List.setIfInBounds_toArray, List.set_cons_zero, List.set_cons_succ]
          refine wpAnyH_done (by kernel_rfl) ?_ _
          clear hHeld
          go_wp2_with fail
          go_ret
          exact FIN.out _ _ _ _ G.out
      focus
        refine step_build (by kernel_rfl) 11 (by kernel_rfl) 22 33 (by kernel_rfl) build_u ?_
        have G := hide G.out.make2
        refine hK.out _ _ (CEL.out _ G.out.be) (fun hHeld => ?_)
        clear hK K
        try simp only [Act.put, List.setIfInBounds_toArray, List.set_cons_zero, List.set_cons_succ]
        refine wpAnyH_ready (rs := [3]) (by kernel_rfl) (by simp) ?_
        refine AllReadyH.cons (o := ⟨some 6, _, _, _, _, _⟩) rfl (fun K hK => ?_) AllReadyH.nil
        refine G.out.sapp0 sne S0.out L0.out (u64s_one8 pl) (by kernel_rfl) (.tmp 3) (.tmp 5) (by kernel_rfl) (by kernel_rfl) (by kernel_rfl) (fun o0 k0 Y0 g0 => ?_)
        have G := hide g0
        clear g0
        refine hK.out _ _ (CEL.out _ G.out.be) (fun hHeld => ?_)
        clear hK K
        try simp only [Act.put, List.setIfInBounds_toArray, List.set_cons_zero, List.set_cons_succ]
        refine wpAnyH_ready (rs := [7]) (by kernel_rfl) (by simp) ?_
        refine AllReadyH.cons (o := ⟨some 10, _, _, _, _, _⟩) rfl (fun K hK => ?_) AllReadyH.nil
        refine G.out.sapp1 sne S1.out L1.out (bools_one1 re) (by kernel_rfl) (.tmp 7) (.tmp 9) (by kernel_rfl) (by kernel_rfl) (by kernel_rfl) (fun o1 k1 Y1 g1 => ?_)
        have G := hide g1
        clear g1
        refine hK.out _ _ (CEL.out _ G.out.be) (fun hHeld => ?_)
        clear hK K
        try simp only [Act.put, List.setIfInBounds_toArray, List.set_cons_zero, List.set_cons_succ]
        refine wpAnyH_ready (rs := [11]) (by kernel_rfl) (by simp) ?_
        refine AllReadyH.cons (o := ⟨some 14, _, _, _, _, _⟩) rfl (fun K hK => ?_) AllReadyH.nil
        refine G.out.sapp2 sne S2.out L2.out (u64s_one8 fi) (by kernel_rfl) (.tmp 11) (.tmp 13) (by kernel_rfl) (by kernel_rfl) (by kernel_rfl) (fun o2 k2 Y2 g2 => ?_)
        have G := hide g2
        clear g2
        refine hK.out _ _ (CEL.out _ G.out.be) (fun hHeld => ?_)
        clear hK K
        try simp only [Act.put, List.setIfInBounds_toArray, List.set_cons_zero, List.set_cons_succ]
        refine wpAnyH_take (i := 12) (oi := ⟨some 15, _, _, _, _, _⟩) (v := ?_) rfl (by kernel_rfl) (by kernel_rfl) (by kernel_rfl) (fun _ _ _ h => h) (Or.inl ⟨by rfl, ?_⟩) (by assumption) ?_
        rotate_left
        · (intro w hSw; (try dsimp only at hSw); go_simp; try with_reducible rfl)
        try simp only [Act.put, List.setIfInBounds_toArray, List.set_cons_zero, List.set_cons_succ]
        refine wpAnyH_take (i := 13) (oi := ⟨some 16, _, _, _, _, _⟩) (v := ?_) rfl (by kernel_rfl) (by kernel_rfl) (by kernel_rfl) (fun _ _ _ h => h) (Or.inl ⟨by rfl, ?_⟩) (by assumption) ?_
        rotate_left
        · (intro w hSw; (try dsimp only at hSw); go_simp; try with_reducible rfl)
        try simp only [Act.put, List.setIfInBounds_toArray, List.set_cons_zero, List.set_cons_succ]
        refine wpAnyH_ready (rs := [14]) (by kernel_rfl) (by simp) ?_
        refine AllReadyH.cons (o := ⟨some 17, _, _, _, _, _⟩) rfl (fun K hK => ?_) AllReadyH.nil
        go_simp
        refine hK.out _ _ (CEL.out _ (G.out.be.alloc G.out.be.size _)) (fun hHeld => ?_)
        clear hK K
        try simp only [Act.put, List.setIfInBounds_toArray, List.set_cons_zero, List.set_cons_succ]
        refine wpAnyH_take (i := 15) (oi := ⟨some 2, _, _, _, _, _⟩) (v := ?_) rfl (by kernel_rfl) (by kernel_rfl) (by kernel_rfl) (fun _ _ _ h => h) (Or.inl ⟨by rfl, ?_⟩) (by assumption) ?_
        rotate_left
        · (intro w hSw; (try dsimp only at hSw); go_simp; try with_reducible rfl)
        try simp only [Act.put, List.setIfInBounds_toArray, List.set_cons_zero, List.set_cons_succ]
        refine wpAnyH_done (by kernel_rfl) ?_ _
        clear hHeld
        go_wp2_with fail
        go_ret
        exact FIN.out _ _ _ _ G.out
    focus
      refine step_build (by kernel_rfl) 11 (by kernel_rfl) 22 33 (by kernel_rfl) build_u ?_
      have G := hide G.out.make2
      refine hK.out _ _ (CEL.out _ G.out.be) (fun hHeld => ?_)
      clear hK K
      try simp only [Act.put, List.setIfInBounds_toArray, List.set_cons_zero, List.set_cons_succ]
      refine wpAnyH_ready (rs := [0]) (by kernel_rfl) (by simp) ?_
      refine AllReadyH.cons (o := ⟨some 3, _, _, _, _, _⟩) rfl (fun K hK => ?_) AllReadyH.nil
      refine step_build (by kernel_rfl) 3 (by kernel_rfl) 22 33 (by kernel_rfl) build_u ?_
      have G := hide G.out.make0
      refine hK.out _ _ (CEL.out _ G.out.be) (fun hHeld => ?_)
      clear hK K
      try simp only [Act.put, List.setIfInBounds_toArray, List.set_cons_zero, List.set_cons_succ]
      refine wpAnyH_ready (rs := [3]) (by kernel_rfl) (by simp) ?_
      refine AllReadyH.cons (o := ⟨some 6, _, _, _, _, _⟩) rfl (fun K hK => ?_) AllReadyH.nil
      refine G.out.sapp0 sne S0.out L0.out (u64s_one8 pl) (by kernel_rfl) (.tmp 3) (.tmp 5) (by kernel_rfl) (by kernel_rfl) (by kernel_rfl) (fun o0 k0 Y0 g0 => ?_)
      have G := hide g0
      clear g0
      refine hK.out _ _ (CEL.out _ G.out.be) (fun hHeld => ?_)
      clear hK K
      try simp only [Act.put, List.setIfInBounds_toArray, List.set_cons_zero, List.set_cons_succ]
      refine wpAnyH_ready (rs := [7]) (by kernel_rfl) (by simp) ?_
      refine AllReadyH.cons (o := ⟨some 10, _, _, _, _, _⟩) rfl (fun K hK => ?_) AllReadyH.nil
      refine G.out.sapp1 sne S1.out L1.out (bools_one1 re) (by kernel_rfl) (.tmp 7) (.tmp 9) (by kernel_rfl) (by kernel_rfl) (by kernel_rfl) (fun o1 k1 Y1 g1 => ?_)
      have G := hide g1
      clear g1
      refine hK.out _ _ (CEL.out _ G.out.be) (fun hHeld => ?_)
      clear hK K
      try simp only [Act.put, List.setIfInBounds_toArray, List.set_cons_zero, List.set_cons_succ]
      refine wpAnyH_ready (rs := [11]) (by kernel_rfl) (by simp) ?_
      refine AllReadyH.cons (o := ⟨some 14, _, _, _, _, _⟩) rfl (fun K hK => ?_) AllReadyH.nil
      refine G.out.sapp2 sne S2.out L2.out (u64s_one8 fi) (by kernel_rfl) (.tmp 11) (.tmp 13) (by kernel_rfl) (by kernel_rfl) (by kernel_rfl) (fun o2 k2 Y2 g2 => ?_)
      have G := hide g2
      clear g2
      refine hK.out _ _ (CEL.out _ G.out.be) (fun hHeld => ?_)
      clear hK K
      try simp only [Act.put, List.setIfInBounds_toArray, List.set_cons_zero, List.set_cons_succ]
      refine wpAnyH_take (i := 12) (oi := ⟨some 15, _, _, _, _, _⟩) (v := ?_) rfl (by kernel_rfl) (by kernel_rfl) (by kernel_rfl) (fun _ _ _ h => h) (Or.inl ⟨by rfl, ?_⟩) (by assumption) ?_
      rotate_left
      · (intro w hSw; (try dsimp only at hSw); go_simp; try with_reducible rfl)
      try simp only [Act.put, List.setIfInBounds_toArray, List.set_cons_zero, List.set_cons_succ]
      refine wpAnyH_take (i := 13) (oi := ⟨some 16, _, _, _, _, _⟩) (v := ?_) rfl (by kernel_rfl) (by kernel_rfl) (by kernel_rfl) (fun _ _ _ h => h) (Or.inl ⟨by rfl, ?_⟩) (by assumption) ?_
      rotate_left
      · (intro w hSw; (try dsimp only at hSw); go_simp; try with_reducible rfl)
      try simp only [Act.put, List.setIfInBounds_toArray, List.set_cons_zero, List.set_cons_succ]
      refine wpAnyH_ready (rs := [14]) (by kernel_rfl) (by simp) ?_
      refine AllReadyH.cons (o := ⟨some 17, _, _, _, _, _⟩) rfl (fun K hK => ?_) AllReadyH.nil
      go_simp
      refine hK.out _ _ (CEL.out _ (G.out.be.alloc G.out.be.size _)) (fun hHeld => ?_)
      clear hK K
      try simp only [Act.put, List.setIfInBounds_toArray, List.set_cons_zero, List.set_cons_succ]
      refine wpAnyH_take (i := 15) (oi := ⟨some 2, _, _, _, _, _⟩) (v := ?_) rfl (by kernel_rfl) (by kernel_rfl) (by kernel_rfl) (fun _ _ _ h => h) (Or.inl ⟨by rfl, ?_⟩) (by assumption) ?_
      rotate_left
      · (intro w hSw; (try dsimp only at hSw); go_simp; try with_reducible rfl)
      try simp only [Act.put, List.setIfInBounds_toArray, List.set_cons_zero, List.set_cons_succ]
      refine wpAnyH_done (by kernel_rfl) ?_ _
      clear hHeld
      go_wp2_with fail
      go_ret
      exact FIN.out _ _ _ _ G.out
  focus
    refine step_build (by kernel_rfl) 11 (by kernel_rfl) 22 33 (by kernel_rfl) build_u ?_
    have G := hide G.out.make2
    refine hK.out _ _ (CEL.out _ G.out.be) (fun hHeld => ?_)
    clear hK K
    try simp only [Act.put, List.setIfInBounds_toArray, List.set_cons_zero, List.set_cons_succ]
    refine wpAnyH_ready (rs := [0, 4]) (by kernel_rfl) (by simp) ?_
    refine AllReadyH.cons (o := ⟨some 3, _, _, _, _, _⟩) rfl (fun K hK => ?_) (AllReadyH.cons (o := ⟨some 7, _, _, _, _, _⟩) rfl (fun K hK => ?_) AllReadyH.nil)
    focus
      refine step_build (by kernel_rfl) 3 (by kernel_rfl) 22 33 (by kernel_rfl) build_u ?_
      have G := hide G.out.make0
      refine hK.out _ _ (CEL.out _ G.out.be) (fun hHeld => ?_)
      clear hK K
      try simp only [Act.put, List.setIfInBounds_toArray, List.set_cons_zero, List.set_cons_succ]
      refine wpAnyH_ready (rs := [3, 4]) (by kernel_rfl) (by simp) ?_
      refine AllReadyH.cons (o := ⟨some 6, _, _, _, _, _⟩) rfl (fun K hK => ?_) (AllReadyH.cons (o := ⟨some 7, _, _, _, _, _⟩) rfl (fun K hK => ?_) AllReadyH.nil)
      focus
        refine G.out.sapp0 sne S0.out L0.out (u64s_one8 pl) (by kernel_rfl) (.tmp 3) (.tmp 5) (by kernel_rfl) (by kernel_rfl) (by kernel_rfl) (fun o0 k0 Y0 g0 => ?_)
        have G := hide g0
        clear g0
        refine hK.out _ _ (CEL.out _ G.out.be) (fun hHeld => ?_)
        clear hK K
        try simp only [Act.put, List.setIfInBounds_toArray, List.set_cons_zero, List.set_cons_succ]
        refine wpAnyH_ready (rs := [4]) (by kernel_rfl) (by simp) ?_
        refine AllReadyH.cons (o := ⟨some 7, _, _, _, _, _⟩) rfl (fun K hK => ?_) AllReadyH.nil
        refine step_build (by kernel_rfl) 7 (by kernel_rfl) 23 4 (by kernel_rfl) build_b ?_
        have G := hide G.out.make1
        refine hK.out _ _ (CEL.out _ G.out.be) (fun hHeld => ?_)
        clear hK K
        try simp only [Act.put, List.setIfInBounds_toArray, List.set_cons_zero, List.set_cons_succ]
        refine wpAnyH_ready (rs := [7]) (by kernel_rfl) (by simp) ?_
        refine AllReadyH.cons (o := ⟨some 10, _, _, _, _, _⟩) rfl (fun K hK => ?_) AllReadyH.nil
        refine G.out.sapp1 sne S1.out L1.out (bools_one1 re) (by kernel_rfl) (.tmp 7) (.tmp 9) (by kernel_rfl) (by kernel_rfl) (by kernel_rfl) (fun o1 k1 Y1 g1 => ?_)
        have G := hide g1
        clear g1
        refine hK.out _ _ (CEL.out _ G.out.be) (fun hHeld => ?_)
        clear hK K
        try simp only [Act.put, List.setIfInBounds_toArray, List.set_cons_zero, List.set_cons_succ]
        refine wpAnyH_ready (rs := [11]) (by kernel_rfl) (by simp) ?_
        refine AllReadyH.cons (o := ⟨some 14, _, _, _, _, _⟩) rfl (fun K hK => ?_) AllReadyH.nil
        refine G.out.sapp2 sne S2.out L2.out (u64s_one8 fi) (by kernel_rfl) (.tmp 11) (.tmp 13) (by kernel_rfl) (by kernel_rfl) (by kernel_rfl) (fun o2 k2 Y2 g2 => ?_)
        have G := hide g2
        clear g2
        refine hK.out _ _ (CEL.out _ G.out.be) (fun hHeld => ?_)
        clear hK K
        try simp only [Act.put, List.setIfInBounds_toArray, List.set_cons_zero, List.set_cons_succ]
        refine wpAnyH_take (i := 12) (oi := ⟨some 15, _, _, _, _, _⟩) (v := ?_) rfl (by kernel_rfl) (by kernel_rfl) (by kernel_rfl) (fun _ _ _ h => h) (Or.inl ⟨by rfl, ?_⟩) (by assumption) ?_
        rotate_left
        · (intro w hSw; (try dsimp only at hSw); go_simp; try with_reducible rfl)
        try simp only [Act.put, List.setIfInBounds_toArray, List.set_cons_zero, List.set_cons_succ]
        refine wpAnyH_take (i := 13) (oi := ⟨some 16, _, _, _, _, _⟩) (v := ?_) rfl (by kernel_rfl) (by kernel_rfl) (by kernel_rfl) (fun _ _ _ h => h) (Or.inl ⟨by rfl, ?_⟩) (by assumption) ?_
        rotate_left
        · (intro w hSw; (try dsimp only at hSw); go_simp; try with_reducible rfl)
        try simp only [Act.put, List.setIfInBounds_toArray, List.set_cons_zero, List.set_cons_succ]
        refine wpAnyH_ready (rs := [14]) (by kernel_rfl) (by simp) ?_
        refine AllReadyH.cons (o := ⟨some 17, _, _, _, _, _⟩) rfl (fun K hK => ?_) AllReadyH.nil
        go_simp
        refine hK.out _ _ (CEL.out _ (G.out.be.alloc G.out.be.size _)) (fun hHeld => ?_)
        clear hK K
        try simp only [Act.put, List.setIfInBounds_toArray, List.set_cons_zero, List.set_cons_succ]
        refine wpAnyH_take (i := 15) (oi := ⟨some 2, _, _, _, _, _⟩) (v := ?_) rfl (by kernel_rfl) (by kernel_rfl) (by kernel_rfl) (fun _ _ _ h => h) (Or.inl ⟨by rfl, ?_⟩) (by assumption) ?_
        rotate_left
        · (intro w hSw; (try dsimp only at hSw); go_simp; try with_reducible rfl)
        try simp only [Act.put, List.setIfInBounds_toArray, List.set_cons_zero, List.set_cons_succ]
        refine wpAnyH_done (by kernel_rfl) ?_ _
        clear hHeld
        go_wp2_with fail
        go_ret
        exact FIN.out _ _ _ _ G.out
      focus
        refine step_build (by kernel_rfl) 7 (by kernel_rfl) 23 4 (by kernel_rfl) build_b ?_
        have G := hide G.out.make1
        refine hK.out _ _ (CEL.out _ G.out.be) (fun hHeld => ?_)
        clear hK K
        try simp only [Act.put, List.setIfInBounds_toArray, List.set_cons_zero, List.set_cons_succ]
        refine wpAnyH_ready (rs := [3]) (by kernel_rfl) (by simp) ?_
        refine AllReadyH.cons (o := ⟨some 6, _, _, _, _, _⟩) rfl (fun K hK => ?_) AllReadyH.nil
        refine G.out.sapp0 sne S0.out L0.out (u64s_one8 pl) (by kernel_rfl) (.tmp 3) (.tmp 5) (by kernel_rfl) (by kernel_rfl) (by kernel_rfl) (fun o0 k0 Y0 g0 => ?_)
        have G := hide g0
        clear g0
        refine hK.out _ _ (CEL.out _ G.out.be) (fun hHeld => ?_)
        clear hK K
        try simp only [Act.put, List.setIfInBounds_toArray, List.set_cons_zero, List.set_cons_succ]
        refine wpAnyH_ready (rs := [7]) (by kernel_rfl) (by simp) ?_
        refine AllReadyH.cons (o := ⟨some 10, _, _, _, _, _⟩) rfl (fun K hK => ?_) AllReadyH.nil
        refine G.out.sapp1 sne S1.out L1.out (bools_one1 re) (by kernel_rfl) (.tmp 7) (.tmp 9) (by kernel_rfl) (by kernel_rfl) (by kernel_rfl) (fun o1 k1 Y1 g1 => ?_)
        have G := hide g1
        clear g1
        refine hK.out _ _ (CEL.out _ G.out.be) (fun hHeld => ?_)
        clear hK K
        try simp only [Act.put, List.setIfInBounds_toArray, List.set_cons_zero, List.set_cons_succ]
        refine wpAnyH_ready (rs := [11]) (by kernel_rfl) (by simp) ?_
        refine AllReadyH.cons (o := ⟨some 14, _, _, _, _, _⟩) rfl (fun K hK => ?_) AllReadyH.nil
        refine G.out.sapp2 sne S2.out L2.out (u64s_one8 fi) (by kernel_rfl) (.tmp 11) (.tmp 13) (by kernel_rfl) (by kernel_rfl) (by kernel_rfl) (fun o2 k2 Y2 g2 => ?_)
        have G := hide g2
        clear g2
        refine hK.out _ _ (CEL.out _ G.out.be) (fun hHeld => ?_)
        clear hK K
        try simp only [Act.put, List.setIfInBounds_toArray, List.set_cons_zero, List.set_cons_succ]
        refine wpAnyH_take (i := 12) (oi := ⟨some 15, _, _, _, _, _⟩) (v := ?_) rfl (by kernel_rfl) (by kernel_rfl) (by kernel_rfl) (fun _ _ _ h => h) (Or.inl ⟨by rfl, ?_⟩) (by assumption) ?_
        rotate_left
        · (intro w hSw; (try dsimp only at hSw); go_simp; try with_reducible rfl)
        try simp only [Act.put, List.setIfInBounds_toArray, List.set_cons_zero, List.set_cons_succ]
        refine wpAnyH_take (i := 13) (oi := ⟨some 16, _, _, _, _, _⟩) (v := ?_) rfl (by kernel_rfl) (by kernel_rfl) (by kernel_rfl) (fun _ _ _ h => h) (Or.inl ⟨by rfl, ?_⟩) (by assumption) ?_
        rotate_left
        · (intro w hSw; (try dsimp only at hSw); go_simp; try with_reducible rfl)
        try simp only [Act.put, List.setIfInBounds_toArray, List.set_cons_zero, List.set_cons_succ]
        refine wpAnyH_ready (rs := [14]) (by kernel_rfl) (by simp) ?_
        refine AllReadyH.cons (o := ⟨some 17, _, _, _, _, _⟩) rfl (fun K hK => ?_) AllReadyH.nil
        go_simp
        refine hK.out _ _ (CEL.out _ (G.out.be.alloc G.out.be.size _)) (fun hHeld => ?_)
        clear hK K
        try simp only [Act.put, List.setIfInBounds_toArray, List.set_cons_zero, List.set_cons_succ]
        refine wpAnyH_take (i := 15) (oi := ⟨some 2, _, _, _, _, _⟩) (v := ?_) rfl (by kernel_rfl) (by kernel_rfl) (by kernel_rfl) (fun _ _ _ h => h) (Or.inl ⟨by rfl, ?_⟩) (by assumption) ?_
        rotate_left
        · (intro w hSw; (try dsimp only at hSw); go_simp; try with_reducible rfl)
        try simp only [Act.put, List.setIfInBounds_toArray, List.set_cons_zero, List.set_cons_succ]
        refine wpAnyH_done (by kernel_rfl) ?_ _
        clear hHeld
        go_wp2_with fail
        go_ret
        exact FIN.out _ _ _ _ G.out
    focus
      refine step_build (by kernel_rfl) 7 (by kernel_rfl) 23 4 (by kernel_rfl) build_b ?_
      have G := hide G.out.make1
      refine hK.out _ _ (CEL.out _ G.out.be) (fun hHeld => ?_)
      clear hK K
      try simp only [Act.put, List.setIfInBounds_toArray, List.set_cons_zero, List.set_cons_succ]
      refine wpAnyH_ready (rs := [0]) (by kernel_rfl) (by simp) ?_
      refine AllReadyH.cons (o := ⟨some 3, _, _, _, _, _⟩) rfl (fun K hK => ?_) AllReadyH.nil
      refine step_build (by kernel_rfl) 3 (by kernel_rfl) 22 33 (by kernel_rfl) build_u ?_
      have G := hide G.out.make0
      refine hK.out _ _ (CEL.out _ G.out.be) (fun hHeld => ?_)
      clear hK K
      try simp only [Act.put, List.setIfInBounds_toArray, List.set_cons_zero, List.set_cons_succ]
      refine wpAnyH_ready (rs := [3]) (by kernel_rfl) (by simp) ?_
      refine AllReadyH.cons (o := ⟨some 6, _, _, _, _, _⟩) rfl (fun K hK => ?_) AllReadyH.nil
      refine G.out.sapp0 sne S0.out L0.out (u64s_one8 pl) (by kernel_rfl) (.tmp 3) (.tmp 5) (by kernel_rfl) (by kernel_rfl) (by kernel_rfl) (fun o0 k0 Y0 g0 => ?_)
      have G := hide g0
      clear g0
      refine hK.out _ _ (CEL.out _ G.out.be) (fun hHeld => ?_)
      clear hK K
      try simp only [Act.put, List.setIfInBounds_toArray, List.set_cons_zero, List.set_cons_succ]
      refine wpAnyH_ready (rs := [7]) (by kernel_rfl) (by simp) ?_
      refine AllReadyH.cons (o := ⟨some 10, _, _, _, _, _⟩) rfl (fun K hK => ?_) AllReadyH.nil
      refine G.out.sapp1 sne S1.out L1.out (bools_one1 re) (by kernel_rfl) (.tmp 7) (.tmp 9) (by kernel_rfl) (by kernel_rfl) (by kernel_rfl) (fun o1 k1 Y1 g1 => ?_)
      have G := hide g1
      clear g1
      refine hK.out _ _ (CEL.out _ G.out.be) (fun hHeld => ?_)
      clear hK K
      try simp only [Act.put, List.setIfInBounds_toArray, List.set_cons_zero, List.set_cons_succ]
      refine wpAnyH_ready (rs := [11]) (by kernel_rfl) (by simp) ?_
      refine AllReadyH.cons (o := ⟨some 14, _, _, _, _, _⟩) rfl (fun K hK => ?_) AllReadyH.nil
      refine G.out.sapp2 sne S2.out L2.out (u64s_one8 fi) (by kernel_rfl) (.tmp 11) (.tmp 13) (by kernel_rfl) (by kernel_rfl) (by kernel_rfl) (fun o2 k2 Y2 g2 => ?_)
      have G := hide g2
      clear g2
      refine hK.out _ _ (CEL.out _ G.out.be) (fun hHeld => ?_)
      clear hK K
      try simp only [Act.put, List.setIfInBounds_toArray, List.set_cons_zero, List.set_cons_succ]
      refine wpAnyH_take (i := 12) (oi := ⟨some 15, _, _, _, _, _⟩) (v := ?_) rfl (by kernel_rfl) (by kernel_rfl) (by kernel_rfl) (fun _ _ _ h => h) (Or.inl ⟨by rfl, ?_⟩) (by assumption) ?_
      rotate_left
      · (intro w hSw; (try dsimp only at hSw); go_simp; try with_reducible rfl)
      try simp only [Act.put, List.setIfInBounds_toArray, List.set_cons_zero, List.set_cons_succ]
      refine wpAnyH_take (i := 13) (oi := ⟨some 16, _, _, _, _, _⟩) (v := ?_) rfl (by kernel_rfl) (by kernel_rfl) (by kernel_rfl) (fun _ _ _ h => h) (Or.inl ⟨by rfl, ?_⟩) (by assumption) ?_
      rotate_left
      · (intro w hSw; (try dsimp only at hSw); go_simp; try with_reducible rfl)
      try simp only [Act.put, List.setIfInBounds_toArray, List.set_cons_zero, List.set_cons_succ]
      refine wpAnyH_ready (rs := [14]) (by kernel_rfl) (by simp) ?_
      refine AllReadyH.cons (o := ⟨some 17, _, _, _, _, _⟩) rfl (fun K hK => ?_) AllReadyH.nil
      go_simp
      refine hK.out _ _ (CEL.out _ (G.out.be.alloc G.out.be.size _)) (fun hHeld => ?_)
      clear hK K
      try simp only [Act.put, List.setIfInBounds_toArray, List.set_cons_zero, List.set_cons_succ]
      refine wpAnyH_take (i := 15) (oi := ⟨some 2, _, _, _, _, _⟩) (v := ?_) rfl (by kernel_rfl) (by kernel_rfl) (by kernel_rfl) (fun _ _ _ h => h) (Or.inl ⟨by rfl, ?_⟩) (by assumption) ?_
      rotate_left
      · (intro w hSw; (try dsimp only at hSw); go_simp; try with_reducible rfl)
      try simp only [Act.put, List.setIfInBounds_toArray, List.set_cons_zero, List.set_cons_succ]
      refine wpAnyH_done (by kernel_rfl) ?_ _
      clear hHeld
      go_wp2_with fail
      go_ret
      exact FIN.out _ _ _ _ G.out
end Go.Proofs.Ytlfcnaalkjpgnaa
