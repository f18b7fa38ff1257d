/- J25 of the proof of both laws: texts Zh, Zm, Ze, one behind the other. -/
import Derived.Test.YtnpimmjkmclkpaaGreatDoorJ22
import Derived.Test.YtnpimmjkmclkpaaGreatDoorJ24
import Derived.Deep.AppendLies
/- The reference's tree: Sum: its contract. -/
namespace Go.Proofs.YtnpimmjkmclkpaaGreatDoor
open Go.ChangeShapes Go.WideShapes Go.ChangeAt Go.RowKit Go.Proofs.Bt Go.Shelf Go.Proofs.Rx Go.Maps Go.Proofs.Pk
set_option linter.unusedVariables false
set_option linter.unusedSimpArgs false

theorem infoSm9 : (Tryz.prog.info? 56).map (fun i => (i.zero, i.size, i.bytes)) = some (some (.agg #[.int .i64 0, .int .i64 0, .int .i64 0]), 3, 24) := by kernel_rfl
/-- One summary more. -/
theorem sums_more9 {X2 : World} {base : Nat} {v : Value} {k : Nat} {t : List Sm} (h : X2.ownsRow base 56 3 v k (Mg.flat t)) (hk : k < 1000) (blk : Nat) (q : Sm) (n2 : X2.heap[blk]? = some (.cells #[.int .i64 q.s, .int .i64 q.m, .int .i64 q.e] 56 (0, 0))) (hb : base ≤ X2.heap.size) (hne : v.ownBlock ≠ some blk) (ty : TypeId) :
    ∃ g cap Y, (Builtin.append_ #[102, 102] ty #[v, .slice (some ⟨blk, 0, none⟩) 1 1]).run Tryz.prog X2 = .ok (.slice (some ⟨g, 0, none⟩) (k + 1) cap) Y ∧ Y.ownsRow base 56 3 (.slice (some ⟨g, 0, none⟩) (k + 1) cap) (k + 1) (Mg.flat (t ++ [q])) ∧ Kept (fun x => v.ownBlock = some x) X2 Y ∧ (v.ownBlock = some g ∨ X2.heap.size ≤ g) ∧ g < Y.heap.size := by
  obtain ⟨i0, hi0, hz0, hz1, hz2⟩ := Mg.info_parts infoSm9
  obtain ⟨g, cap, Y, r1, o1, g1, hat, hlt⟩ := run_append_lies (P := Tryz.prog) X2 102 ty base 56 i0 _ 3 24 Tryz.underlying102 hi0 hz0 hz1 hz2 rfl (by decide) v k (Mg.flat t) h ⟨blk, 0, none⟩ 1 1 [.int .i64 q.s, .int .i64 q.m, .int .i64 q.e] rfl (World.news_of_block n2) (by intro u hu; simp at hu; rcases hu with rfl | rfl | rfl <;> rfl) (by decide) (by unfold maxLen; omega) (by omega) hb _ rfl
  refine ⟨g, cap, Y, r1, ?_, Kept.of_grown g1 (fun j e => e), ?_, hlt⟩
  · rw [Mg.flat_app]; exact o1
  · rcases hat with e | e
    · exact .inl e
    · exact .inr (by omega)
/-- The summaries of the first k rows. -/
def tX9 (X : Nat → Rw) (k : Nat) : List Sm := (List.range k).map fun j => sm (X j)
theorem tX9_len (X : Nat → Rw) (k : Nat) : (tX9 X k).length = k := by simp [tX9]
theorem tX9_succ (X : Nat → Rw) (k : Nat) : tX9 X (k + 1) = tX9 X k ++ [sm (X k)] := by simp [tX9, List.range_succ]
theorem tX9_at (X : Nat → Rw) (k : Nat) {j : Nat} (hj : j < k) : Mg.nth (tX9 X k) j = sm (X j) := by
  unfold Mg.nth tX9
  simp [hj]
/-- What the merge of the eight is. -/
theorem merged9 {st : Nat → Nat} {a P s m e : Nat} (hP : 1 ≤ P) (hP2 : P ≤ 2097152) {X : Nat → Rw} (hX : ∀ j, j < 8 → Su st (a + P * j) P (X j)) (hs : SumN (bsy st a) (P * 8) s m e) :
    Mg.RR (tX9 X 8) (P : Nat) ∧ mg ((P : Nat) : Int) (Mg.nth (tX9 X 8)) 8 = ⟨(s : Nat), (m : Nat), (e : Nat)⟩ := by
  obtain ⟨s', m', e', h1, h2⟩ := mg_rows (st := st) (a := a) (by omega) (X := X) 8 hX
  obtain ⟨rfl, rfl, rfl⟩ := h2.one hs
  refine ⟨⟨by omega, by omega, by rw [tX9_len]; omega, fun j hj => ?_⟩, ?_⟩
  · rw [tX9_len] at hj
    rw [tX9_at X 8 hj]
    exact su_rgt hP (hX j hj)
  · rw [← h1]; exact mg_congr _ (fun j hj => tX9_at X 8 hj)
/-- What Sum answers. -/
def SumE (st : Nat → Nat) (lv i : Nat) (W : World) (e : Ending) (w' : World) : Prop :=
  (∃ s m e' : Nat, e = .returned (.tuple #[.agg #[.int .i64 (s : Nat), .int .i64 (m : Nat), .int .i64 (e' : Nat)], .int .i64 0]) ∧ SumN (bsy st (i * sz (3 + lv))) (sz (3 + lv)) s m e') ∧ Below W.heap.size W w'
theorem kept_set3 (w : World) (B : Nat) (x y z : Value) : Kept (fun b => b = B) w (((w.setCell ⟨B, 0, none⟩ x).setCell ⟨B, 1, none⟩ y).setCell ⟨B, 2, none⟩ z) :=
  ((kept_set (F := fun b => b = B) w B 0 x rfl).trans (kept_set (F := fun b => b = B) _ B 1 y rfl) (fun _ _ h => h)).trans (kept_set (F := fun b => b = B) _ B 2 z rfl) (fun _ _ h => h)
theorem ret_sum {fn : Func} {p u : Tmp} (hf : fn.results = #[.cell p 56, .tmp u]) {W : World} {b : Nat} {x y z e : Int} {tmps : Array Value} (hp : tmps.getD p undef = .pointer (some ⟨b, 0, none⟩)) (hu : tmps.getD u undef = .int .i64 e) (h : Bk W b 56 #[.int .i64 x, .int .i64 y, .int .i64 z]) :
    (results fn tmps).run Tryz.prog W = .ok (.tuple #[.agg #[.int .i64 x, .int .i64 y, .int .i64 z], .int .i64 e]) W := by
  have e0 := h.cell 0 _ rfl
  have e1 := h.cell 1 _ rfl
  have e2 := h.cell 2 _ rfl
  have hp' : tmps[p]?.getD undef = .pointer (some ⟨b, 0, none⟩) := by simpa using hp
  have hu' : tmps[u]?.getD undef = .int .i64 e := by simpa using hu
  simp [results, hf, hp', hu', go_sem, Nat.add_assoc, e0, e1, e2, Result.andThen]
section
variable {F : Nat → Prop} {W : World} {rb : Nat} {st : Nat → Nat} {Q : List (Nat × Nat)} {o : Option Addr} {c : Nat}
set_option maxRecDepth 100000 in
set_option maxHeartbeats 1000000 in
theorem r9_sum_bad (h : RefAt F W rb st Q o c) (lv : Int) (i : Nat) (hlv : ¬ (0 ≤ lv ∧ lv ≤ 3)) :
    Calls Tryz.prog 24 #[.pointer (some ⟨rb, 0, none⟩), .int .i64 lv, .int .u64 (i : Nat)] W fun e w' => e = .returned (.tuple #[.agg #[.int .i64 0, .int .i64 0, .int .i64 0], .int .i64 1]) ∧ Below W.heap.size W w' := by
  obtain ⟨R, hR⟩ : ∃ R : Ending → World → Prop, R = fun e w' => e = .returned (.tuple #[.agg #[.int .i64 0, .int .i64 0, .int .i64 0], .int .i64 1]) ∧ Below W.heap.size W w' := ⟨_, rfl⟩
  rw [← hR]
  have FI := hide (show ∀ W', Below W.heap.size W W' → R (.returned (.tuple #[.agg #[.int .i64 0, .int .i64 0, .int .i64 0], .int .i64 1])) W' from fun W' hb => by rw [hR]; exact ⟨rfl, hb⟩)
  clear hR h
  by_cases z : lv < 0
  · have d1 : decide (lv < 0) = true := decide_eq_true z
    clear z hlv
    go_enter Tryz.func24, Tryz.ntmps24
    go_wp2_with fail
    exact bodyPost_ret (ret_sum Tryz.results24 rfl rfl (World.alloc_heap_new W _)) rfl (FI.out _ ((Below.refl _ W).alloc (Nat.le_refl _) _))
  · have d1 : decide (lv < 0) = false := decide_eq_false z
    have d2 : decide (3 < lv) = true := decide_eq_true (by omega)
    clear z hlv
    go_enter Tryz.func24, Tryz.ntmps24
    go_wp2_with fail
    exact bodyPost_ret (ret_sum Tryz.results24 rfl rfl (World.alloc_heap_new W _)) rfl (FI.out _ ((Below.refl _ W).alloc (Nat.le_refl _) _))
set_option maxRecDepth 100000 in
set_option maxHeartbeats 1000000 in
theorem r9_sum3 (h : RefAt F W rb st Q o c) (hl : Q.length ≤ 1000000) (i : Nat) (hi : i < 67108864) :
    Calls Tryz.prog 24 #[.pointer (some ⟨rb, 0, none⟩), .int .i64 3, .int .u64 (i : Nat)] W (SumE st 3 i W) := by
  obtain ⟨R, hR⟩ : ∃ R, R = SumE st 3 i W := ⟨_, rfl⟩
  rw [← hR]
  have HR := hide hR
  obtain ⟨B, hB⟩ : ∃ B, W.heap.size = B := ⟨_, rfl⟩
  obtain ⟨V, hV⟩ : ∃ V, W.alloc (.cells #[.int .i64 0, .int .i64 0, .int .i64 0] 56) = V := ⟨_, rfl⟩
  have bV : Below B W V := by rw [← hV, ← hB]; exact (Below.refl _ W).alloc (Nat.le_refl _) _
  have fV : Bk V B 56 #[.int .i64 0, .int .i64 0, .int .i64 0] := by rw [← hV, ← hB]; exact World.alloc_heap_new W _
  have sV := fV.lt
  have h : RefAt F V rb st Q o c := h.below (by rw [hB]; exact bV)
  have HH := hide h
  have HV := hide hV
  have HB := hide hB
  have BV := hide bV
  have FV := hide fV
  have e6 : sz (3 + 3) = 512 := rfl
  obtain ⟨X, hX⟩ : ∃ X : Int, (i : Int) = X := ⟨_, rfl⟩
  have x0 : 0 ≤ X := by omega
  have x1 : X < 67108864 := by omega
  have dx : decide (67108864 ≤ X) = false := decide_eq_false (by omega)
  rw [hX]
  by_cases hx : ∃ x ∈ Q, x.1 = i
  · obtain ⟨y, hy, e⟩ := hx
    obtain ⟨j, hj, rfl⟩ := List.getElem_of_mem hy
    have CF := hide (r9_find h hl hj)
    rw [e, hX] at CF
    have bl := h.blk hj
    have CS := hide (fun k => sumRef_any Q[j].2 0 (pt st Q[j]).u (V.drewN k) ((h.drewN k).blk hj).used)
    have FI := hide (show ∀ (s m e' : Nat) k w', SumP (pt st Q[j]).u s m e' → Below (V.drewN k).heap.size (V.drewN k) w' → Bk w' B 56 #[.int .i64 0, .int .i64 0, .int .i64 0] ∧ ∀ w'', Kept (fun x => x = B) w' w'' → R (.returned (.tuple #[.agg #[.int .i64 (s : Nat), .int .i64 (m : Nat), .int .i64 (e' : Nat)], .int .i64 0])) w'' from fun s m e' k w' hp hb => by
      have b0 : Below V.heap.size V (V.drewN k) := ⟨rfl, rfl, rfl, Nat.le_refl _, fun _ _ => rfl⟩
      refine ⟨(FV.out.below b0).below hb, fun w'' hk => ?_⟩
      rw [HR.out]
      refine ⟨⟨s, m, e', rfl, ?_⟩, ?_⟩
      · rw [e6, Nat.mul_comm]
        exact sumP_su (c := fun k => st (512 * i + k)) (fun k hk => by have := HH.out.mt.inn _ hy k hk; rw [e] at this; omega) (fun k hk => rfl) (by unfold pt at hp; rw [e] at hp; exact hp)
      · rw [HB.out]
        have b1 := BV.out.trans ((b0.trans hb).mono (by omega))
        exact below_kept b1 hk (fun x hx => by omega) (by have := (b0.trans hb).size; omega))
    obtain ⟨b, rfl, -, d1⟩ := h.at hj
    obtain ⟨J, hJ⟩ : ∃ J : Int, (j : Int) = J := ⟨_, rfl⟩
    rw [hJ] at CF
    rw [show j * 2 + 1 = J.toNat * 2 + 1 by omega] at d1
    obtain ⟨L, hL⟩ : ∃ L : Nat, Q.length = L := ⟨_, rfl⟩
    have c0 := h.cell0
    rw [hL] at c0
    have j0 : 0 ≤ J := by omega
    have j1 : J < (L : Int) := by omega
    have l1 : (L : Int) ≤ 1000000 := by omega
    generalize (pt st Q[j]).u = u at CS FI
    generalize Q[j].2 = blk at CS d1
    have CC := hide (show ∀ k, (V.drewN k).cell? ⟨rb, 0, none⟩ = some (.slice (some ⟨b, 0, none⟩) L c) ∧ (V.drewN k).cell? ⟨b, J.toNat * 2 + 1, none⟩ = some (.pointer (some ⟨blk, 0, none⟩)) from fun k => ⟨c0, d1⟩)
    clear hR h bl hy e hJ hL hX c0 d1 HH HR hj bV fV hV BV FV hB sV
    go_enter Tryz.func24, Tryz.ntmps24
    go_wp2_with fail
    go_loop [8, 9, 10] (fun cv pv kv => cv = .int .u64 1 ∧ pv = .int .i64 512 ∧ kv = .int .i64 3) (fun _ _ _ => 0)
    case atStart => exact ⟨rfl, rfl, rfl⟩
    case round =>
      obtain ⟨rfl, rfl, rfl⟩ := hrel
      go_wp2_with fail
      rw [HB.out, HV.out]
      refine CF.out.mono ?_
      rintro e w1 ⟨rfl, k, hw⟩
      obtain ⟨c0, d1⟩ := CC.out k
      have C2 := hide (CS.out k)
      have F2 := hide (fun s m e' => FI.out s m e' k)
      rw [← hw] at c0 d1 C2 F2
      clear hw CF CC CS FI
      go_wp2_with fail
      refine C2.out.mono ?_
      rintro e w2 ⟨s, m, e', rfl, hp, hb⟩
      obtain ⟨bk, F3⟩ := F2.out s m e' w2 hp hb
      have z0 := bk.cell 0 _ rfl
      have z1 := bk.cell 1 _ rfl
      have z2 := bk.cell 2 _ rfl
      have y0 := bk.fz 0
      have y1 := bk.fz 1
      have y2 := bk.fz 2
      have BK := hide bk
      have HF3 := hide F3
      clear bk F3 F2 C2 hp hb c0 d1
      unfold sumV
      go_wp2_with fail
      exact bodyPost_ret (ret_sum Tryz.results24 rfl rfl (((BK.out.set 0 (.int .i64 (s : Nat))).set 1 (.int .i64 (m : Nat))).set 2 (.int .i64 (e' : Nat)))) rfl (HF3.out _ (kept_set3 w2 B _ _ _))
  · have CF := hide (r9_find_no h hl i hx)
    rw [hX] at CF
    have FI := hide (show ∀ k w'', Kept (fun x => x = B) (V.drewN k) w'' → R (.returned (.tuple #[.agg #[.int .i64 0, .int .i64 0, .int .i64 0], .int .i64 0])) w'' from fun k w'' hk => by
      have b0 : Below V.heap.size V (V.drewN k) := ⟨rfl, rfl, rfl, Nat.le_refl _, fun _ _ => rfl⟩
      rw [HR.out]
      refine ⟨⟨0, 0, 0, rfl, ?_⟩, ?_⟩
      · rw [e6]
        exact sumN_none _ _ fun k hk => bsy_true.2 (by
          rcases Nat.eq_zero_or_pos (st (i * 512 + k)) with z | z
          · omega
          · obtain ⟨x, hx1, hx2⟩ := HH.out.mt.out (i * 512 + k) (by omega)
            exact absurd ⟨x, hx1, by omega⟩ hx)
      · rw [HB.out]
        have b1 := BV.out.trans (b0.mono (by omega))
        exact below_kept b1 hk (fun x hx => by omega) (by have := b0.size; omega))
    have BK := hide (fun k => FV.out.below (show Below V.heap.size V (V.drewN k) from ⟨rfl, rfl, rfl, Nat.le_refl _, fun _ _ => rfl⟩))
    generalize pos9 i (pts st Q) = J at CF
    clear hR h hX HH HR bV fV hV BV FV hB sV hx
    go_enter Tryz.func24, Tryz.ntmps24
    go_wp2_with fail
    go_loop [8, 9, 10] (fun cv pv kv => cv = .int .u64 1 ∧ pv = .int .i64 512 ∧ kv = .int .i64 3) (fun _ _ _ => 0)
    case atStart => exact ⟨rfl, rfl, rfl⟩
    case round =>
      obtain ⟨rfl, rfl, rfl⟩ := hrel
      go_wp2_with fail
      rw [HB.out, HV.out]
      refine CF.out.mono ?_
      rintro e w1 ⟨rfl, k, hw⟩
      have F2 := hide (FI.out k)
      have B2 := hide (BK.out k)
      rw [← hw] at F2 B2
      have z0 := B2.out.cell 0 _ rfl
      have z1 := B2.out.cell 1 _ rfl
      have z2 := B2.out.cell 2 _ rfl
      have y0 := B2.out.fz 0
      have y1 := B2.out.fz 1
      have y2 := B2.out.fz 2
      clear hw CF FI BK
      go_wp2_with fail
      exact bodyPost_ret (ret_sum Tryz.results24 rfl rfl (((B2.out.set 0 (.int .i64 0)).set 1 (.int .i64 0)).set 2 (.int .i64 0))) rfl (F2.out _ (kept_set3 w1 B _ _ _))
end
end Go.Proofs.YtnpimmjkmclkpaaGreatDoor

/- The reference's tree: Sum of the levels above the chunks: its contract. -/
namespace Go.Proofs.YtnpimmjkmclkpaaGreatDoor
open Go.ChangeShapes Go.WideShapes Go.ChangeAt Go.RowKit Go.Proofs.Bt Go.Shelf Go.Proofs.Rx Go.Maps Go.Proofs.Pk
set_option linter.unusedVariables false
set_option linter.unusedSimpArgs false

/-- Every row has its summary. -/
theorem sum_total9 (st : Nat → Nat) (a n : Nat) : ∃ r : Rw, Su st a n r := by
  obtain ⟨s, m, e, _, h⟩ := mg_rows (st := st) (a := a) (P := 1) (by omega) (X := fun j => if fre st (a + 1 * j) = true then ⟨⟨0, 0, 0⟩, 1, 1, 1, 0⟩ else ⟨⟨0, 0, 0⟩, 0, 0, 0, 0⟩) n (fun j hj => by
    unfold Su
    by_cases z : fre st (a + 1 * j) = true
    · rw [if_pos z]
      exact sumN_full _ _ fun k hk => by
        have e : k = 0 := by omega
        subst e
        unfold bsy
        rw [Nat.add_zero, z]; rfl
    · rw [if_neg z]
      exact sumN_none _ _ fun k hk => by
        have e : k = 0 := by omega
        subst e
        unfold bsy
        rw [Nat.add_zero]
        simpa using z)
  rw [Nat.one_mul] at h
  exact ⟨⟨⟨0, 0, 0⟩, s, m, e, 0⟩, h⟩
/-- Between two rounds of the loop over the eight. -/
structure SgI (B : Nat) (V : World) (X : Nat → Rw) (k : Nat) (v : Value) (W : World) : Prop where
  be : Below (B + 1) V W
  o : W.ownsRow (B + 1) 56 3 v k (Mg.flat (tX9 X k))
theorem SgI.next {B : Nat} {V W W1 W3 : World} {X : Nat → Rw} {k : Nat} {v : Value} (h : SgI B V X k v W) (hV : V.heap.size = B + 1) (b1 : Below W.heap.size W W1) (hk : k < 1000) (hW3 : W3 = (W1.alloc (.cells #[.int .i64 ((X k).s : Nat), .int .i64 ((X k).m : Nat), .int .i64 ((X k).e : Nat)] 56)).alloc (.cells #[.int .i64 ((X k).s : Nat), .int .i64 ((X k).m : Nat), .int .i64 ((X k).e : Nat)] 56)) (ty : TypeId) :
    ∃ g cap Y, (Builtin.append_ #[102, 102] ty #[v, .slice (some ⟨W1.heap.size + 1, 0, none⟩) 1 1]).run Tryz.prog W3 = .ok (.slice (some ⟨g, 0, none⟩) (k + 1) cap) Y ∧ SgI B V X (k + 1) (.slice (some ⟨g, 0, none⟩) (k + 1) cap) Y := by
  have sW : B + 1 ≤ W.heap.size := by have := h.be.size; omega
  have s1 := b1.size
  have bW : Below W1.heap.size W1 W3 := by rw [hW3]; exact ((Below.refl _ W1).alloc (Nat.le_refl _) _).alloc (by simp) _
  have s3 : W3.heap.size = W1.heap.size + 2 := by rw [hW3]; simp
  have o3 : W3.ownsRow (B + 1) 56 3 v k (Mg.flat (tX9 X k)) := owns_kept h.o (fun x hx => (bW.block x (by have := (h.o.lt x hx).2; omega)).trans (b1.block x (h.o.lt x hx).2))
  have n3 : W3.heap[W1.heap.size + 1]? = some (.cells #[.int .i64 (sm (X k)).s, .int .i64 (sm (X k)).m, .int .i64 (sm (X k)).e] 56 (0, 0)) := by
    rw [hW3, alloc_at, if_pos (by simp)]; rfl
  obtain ⟨g, cap, Y, r1, r2, r3, r4, r5⟩ := sums_more9 o3 hk (W1.heap.size + 1) (sm (X k)) n3 (by omega) (fun z => by have := (h.o.lt _ z).2; omega) ty
  refine ⟨g, cap, Y, r1, ⟨?_, by rw [tX9_succ]; exact r2⟩⟩
  have b3 : Below (B + 1) V W3 := (h.be.trans (b1.mono sW)).trans (bW.mono (by omega))
  exact b3.trans (r3.below (by omega) (fun b e => (o3.lt b e).1))
theorem far_3 (i : Nat) (h : ¬ (i + 1) * sz (3 + 3) ≤ 34359738368) : 67108864 ≤ i := by
  rcases Nat.lt_or_ge i 67108864 with z | z
  · exact absurd (Nat.le_trans (Nat.mul_le_mul_right _ (show i + 1 ≤ 67108864 by omega)) (Nat.le_of_eq rfl)) h
  · exact z
theorem far_2 (i : Nat) (h : ¬ (i + 1) * sz (3 + 2) ≤ 34359738368) : 8388608 ≤ i := by
  rcases Nat.lt_or_ge i 8388608 with z | z
  · exact absurd (Nat.le_trans (Nat.mul_le_mul_right _ (show i + 1 ≤ 8388608 by omega)) (Nat.le_of_eq rfl)) h
  · exact z
theorem far_1 (i : Nat) (h : ¬ (i + 1) * sz (3 + 1) ≤ 34359738368) : 1048576 ≤ i := by
  rcases Nat.lt_or_ge i 1048576 with z | z
  · exact absurd (Nat.le_trans (Nat.mul_le_mul_right _ (show i + 1 ≤ 1048576 by omega)) (Nat.le_of_eq rfl)) h
  · exact z
theorem far_0 (i : Nat) (h : ¬ (i + 1) * sz (3 + 0) ≤ 34359738368) : 131072 ≤ i := by
  rcases Nat.lt_or_ge i 131072 with z | z
  · exact absurd (Nat.le_trans (Nat.mul_le_mul_right _ (show i + 1 ≤ 131072 by omega)) (Nat.le_of_eq rfl)) h
  · exact z
section
variable {F : Nat → Prop} {W : World} {rb : Nat} {st : Nat → Nat} {Q : List (Nat × Nat)} {o : Option Addr} {c : Nat}
theorem r9_sum_3 (h : RefAt F W rb st Q o c) (hl : Q.length ≤ 1000000) (i : Nat) (hi : (i + 1) * sz (3 + 3) ≤ 34359738368) :
    Calls Tryz.prog 24 #[.pointer (some ⟨rb, 0, none⟩), .int .i64 3, .int .u64 (i : Nat)] W (SumE st 3 i W) := r9_sum3 h hl i (by rw [show sz (3 + 3) = 512 from rfl] at hi; omega)
set_option maxRecDepth 100000 in
theorem r9_sum_far_3 (h : RefAt F W rb st Q o c) (i : Nat) (hi : ¬ (i + 1) * sz (3 + 3) ≤ 34359738368) :
    Calls Tryz.prog 24 #[.pointer (some ⟨rb, 0, none⟩), .int .i64 3, .int .u64 (i : Nat)] W fun e w' => e = .returned (.tuple #[.agg #[.int .i64 0, .int .i64 0, .int .i64 0], .int .i64 1]) ∧ Below W.heap.size W w' := by
  obtain ⟨R, hR⟩ : ∃ R : Ending → World → Prop, R = fun e w' => e = .returned (.tuple #[.agg #[.int .i64 0, .int .i64 0, .int .i64 0], .int .i64 1]) ∧ Below W.heap.size W w' := ⟨_, rfl⟩
  rw [← hR]
  have FI := hide (show ∀ W', Below W.heap.size W W' → R (.returned (.tuple #[.agg #[.int .i64 0, .int .i64 0, .int .i64 0], .int .i64 1])) W' from fun W' hb => by rw [hR]; exact ⟨rfl, hb⟩)
  have hI : 67108864 ≤ i := far_3 i hi
  obtain ⟨x, hx⟩ : ∃ x : Int, (i : Int) = x := ⟨_, rfl⟩
  have x1 : 67108864 ≤ x := by rw [← hx]; exact Int.ofNat_le.2 hI
  have dx : decide (67108864 ≤ x) = true := decide_eq_true x1
  rw [hx]
  clear hR h hI hi hx
  go_enter Tryz.func24, Tryz.ntmps24
  go_wp2_with fail
  go_loop [8, 9, 10] (fun cv pv kv => (cv = .int .u64 1 ∧ pv = .int .i64 512 ∧ kv = .int .i64 3)) (fun _ _ kv => (intOf kv).toNat)
  case atStart => exact ⟨rfl, rfl, rfl⟩
  case round =>
    rcases hrel with ⟨rfl, rfl, rfl⟩
    · go_wp2_with fail
      exact bodyPost_ret (ret_sum Tryz.results24 rfl rfl (World.alloc_heap_new W _)) rfl (FI.out _ ((Below.refl _ W).alloc (Nat.le_refl _) _))
set_option maxRecDepth 100000 in
theorem r9_sum_far_2 (h : RefAt F W rb st Q o c) (i : Nat) (hi : ¬ (i + 1) * sz (3 + 2) ≤ 34359738368) :
    Calls Tryz.prog 24 #[.pointer (some ⟨rb, 0, none⟩), .int .i64 2, .int .u64 (i : Nat)] W fun e w' => e = .returned (.tuple #[.agg #[.int .i64 0, .int .i64 0, .int .i64 0], .int .i64 1]) ∧ Below W.heap.size W w' := by
  obtain ⟨R, hR⟩ : ∃ R : Ending → World → Prop, R = fun e w' => e = .returned (.tuple #[.agg #[.int .i64 0, .int .i64 0, .int .i64 0], .int .i64 1]) ∧ Below W.heap.size W w' := ⟨_, rfl⟩
  rw [← hR]
  have FI := hide (show ∀ W', Below W.heap.size W W' → R (.returned (.tuple #[.agg #[.int .i64 0, .int .i64 0, .int .i64 0], .int .i64 1])) W' from fun W' hb => by rw [hR]; exact ⟨rfl, hb⟩)
  have hI : 8388608 ≤ i := far_2 i hi
  obtain ⟨x, hx⟩ : ∃ x : Int, (i : Int) = x := ⟨_, rfl⟩
  have x1 : 8388608 ≤ x := by rw [← hx]; exact Int.ofNat_le.2 hI
  have dx : decide (8388608 ≤ x) = true := decide_eq_true x1
  rw [hx]
  clear hR h hI hi hx
  go_enter Tryz.func24, Tryz.ntmps24
  go_wp2_with fail
  go_loop [8, 9, 10] (fun cv pv kv => (cv = .int .u64 1 ∧ pv = .int .i64 512 ∧ kv = .int .i64 3) ∨ (cv = .int .u64 8 ∧ pv = .int .i64 4096 ∧ kv = .int .i64 2)) (fun _ _ kv => (intOf kv).toNat)
  case atStart => exact .inl ⟨rfl, rfl, rfl⟩
  case round =>
    rcases hrel with ⟨rfl, rfl, rfl⟩ | ⟨rfl, rfl, rfl⟩
    · go_wp2_with fail
      refine ⟨.inr ⟨rfl, rfl, rfl⟩, ?_⟩
      simp [intOf]
    · go_wp2_with fail
      exact bodyPost_ret (ret_sum Tryz.results24 rfl rfl (World.alloc_heap_new W _)) rfl (FI.out _ ((Below.refl _ W).alloc (Nat.le_refl _) _))
set_option maxRecDepth 100000 in
theorem r9_sum_far_1 (h : RefAt F W rb st Q o c) (i : Nat) (hi : ¬ (i + 1) * sz (3 + 1) ≤ 34359738368) :
    Calls Tryz.prog 24 #[.pointer (some ⟨rb, 0, none⟩), .int .i64 1, .int .u64 (i : Nat)] W fun e w' => e = .returned (.tuple #[.agg #[.int .i64 0, .int .i64 0, .int .i64 0], .int .i64 1]) ∧ Below W.heap.size W w' := by
  obtain ⟨R, hR⟩ : ∃ R : Ending → World → Prop, R = fun e w' => e = .returned (.tuple #[.agg #[.int .i64 0, .int .i64 0, .int .i64 0], .int .i64 1]) ∧ Below W.heap.size W w' := ⟨_, rfl⟩
  rw [← hR]
  have FI := hide (show ∀ W', Below W.heap.size W W' → R (.returned (.tuple #[.agg #[.int .i64 0, .int .i64 0, .int .i64 0], .int .i64 1])) W' from fun W' hb => by rw [hR]; exact ⟨rfl, hb⟩)
  have hI : 1048576 ≤ i := far_1 i hi
  obtain ⟨x, hx⟩ : ∃ x : Int, (i : Int) = x := ⟨_, rfl⟩
  have x1 : 1048576 ≤ x := by rw [← hx]; exact Int.ofNat_le.2 hI
  have dx : decide (1048576 ≤ x) = true := decide_eq_true x1
  rw [hx]
  clear hR h hI hi hx
  go_enter Tryz.func24, Tryz.ntmps24
  go_wp2_with fail
  go_loop [8, 9, 10] (fun cv pv kv => (cv = .int .u64 1 ∧ pv = .int .i64 512 ∧ kv = .int .i64 3) ∨ (cv = .int .u64 8 ∧ pv = .int .i64 4096 ∧ kv = .int .i64 2) ∨ (cv = .int .u64 64 ∧ pv = .int .i64 32768 ∧ kv = .int .i64 1)) (fun _ _ kv => (intOf kv).toNat)
  case atStart => exact .inl ⟨rfl, rfl, rfl⟩
  case round =>
    rcases hrel with ⟨rfl, rfl, rfl⟩ | ⟨rfl, rfl, rfl⟩ | ⟨rfl, rfl, rfl⟩
    · go_wp2_with fail
      refine ⟨.inr (.inl ⟨rfl, rfl, rfl⟩), ?_⟩
      simp [intOf]
    · go_wp2_with fail
      refine ⟨.inr (.inr ⟨rfl, rfl, rfl⟩), ?_⟩
      simp [intOf]
    · go_wp2_with fail
      exact bodyPost_ret (ret_sum Tryz.results24 rfl rfl (World.alloc_heap_new W _)) rfl (FI.out _ ((Below.refl _ W).alloc (Nat.le_refl _) _))
set_option maxRecDepth 100000 in
theorem r9_sum_far_0 (h : RefAt F W rb st Q o c) (i : Nat) (hi : ¬ (i + 1) * sz (3 + 0) ≤ 34359738368) :
    Calls Tryz.prog 24 #[.pointer (some ⟨rb, 0, none⟩), .int .i64 0, .int .u64 (i : Nat)] W fun e w' => e = .returned (.tuple #[.agg #[.int .i64 0, .int .i64 0, .int .i64 0], .int .i64 1]) ∧ Below W.heap.size W w' := by
  obtain ⟨R, hR⟩ : ∃ R : Ending → World → Prop, R = fun e w' => e = .returned (.tuple #[.agg #[.int .i64 0, .int .i64 0, .int .i64 0], .int .i64 1]) ∧ Below W.heap.size W w' := ⟨_, rfl⟩
  rw [← hR]
  have FI := hide (show ∀ W', Below W.heap.size W W' → R (.returned (.tuple #[.agg #[.int .i64 0, .int .i64 0, .int .i64 0], .int .i64 1])) W' from fun W' hb => by rw [hR]; exact ⟨rfl, hb⟩)
  have hI : 131072 ≤ i := far_0 i hi
  obtain ⟨x, hx⟩ : ∃ x : Int, (i : Int) = x := ⟨_, rfl⟩
  have x1 : 131072 ≤ x := by rw [← hx]; exact Int.ofNat_le.2 hI
  have dx : decide (131072 ≤ x) = true := decide_eq_true x1
  rw [hx]
  clear hR h hI hi hx
  go_enter Tryz.func24, Tryz.ntmps24
  go_wp2_with fail
  go_loop [8, 9, 10] (fun cv pv kv => (cv = .int .u64 1 ∧ pv = .int .i64 512 ∧ kv = .int .i64 3) ∨ (cv = .int .u64 8 ∧ pv = .int .i64 4096 ∧ kv = .int .i64 2) ∨ (cv = .int .u64 64 ∧ pv = .int .i64 32768 ∧ kv = .int .i64 1) ∨ (cv = .int .u64 512 ∧ pv = .int .i64 262144 ∧ kv = .int .i64 0)) (fun _ _ kv => (intOf kv).toNat)
  case atStart => exact .inl ⟨rfl, rfl, rfl⟩
  case round =>
    rcases hrel with ⟨rfl, rfl, rfl⟩ | ⟨rfl, rfl, rfl⟩ | ⟨rfl, rfl, rfl⟩ | ⟨rfl, rfl, rfl⟩
    · go_wp2_with fail
      refine ⟨.inr (.inl ⟨rfl, rfl, rfl⟩), ?_⟩
      simp [intOf]
    · go_wp2_with fail
      refine ⟨.inr (.inr (.inl ⟨rfl, rfl, rfl⟩)), ?_⟩
      simp [intOf]
    · go_wp2_with fail
      refine ⟨.inr (.inr (.inr ⟨rfl, rfl, rfl⟩)), ?_⟩
      simp [intOf]
    · go_wp2_with fail
      exact bodyPost_ret (ret_sum Tryz.results24 rfl rfl (World.alloc_heap_new W _)) rfl (FI.out _ ((Below.refl _ W).alloc (Nat.le_refl _) _))
theorem b8_2 (i : Nat) (hi : (i + 1) * 4096 ≤ 34359738368) : (∀ j, j < 8 → (8 * i + j + 1) * 512 ≤ 34359738368) ∧ (∀ j, (8 * i + j) * 512 = i * 4096 + 512 * j) ∧ i < 8388608 := ⟨fun j hj => Nat.le_trans (Nat.mul_le_mul_right 512 (show 8 * i + j + 1 ≤ 67108864 by
    have : i + 1 ≤ 8388608 := by omega
    omega)) (Nat.le_of_eq rfl), fun j => by omega, by omega⟩
set_option maxRecDepth 100000 in
set_option maxHeartbeats 2000000 in
theorem r9_sum_2 (h : RefAt F W rb st Q o c) (hl : Q.length ≤ 1000000) (i : Nat) (hi : (i + 1) * sz (3 + 2) ≤ 34359738368) :
    Calls Tryz.prog 24 #[.pointer (some ⟨rb, 0, none⟩), .int .i64 2, .int .u64 (i : Nat)] W (SumE st 2 i W) := by
  have e6 : sz (3 + 2) = 4096 := rfl
  have e9 : sz (3 + 3) = 512 := rfl
  rw [e6] at hi
  obtain ⟨hb8, hm8, hI⟩ := b8_2 i hi
  obtain ⟨R, hR⟩ : ∃ R, R = SumE st 2 i W := ⟨_, rfl⟩
  rw [← hR]
  have HR := hide hR
  obtain ⟨B, hB⟩ : ∃ B, W.heap.size = B := ⟨_, rfl⟩
  obtain ⟨V, hV⟩ : ∃ V, W.alloc (.cells #[.int .i64 0, .int .i64 0, .int .i64 0] 56) = V := ⟨_, rfl⟩
  have bV : Below B W V := by rw [← hV, ← hB]; exact (Below.refl _ W).alloc (Nat.le_refl _) _
  have fV : Bk V B 56 #[.int .i64 0, .int .i64 0, .int .i64 0] := by rw [← hV, ← hB]; exact World.alloc_heap_new W _
  have sV : V.heap.size = B + 1 := by rw [← hV, ← hB]; simp
  have h : RefAt F V rb st Q o c := h.below (by rw [hB]; exact bV)
  obtain ⟨r0, hr0⟩ := sum_total9 st (i * 4096) 4096
  unfold Su at hr0
  obtain ⟨s, hs⟩ : ∃ s, r0.s = s := ⟨_, rfl⟩
  obtain ⟨m, hm⟩ : ∃ m, r0.m = m := ⟨_, rfl⟩
  obtain ⟨e, he⟩ : ∃ e, r0.e = e := ⟨_, rfl⟩
  rw [hs, hm, he] at hr0
  obtain ⟨X, hX⟩ : ∃ X : Nat → Rw, ∀ j, Su st (i * 4096 + 512 * j) 512 (X j) := ⟨fun j => Classical.choose (sum_total9 st (i * 4096 + 512 * j) 512), fun j => Classical.choose_spec (sum_total9 st (i * 4096 + 512 * j) 512)⟩
  obtain ⟨rr, hmg⟩ := merged9 (st := st) (a := i * 4096) (P := 512) (s := s) (m := m) (e := e) (by omega) (by omega) (X := X) (fun j _ => hX j) hr0
  have NX := hide (show ∀ (j : Nat) wr, j < 8 → Below (B + 1) V wr → Calls Tryz.prog 24 #[.pointer (some ⟨rb, 0, none⟩), .int .i64 3, .int .u64 (8 * (i : Int) + (j : Int))] wr fun e w' => e = .returned (.tuple #[.agg #[.int .i64 ((X j).s : Nat), .int .i64 ((X j).m : Nat), .int .i64 ((X j).e : Nat)], .int .i64 0]) ∧ Below wr.heap.size wr w' from fun j wr hj hb => by
    have := r9_sum_3 (h.below (by rw [sV]; exact hb)) hl (8 * i + j) (by rw [e9]; exact hb8 j hj)
    rw [show ((8 * i + j : Nat) : Int) = 8 * (i : Int) + (j : Int) by omega] at this
    refine this.mono ?_
    rintro e w' ⟨⟨s', m', e', he, hS⟩, hb'⟩
    rw [e9, hm8] at hS
    have hx := hX j
    unfold Su at hx
    obtain ⟨rfl, rfl, rfl⟩ := hS.one hx
    exact ⟨he, hb'⟩)
  have RR := hide (And.intro rr hmg)
  have FI := hide (show ∀ wr w'', Below (B + 1) V wr → Kept (fun x => x = B) wr w'' → R (.returned (.tuple #[.agg #[.int .i64 (s : Nat), .int .i64 (m : Nat), .int .i64 (e : Nat)], .int .i64 0])) w'' from fun wr w'' hb hk => by
    rw [HR.out]
    refine ⟨⟨s, m, e, rfl, by rw [e6]; exact hr0⟩, ?_⟩
    rw [hB]
    exact below_kept (bV.trans (hb.mono (by omega))) hk (fun x hx => by omega) (by have := hb.size; omega))
  have BK := hide (show ∀ wr, Below (B + 1) V wr → Bk wr B 56 #[.int .i64 0, .int .i64 0, .int .i64 0] from fun wr hb => (hb.block B (by omega)).trans fV)
  obtain ⟨x, hx⟩ : ∃ x : Int, (i : Int) = x := ⟨_, rfl⟩
  rw [hx] at NX ⊢
  have x0 : 0 ≤ x := by omega
  have x1 : x < 8388608 := by rw [← hx]; exact Int.ofNat_lt.2 hI
  have dx : decide (8388608 ≤ x) = false := decide_eq_false (by omega)
  have HB := hide hB
  have HV := hide hV
  have I5 := hide (show SgI B V X 0 (.slice none 0 0) V from ⟨Below.refl _ _, World.ownsRow_nil _ _ _ _⟩)
  have SV := hide sV
  clear hR h hx hB hV bV fV sV hr0 hX rr hmg HR hs hm he hi e6 e9 hb8 hm8 hI
  go_enter Tryz.func24, Tryz.ntmps24
  go_wp2_with fail
  rw [HB.out, HV.out]
  go_loop [8, 9, 10] (fun cv pv kv => (cv = .int .u64 1 ∧ pv = .int .i64 512 ∧ kv = .int .i64 3) ∨ (cv = .int .u64 8 ∧ pv = .int .i64 4096 ∧ kv = .int .i64 2)) (fun _ _ kv => (intOf kv).toNat)
  case atStart => exact .inl ⟨rfl, rfl, rfl⟩
  case round =>
    rcases hrel with ⟨rfl, rfl, rfl⟩ | ⟨rfl, rfl, rfl⟩
    · go_wp2_with fail
      refine ⟨.inr ⟨rfl, rfl, rfl⟩, ?_⟩
      simp [intOf]
    · go_wp2_with fail
      go_loopw [13, 14] (fun vv kv wr => ∃ (j : Int) (v : Value), v = vv ∧ kv = .int .u64 j ∧ 0 ≤ j ∧ j ≤ 8 ∧ Hid (SgI B V X j.toNat v wr)) (fun _ kv _ => (8 - intOf kv).toNat)
      case atStart => exact ⟨0, .slice none 0 0, rfl, rfl, by omega, by omega, I5⟩
      case round =>
        clear I5
        obtain ⟨j, v, rfl, rfl, j0, j1, HJ⟩ := hrel
        by_cases hj : j < 8
        · have CS := hide (NX.out j.toNat wr (by omega) HJ.out.be)
          rw [show ((j.toNat : Nat) : Int) = j by omega] at CS
          obtain ⟨q, hq⟩ : ∃ q, X j.toNat = q := ⟨_, rfl⟩
          rw [hq] at CS
          have HQQ := hide hq
          clear hq
          go_wp2_with fail
          refine CS.out.mono ?_
          rintro en W1 ⟨rfl, b1⟩
          obtain ⟨W2, hW2⟩ : ∃ W2, W1.alloc (.cells #[.int .i64 (q.s : Nat), .int .i64 (q.m : Nat), .int .i64 (q.e : Nat)] 56) = W2 := ⟨_, rfl⟩
          obtain ⟨W3, hW3⟩ : ∃ W3, W2.alloc (.cells #[.int .i64 (q.s : Nat), .int .i64 (q.m : Nat), .int .i64 (q.e : Nat)] 56) = W3 := ⟨_, rfl⟩
          have sW2 : W2.heap.size = W1.heap.size + 1 := by rw [← hW2]; simp
          have f2 : Bk W2 W1.heap.size 56 #[.int .i64 (q.s : Nat), .int .i64 (q.m : Nat), .int .i64 (q.e : Nat)] := by rw [← hW2]; exact World.alloc_heap_new W1 _
          have z0 := f2.cell 0 _ rfl
          have z1 := f2.cell 1 _ rfl
          have z2 := f2.cell 2 _ rfl
          obtain ⟨g, cap, Y4, hrun, hnext⟩ := HJ.out.next SV.out b1 (by omega) (W3 := W3) (by rw [HQQ.out, ← hW3, ← hW2]) 102
          have RUN := hide hrun
          have N2 := hide (show SgI B V X (j + 1).toNat (.slice (some ⟨g, 0, none⟩) (j.toNat + 1) cap) Y4 from by rw [show (j + 1).toNat = j.toNat + 1 by omega]; exact hnext)
          rw [show (W1.heap.size + 1 : Nat) = W2.heap.size from sW2.symm] at RUN
          have RUN := hide (show _ from RUN.out)
          clear CS b1 hrun hnext f2 HJ sW2 NX
          go_wp2_with (at_builtin; refine list_append_run (by rfl) (.tmp 75) (.tmp 77) 102 (by rfl) (by rfl) (by rfl) RUN.out ?_)
          refine ⟨⟨j + 1, _, rfl, rfl, by omega, by omega, N2⟩, ?_⟩
          simp [intOf]; omega
        have hj' : j = 8 := by omega
        subst hj'
        have h8 := HJ.out
        rw [show ((8 : Int)).toNat = 8 from rfl] at h8
        obtain ⟨sa, o5, c5, hv5⟩ := Mg.sums_of_owns h8.o
        have CM := hide (show Calls Tryz.prog 50 #[v, .int .i64 512] wr fun e' w' => e' = .returned (.tuple #[.agg #[.int .i64 (s : Nat), .int .i64 (m : Nat), .int .i64 (e : Nat)], .int .i64 0]) ∧ Below wr.heap.size wr w' from by
          refine (Mg.rmerge_core sa ((512 : Nat) : Int)).mono ?_
          rintro e' w' ⟨q1, _, q3⟩
          refine ⟨?_, q3⟩
          rw [q1 RR.out.1, tX9_len, RR.out.2]; rfl)
        have H8 := hide h8.be
        have L8 := hide (show B + 1 ≤ wr.heap.size from by have := h8.be.size; have := SV.out; omega)
        clear h8 sa hv5 HJ hj
        go_wp2_with fail
        refine CM.out.mono ?_
        rintro e' W5 ⟨rfl, b5⟩
        have B5 := hide (H8.out.trans (b5.mono L8.out))
        have bk := BK.out W5 B5.out
        have z0 := bk.cell 0 _ rfl
        have z1 := bk.cell 1 _ rfl
        have z2 := bk.cell 2 _ rfl
        have y0 := bk.fz 0
        have y1 := bk.fz 1
        have y2 := bk.fz 2
        have F5 := hide (fun w'' hk => FI.out W5 w'' B5.out hk)
        have K5 := hide bk
        clear bk B5 CM b5 H8
        go_wp2_with fail
        exact bodyPost_ret (ret_sum Tryz.results24 rfl rfl (((K5.out.set 0 (.int .i64 (s : Nat))).set 1 (.int .i64 (m : Nat))).set 2 (.int .i64 (e : Nat)))) rfl (F5.out _ (kept_set3 W5 B _ _ _))
theorem b8_1 (i : Nat) (hi : (i + 1) * 32768 ≤ 34359738368) : (∀ j, j < 8 → (8 * i + j + 1) * 4096 ≤ 34359738368) ∧ (∀ j, (8 * i + j) * 4096 = i * 32768 + 4096 * j) ∧ i < 1048576 := ⟨fun j hj => Nat.le_trans (Nat.mul_le_mul_right 4096 (show 8 * i + j + 1 ≤ 8388608 by
    have : i + 1 ≤ 1048576 := by omega
    omega)) (Nat.le_of_eq rfl), fun j => by omega, by omega⟩
set_option maxRecDepth 100000 in
set_option maxHeartbeats 2000000 in
theorem r9_sum_1 (h : RefAt F W rb st Q o c) (hl : Q.length ≤ 1000000) (i : Nat) (hi : (i + 1) * sz (3 + 1) ≤ 34359738368) :
    Calls Tryz.prog 24 #[.pointer (some ⟨rb, 0, none⟩), .int .i64 1, .int .u64 (i : Nat)] W (SumE st 1 i W) := by
  have e6 : sz (3 + 1) = 32768 := rfl
  have e9 : sz (3 + 2) = 4096 := rfl
  rw [e6] at hi
  obtain ⟨hb8, hm8, hI⟩ := b8_1 i hi
  obtain ⟨R, hR⟩ : ∃ R, R = SumE st 1 i W := ⟨_, rfl⟩
  rw [← hR]
  have HR := hide hR
  obtain ⟨B, hB⟩ : ∃ B, W.heap.size = B := ⟨_, rfl⟩
  obtain ⟨V, hV⟩ : ∃ V, W.alloc (.cells #[.int .i64 0, .int .i64 0, .int .i64 0] 56) = V := ⟨_, rfl⟩
  have bV : Below B W V := by rw [← hV, ← hB]; exact (Below.refl _ W).alloc (Nat.le_refl _) _
  have fV : Bk V B 56 #[.int .i64 0, .int .i64 0, .int .i64 0] := by rw [← hV, ← hB]; exact World.alloc_heap_new W _
  have sV : V.heap.size = B + 1 := by rw [← hV, ← hB]; simp
  have h : RefAt F V rb st Q o c := h.below (by rw [hB]; exact bV)
  obtain ⟨r0, hr0⟩ := sum_total9 st (i * 32768) 32768
  unfold Su at hr0
  obtain ⟨s, hs⟩ : ∃ s, r0.s = s := ⟨_, rfl⟩
  obtain ⟨m, hm⟩ : ∃ m, r0.m = m := ⟨_, rfl⟩
  obtain ⟨e, he⟩ : ∃ e, r0.e = e := ⟨_, rfl⟩
  rw [hs, hm, he] at hr0
  obtain ⟨X, hX⟩ : ∃ X : Nat → Rw, ∀ j, Su st (i * 32768 + 4096 * j) 4096 (X j) := ⟨fun j => Classical.choose (sum_total9 st (i * 32768 + 4096 * j) 4096), fun j => Classical.choose_spec (sum_total9 st (i * 32768 + 4096 * j) 4096)⟩
  obtain ⟨rr, hmg⟩ := merged9 (st := st) (a := i * 32768) (P := 4096) (s := s) (m := m) (e := e) (by omega) (by omega) (X := X) (fun j _ => hX j) hr0
  have NX := hide (show ∀ (j : Nat) wr, j < 8 → Below (B + 1) V wr → Calls Tryz.prog 24 #[.pointer (some ⟨rb, 0, none⟩), .int .i64 2, .int .u64 (8 * (i : Int) + (j : Int))] wr fun e w' => e = .returned (.tuple #[.agg #[.int .i64 ((X j).s : Nat), .int .i64 ((X j).m : Nat), .int .i64 ((X j).e : Nat)], .int .i64 0]) ∧ Below wr.heap.size wr w' from fun j wr hj hb => by
    have := r9_sum_2 (h.below (by rw [sV]; exact hb)) hl (8 * i + j) (by rw [e9]; exact hb8 j hj)
    rw [show ((8 * i + j : Nat) : Int) = 8 * (i : Int) + (j : Int) by omega] at this
    refine this.mono ?_
    rintro e w' ⟨⟨s', m', e', he, hS⟩, hb'⟩
    rw [e9, hm8] at hS
    have hx := hX j
    unfold Su at hx
    obtain ⟨rfl, rfl, rfl⟩ := hS.one hx
    exact ⟨he, hb'⟩)
  have RR := hide (And.intro rr hmg)
  have FI := hide (show ∀ wr w'', Below (B + 1) V wr → Kept (fun x => x = B) wr w'' → R (.returned (.tuple #[.agg #[.int .i64 (s : Nat), .int .i64 (m : Nat), .int .i64 (e : Nat)], .int .i64 0])) w'' from fun wr w'' hb hk => by
    rw [HR.out]
    refine ⟨⟨s, m, e, rfl, by rw [e6]; exact hr0⟩, ?_⟩
    rw [hB]
    exact below_kept (bV.trans (hb.mono (by omega))) hk (fun x hx => by omega) (by have := hb.size; omega))
  have BK := hide (show ∀ wr, Below (B + 1) V wr → Bk wr B 56 #[.int .i64 0, .int .i64 0, .int .i64 0] from fun wr hb => (hb.block B (by omega)).trans fV)
  obtain ⟨x, hx⟩ : ∃ x : Int, (i : Int) = x := ⟨_, rfl⟩
  rw [hx] at NX ⊢
  have x0 : 0 ≤ x := by omega
  have x1 : x < 1048576 := by rw [← hx]; exact Int.ofNat_lt.2 hI
  have dx : decide (1048576 ≤ x) = false := decide_eq_false (by omega)
  have HB := hide hB
  have HV := hide hV
  have I5 := hide (show SgI B V X 0 (.slice none 0 0) V from ⟨Below.refl _ _, World.ownsRow_nil _ _ _ _⟩)
  have SV := hide sV
  clear hR h hx hB hV bV fV sV hr0 hX rr hmg HR hs hm he hi e6 e9 hb8 hm8 hI
  go_enter Tryz.func24, Tryz.ntmps24
  go_wp2_with fail
  rw [HB.out, HV.out]
  go_loop [8, 9, 10] (fun cv pv kv => (cv = .int .u64 1 ∧ pv = .int .i64 512 ∧ kv = .int .i64 3) ∨ (cv = .int .u64 8 ∧ pv = .int .i64 4096 ∧ kv = .int .i64 2) ∨ (cv = .int .u64 64 ∧ pv = .int .i64 32768 ∧ kv = .int .i64 1)) (fun _ _ kv => (intOf kv).toNat)
  case atStart => exact .inl ⟨rfl, rfl, rfl⟩
  case round =>
    rcases hrel with ⟨rfl, rfl, rfl⟩ | ⟨rfl, rfl, rfl⟩ | ⟨rfl, rfl, rfl⟩
    · go_wp2_with fail
      refine ⟨.inr (.inl ⟨rfl, rfl, rfl⟩), ?_⟩
      simp [intOf]
    · go_wp2_with fail
      refine ⟨.inr (.inr ⟨rfl, rfl, rfl⟩), ?_⟩
      simp [intOf]
    · go_wp2_with fail
      go_loopw [13, 14] (fun vv kv wr => ∃ (j : Int) (v : Value), v = vv ∧ kv = .int .u64 j ∧ 0 ≤ j ∧ j ≤ 8 ∧ Hid (SgI B V X j.toNat v wr)) (fun _ kv _ => (8 - intOf kv).toNat)
      case atStart => exact ⟨0, .slice none 0 0, rfl, rfl, by omega, by omega, I5⟩
      case round =>
        clear I5
        obtain ⟨j, v, rfl, rfl, j0, j1, HJ⟩ := hrel
        by_cases hj : j < 8
        · have CS := hide (NX.out j.toNat wr (by omega) HJ.out.be)
          rw [show ((j.toNat : Nat) : Int) = j by omega] at CS
          obtain ⟨q, hq⟩ : ∃ q, X j.toNat = q := ⟨_, rfl⟩
          rw [hq] at CS
          have HQQ := hide hq
          clear hq
          go_wp2_with fail
          refine CS.out.mono ?_
          rintro en W1 ⟨rfl, b1⟩
          obtain ⟨W2, hW2⟩ : ∃ W2, W1.alloc (.cells #[.int .i64 (q.s : Nat), .int .i64 (q.m : Nat), .int .i64 (q.e : Nat)] 56) = W2 := ⟨_, rfl⟩
          obtain ⟨W3, hW3⟩ : ∃ W3, W2.alloc (.cells #[.int .i64 (q.s : Nat), .int .i64 (q.m : Nat), .int .i64 (q.e : Nat)] 56) = W3 := ⟨_, rfl⟩
          have sW2 : W2.heap.size = W1.heap.size + 1 := by rw [← hW2]; simp
          have f2 : Bk W2 W1.heap.size 56 #[.int .i64 (q.s : Nat), .int .i64 (q.m : Nat), .int .i64 (q.e : Nat)] := by rw [← hW2]; exact World.alloc_heap_new W1 _
          have z0 := f2.cell 0 _ rfl
          have z1 := f2.cell 1 _ rfl
          have z2 := f2.cell 2 _ rfl
          obtain ⟨g, cap, Y4, hrun, hnext⟩ := HJ.out.next SV.out b1 (by omega) (W3 := W3) (by rw [HQQ.out, ← hW3, ← hW2]) 102
          have RUN := hide hrun
          have N2 := hide (show SgI B V X (j + 1).toNat (.slice (some ⟨g, 0, none⟩) (j.toNat + 1) cap) Y4 from by rw [show (j + 1).toNat = j.toNat + 1 by omega]; exact hnext)
          rw [show (W1.heap.size + 1 : Nat) = W2.heap.size from sW2.symm] at RUN
          have RUN := hide (show _ from RUN.out)
          clear CS b1 hrun hnext f2 HJ sW2 NX
          go_wp2_with (at_builtin; refine list_append_run (by rfl) (.tmp 75) (.tmp 77) 102 (by rfl) (by rfl) (by rfl) RUN.out ?_)
          refine ⟨⟨j + 1, _, rfl, rfl, by omega, by omega, N2⟩, ?_⟩
          simp [intOf]; omega
        have hj' : j = 8 := by omega
        subst hj'
        have h8 := HJ.out
        rw [show ((8 : Int)).toNat = 8 from rfl] at h8
        obtain ⟨sa, o5, c5, hv5⟩ := Mg.sums_of_owns h8.o
        have CM := hide (show Calls Tryz.prog 50 #[v, .int .i64 4096] wr fun e' w' => e' = .returned (.tuple #[.agg #[.int .i64 (s : Nat), .int .i64 (m : Nat), .int .i64 (e : Nat)], .int .i64 0]) ∧ Below wr.heap.size wr w' from by
          refine (Mg.rmerge_core sa ((4096 : Nat) : Int)).mono ?_
          rintro e' w' ⟨q1, _, q3⟩
          refine ⟨?_, q3⟩
          rw [q1 RR.out.1, tX9_len, RR.out.2]; rfl)
        have H8 := hide h8.be
        have L8 := hide (show B + 1 ≤ wr.heap.size from by have := h8.be.size; have := SV.out; omega)
        clear h8 sa hv5 HJ hj
        go_wp2_with fail
        refine CM.out.mono ?_
        rintro e' W5 ⟨rfl, b5⟩
        have B5 := hide (H8.out.trans (b5.mono L8.out))
        have bk := BK.out W5 B5.out
        have z0 := bk.cell 0 _ rfl
        have z1 := bk.cell 1 _ rfl
        have z2 := bk.cell 2 _ rfl
        have y0 := bk.fz 0
        have y1 := bk.fz 1
        have y2 := bk.fz 2
        have F5 := hide (fun w'' hk => FI.out W5 w'' B5.out hk)
        have K5 := hide bk
        clear bk B5 CM b5 H8
        go_wp2_with fail
        exact bodyPost_ret (ret_sum Tryz.results24 rfl rfl (((K5.out.set 0 (.int .i64 (s : Nat))).set 1 (.int .i64 (m : Nat))).set 2 (.int .i64 (e : Nat)))) rfl (F5.out _ (kept_set3 W5 B _ _ _))
theorem b8_0 (i : Nat) (hi : (i + 1) * 262144 ≤ 34359738368) : (∀ j, j < 8 → (8 * i + j + 1) * 32768 ≤ 34359738368) ∧ (∀ j, (8 * i + j) * 32768 = i * 262144 + 32768 * j) ∧ i < 131072 := ⟨fun j hj => Nat.le_trans (Nat.mul_le_mul_right 32768 (show 8 * i + j + 1 ≤ 1048576 by
    have : i + 1 ≤ 131072 := by omega
    omega)) (Nat.le_of_eq rfl), fun j => by omega, by omega⟩
set_option maxRecDepth 100000 in
set_option maxHeartbeats 2000000 in
theorem r9_sum_0 (h : RefAt F W rb st Q o c) (hl : Q.length ≤ 1000000) (i : Nat) (hi : (i + 1) * sz (3 + 0) ≤ 34359738368) :
    Calls Tryz.prog 24 #[.pointer (some ⟨rb, 0, none⟩), .int .i64 0, .int .u64 (i : Nat)] W (SumE st 0 i W) := by
  have e6 : sz (3 + 0) = 262144 := rfl
  have e9 : sz (3 + 1) = 32768 := rfl
  rw [e6] at hi
  obtain ⟨hb8, hm8, hI⟩ := b8_0 i hi
  obtain ⟨R, hR⟩ : ∃ R, R = SumE st 0 i W := ⟨_, rfl⟩
  rw [← hR]
  have HR := hide hR
  obtain ⟨B, hB⟩ : ∃ B, W.heap.size = B := ⟨_, rfl⟩
  obtain ⟨V, hV⟩ : ∃ V, W.alloc (.cells #[.int .i64 0, .int .i64 0, .int .i64 0] 56) = V := ⟨_, rfl⟩
  have bV : Below B W V := by rw [← hV, ← hB]; exact (Below.refl _ W).alloc (Nat.le_refl _) _
  have fV : Bk V B 56 #[.int .i64 0, .int .i64 0, .int .i64 0] := by rw [← hV, ← hB]; exact World.alloc_heap_new W _
  have sV : V.heap.size = B + 1 := by rw [← hV, ← hB]; simp
  have h : RefAt F V rb st Q o c := h.below (by rw [hB]; exact bV)
  obtain ⟨r0, hr0⟩ := sum_total9 st (i * 262144) 262144
  unfold Su at hr0
  obtain ⟨s, hs⟩ : ∃ s, r0.s = s := ⟨_, rfl⟩
  obtain ⟨m, hm⟩ : ∃ m, r0.m = m := ⟨_, rfl⟩
  obtain ⟨e, he⟩ : ∃ e, r0.e = e := ⟨_, rfl⟩
  rw [hs, hm, he] at hr0
  obtain ⟨X, hX⟩ : ∃ X : Nat → Rw, ∀ j, Su st (i * 262144 + 32768 * j) 32768 (X j) := ⟨fun j => Classical.choose (sum_total9 st (i * 262144 + 32768 * j) 32768), fun j => Classical.choose_spec (sum_total9 st (i * 262144 + 32768 * j) 32768)⟩
  obtain ⟨rr, hmg⟩ := merged9 (st := st) (a := i * 262144) (P := 32768) (s := s) (m := m) (e := e) (by omega) (by omega) (X := X) (fun j _ => hX j) hr0
  have NX := hide (show ∀ (j : Nat) wr, j < 8 → Below (B + 1) V wr → Calls Tryz.prog 24 #[.pointer (some ⟨rb, 0, none⟩), .int .i64 1, .int .u64 (8 * (i : Int) + (j : Int))] wr fun e w' => e = .returned (.tuple #[.agg #[.int .i64 ((X j).s : Nat), .int .i64 ((X j).m : Nat), .int .i64 ((X j).e : Nat)], .int .i64 0]) ∧ Below wr.heap.size wr w' from fun j wr hj hb => by
    have := r9_sum_1 (h.below (by rw [sV]; exact hb)) hl (8 * i + j) (by rw [e9]; exact hb8 j hj)
    rw [show ((8 * i + j : Nat) : Int) = 8 * (i : Int) + (j : Int) by omega] at this
    refine this.mono ?_
    rintro e w' ⟨⟨s', m', e', he, hS⟩, hb'⟩
    rw [e9, hm8] at hS
    have hx := hX j
    unfold Su at hx
    obtain ⟨rfl, rfl, rfl⟩ := hS.one hx
    exact ⟨he, hb'⟩)
  have RR := hide (And.intro rr hmg)
  have FI := hide (show ∀ wr w'', Below (B + 1) V wr → Kept (fun x => x = B) wr w'' → R (.returned (.tuple #[.agg #[.int .i64 (s : Nat), .int .i64 (m : Nat), .int .i64 (e : Nat)], .int .i64 0])) w'' from fun wr w'' hb hk => by
    rw [HR.out]
    refine ⟨⟨s, m, e, rfl, by rw [e6]; exact hr0⟩, ?_⟩
    rw [hB]
    exact below_kept (bV.trans (hb.mono (by omega))) hk (fun x hx => by omega) (by have := hb.size; omega))
  have BK := hide (show ∀ wr, Below (B + 1) V wr → Bk wr B 56 #[.int .i64 0, .int .i64 0, .int .i64 0] from fun wr hb => (hb.block B (by omega)).trans fV)
  obtain ⟨x, hx⟩ : ∃ x : Int, (i : Int) = x := ⟨_, rfl⟩
  rw [hx] at NX ⊢
  have x0 : 0 ≤ x := by omega
  have x1 : x < 131072 := by rw [← hx]; exact Int.ofNat_lt.2 hI
  have dx : decide (131072 ≤ x) = false := decide_eq_false (by omega)
  have HB := hide hB
  have HV := hide hV
  have I5 := hide (show SgI B V X 0 (.slice none 0 0) V from ⟨Below.refl _ _, World.ownsRow_nil _ _ _ _⟩)
  have SV := hide sV
  clear hR h hx hB hV bV fV sV hr0 hX rr hmg HR hs hm he hi e6 e9 hb8 hm8 hI
  go_enter Tryz.func24, Tryz.ntmps24
  go_wp2_with fail
  rw [HB.out, HV.out]
  go_loop [8, 9, 10] (fun cv pv kv => (cv = .int .u64 1 ∧ pv = .int .i64 512 ∧ kv = .int .i64 3) ∨ (cv = .int .u64 8 ∧ pv = .int .i64 4096 ∧ kv = .int .i64 2) ∨ (cv = .int .u64 64 ∧ pv = .int .i64 32768 ∧ kv = .int .i64 1) ∨ (cv = .int .u64 512 ∧ pv = .int .i64 262144 ∧ kv = .int .i64 0)) (fun _ _ kv => (intOf kv).toNat)
  case atStart => exact .inl ⟨rfl, rfl, rfl⟩
  case round =>
    rcases hrel with ⟨rfl, rfl, rfl⟩ | ⟨rfl, rfl, rfl⟩ | ⟨rfl, rfl, rfl⟩ | ⟨rfl, rfl, rfl⟩
    · go_wp2_with fail
      refine ⟨.inr (.inl ⟨rfl, rfl, rfl⟩), ?_⟩
      simp [intOf]
    · go_wp2_with fail
      refine ⟨.inr (.inr (.inl ⟨rfl, rfl, rfl⟩)), ?_⟩
      simp [intOf]
    · go_wp2_with fail
      refine ⟨.inr (.inr (.inr ⟨rfl, rfl, rfl⟩)), ?_⟩
      simp [intOf]
    · go_wp2_with fail
      go_loopw [13, 14] (fun vv kv wr => ∃ (j : Int) (v : Value), v = vv ∧ kv = .int .u64 j ∧ 0 ≤ j ∧ j ≤ 8 ∧ Hid (SgI B V X j.toNat v wr)) (fun _ kv _ => (8 - intOf kv).toNat)
      case atStart => exact ⟨0, .slice none 0 0, rfl, rfl, by omega, by omega, I5⟩
      case round =>
        clear I5
        obtain ⟨j, v, rfl, rfl, j0, j1, HJ⟩ := hrel
        by_cases hj : j < 8
        · have CS := hide (NX.out j.toNat wr (by omega) HJ.out.be)
          rw [show ((j.toNat : Nat) : Int) = j by omega] at CS
          obtain ⟨q, hq⟩ : ∃ q, X j.toNat = q := ⟨_, rfl⟩
          rw [hq] at CS
          have HQQ := hide hq
          clear hq
          go_wp2_with fail
          refine CS.out.mono ?_
          rintro en W1 ⟨rfl, b1⟩
          obtain ⟨W2, hW2⟩ : ∃ W2, W1.alloc (.cells #[.int .i64 (q.s : Nat), .int .i64 (q.m : Nat), .int .i64 (q.e : Nat)] 56) = W2 := ⟨_, rfl⟩
          obtain ⟨W3, hW3⟩ : ∃ W3, W2.alloc (.cells #[.int .i64 (q.s : Nat), .int .i64 (q.m : Nat), .int .i64 (q.e : Nat)] 56) = W3 := ⟨_, rfl⟩
          have sW2 : W2.heap.size = W1.heap.size + 1 := by rw [← hW2]; simp
          have f2 : Bk W2 W1.heap.size 56 #[.int .i64 (q.s : Nat), .int .i64 (q.m : Nat), .int .i64 (q.e : Nat)] := by rw [← hW2]; exact World.alloc_heap_new W1 _
          have z0 := f2.cell 0 _ rfl
          have z1 := f2.cell 1 _ rfl
          have z2 := f2.cell 2 _ rfl
          obtain ⟨g, cap, Y4, hrun, hnext⟩ := HJ.out.next SV.out b1 (by omega) (W3 := W3) (by rw [HQQ.out, ← hW3, ← hW2]) 102
          have RUN := hide hrun
          have N2 := hide (show SgI B V X (j + 1).toNat (.slice (some ⟨g, 0, none⟩) (j.toNat + 1) cap) Y4 from by rw [show (j + 1).toNat = j.toNat + 1 by omega]; exact hnext)
          rw [show (W1.heap.size + 1 : Nat) = W2.heap.size from sW2.symm] at RUN
          have RUN := hide (show _ from RUN.out)
          clear CS b1 hrun hnext f2 HJ sW2 NX
          go_wp2_with (at_builtin; refine list_append_run (by rfl) (.tmp 75) (.tmp 77) 102 (by rfl) (by rfl) (by rfl) RUN.out ?_)
          refine ⟨⟨j + 1, _, rfl, rfl, by omega, by omega, N2⟩, ?_⟩
          simp [intOf]; omega
        have hj' : j = 8 := by omega
        subst hj'
        have h8 := HJ.out
        rw [show ((8 : Int)).toNat = 8 from rfl] at h8
        obtain ⟨sa, o5, c5, hv5⟩ := Mg.sums_of_owns h8.o
        have CM := hide (show Calls Tryz.prog 50 #[v, .int .i64 32768] wr fun e' w' => e' = .returned (.tuple #[.agg #[.int .i64 (s : Nat), .int .i64 (m : Nat), .int .i64 (e : Nat)], .int .i64 0]) ∧ Below wr.heap.size wr w' from by
          refine (Mg.rmerge_core sa ((32768 : Nat) : Int)).mono ?_
          rintro e' w' ⟨q1, _, q3⟩
          refine ⟨?_, q3⟩
          rw [q1 RR.out.1, tX9_len, RR.out.2]; rfl)
        have H8 := hide h8.be
        have L8 := hide (show B + 1 ≤ wr.heap.size from by have := h8.be.size; have := SV.out; omega)
        clear h8 sa hv5 HJ hj
        go_wp2_with fail
        refine CM.out.mono ?_
        rintro e' W5 ⟨rfl, b5⟩
        have B5 := hide (H8.out.trans (b5.mono L8.out))
        have bk := BK.out W5 B5.out
        have z0 := bk.cell 0 _ rfl
        have z1 := bk.cell 1 _ rfl
        have z2 := bk.cell 2 _ rfl
        have y0 := bk.fz 0
        have y1 := bk.fz 1
        have y2 := bk.fz 2
        have F5 := hide (fun w'' hk => FI.out W5 w'' B5.out hk)
        have K5 := hide bk
        clear bk B5 CM b5 H8
        go_wp2_with fail
        exact bodyPost_ret (ret_sum Tryz.results24 rfl rfl (((K5.out.set 0 (.int .i64 (s : Nat))).set 1 (.int .i64 (m : Nat))).set 2 (.int .i64 (e : Nat)))) rfl (F5.out _ (kept_set3 W5 B _ _ _))
end
end Go.Proofs.YtnpimmjkmclkpaaGreatDoor

/- The reference's tree: Find, First: contracts. -/
namespace Go.Proofs.YtnpimmjkmclkpaaGreatDoor
open Go.ChangeShapes Go.WideShapes Go.ChangeAt Go.RowKit Go.Proofs.Bt Go.Shelf Go.Proofs.Rx Go.Maps Go.Proofs.Pk
set_option linter.unusedVariables false
set_option linter.unusedSimpArgs false

/-- What Find answers. -/
def FindRf (st : Nat → Nat) (n : Nat) (W : World) (e : Ending) (w' : World) : Prop :=
  ((∃ p : Nat, First st n p ∧ 1 ≤ n ∧ e = .returned (.tuple #[.int .u64 (p : Nat), .bool true])) ∨ ((n = 0 ∨ ∀ p, ¬ Run st p n) ∧ e = .returned (.tuple #[.int .u64 0, .bool false]))) ∧ ∃ k, w' = W.drewN k
theorem FnI.to {st : Nat → Nat} {n q r q' : Nat} (h : FnI st n q r) (hq : q ≤ q') (hz : ∀ x, q ≤ x → x < q' → st x = 0) (hr : q < q' ∨ r = 0) : ∃ r', (q = q' → r' = r) ∧ (q < q' → r' = 0) ∧ FnI st n q' r' := by
  rcases Nat.lt_or_ge q q' with z | z
  · exact ⟨0, fun e => by omega, fun _ => rfl, h.gap z fun x h1 h2 => by rw [hz x h1 h2]; decide⟩
  · obtain rfl : q = q' := by omega
    exact ⟨r, fun _ => rfl, fun e => by omega, h⟩
section
variable {F : Nat → Prop} {W : World} {rb : Nat} {st : Nat → Nat} {Q : List (Nat × Nat)} {o : Option Addr} {c : Nat}
set_option maxRecDepth 100000 in
set_option maxHeartbeats 2000000 in
theorem findR_any (h : RefAt F W rb st Q o c) (hl : Q.length ≤ 1000000) (n : Int) (n0 : 0 ≤ n) (n1 : n < 18446744073709551616) :
    Calls Tryz.prog 20 #[.pointer (some ⟨rb, 0, none⟩), .int .u64 n] W (FindRf st n.toNat W) := by
  obtain ⟨R, hR⟩ : ∃ R, R = FindRf st n.toNat W := ⟨_, rfl⟩
  rw [← hR]
  have HR := hide hR
  have HH := hide h
  have c0 := h.cell0
  obtain ⟨L, hL⟩ : ∃ L : Nat, Q.length = L := ⟨_, rfl⟩
  rw [hL] at c0
  have HL := hide hL
  have l1 : (L : Int) ≤ 1000000 := by omega
  have l0 : 0 ≤ (L : Int) := by omega
  have NO := hide (show ∀ j, (n.toNat = 0 ∨ ∀ p, ¬ Run st p n.toNat) → R (.returned (.tuple #[.int .u64 0, .bool false])) (W.drewN j) from fun j hz => by rw [HR.out]; exact ⟨.inr ⟨hz, rfl⟩, j, rfl⟩)
  have YES := hide (show ∀ (j : Nat) (p : Int), 0 ≤ p → 1 ≤ n → First st n.toNat p.toNat → R (.returned (.tuple #[.int .u64 p, .bool true])) (W.drewN j) from fun j p hp hn hf => by rw [HR.out]; exact ⟨.inl ⟨p.toNat, hf, by omega, by rw [show ((p.toNat : Nat) : Int) = p by omega]⟩, j, rfl⟩)
  clear hR h hL HR
  by_cases z0 : n = 0
  · subst z0
    have F0 := hide (NO.out 0 (.inl rfl))
    rw [show W.drewN 0 = W from rfl] at F0
    by_cases z1 : (0 : Int) < L
    · have d1 : decide ((0 : Int) < (L : Int)) = true := decide_eq_true z1
      clear NO YES
      go_enter Tryz.func20, Tryz.ntmps20
      go_wp2_with fail
      go_loop [8] (fun v => v = .int .i64 0) (fun v => 0)
      case atStart => rfl
      case round =>
        subst hrel
        go_wp2_with fail
        exact F0.out
    · obtain rfl : L = 0 := by omega
      clear NO YES
      go_enter Tryz.func20, Tryz.ntmps20
      go_wp2_with fail
      go_loop [8] (fun v => v = .int .i64 0) (fun v => 0)
      case atStart => rfl
      case round =>
        subst hrel
        go_wp2_with fail
        exact F0.out
  have n2 : 0 < n := by omega
  have Z0 := hide (FnI.zero (st := st) (n := n.toNat) (by omega))
  clear z0 n0
  go_enter Tryz.func20, Tryz.ntmps20
  go_wp2_with fail
  go_loop [6, 7, 8] (fun rv lv iv => ∃ r la i : Int, rv = .int .u64 r ∧ lv = .int .u64 la ∧ iv = .int .i64 i ∧ 0 ≤ i ∧ i ≤ L ∧ 0 ≤ r ∧ r < n ∧ 0 ≤ la ∧ la < 67108864 ∧ Hid (FnI st n.toNat (qof Q i.toNat) r.toNat) ∧ Hid (0 < i → qof Q i.toNat = 512 * (la.toNat + 1))) (fun _ _ iv => (L - intOf iv).toNat)
  case atStart => exact ⟨0, 0, 0, rfl, rfl, rfl, by omega, by omega, by omega, by omega, by omega, by omega, Z0, hide (fun z => by omega)⟩
  case round =>
    obtain ⟨r, la, i, rfl, rfl, rfl, i0, i1, r0, r1, la0, la1, HI, HA⟩ := hrel
    clear Z0
    by_cases hi : i < L
    · obtain ⟨iN, hiN⟩ : ∃ iN : Nat, i.toNat = iN := ⟨_, rfl⟩
      have hq : iN < Q.length := by have := HL.out; omega
      obtain ⟨b, rfl, d0, d1⟩ := HH.out.at hq
      have CU := hide (fun k (hk : k < 512) => (HH.out.blk hq).used.cell k hk)
      have HIN := hide (HH.out.mt.inn _ (List.getElem_mem hq))
      have H4 := hide HH.out.mt.four
      have ng := HH.out.mt.below _ (List.getElem_mem hq)
      obtain ⟨g1, g2⟩ := HH.out.mt.gap hq
      have QS := hide (qof_succ hq)
      obtain ⟨N, hN⟩ : ∃ N, Q[iN].1 = N := ⟨_, rfl⟩
      obtain ⟨blk, hblk⟩ : ∃ blk, Q[iN].2 = blk := ⟨_, rfl⟩
      unfold pt at CU
      rw [hN] at d0 CU HIN ng g1 g2 QS
      rw [hblk] at d1 CU
      rw [← hiN] at d0 d1 g1 g2
      obtain ⟨NI, hNI⟩ : ∃ NI : Int, (N : Int) = NI := ⟨_, rfl⟩
      rw [hNI] at d0
      have ni0 : 0 ≤ NI := by omega
      have ni1 : NI < 67108864 := by omega
      have HNI := hide hNI
      have G1 := hide g1
      have G2 := hide g2
      have HIN2 := hide hiN
      clear hN hblk ng g1 g2 hq hNI hiN
      by_cases iz : i = 0
      · have dz : decide (0 < i) = false := decide_eq_false (by omega)
        obtain rfl : r = 0 := by have := HI.out.rq; rw [iz] at this; simp [qof] at this; omega
        have FN := hide (show FnI st n.toNat (512 * N) 0 from by
          obtain ⟨r', h1, h2, h3⟩ := HI.out.to G1.out G2.out (.inr rfl)
          have : r' = 0 := by
            rcases Nat.lt_or_ge (qof Q i.toNat) (512 * N) with z | z
            · exact h2 z
            · exact h1 (Nat.le_antisymm G1.out z)
          rwa [this] at h3)
        clear HI HA G1 G2 iz
        go_wp2_with fail
        go_loop [6, 9] (fun rv kv => ∃ r k : Int, rv = .int .u64 r ∧ kv = .int .u64 k ∧ 0 ≤ k ∧ k ≤ 512 ∧ 0 ≤ r ∧ r < n ∧ Hid (FnI st n.toNat (512 * N + k.toNat) r.toNat)) (fun _ kv => (512 - intOf kv).toNat)
        case atStart => exact ⟨0, 0, rfl, rfl, by omega, by omega, by omega, by omega, FN⟩
        case round =>
          obtain ⟨r, k, rfl, rfl, k0, k1, r0, r1, HJ⟩ := hrel
          clear FN
          by_cases hk : k < 512
          · have cu := CU.out k.toNat (by omega)
            have hin := HIN.out k.toNat (by omega)
            have h4 := H4.out (512 * N + k.toNat)
            rw [Nat.zero_add] at cu
            by_cases us : st (512 * N + k.toNat) = 1
            · rw [show decide (st (512 * N + k.toNat) = 1) = true from decide_eq_true us] at cu
              have NX := hide (show FnI st n.toNat (512 * N + (k + 1).toNat) (0 : Int).toNat from by
                have := HJ.out.used (by omega)
                rwa [show 512 * N + k.toNat + 1 = 512 * N + (k + 1).toNat by omega] at this)
              have dn : ((0 : Int) == n) = false := beq_eq_false_iff_ne.2 (by omega)
              clear HJ us hin h4
              go_wp2_with fail
              refine ⟨⟨0, k + 1, rfl, rfl, by omega, by omega, by omega, by omega, NX⟩, ?_⟩
              simp [intOf]; omega
            · rw [show decide (st (512 * N + k.toNat) = 1) = false from decide_eq_false us] at cu
              by_cases hr : r + 1 = n
              · have F0 := hide (YES.out 0 (NI * 512 + k + 1 - n) (by have := HJ.out.rq; have := HNI.out; omega) (by omega) (by
                  have := HJ.out.hit (by omega) (by omega)
                  rwa [show 512 * N + k.toNat + 1 - n.toNat = (NI * 512 + k + 1 - n).toNat by have := HNI.out; omega] at this))
                rw [show W.drewN 0 = W from rfl] at F0
                have s1 : 0 ≤ NI * 512 + k + 1 - n := by have := HJ.out.rq; have := HNI.out; omega
                have dn : (r + 1 == n) = true := beq_iff_eq.2 hr
                clear HJ us hin h4 hr NO YES HH
                go_wp2_with fail
                exact F0.out
              · have NX := hide (show FnI st n.toNat (512 * N + (k + 1).toNat) (r + 1).toNat from by
                  have := HJ.out.free (by omega) (by omega)
                  rwa [show 512 * N + k.toNat + 1 = 512 * N + (k + 1).toNat by omega, show r.toNat + 1 = (r + 1).toNat by omega] at this)
                have dn : (r + 1 == n) = false := beq_eq_false_iff_ne.2 hr
                have r2 : r + 1 < n := by omega
                clear HJ us hin h4 hr
                go_wp2_with fail
                refine ⟨⟨r + 1, k + 1, rfl, rfl, by omega, by omega, by omega, by omega, NX⟩, ?_⟩
                simp [intOf]; omega
          · obtain rfl : k = 512 := by omega
            have NX := hide (show FnI st n.toNat (qof Q (i + 1).toNat) r.toNat ∧ qof Q (i + 1).toNat = 512 * (NI.toNat + 1) from by
              have e : qof Q (i + 1).toNat = 512 * (N + 1) := by rw [show (i + 1).toNat = iN + 1 by have := HIN2.out; omega]; exact QS.out
              rw [e]
              exact ⟨HJ.out, by have := HNI.out; omega⟩)
            clear HJ hk
            go_wp2_with fail
            refine ⟨⟨r, NI, i + 1, rfl, rfl, rfl, by omega, by omega, by omega, by omega, by omega, by omega, hide NX.out.1, hide (fun _ => NX.out.2)⟩, ?_⟩
            simp [intOf]; omega
      have ip : 0 < i := by omega
      clear iz
      have e0 := HA.out ip
      by_cases nz : NI = la + 1
      · have FN := hide (show FnI st n.toNat (512 * N) r.toNat from by
          have h := HI.out
          rwa [show qof Q i.toNat = 512 * N by rw [e0]; have := HNI.out; omega] at h)
        have dz : (NI == la + 1) = true := beq_iff_eq.2 nz
        clear HI HA G1 G2 e0 nz
        go_wp2_with fail
        go_loop [6, 9] (fun rv kv => ∃ r k : Int, rv = .int .u64 r ∧ kv = .int .u64 k ∧ 0 ≤ k ∧ k ≤ 512 ∧ 0 ≤ r ∧ r < n ∧ Hid (FnI st n.toNat (512 * N + k.toNat) r.toNat)) (fun _ kv => (512 - intOf kv).toNat)
        case atStart => exact ⟨r, 0, rfl, rfl, by omega, by omega, by omega, by omega, FN⟩
        case round =>
          obtain ⟨r, k, rfl, rfl, k0, k1, r0, r1, HJ⟩ := hrel
          clear FN
          by_cases hk : k < 512
          · have cu := CU.out k.toNat (by omega)
            have hin := HIN.out k.toNat (by omega)
            have h4 := H4.out (512 * N + k.toNat)
            rw [Nat.zero_add] at cu
            by_cases us : st (512 * N + k.toNat) = 1
            · rw [show decide (st (512 * N + k.toNat) = 1) = true from decide_eq_true us] at cu
              have NX := hide (show FnI st n.toNat (512 * N + (k + 1).toNat) (0 : Int).toNat from by
                have := HJ.out.used (by omega)
                rwa [show 512 * N + k.toNat + 1 = 512 * N + (k + 1).toNat by omega] at this)
              have dn : ((0 : Int) == n) = false := beq_eq_false_iff_ne.2 (by omega)
              clear HJ us hin h4
              go_wp2_with fail
              refine ⟨⟨0, k + 1, rfl, rfl, by omega, by omega, by omega, by omega, NX⟩, ?_⟩
              simp [intOf]; omega
            · rw [show decide (st (512 * N + k.toNat) = 1) = false from decide_eq_false us] at cu
              by_cases hr : r + 1 = n
              · have F0 := hide (YES.out 0 (NI * 512 + k + 1 - n) (by have := HJ.out.rq; have := HNI.out; omega) (by omega) (by
                  have := HJ.out.hit (by omega) (by omega)
                  rwa [show 512 * N + k.toNat + 1 - n.toNat = (NI * 512 + k + 1 - n).toNat by have := HNI.out; omega] at this))
                rw [show W.drewN 0 = W from rfl] at F0
                have s1 : 0 ≤ NI * 512 + k + 1 - n := by have := HJ.out.rq; have := HNI.out; omega
                have dn : (r + 1 == n) = true := beq_iff_eq.2 hr
                clear HJ us hin h4 hr NO YES HH
                go_wp2_with fail
                exact F0.out
              · have NX := hide (show FnI st n.toNat (512 * N + (k + 1).toNat) (r + 1).toNat from by
                  have := HJ.out.free (by omega) (by omega)
                  rwa [show 512 * N + k.toNat + 1 = 512 * N + (k + 1).toNat by omega, show r.toNat + 1 = (r + 1).toNat by omega] at this)
                have dn : (r + 1 == n) = false := beq_eq_false_iff_ne.2 hr
                have r2 : r + 1 < n := by omega
                clear HJ us hin h4 hr
                go_wp2_with fail
                refine ⟨⟨r + 1, k + 1, rfl, rfl, by omega, by omega, by omega, by omega, NX⟩, ?_⟩
                simp [intOf]; omega
          · obtain rfl : k = 512 := by omega
            have NX := hide (show FnI st n.toNat (qof Q (i + 1).toNat) r.toNat ∧ qof Q (i + 1).toNat = 512 * (NI.toNat + 1) from by
              have e : qof Q (i + 1).toNat = 512 * (N + 1) := by rw [show (i + 1).toNat = iN + 1 by have := HIN2.out; omega]; exact QS.out
              rw [e]
              exact ⟨HJ.out, by have := HNI.out; omega⟩)
            clear HJ hk
            go_wp2_with fail
            refine ⟨⟨r, NI, i + 1, rfl, rfl, rfl, by omega, by omega, by omega, by omega, by omega, by omega, hide NX.out.1, hide (fun _ => NX.out.2)⟩, ?_⟩
            simp [intOf]; omega
      · have FN := hide (show FnI st n.toNat (512 * N) 0 from by
          obtain ⟨r', h1, h2, h3⟩ := HI.out.to G1.out G2.out (.inl (by have h1 := G1.out; have := HNI.out; rw [e0] at h1 ⊢; omega))
          rwa [h2 (by have h1 := G1.out; have := HNI.out; rw [e0] at h1 ⊢; omega)] at h3)
        have dz : (NI == la + 1) = false := beq_eq_false_iff_ne.2 nz
        clear HI HA G1 G2 e0 nz
        go_wp2_with fail
        go_loop [6, 9] (fun rv kv => ∃ r k : Int, rv = .int .u64 r ∧ kv = .int .u64 k ∧ 0 ≤ k ∧ k ≤ 512 ∧ 0 ≤ r ∧ r < n ∧ Hid (FnI st n.toNat (512 * N + k.toNat) r.toNat)) (fun _ kv => (512 - intOf kv).toNat)
        case atStart => exact ⟨0, 0, rfl, rfl, by omega, by omega, by omega, by omega, FN⟩
        case round =>
          obtain ⟨r, k, rfl, rfl, k0, k1, r0, r1, HJ⟩ := hrel
          clear FN
          by_cases hk : k < 512
          · have cu := CU.out k.toNat (by omega)
            have hin := HIN.out k.toNat (by omega)
            have h4 := H4.out (512 * N + k.toNat)
            rw [Nat.zero_add] at cu
            by_cases us : st (512 * N + k.toNat) = 1
            · rw [show decide (st (512 * N + k.toNat) = 1) = true from decide_eq_true us] at cu
              have NX := hide (show FnI st n.toNat (512 * N + (k + 1).toNat) (0 : Int).toNat from by
                have := HJ.out.used (by omega)
                rwa [show 512 * N + k.toNat + 1 = 512 * N + (k + 1).toNat by omega] at this)
              have dn : ((0 : Int) == n) = false := beq_eq_false_iff_ne.2 (by omega)
              clear HJ us hin h4
              go_wp2_with fail
              refine ⟨⟨0, k + 1, rfl, rfl, by omega, by omega, by omega, by omega, NX⟩, ?_⟩
              simp [intOf]; omega
            · rw [show decide (st (512 * N + k.toNat) = 1) = false from decide_eq_false us] at cu
              by_cases hr : r + 1 = n
              · have F0 := hide (YES.out 0 (NI * 512 + k + 1 - n) (by have := HJ.out.rq; have := HNI.out; omega) (by omega) (by
                  have := HJ.out.hit (by omega) (by omega)
                  rwa [show 512 * N + k.toNat + 1 - n.toNat = (NI * 512 + k + 1 - n).toNat by have := HNI.out; omega] at this))
                rw [show W.drewN 0 = W from rfl] at F0
                have s1 : 0 ≤ NI * 512 + k + 1 - n := by have := HJ.out.rq; have := HNI.out; omega
                have dn : (r + 1 == n) = true := beq_iff_eq.2 hr
                clear HJ us hin h4 hr NO YES HH
                go_wp2_with fail
                exact F0.out
              · have NX := hide (show FnI st n.toNat (512 * N + (k + 1).toNat) (r + 1).toNat from by
                  have := HJ.out.free (by omega) (by omega)
                  rwa [show 512 * N + k.toNat + 1 = 512 * N + (k + 1).toNat by omega, show r.toNat + 1 = (r + 1).toNat by omega] at this)
                have dn : (r + 1 == n) = false := beq_eq_false_iff_ne.2 hr
                have r2 : r + 1 < n := by omega
                clear HJ us hin h4 hr
                go_wp2_with fail
                refine ⟨⟨r + 1, k + 1, rfl, rfl, by omega, by omega, by omega, by omega, NX⟩, ?_⟩
                simp [intOf]; omega
          · obtain rfl : k = 512 := by omega
            have NX := hide (show FnI st n.toNat (qof Q (i + 1).toNat) r.toNat ∧ qof Q (i + 1).toNat = 512 * (NI.toNat + 1) from by
              have e : qof Q (i + 1).toNat = 512 * (N + 1) := by rw [show (i + 1).toNat = iN + 1 by have := HIN2.out; omega]; exact QS.out
              rw [e]
              exact ⟨HJ.out, by have := HNI.out; omega⟩)
            clear HJ hk
            go_wp2_with fail
            refine ⟨⟨r, NI, i + 1, rfl, rfl, rfl, by omega, by omega, by omega, by omega, by omega, by omega, hide NX.out.1, hide (fun _ => NX.out.2)⟩, ?_⟩
            simp [intOf]; omega
    · have hi' : (L : Int) ≤ i := by omega
      have F0 := hide (NO.out 0 (.inr fun p => HI.out.end (fun x hx => HH.out.mt.past (by rw [show Q.length = i.toNat by have := HL.out; omega]; exact hx)) p))
      rw [show W.drewN 0 = W from rfl] at F0
      have hd : decide (i < (L : Int)) = false := decide_eq_false hi
      clear hi HI HA NO YES HH
      go_wp2_with fail
      exact F0.out
end
end Go.Proofs.YtnpimmjkmclkpaaGreatDoor
