/- The reference's Of: its contract. -/
import Derived.Test.YtgbfkmkinhlimaaDoorRu
import Derived.Deep.Cut
namespace Go.Proofs.YtgbfkmkinhlimaaDoor
open Go.ChangeShapes Go.WideShapes Go.ChangeAt Go.RowKit Go.Proofs.Bt Go.Shelf
set_option linter.unusedVariables false
set_option linter.unusedSimpArgs false

def zs512 : Array Value := Array.replicate 512 (.bool false)
theorem zs_run (w : World) : (zeroValue 27).run Tryd.prog w = .ok (.agg zs512) w := by kernel_rfl
theorem zs_size : zs512.size = 512 := by kernel_rfl
theorem zs_ne : zs512 ≠ #[] := fun h => by have := congrArg Array.size h; rw [zs_size] at this; cases this
/-- 512 truths as cells. -/
def bools (f : Nat → Bool) : List Value := (List.range 512).map fun k => .bool (f k)
theorem bools_len (f : Nat → Bool) : (bools f).length = 512 := by unfold bools; rw [List.length_map, List.length_range]
theorem bools_at (f : Nat → Bool) (k : Nat) (hk : k < 512) : (bools f)[k]? = some (.bool (f k)) := by unfold bools; rw [List.getElem?_map, List.getElem?_range hk]; rfl
theorem bools_one (f : Nat → Bool) : (bools f).toArray.all (·.oneCell') = true := by
  refine all_oneCell_toArray fun v hv => ?_
  unfold bools at hv
  obtain ⟨k, _, rfl⟩ := List.mem_map.1 hv
  rfl
theorem bool_of {w : World} {b : Nat} {t : TypeId} {cs : Array Value} {f : Nat → Bool} (h : w.heap[b]? = some (.cells cs t (0, 0))) (hc : ∀ k, k < 512 → cs[k]? = some (.bool (f k))) : BoolAt w b f :=
  ⟨fun k hk => by simp [World.cell?, h, hc k hk], fun k hk => by simp [World.frozen?, h]⟩
theorem bool_zero {w : World} {b : Nat} (h : w.heap[b]? = some (.cells zs512 27 (0, 0))) : BoolAt w b (fun _ => false) :=
  bool_of h fun k hk => by unfold zs512; rw [Array.getElem?_replicate, if_pos hk]
theorem BoolAt.range {w : World} {b : Nat} {f : Nat → Bool} (h : BoolAt w b f) : w.rangeAt b 0 (bools f) := fun j v hv => by
  have hj : j < 512 := by
    have := (List.getElem?_eq_some_iff.1 hv).1
    rw [bools_len] at this; exact this
  rw [bools_at f j hj] at hv
  cases hv
  rw [Nat.zero_add]
  exact h.cell j hj
theorem BoolAt.there {w : World} {b : Nat} {f : Nat → Bool} (h : BoolAt w b f) : w.there b 0 512 := fun j hj => by
  rw [Nat.zero_add]
  exact ⟨by rw [h.cell j hj]; rfl, h.fz j hj⟩
theorem BoolAt.store {w : World} {b : Nat} {f f' : Nat → Bool} (h : BoolAt w b f) : BoolAt (w.setCells b 0 (bools f')) b f' := by
  refine ⟨fun k hk => ?_, fun k hk => by rw [World.frozen?_setCells]; exact h.fz k hk⟩
  have := World.rangeAt_setCells_same w b 0 (bools f') (by rw [bools_len]; exact h.there) k _ (bools_at f' k hk)
  rw [Nat.zero_add] at this
  exact this
theorem kept_cells {F : Nat → Prop} (b : Nat) (hF : F b) : ∀ (vs : List Value) (o : Nat) (w : World), Kept F w (w.setCells b o vs)
  | [], _, w => Kept.refl _ w
  | v :: vs, o, w => by
    show Kept F w ((w.setCell ⟨b, o, none⟩ v).setCells b (o + 1) vs)
    exact (kept_set w b o v hF).trans (kept_cells b hF vs (o + 1) _) (fun _ _ h => h)
theorem info27 : (Tryd.prog.info? 27).map (·.size) = some 512 := by kernel_rfl

theorem results_one {fn : Func} {p : Tmp} {ty : TypeId} (h : fn.results = #[.cell p ty]) (tmps : Array Value) (w : World) (a : Addr) (v : Value) (ha : tmps.getD p undef = .pointer (some a)) (hv : (loadVar ty a).run Tryd.prog w = .ok v w) :
    (results fn tmps).run Tryd.prog w = .ok v w := by
  have hp' : tmps[p]?.getD undef = .pointer (some a) := by simpa using ha
  simp [results, h, hp', asAddr, hv]
/-- Between two rounds of Of. -/
structure OfS (N : Nat) (w : World) (g : Nat → Nat) (I : Nat) (W : World) : Prop where
  c8 : RowAt W N 23 g
  z : BoolAt W (N + 1) (fun _ => false)
  r : BoolAt W (N + 2) (fun j => decide (j < I) && bitW g j)
  be : Below N w W
def OfR (w : World) (f : Nat → Bool) (e : Ending) (w' : World) : Prop := e = .returned (.agg (bools f).toArray) ∧ Below w.heap.size w w'

set_option maxRecDepth 100000 in
set_option maxHeartbeats 4000000 in
theorem of_any (g : Nat → Nat) (hg : ∀ k, g k < 18446744073709551616) (w : World) :
    Calls Tryd.prog 9 #[words g] w (OfR w (bitW g)) := by
  obtain ⟨N, hN⟩ : ∃ N, w.heap.size = N := ⟨_, rfl⟩
  obtain ⟨W3, hW3⟩ : ∃ W3, W3 = ((w.alloc (.cells (cells8 g) 23)).alloc (.cells zs512 27)).alloc (.cells zs512 27) := ⟨_, rfl⟩
  have hbe : Below N w W3 := by rw [hW3, ← hN]; exact (((Below.refl _ w).alloc (Nat.le_refl _) _).alloc (by simp) _).alloc (by simp; omega) _
  have q0 : W3.heap[N]? = some (.cells (cells8 g) 23 (0, 0)) := by rw [hW3, ← hN, alloc_at, if_neg (by simp; omega), alloc_at, if_neg (by simp), alloc_at, if_pos rfl]
  have q1 : W3.heap[N + 1]? = some (.cells zs512 27 (0, 0)) := by rw [hW3, ← hN, alloc_at, if_neg (by simp), alloc_at, if_pos (by simp)]
  have q2 : W3.heap[N + 2]? = some (.cells zs512 27 (0, 0)) := by rw [hW3, ← hN, alloc_at, if_pos (by simp)]
  have S0 : Hid (OfS N w g 0 W3) := hide ⟨⟨q0, hg⟩, bool_zero q1, (bool_zero q2).congr (fun k hk => by simp), hbe⟩
  have HW := hide hW3
  have HG := hide hg
  obtain ⟨R, hR⟩ : ∃ R, R = OfR w (bitW g) := ⟨_, rfl⟩
  rw [← hR]
  have HR := hide hR
  clear hR hW3 q0 q1 q2 hbe hg
  have zr := zs_run
  have zz := zs_size
  have zn := zs_ne
  unfold words cells8
  go_enter Tryd.func9, Tryd.ntmps9
  go_wp2_with fail
  have hw := HW.out
  unfold cells8 at hw
  rw [← hw]
  clear hw HW zr zz zn
  simp only [Nat.add_assoc, Nat.reduceAdd]
  go_loopw [4] (fun v wr => ∃ I : Int, v = .int .i64 I ∧ 0 ≤ I ∧ I ≤ 512 ∧ Hid (OfS N w g I.toNat wr)) (fun v _ => (512 - intOf v).toNat)
  case atStart => exact ⟨0, rfl, by omega, by omega, S0⟩
  case round =>
    obtain ⟨I, rfl, I0, I1, HS⟩ := hrel
    by_cases hlt : I < 512
    · have d0 : 0 ≤ I / 64 := by omega
      have d1 : I / 64 < 8 := by omega
      have d2 : 0 ≤ I % 64 := by omega
      have d3 : I % 64 < 64 := by omega
      have c1 := HS.out.c8.cell (I / 64).toNat (by omega)
      have c2 := HS.out.r.cell I.toNat (by omega)
      have f2 := HS.out.r.fz I.toNat (by omega)
      obtain ⟨G, hG⟩ : ∃ G, G = g (I / 64).toNat := ⟨_, rfl⟩
      have G1 : G < 18446744073709551616 := by rw [hG]; exact HG.out _
      rw [← hG] at c1
      have HGG := hide hG
      clear hG
      go_wp2_with fail
      go_loop [5, 6] (fun xv kv => ∃ X J : Int, xv = .int .u64 X ∧ kv = .int .i64 J ∧ 0 ≤ J ∧ J ≤ I % 64 ∧ 0 ≤ X ∧ X ≤ 18446744073709551615 ∧ Hid (X = ((G / 2 ^ J.toNat : Nat) : Int))) (fun _ kv => (64 - intOf kv).toNat)
      case atStart => exact ⟨(G : Int), 0, rfl, rfl, by omega, by omega, by omega, by omega, hide (by simp)⟩
      case round =>
        obtain ⟨X, J, rfl, rfl, J0, J1, X0, X1, HX⟩ := hrel
        by_cases hj : J < I % 64
        · have HX2 : Hid (X / 2 = ((G / 2 ^ (J + 1).toNat : Nat) : Int)) := hide (by
            rw [HX.out, show (J + 1).toNat = J.toNat + 1 by omega, Nat.pow_succ, ← Nat.div_div_eq_div_mul, Int.natCast_ediv]; rfl)
          clear HX
          go_wp2_with fail
          refine ⟨⟨X / 2, J + 1, rfl, rfl, by omega, by omega, by omega, by omega, HX2⟩, ?_⟩
          simp [intOf]; omega
        · have hj' : I % 64 ≤ J := by omega
          have hb : (X % 2 == 1) = bitW g I.toNat := by
            unfold bitW
            rw [Nat.testBit_eq_decide_div_mod_eq, show I.toNat / 64 = (I / 64).toNat by omega, ← HGG.out, show I.toNat % 64 = J.toNat by omega, Bool.eq_iff_iff, HX.out]
            simp only [beq_iff_eq, decide_eq_true_eq]
            omega
          clear hj HX
          go_wp2_with fail
          refine ⟨⟨I + 1, rfl, by omega, by omega, hide ?_⟩, ?_⟩
          · have k1 := kept_set (F := fun x => x = N + 2) wr (N + 2) I.toNat (.bool (bitW g I.toNat)) rfl
            refine ⟨HS.out.c8.kept k1 (by omega), HS.out.z.kept k1 (by omega), (HS.out.r.set I.toNat (by omega) (bitW g I.toNat)).congr (fun j hj => ?_), below_kept HS.out.be k1 (fun x hx => by omega) (by have := HS.out.r.lt; omega)⟩
            by_cases e : j = I.toNat
            · subst e; rw [if_pos rfl, decide_eq_true (by omega)]; rfl
            · rw [if_neg e]
              congr 1
              rw [Bool.eq_iff_iff]; simp only [decide_eq_true_eq]; omega
          · simp [intOf]; omega
    · have hge : 512 ≤ I := by omega
      have hr := HS.out.r.congr (f' := bitW g) (fun j hj => by rw [decide_eq_true (by omega)]; rfl)
      have HRR := hide hr
      clear hlt hr
      go_upto_region 11 with fail
      apply wp_region_lit
      refine wpList_load_mid rfl 27 (.tmp 3) rfl (N + 2) 0 rfl (bools (bitW g)) _ HRR.out.range Tryd.underlying27 rfl (by rw [bools_len]; exact info27) ?_
      simp only [Act.put, List.setIfInBounds_toArray, List.set_cons_zero, List.set_cons_succ]
      refine wpList_store_mid rfl 27 (.tmp 2) (.tmp 28) rfl (N + 1) 0 (bools (bitW g)).toArray rfl rfl (by rw [List.size_toArray, bools_len]; exact HS.out.z.there) (by rw [List.size_toArray, bools_len]; exact info27) (bools_one _) ?_
      simp only [Act.put, List.setIfInBounds_toArray, List.set_cons_zero, List.set_cons_succ, List.toList_toArray]
      have z2 := HS.out.z.store (f' := bitW g)
      have k2 := kept_cells (F := fun x => x = N + 1) (N + 1) rfl (bools (bitW g)) 0 wr
      have B2 := below_kept HS.out.be k2 (fun x hx => by omega) (by have := HS.out.r.lt; omega)
      obtain ⟨Wf, hWf⟩ : ∃ Wf, wr.setCells (N + 1) 0 (bools (bitW g)) = Wf := ⟨_, rfl⟩
      rw [hWf] at z2 B2 ⊢
      have Z2 := hide z2
      have BB := hide B2
      clear hWf k2 z2 B2
      go_wp2_with fail
      have hl := run_loadVar_mid (P := Tryd.prog) Wf (N + 1) 0 27 (bools (bitW g)) _ Z2.out.range Tryd.underlying27 rfl (by rw [bools_len]; exact info27)
      refine bodyPost_ret (v := .agg (bools (bitW g)).toArray) ?_ rfl ?_
      · exact results_one Tryd.results9 _ Wf ⟨N + 1, 0, none⟩ _ rfl hl
      · rw [HR.out]
        exact ⟨rfl, by rw [hN]; exact BB.out⟩
end Go.Proofs.YtgbfkmkinhlimaaDoor
