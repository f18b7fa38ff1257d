/- The reference's Words: its contract. -/
import Derived.Test.YtgjgcdbhppaigaaDoorRu
import Derived.Deep.Cut
import Derived.Laws.Rows
namespace Go.Proofs.YtgjgcdbhppaigaaDoor
open Go.ChangeShapes Go.WideShapes Go.ChangeAt Go.RowKit Go.Proofs.Bt Go.Shelf
set_option linter.unusedVariables false
set_option linter.unusedSimpArgs false

/-- Eight words as a value. -/
def cells8 (g : Nat → Nat) : Array Value := #[.int .u64 ((g 0 : Nat) : Int), .int .u64 ((g 1 : Nat) : Int), .int .u64 ((g 2 : Nat) : Int), .int .u64 ((g 3 : Nat) : Int), .int .u64 ((g 4 : Nat) : Int), .int .u64 ((g 5 : Nat) : Int), .int .u64 ((g 6 : Nat) : Int), .int .u64 ((g 7 : Nat) : Int)]
def words (g : Nat → Nat) : Value := .agg (cells8 g)
/-- The cells of eight words. -/
def rowVals (g : Nat → Nat) : Array Value := Array.ofFn (n := 8) fun i => .int .u64 ((g i.val : Nat) : Int)
/-- Eight words in a block. -/
structure RowB (w : World) (b : Nat) (t : TypeId) (g : Nat → Nat) : Prop where
  heap : w.heap[b]? = some (.cells (rowVals g) t (0, 0))
  fit : ∀ k, g k < 18446744073709551616
theorem RowB.lt {w : World} {b t : Nat} {g : Nat → Nat} (h : RowB w b t g) : b < w.heap.size := (Array.getElem?_eq_some_iff.1 h.heap).1
theorem RowB.cell {w : World} {b t : Nat} {g : Nat → Nat} (h : RowB w b t g) (k : Nat) (hk : k < 8) : w.cell? ⟨b, k, none⟩ = some (.int .u64 ((g k : Nat) : Int)) := by
  simp [World.cell?, h.heap, rowVals, hk]
theorem RowB.frozen {w : World} {b t : Nat} {g : Nat → Nat} (h : RowB w b t g) (k : Nat) : w.frozen? ⟨b, k, none⟩ = false := by simp [World.frozen?, h.heap]
theorem RowB.kept {F : Nat → Prop} {w w' : World} {b t : Nat} {g : Nat → Nat} (h : RowB w b t g) (k : Kept F w w') (hF : ¬ F b) : RowB w' b t g := ⟨kept_at k h.heap hF, h.fit⟩
theorem RowB.below {w w' : World} {b t : Nat} {g : Nat → Nat} (h : RowB w b t g) (k : Below w.heap.size w w') : RowB w' b t g := ⟨(k.block b h.lt).trans h.heap, h.fit⟩
theorem RowB.set {w : World} {b t : Nat} {g : Nat → Nat} (h : RowB w b t g) (k v : Nat) (hv : v < 18446744073709551616) :
    RowB (w.setCell ⟨b, k, none⟩ (.int .u64 ((v : Nat) : Int))) b t (fun j => if j = k then v else g j) := by
  obtain ⟨hlt, hk⟩ := Array.getElem?_eq_some_iff.1 h.heap
  refine ⟨?_, fun j => by split; exact hv; exact h.fit j⟩
  show (w.heap.modify b _)[b]? = _
  rw [Array.getElem?_eq_getElem (by rw [Array.size_modify]; exact hlt), Array.getElem_modify_self, hk]
  show some (Obj.cells ((rowVals g).setIfInBounds k (.int .u64 ((v : Nat) : Int))) t (0, 0)) = _
  congr 2
  refine Array.ext (by simp [rowVals]) fun i h1 h2 => ?_
  rw [Array.getElem_setIfInBounds (by simpa [rowVals] using h1)]
  simp only [rowVals, Array.getElem_ofFn]
  by_cases e : k = i
  · subst e; simp
  · rw [if_neg e, if_neg (fun h => e h.symm)]
theorem RowB.congr {w : World} {b t : Nat} {g g' : Nat → Nat} (h : RowB w b t g) (e : ∀ k, k < 8 → g k = g' k) (hf : ∀ k, g' k < 18446744073709551616) : RowB w b t g' := by
  refine ⟨?_, hf⟩
  have : rowVals g = rowVals g' := by
    unfold rowVals; congr 1; funext i; rw [e i.val i.isLt]
  rw [← this]; exact h.heap

theorem kept_cells {F : Nat → Prop} (b : Nat) (hF : F b) : ∀ (vs : List Value) (o : Nat) (w : World), Kept F w (w.setCells b o vs)
  | [], _, w => Kept.refl _ w
  | v :: vs, o, w => by
    show Kept F w ((w.setCell ⟨b, o, none⟩ v).setCells b (o + 1) vs)
    exact (kept_set w b o v hF).trans (kept_cells b hF vs (o + 1) _) (fun _ _ h => h)
theorem results_one {fn : Func} {p : Tmp} {ty : TypeId} (h : fn.results = #[.cell p ty]) (tmps : Array Value) (w : World) (a : Addr) (v : Value) (ha : tmps.getD p undef = .pointer (some a)) (hv : (loadVar ty a).run Tryd.prog w = .ok v w) :
    (results fn tmps).run Tryd.prog w = .ok v w := by
  have hp' : tmps[p]?.getD undef = .pointer (some a) := by simpa using ha
  simp [results, h, hp', asAddr, hv]

/-- The n highest bits of word k. -/
def wv (f : Nat → Bool) (k : Nat) : Nat → Nat
  | 0 => 0
  | n + 1 => 2 * wv f k n + (f (64 * k + (63 - n))).toNat
theorem wv_lt (f : Nat → Bool) (k n : Nat) : wv f k n < 2 ^ n := by
  induction n with
  | zero => simp [wv]
  | succ n ih => rw [wv, Nat.pow_succ]; have := toNat_le (f (64 * k + (63 - n))); omega
theorem wv_bit (f : Nat → Bool) (k : Nat) : ∀ (n q : Nat), q < n → n ≤ 64 → (wv f k n).testBit q = f (64 * k + (64 - n) + q) := by
  intro n
  induction n with
  | zero => intro q h; omega
  | succ n ih =>
    intro q hq hn
    rw [wv]
    cases q with
    | zero =>
      rw [Nat.testBit_zero, show 64 * k + (64 - (n + 1)) + 0 = 64 * k + (63 - n) by omega]
      cases f (64 * k + (63 - n)) <;> simp <;> omega
    | succ q =>
      rw [Nat.testBit_succ, show (2 * wv f k n + (f (64 * k + (63 - n))).toNat) / 2 = wv f k n by have := toNat_le (f (64 * k + (63 - n))); omega, ih q (by omega) (by omega)]
      congr 1
      omega
/-- How many bits of word k stand above bit I. -/
def nb (I : Int) (k : Nat) : Nat := min 64 ((64 * (k + 1) : Nat) - (I + 1)).toNat
theorem wv64 (f : Nat → Bool) (k : Nat) : wv f k 64 < 18446744073709551616 := wv_lt f k 64
theorem wv_fit (f : Nat → Bool) (k n : Nat) (hn : n ≤ 64) : wv f k n < 18446744073709551616 := Nat.lt_of_lt_of_le (wv_lt f k n) (by rw [show (18446744073709551616 : Nat) = 2 ^ 64 by decide]; exact Nat.pow_le_pow_right (by decide) hn)
theorem nb_le (I : Int) (k : Nat) : nb I k ≤ 64 := Nat.min_le_left _ _
theorem nb_other (I : Int) (k : Nat) (h : (I / 64).toNat ≠ k) (h0 : 0 ≤ I) : nb (I - 1) k = nb I k := by unfold nb; omega
theorem nb_here (I : Int) (h0 : 0 ≤ I) : nb (I - 1) (I / 64).toNat = nb I (I / 64).toNat + 1 ∧ nb I (I / 64).toNat ≤ 63 ∧ 64 * (I / 64).toNat + (63 - nb I (I / 64).toNat) = I.toNat := by unfold nb; omega

/-- Between two rounds of Words. -/
structure WdS (N : Nat) (w : World) (b ro : Nat) (f : Nat → Bool) (I : Int) (W : World) : Prop where
  z : RowB W N 40 (fun _ => 0)
  h : RowB W (N + 1) 40 (fun k => wv f k (nb I k))
  r : BoolAt W b ro f
  be : Below N w W
  lb : b < N
theorem WdS.put {N : Nat} {w : World} {b ro : Nat} {f : Nat → Bool} {I : Int} {W : World} (s : WdS N w b ro f I W) (W' : World) (k : Kept (fun x => x = N + 1) W W') (h : RowB W' (N + 1) 40 (fun k => wv f k (nb (I - 1) k))) : WdS N w b ro f (I - 1) W' :=
  ⟨s.z.kept k (by omega), h, s.r.kept k (by have := s.lb; omega), below_kept s.be k (fun x hx => by omega) (by have := s.h.lt; omega), s.lb⟩
def WdR (w : World) (f : Nat → Bool) (e : Ending) (w' : World) : Prop := ∃ g : Nat → Nat, e = .returned (words g) ∧ (∀ k, g k < 18446744073709551616) ∧ (∀ i, i < 512 → bitW g i = f i) ∧ Below w.heap.size w w'

set_option maxRecDepth 100000 in
set_option maxHeartbeats 4000000 in
theorem words_any (b ro : Nat) (f : Nat → Bool) (w : World) (h : BoolAt w b ro f) :
    Calls Tryd.prog 30 #[.pointer (some ⟨b, ro, none⟩)] w (WdR w f) := by
  obtain ⟨N, hN⟩ : ∃ N, w.heap.size = N := ⟨_, rfl⟩
  have hb := h.lt
  rw [hN] at hb
  obtain ⟨W2, hW2⟩ : ∃ W2, W2 = (w.alloc (.cells #[.int .u64 0, .int .u64 0, .int .u64 0, .int .u64 0, .int .u64 0, .int .u64 0, .int .u64 0, .int .u64 0] 40)).alloc (.cells #[.int .u64 0, .int .u64 0, .int .u64 0, .int .u64 0, .int .u64 0, .int .u64 0, .int .u64 0, .int .u64 0] 40) := ⟨_, rfl⟩
  have hbe : Below N w W2 := by rw [hW2, ← hN]; exact ((Below.refl _ w).alloc (Nat.le_refl _) _).alloc (by simp) _
  have q0 : RowB W2 N 40 (fun _ => 0) := ⟨by rw [hW2, ← hN, alloc_at, if_neg (by simp), alloc_at, if_pos rfl]; rfl, fun _ => by omega⟩
  have q1 : RowB W2 (N + 1) 40 (fun _ => 0) := ⟨by rw [hW2, ← hN, alloc_at, if_pos (by simp)]; rfl, fun _ => by omega⟩
  have S0 : Hid (WdS N w b ro f 511 W2) := hide ⟨q0, q1.congr (fun k hk => by rw [show nb 511 k = 0 by unfold nb; omega]; rfl) (fun k => wv_fit _ _ _ (nb_le _ _)), h.below (by rw [hN]; exact hbe), hbe, hb⟩
  have HW := hide hW2
  obtain ⟨R, hR⟩ : ∃ R, R = WdR w f := ⟨_, rfl⟩
  rw [← hR]
  have HR := hide hR
  clear hR hW2 q0 q1 hbe h hb
  go_enter Tryd.func30, Tryd.ntmps30
  go_wp2_with fail
  rw [← HW.out]
  clear HW
  go_loopw [4] (fun v wr => ∃ I : Int, v = .int .i64 I ∧ -1 ≤ I ∧ I ≤ 511 ∧ Hid (WdS N w b ro f I wr)) (fun v _ => (intOf v + 1).toNat)
  case atStart => exact ⟨511, rfl, by omega, by omega, S0⟩
  case round =>
    obtain ⟨I, rfl, I0, I1, HS⟩ := hrel
    by_cases hlt : 0 ≤ I
    · have d0 : 0 ≤ I / 64 := by omega
      have d1 : I / 64 < 8 := by omega
      have c1 := HS.out.h.cell (I / 64).toNat (by omega)
      have f1 := HS.out.h.frozen (I / 64).toNat
      have c2 := HS.out.r.cell I.toNat (by omega)
      obtain ⟨n1, n2, n3⟩ := nb_here I hlt
      have vlt := wv_lt f (I / 64).toNat (nb I (I / 64).toNat)
      have v63 : wv f (I / 64).toNat (nb I (I / 64).toNat) < 9223372036854775808 := Nat.lt_of_lt_of_le vlt (by rw [show (9223372036854775808 : Nat) = 2 ^ 63 by decide]; exact Nat.pow_le_pow_right (by decide) n2)
      have hv : wv f (I / 64).toNat (nb (I - 1) (I / 64).toNat) = 2 * wv f (I / 64).toNat (nb I (I / 64).toNat) + (f I.toNat).toNat := by rw [n1, wv, n3]
      obtain ⟨X, hX⟩ : ∃ X, X = wv f (I / 64).toNat (nb I (I / 64).toNat) := ⟨_, rfl⟩
      rw [← hX] at c1 v63 hv
      have k1 : wr.cell? ⟨b, ro + I.toNat, none⟩ = some (.bool (f I.toNat)) := c2
      have far := fun v => cell_block (show (wr.setCell ⟨N + 1, (I / 64).toNat, none⟩ v).heap[b]? = wr.heap[b]? from Below.heap_setCell _ _ _ _ (by have := HS.out.lb; simp; omega)) (ro + I.toNat)
      have fin : ∀ (x : Bool) (W' : World), f I.toNat = x → Kept (fun y => y = N + 1) wr W' → RowB W' (N + 1) 40 (fun j => if j = (I / 64).toNat then 2 * X + x.toNat else wv f j (nb I j)) → WdS N w b ro f (I - 1) W' := fun x W' hx k hr => HS.out.put W' k (hr.congr (fun j hj => by
        by_cases e : j = (I / 64).toNat
        · rw [if_pos e, e, hv, hx]
        · rw [if_neg e, nb_other I j (fun z => e z.symm) hlt]) (fun j => wv_fit _ _ _ (nb_le _ _)))
      have FIN := hide fin
      have HX := hide hX
      have V63 := hide v63
      obtain ⟨Y, hY⟩ : ∃ Y : Int, (X : Int) = Y := ⟨_, rfl⟩
      rw [hY] at c1
      have y0 : 0 ≤ Y := by omega
      have y1 : Y ≤ 9223372036854775807 := by omega
      have HY := hide hY
      cases hx : f I.toNat with
      | false =>
        have FF := hide (fun W' => FIN.out false W' hx)
        rw [hx] at c2
        have far' := far (.int .u64 (2 * Y))
        rw [c2] at far'
        clear n1 n2 n3 vlt hv k1 far fin hX hY v63 hx FIN
        go_wp2_with fail
        refine ⟨⟨I - 1, rfl, by omega, by omega, hide ?_⟩, ?_⟩
        · have hs := HS.out.h.set (I / 64).toNat (2 * X) (by have := V63.out; omega)
          rw [show ((2 * X : Nat) : Int) = 2 * Y by have := HY.out; omega] at hs
          exact FF.out _ (kept_set wr (N + 1) (I / 64).toNat _ rfl) hs
        · simp [intOf]; omega
      | true =>
        have FF := hide (fun W' => FIN.out true W' hx)
        rw [hx] at c2
        have far' := far (.int .u64 (2 * Y))
        rw [c2] at far'
        clear n1 n2 n3 vlt hv k1 far fin hX hY v63 hx FIN
        go_wp2_with fail
        refine ⟨⟨I - 1, rfl, by omega, by omega, hide ?_⟩, ?_⟩
        · have hs := (HS.out.h.set (I / 64).toNat (2 * X) (by have := V63.out; omega)).set (I / 64).toNat (2 * X + 1) (by have := V63.out; omega)
          rw [show ((2 * X : Nat) : Int) = 2 * Y by have := HY.out; omega, show ((2 * X + 1 : Nat) : Int) = 2 * Y + 1 by have := HY.out; omega] at hs
          refine FF.out _ ((kept_set (F := fun y => y = N + 1) wr (N + 1) (I / 64).toNat _ rfl).trans (kept_set (F := fun y => y = N + 1) _ (N + 1) (I / 64).toNat _ rfl) (fun _ _ h => h)) (hs.congr (fun j hj => ?_) (fun j => ?_))
          · by_cases e : j = (I / 64).toNat
            · rw [if_pos e, if_pos e]; rfl
            · rw [if_neg e, if_neg e, if_neg e]
          · by_cases e : j = (I / 64).toNat
            · rw [if_pos e]; have := V63.out; show 2 * X + 1 < _; omega
            · rw [if_neg e]; exact wv_fit _ _ _ (nb_le _ _)
        · simp [intOf]; omega
    · have hge : I < 0 := by omega
      have hI : I = -1 := by omega
      obtain ⟨gg, hgg⟩ : ∃ gg : Nat → Nat, gg = fun k => wv f k (nb I k) := ⟨_, rfl⟩
      have hh := HS.out.h
      rw [← hgg] at hh
      have fb : ∀ i, i < 512 → bitW gg i = f i := fun i hi => by
        unfold bitW
        rw [hgg]
        show (wv f (i / 64) (nb I (i / 64))).testBit (i % 64) = f i
        rw [show nb I (i / 64) = 64 by unfold nb; omega, wv_bit f (i / 64) 64 (i % 64) (by omega) (by omega)]
        congr 1
        omega
      have i23 : (Tryd.prog.info? 40).map (·.size) = some (rowVals gg).size := by rw [show (rowVals gg).size = 8 by simp [rowVals]]; kernel_rfl
      have HH := hide hh
      have FB := hide fb
      clear hgg hh fb hlt hI
      go_upto_region 8 with fail
      apply wp_region_lit
      refine wpList_load_row rfl 40 (.tmp 3) rfl (N + 1) rfl _ (rowVals gg) _ _ HH.out.heap Tryd.underlying40 rfl i23 ?_
      simp only [Act.put, List.setIfInBounds_toArray, List.set_cons_zero, List.set_cons_succ]
      have th : wr.there N 0 (rowVals gg).size := fun j hj => by
        rw [show (rowVals gg).size = 8 by simp [rowVals]] at hj
        rw [Nat.zero_add]
        exact ⟨by rw [HS.out.z.cell j hj]; rfl, HS.out.z.frozen j⟩
      refine wpList_store_mid rfl 40 (.tmp 2) (.tmp 30) rfl N 0 (rowVals gg) rfl rfl th i23 (Array.all_eq_true_iff_forall_mem.2 fun v hv => by unfold rowVals at hv; obtain ⟨i, rfl⟩ := Array.mem_ofFn.1 hv; rfl) ?_
      simp only [Act.put, List.setIfInBounds_toArray, List.set_cons_zero, List.set_cons_succ]
      have rg := World.rangeAt_setCells_same wr N 0 (rowVals gg).toList (by rw [Array.length_toList]; exact th)
      have k2 := kept_cells (F := fun x => x = N) N rfl (rowVals gg).toList 0 wr
      have B2 := below_kept HS.out.be k2 (fun x hx => by omega) (by have := HS.out.h.lt; omega)
      have hl := run_loadVar_mid (P := Tryd.prog) _ N 0 40 (rowVals gg).toList _ rg Tryd.underlying40 rfl (by rw [Array.length_toList]; exact i23)
      obtain ⟨Wf, hWf⟩ : ∃ Wf, wr.setCells N 0 (rowVals gg).toList = Wf := ⟨_, rfl⟩
      rw [hWf] at hl B2 ⊢
      have HLL := hide hl
      have BB := hide B2
      clear hWf k2 rg th B2 hl
      go_wp2_with fail
      refine bodyPost_ret (v := words gg) ?_ rfl ?_
      · exact results_one Tryd.results30 _ Wf ⟨N, 0, none⟩ _ rfl HLL.out
      · rw [HR.out]
        exact ⟨gg, rfl, HH.out.fit, FB.out, by rw [hN]; exact BB.out⟩
end Go.Proofs.YtgjgcdbhppaigaaDoor
