/- The iterator of package class: its contract. -/
import Derived.Test.YtblfefibgoiaaaaDoorRg
namespace Go.Proofs.YtblfefibgoiaaaaDoor
open Go.ChangeShapes Go.WideShapes Go.ChangeAt Go.RowKit Go.Proofs.Cl Go.Shelf
set_option linter.unusedVariables false
set_option linter.unusedSimpArgs false

attribute [local go_sem] Oper.semAt_some

/-- The cells of a class that may be open. -/
def oc (page : Nat) : Option Raw → Array Value
  | none => #[.int .i64 0, .int .i64 0, .int .i64 0, .int .u32 0]
  | some c => #[.int .i64 (c.size : Nat), .int .i64 (c.k : Nat), .int .i64 (c.slots page : Nat), .int .u32 0]
/-- A class in a block of its own. -/
def ClsAt (w : World) (b : Nat) (cs : Array Value) : Prop := w.heap[b]? = some (.cells cs 54 (0, 0))
/-- What a round must leave as it was. -/
def Keeps (B Bp Bm : Nat) (W W' : World) : Prop := W.heap.size ≤ W'.heap.size ∧ W'.heap[Bp]? = W.heap[Bp]? ∧ W'.heap[Bm]? = W.heap[Bm]? ∧ ∀ b, B ≤ b → Box4 W b → W'.heap[b]? = W.heap[b]?
theorem cls_cell {w : World} {b : Nat} {cs : Array Value} (h : ClsAt w b cs) (k : Nat) : w.cell? ⟨b, k, none⟩ = cs[k]? := by unfold ClsAt at h; simp [World.cell?, h]
theorem cls_frozen {w : World} {b : Nat} {cs : Array Value} (h : ClsAt w b cs) (k : Nat) : w.frozen? ⟨b, k, none⟩ = false := by unfold ClsAt at h; simp [World.frozen?, h]

theorem wcall {n m : Nat} {P : Program} {f : FuncId} {args : Array Value} {w : World} {R R' : Ending → World → Prop} (h : Calls P f args w R) (hr : ∀ e w', R e w' → R' e w') :
    Fence.wide.fn f ∧ (Fence.wide.depth.isSome = true → 1 ≤ n) ∧ CallsIn Fence.wide m P f args w R' := ⟨trivial, (fun h => by cases h), (callsIn_wide.2 h).mono hr⟩
theorem boxed_block {W W' : World} {B : Nat} {t : TypeId} {v : Value} (h : Boxed W B t v) (hb : W'.heap[B]? = W.heap[B]?) : Boxed W' B t v := hb.trans h
theorem cls_block {W W' : World} {B : Nat} {cs : Array Value} (h : ClsAt W B cs) (hb : W'.heap[B]? = W.heap[B]?) : ClsAt W' B cs := hb.trans h
theorem cls_lt {w : World} {b : Nat} {cs : Array Value} (h : ClsAt w b cs) : b < w.heap.size := (Array.getElem?_eq_some_iff.1 h).1
theorem box_lt {w : World} {b : Nat} {t : TypeId} {v : Value} (h : Boxed w b t v) : b < w.heap.size := (Array.getElem?_eq_some_iff.1 h).1
theorem cls_set {w : World} {b : Nat} {cs : Array Value} (h : ClsAt w b cs) (k : Nat) (v : Value) : ClsAt (w.setCell ⟨b, k, none⟩ v) b (cs.setIfInBounds k v) := by
  obtain ⟨hlt, hk⟩ := Array.getElem?_eq_some_iff.1 h
  show (w.heap.modify b _)[b]? = _
  rw [Array.getElem?_eq_getElem (by rw [Array.size_modify]; exact hlt), Array.getElem_modify_self, hk]
  rfl
theorem kept_set {F : Nat → Prop} (w : World) (b k : Nat) (v : Value) (h : F b) : Kept F w (w.setCell ⟨b, k, none⟩ v) :=
  ⟨rfl, rfl, rfl, by simp, fun x _ hn => Below.heap_setCell _ _ _ _ (fun e => hn (by simp at e; exact e ▸ h))⟩
theorem oc_size (page : Nat) (o : Option Raw) : (oc page o).size = 4 := by cases o <;> rfl

/-- What holds between two rounds of the iterator: pre has come, o is open. -/
structure In (page most B Bp Bm Bo : Nat) (J : List Cls → World → Prop) (pre : List Cls) (o : Option Raw) (wr : World) : Prop where
  j : J pre wr
  o : ClsAt wr Bo (oc page o)
  p : Boxed wr Bp 3 (.int .i64 page)
  m : Boxed wr Bm 3 (.int .i64 most)
  b : B ≤ wr.heap.size
theorem In.below {page most B Bp Bm Bo : Nat} {J : List Cls → World → Prop} {pre : List Cls} {o : Option Raw} {w w1 : World} {B0 : Nat} (h : In page most B Bp Bm Bo J pre o w) (hJ : Ab B0 J) (hb : Below w.heap.size w w1) : In page most B Bp Bm Bo J pre o w1 :=
  ⟨hJ _ _ _ h.j (Kept.of_below hb), cls_block h.o (hb.block _ (cls_lt h.o)), boxed_block h.p (hb.block _ (box_lt h.p)), boxed_block h.m (hb.block _ (box_lt h.m)), Nat.le_trans h.b hb.size⟩
theorem In.kept {page most B Bp Bm Bo : Nat} {J : List Cls → World → Prop} {pre pre' : List Cls} {o : Option Raw} {w w1 : World} (h : In page most B Bp Bm Bo J pre o w) (hB : B ≤ Bo) (hk : Keeps B Bp Bm w w1) (hj : J pre' w1) : In page most B Bp Bm Bo J pre' o w1 :=
  ⟨hj, cls_block h.o (hk.2.2.2 _ hB ⟨_, h.o, oc_size page o⟩), boxed_block h.p hk.2.1, boxed_block h.m hk.2.2.1, Nat.le_trans h.b hk.1⟩
def set4 (w : World) (b : Nat) (v0 v1 v2 v3 : Value) : World := (((w.setCell ⟨b, 0, none⟩ v0).setCell ⟨b, 1, none⟩ v1).setCell ⟨b, 2, none⟩ v2).setCell ⟨b, 3, none⟩ v3
theorem kept_set4 {F : Nat → Prop} (w : World) (b : Nat) (v0 v1 v2 v3 : Value) (h : F b) : Kept F w (set4 w b v0 v1 v2 v3) :=
  (((kept_set w b 0 v0 h).trans (kept_set _ b 1 v1 h) (fun _ _ h => h)).trans (kept_set _ b 2 v2 h) (fun _ _ h => h)).trans (kept_set _ b 3 v3 h) (fun _ _ h => h)
theorem cls_set4 {w : World} {b : Nat} {cs : Array Value} (h : ClsAt w b cs) (hc : cs.size = 4) (v0 v1 v2 v3 : Value) : ClsAt (set4 w b v0 v1 v2 v3) b #[v0, v1, v2, v3] := by
  have := cls_set (cls_set (cls_set (cls_set h 0 v0) 1 v1) 2 v2) 3 v3
  have e : (((cs.setIfInBounds 0 v0).setIfInBounds 1 v1).setIfInBounds 2 v2).setIfInBounds 3 v3 = #[v0, v1, v2, v3] := by
    obtain ⟨l⟩ := cs
    match l, hc with
    | [a, b, c, d], _ => rfl
  rw [e] at this
  exact this
theorem In.store {page most B Bp Bm Bo B0 : Nat} {J : List Cls → World → Prop} {pre : List Cls} {o : Option Raw} {w : World} (h : In page most B Bp Bm Bo J pre o w) (hJ : Ab B0 J) (h0 : B0 ≤ Bo) (hp : Bp ≠ Bo) (hm : Bm ≠ Bo) (d : Raw) :
    In page most B Bp Bm Bo J pre (some d) (set4 w Bo (.int .i64 (d.size : Nat)) (.int .i64 (d.k : Nat)) (.int .i64 (d.slots page : Nat)) (.int .u32 0)) := by
  have k : Kept (fun x => x = Bo) w (set4 w Bo (.int .i64 (d.size : Nat)) (.int .i64 (d.k : Nat)) (.int .i64 (d.slots page : Nat)) (.int .u32 0)) := kept_set4 w Bo _ _ _ _ rfl
  exact ⟨hJ _ _ _ h.j (k.mono fun x e => by subst e; exact ⟨h0, _, h.o, oc_size page o⟩), cls_set4 h.o (oc_size page o) _ _ _ _, boxed_block h.p (k.block _ (box_lt h.p) hp), boxed_block h.m (k.block _ (box_lt h.m) hm), Nat.le_trans h.b k.size⟩
theorem below_alloc (w : World) (o : Obj) : Below w.heap.size w (w.alloc o) := (Below.refl _ _).alloc (Nat.le_refl _) _

set_option maxRecDepth 100000 in
set_option maxHeartbeats 4000000 in
theorem iter_in (page most : Nat) (hp : 1024 ≤ page) (hp2 : page ≤ 65536) (hm : 64 ≤ most) (hm2 : most ≤ 262144) (n B Bp Bm l : Nat) (J Jx : List Cls → World → Prop) (W : World) (hB : B ≤ W.heap.size)
    (xp : Boxed W Bp 3 (.int .i64 page)) (xm : Boxed W Bm 3 (.int .i64 most)) (hJ : Ab W.heap.size J)
    (hY : ∀ pre x W1, J pre W1 → pre.length < (classes page most).length → YieldAt Fence.wide (n - 1) Tryd.prog l #[cv x] W1 fun e W' =>
      (e = .returned (.bool true) ∧ J (pre ++ [x]) W' ∧ Keeps B Bp Bm W1 W') ∨ (e = .returned (.bool false) ∧ Jx (pre ++ [x]) W'))
    (h0 : J [] W) :
    CallsIn Fence.wide n Tryd.prog 64 #[.func (.yield l) #[] #[], .pointer (some ⟨Bm, 0, none⟩), .pointer (some ⟨Bp, 0, none⟩)] W fun e W' => (∃ v, e = .returned v) ∧
      ((∃ xs, xs = classes page most ∧ J xs W') ∨ (∃ pre, pre <+: classes page most ∧ Jx pre W')) := by
  have np : Bp ≠ W.heap.size := by have := box_lt xp; omega
  have nm : Bm ≠ W.heap.size := by have := box_lt xm; omega
  have HY := hide hY
  have NP := hide np
  have NM := hide nm
  have I0 : In page most B Bp Bm W.heap.size J [] none (W.alloc (.cells #[.int .i64 0, .int .i64 0, .int .i64 0, .int .u32 0] 54)) :=
    ⟨hJ _ _ _ h0 (Kept.of_below (below_alloc _ _)), World.alloc_heap_new W _, xp.alloc _, xm.alloc _, by simp; omega⟩
  have HJ := hide hJ
  have HI0 := hide I0
  clear hY np nm I0 hJ xp xm h0
  refine callsIn_of_wp Tryd.func64 rfl trivial ?_ rfl
  simp only [Tryd.ntmps64, List.size_toArray, List.length_cons, List.length_nil, Nat.reduceAdd, Nat.reduceSub, Array.replicate_succ, Array.replicate_zero, List.push_toArray, List.append_toArray, List.nil_append, List.cons_append]
  gi_wp2
  gi_loopw [5, 6] (fun st sz wr => ∃ (f size step : Nat) (o : Option Raw) (pre : List Cls), st = .int .i64 (step : Int) ∧ sz = .int .i64 (size : Int) ∧ 8 ≤ size ∧ 8 ≤ step ∧ step ≤ 256 ∧ size ≤ most + 256 ∧ most < size + 8 * f ∧
      (o = none → size = 8) ∧ (∀ c, o = some c → 8 < size ∧ Cl.Good page most c) ∧ Hid (pre ++ (rest page most f size step o).map (wide page) = classes page most) ∧ Hid (In page most B Bp Bm W.heap.size J pre o wr))
    (fun _ sz _ => most + 257 - (intOf sz).toNat)
  case atStart =>
    exact ⟨most / 8 + 1, 8, 8, none, [], rfl, rfl, by omega, by omega, by omega, by omega, by omega, fun _ => rfl, (fun c e => by cases e), hide rfl, HI0⟩
  case round =>
    obtain ⟨f, size, step, o, pre, rfl, rfl, i1, i2, i3, i4, i5, i6, i7, HR, HI⟩ := hrel
    have cm := HI.out.m.cell
    have cp := HI.out.p.cell
    by_cases hlt : size ≤ most
    · have i9 : (size : Int) ≤ (most : Int) := by omega
      obtain ⟨g, rfl⟩ : ∃ g, f = g + 1 := ⟨f - 1, by omega⟩
      obtain ⟨st, hst⟩ : ∃ st, st = stepN size step := ⟨_, rfl⟩
      have st1 : 8 ≤ st := by rw [hst]; exact step_lo i2
      have st2 : st ≤ 256 := by rw [hst]; exact step_hi i3
      have C1 := step_any size step (by omega) wr
      rw [← hst] at C1
      have HST := hide hst
      have CC := hide C1
      have gn := good_raw (page := page) i1 hlt
      have GN := hide gn
      have I5 := hide i5
      clear hst C1 gn i5
      gi_wp2_with fail
      refine wcall CC.out ?_
      rintro e w' ⟨rfl, hw'⟩; rw [hw']; clear hw' w' CC
      gi_wp2_with fail
      refine wcall (cut_any page size (by omega) hp2 (by omega) (by omega) _) ?_
      rintro e w1 ⟨rfl, b1⟩
      have HI1 := hide (HI.out.below HJ.out b1)
      clear b1 HI cm cp
      have O1 := HI1.out.o
      have x0 := cls_cell O1 0
      have x1 := cls_cell O1 1
      have x2 := cls_cell O1 2
      have x3 := cls_cell O1 3
      have y0 := cls_frozen O1 0
      have y1 := cls_frozen O1 1
      have y2 := cls_frozen O1 2
      have y3 := cls_frozen O1 3
      have l1 := cls_lt O1
      clear O1
      cases o with
      | none =>
        have s8 := i6 rfl
        have S8 := hide s8
        have i10 : (size : Int) ≤ 8 := by omega
        clear i6 i7 s8
        simp only [oc] at x0 x1 x2 x3
        gi_wp2_with fail
        refine ⟨trivial, ?_⟩
        gi_wp2_with fail
        refine ⟨trivial, ?_⟩
        gi_wp2_with fail
        refine ⟨fun _ h => (by cases h), ?_⟩
        gi_wp2_with fail
        refine ⟨⟨g, size + st, st, some (rawOf page size), pre, rfl, by rw [Int.natCast_add], by omega, st1, st2, by omega, by have := I5.out; omega, (fun h => by cases h), (fun c e => by cases e; exact ⟨by omega, GN.out⟩), hide ?_, hide ?_⟩, ?_⟩
        · have hr := HR.out
          rw [rest_first hlt, ← HST.out] at hr
          exact hr
        · exact (HI1.out.store HJ.out (Nat.le_refl _) NP.out NM.out (rawOf page size)).below HJ.out (below_alloc _ _)
        · simp [intOf]; omega
      | some c =>
        obtain ⟨c8, cg⟩ := i7 c rfl
        have CG := hide cg
        have i10 : (8 : Int) < (size : Int) := by omega
        clear i6 i7 cg
        simp only [oc] at x0 x1 x2 x3
        have cp := HI1.out.p.cell
        cases ha : alikeB page c (rawOf page size) with
        | true =>
          have HA := hide ha
          have CA := fun w => alike_raw page c (rawOf page size) w
          rw [ha] at CA
          have CA' := hide CA
          clear ha CA
          gi_wp2_with fail
          refine wcall (CA'.out _) ?_
          rintro e w2 ⟨rfl, b2⟩
          have N1 : ClsAt (w1.alloc (.cells (oc page (some (rawOf page size))) 54)) w1.heap.size (oc page (some (rawOf page size))) := World.alloc_heap_new w1 _
          have HI2 := hide ((HI1.out.below HJ.out (below_alloc _ _)).below HJ.out b2)
          have N2 := cls_block N1 (b2.block _ (cls_lt N1))
          clear b2 N1 x0 x1 x2 x3 y0 y1 y2 y3 HI1 l1 cp
          have O2 := HI2.out.o
          have x0 := cls_cell O2 0
          have x1 := cls_cell O2 1
          have x2 := cls_cell O2 2
          have x3 := cls_cell O2 3
          have y0 := cls_frozen O2 0
          have y1 := cls_frozen O2 1
          have y2 := cls_frozen O2 2
          have y3 := cls_frozen O2 3
          have l1 := cls_lt O2
          have z0 := cls_cell N2 0
          have z1 := cls_cell N2 1
          have z2 := cls_cell N2 2
          have z3 := cls_cell N2 3
          have l2 := cls_lt N2
          have NN2 := hide N2
          simp only [oc] at x0 x1 x2 x3 z0 z1 z2 z3
          clear O2 N2
          gi_wp2_with fail
          refine ⟨trivial, ?_⟩
          gi_wp2_with fail
          refine ⟨fun _ h => (by cases h), ?_⟩
          gi_wp2_with fail
          refine ⟨⟨g, size + st, st, some (rawOf page size), pre, rfl, by rw [Int.natCast_add], by omega, st1, st2, by omega, by have := I5.out; omega, (fun h => by cases h), (fun c e => by cases e; exact ⟨by omega, GN.out⟩), hide ?_, hide ?_⟩, ?_⟩
          · have hr := HR.out
            rw [rest_alike hlt HA.out, ← HST.out] at hr
            exact hr
          · exact HI2.out.store HJ.out (Nat.le_refl _) NP.out NM.out (rawOf page size)
          · simp [intOf]; omega
        | false =>
          have HA := hide ha
          have CA := fun w => alike_raw page c (rawOf page size) w
          rw [ha] at CA
          have CA' := hide CA
          clear ha CA
          gi_wp2_with fail
          refine wcall (CA'.out _) ?_
          rintro e w2 ⟨rfl, b2⟩
          have N1 : ClsAt (w1.alloc (.cells (oc page (some (rawOf page size))) 54)) w1.heap.size (oc page (some (rawOf page size))) := World.alloc_heap_new w1 _
          have HI2 := hide ((HI1.out.below HJ.out (below_alloc _ _)).below HJ.out b2)
          have N2 := cls_block N1 (b2.block _ (cls_lt N1))
          have bn : B ≤ w1.heap.size := HI1.out.b
          have BN := hide bn
          have cp := HI2.out.p.cell
          clear b2 N1 x0 x1 x2 x3 y0 y1 y2 y3 HI1 l1 bn
          have O2 := HI2.out.o
          have x0 := cls_cell O2 0
          have x1 := cls_cell O2 1
          have x2 := cls_cell O2 2
          have x3 := cls_cell O2 3
          have y0 := cls_frozen O2 0
          have y1 := cls_frozen O2 1
          have y2 := cls_frozen O2 2
          have y3 := cls_frozen O2 3
          have l1 := cls_lt O2
          have z0 := cls_cell N2 0
          have z1 := cls_cell N2 1
          have z2 := cls_cell N2 2
          have z3 := cls_cell N2 3
          have l2 := cls_lt N2
          have NN2 := hide N2
          simp only [oc] at x0 x1 x2 x3 z0 z1 z2 z3
          clear O2 N2
          gi_wp2_with fail
          refine wcall (wide_raw page most c (by omega) hp2 hm2 CG.out _) ?_
          rintro e w3 ⟨rfl, b3⟩
          have HI3 := hide (HI2.out.below HJ.out b3)
          have N3 := cls_block NN2.out (b3.block _ (cls_lt NN2.out))
          have hr := HR.out
          rw [rest_new hlt HA.out, ← HST.out, List.map_cons] at hr
          have hlen : pre.length < (classes page most).length := by rw [← hr]; simp
          obtain ⟨fn, tmps, assign, body, hy, hRr⟩ := HY.out pre (wide page c) w3 HI3.out.j hlen
          have HRR := hide hRr
          have HR' := hide hr
          have N3' := hide N3
          clear hr hlen hRr b3 HI2 NN2 N3 x0 x1 x2 x3 y0 y1 y2 y3 z0 z1 z2 z3 cp l1 l2
          gi_wp2_with fail
          refine ⟨(fun h => by cases h), HRR.out.mono ?_⟩
          clear HRR
          rintro e w4 (⟨rfl, j4, k4⟩ | ⟨rfl, jx4⟩)
          · have HI4 := hide (HI3.out.kept hB k4 j4)
            have N4 := cls_block N3'.out (k4.2.2.2 _ BN.out ⟨_, N3'.out, oc_size page _⟩)
            clear j4 k4 HI3 N3' hy
            have O4 := HI4.out.o
            have x0 := cls_cell O4 0
            have x1 := cls_cell O4 1
            have x2 := cls_cell O4 2
            have x3 := cls_cell O4 3
            have y0 := cls_frozen O4 0
            have y1 := cls_frozen O4 1
            have y2 := cls_frozen O4 2
            have y3 := cls_frozen O4 3
            have l1 := cls_lt O4
            have z0 := cls_cell N4 0
            have z1 := cls_cell N4 1
            have z2 := cls_cell N4 2
            have z3 := cls_cell N4 3
            have l2 := cls_lt N4
            simp only [oc] at x0 x1 x2 x3 z0 z1 z2 z3
            clear O4 N4
            gi_wp2_with fail
            refine ⟨⟨g, size + st, st, some (rawOf page size), pre ++ [wide page c], rfl, by rw [Int.natCast_add], by omega, st1, st2, by omega, by have := I5.out; omega, (fun h => by cases h), (fun c e => by cases e; exact ⟨by omega, GN.out⟩), hide ?_, hide ?_⟩, ?_⟩
            · have hr := HR'.out
              rw [List.append_assoc]
              exact hr
            · exact HI4.out.store HJ.out (Nat.le_refl _) NP.out NM.out (rawOf page size)
            · simp [intOf]; omega
          · have X := hide jx4
            clear jx4 hy
            gi_wp2_with fail
            refine bodyPost_ret (results_none rfl _ _ _) rfl ?_
            refine ⟨⟨_, rfl⟩, .inr ⟨_, ?_, X.out⟩⟩
            rw [← HR'.out]
            exact ⟨_, by rw [List.append_assoc]; rfl⟩
    · have i9 : (most : Int) < (size : Int) := by omega
      cases o with
      | none => have := i6 rfl; omega
      | some c =>
        obtain ⟨c8, cg⟩ := i7 c rfl
        have CG := hide cg
        have O1 := HI.out.o
        have x0 := cls_cell O1 0
        have x1 := cls_cell O1 1
        have x2 := cls_cell O1 2
        have x3 := cls_cell O1 3
        simp only [oc] at x0 x1 x2 x3
        clear i6 i7 cg O1
        gi_wp2_with fail
        refine wcall (wide_raw page most c (by omega) hp2 hm2 CG.out _) ?_
        rintro e w3 ⟨rfl, b3⟩
        have HI3 := hide (HI.out.below HJ.out b3)
        have hr := HR.out
        rw [rest_stop (by omega)] at hr
        have hlen : pre.length < (classes page most).length := by rw [← hr]; simp
        obtain ⟨fn, tmps, assign, body, hy, hRr⟩ := HY.out pre (wide page c) w3 HI3.out.j hlen
        have HRR := hide hRr
        have HR' := hide hr
        clear hr hlen hRr b3 HI x0 x1 x2 x3 cp cm
        gi_wp2_with fail
        refine ⟨(fun h => by cases h), HRR.out.mono ?_⟩
        clear HRR
        rintro e w4 (⟨rfl, j4, k4⟩ | ⟨rfl, jx4⟩)
        · have X := hide j4
          clear j4 k4 hy
          gi_wp2_with fail
          go_end0
          exact ⟨⟨_, rfl⟩, .inl ⟨_, by rw [← HR'.out]; rfl, X.out⟩⟩
        · have X := hide jx4
          clear jx4 hy
          gi_wp2_with fail
          go_end0
          exact ⟨⟨_, rfl⟩, .inr ⟨_, by rw [← HR'.out]; exact ⟨[], by simp⟩, X.out⟩⟩
end Go.Proofs.YtblfefibgoiaaaaDoor
