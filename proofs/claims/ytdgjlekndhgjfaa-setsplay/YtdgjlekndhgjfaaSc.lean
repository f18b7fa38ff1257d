/- Package sets: a side's add of a new kind, its remove: contracts. -/
import Derived.Test.YtdgjlekndhgjfaaSb
namespace Go.Proofs.Ytdgjlekndhgjfaa
open Go.ChangeShapes Go.WideShapes Go.ChangeAt Go.RowKit Go.Shelf Go.Proofs.Rx Go.Maps Go.Proofs.Hm
set_option linter.unusedVariables false
set_option linter.unusedSimpArgs false

attribute [local go_sem] Oper.semAt_some

section
variable {W W' : World} {s c d m : Nat} {G : Gh} {k : Kd}
/-- A heap's block, made and filled. -/
theorem boxed (W1 : World) (x y z : Value) : Bk ((((W1.alloc (.cells #[.slice none 0 0, .nilFunc, .nilFunc] 55)).setCell ⟨W1.heap.size, 0, none⟩ x).setCell ⟨W1.heap.size, 1, none⟩ y).setCell ⟨W1.heap.size, 2, none⟩ z) W1.heap.size 55 #[x, y, z] ∧
    Below W1.heap.size W1 ((((W1.alloc (.cells #[.slice none 0 0, .nilFunc, .nilFunc] 55)).setCell ⟨W1.heap.size, 0, none⟩ x).setCell ⟨W1.heap.size, 1, none⟩ y).setCell ⟨W1.heap.size, 2, none⟩ z) := by
  have b0 : Bk (W1.alloc (.cells #[.slice none 0 0, .nilFunc, .nilFunc] 55)) W1.heap.size 55 #[.slice none 0 0, .nilFunc, .nilFunc] := World.alloc_heap_new W1 _
  exact ⟨((b0.set 0 x).set 1 y).set 2 z, (((below_alloc W1 _).setCell (Nat.le_refl _) x).setCell (Nat.le_refl _) y).setCell (Nat.le_refl _) z⟩
/-- Behind the coming of a kind. -/
def Came (W Wc : World) (s c : Nat) (G : Gh) (d : Nat) (k : Kd) (hb : Nat) : Prop := W.heap.size ≤ hb ∧ Parts Wc s (c + 1) (G.come d k hb) ∧ To W Wc (Foot G s) (Foot (G.come d k hb) s)
/-- The update of the kinds' map, behind the making of a heap. -/
theorem come_run (h : Parts W s c G) (hc : c < 1000000) (hd : d < 2) (hkb : -9223372036854775808 ≤ k.c ∧ k.c ≤ 9223372036854775807) (ho : G.on d (some k) = false) {n : Nat} {W1 : World} (b1 : Below (W.drewN n).heap.size (W.drewN n) W1) :
    ∃ Wc, (Instr.mapUpdate 56 (.map (some (G.mb d))) (kdV k) (.pointer (some ⟨W1.heap.size, 0, none⟩))).run Try.prog (W1.alloc (.cells (Hv (.slice none 0 0) 37) 55)).drew = .ok () Wc ∧ Came W Wc s c G d k W1.heap.size := by
  have b0 : Below W.heap.size W W1 := (drewN_below W n).trans b1
  have bX : Below W.heap.size W (W1.alloc (.cells (Hv (.slice none 0 0) 37) 55)).drew := (b0.trans ((below_alloc W1 _).mono b0.size)).trans ((drew_below _).mono (by rw [World.size_alloc]; have := b0.size; omega))
  have hX := h.below bX
  have kb : Bk (W1.alloc (.cells (Hv (.slice none 0 0) 37) 55)).drew W1.heap.size 55 (Hv (.slice none 0 0) 37) := World.alloc_heap_new W1 _
  obtain ⟨Wc, r, m2, g⟩ := (hX.m2 d hd).put tyK hc (p := k) hkb W1.heap.size
  have nf : ¬ Foot G s W1.heap.size := fun u => by have := h.lt u; have := b0.size; omega
  obtain ⟨p1, p2, p3⟩ := hX.come (c' := c + 1) (by omega) hd ho kb nf m2 g
  refine ⟨Wc, r, b0.size, p1, (Kept.of_below bX).trans p2 (fun _ _ h => h), fun z hz => ?_⟩
  rcases p3 z hz with u | u
  · exact .inl u
  · exact .inr (by rw [u]; exact b0.size)
theorem come_l (G : Gh) (d : Nat) (k : Kd) (hb : Nat) : (G.come d k hb).l d (some k) = [] ∧ (G.come d k hb).l d none = G.l d none ∧ (G.come d k hb).on d (some k) = true ∧ (G.come d k hb).kb d k = hb := by
  refine ⟨?_, ?_, ?_, ?_⟩
  · show (if d = d ∧ some k = some k then [] else G.l d (some k)) = _
    rw [if_pos ⟨rfl, rfl⟩]
  · show (if d = d ∧ none = some k then [] else G.l d none) = _
    rw [if_neg (by simp)]
  · show (if d = d ∧ some k = some k then true else G.on d (some k)) = _
    rw [if_pos ⟨rfl, rfl⟩]
  · show (if d = d ∧ k = k then hb else G.kb d k) = _
    rw [if_pos ⟨rfl, rfl⟩]
/-- Behind the add of one of a new kind. -/
def NewAdded (W W' : World) (s c : Nat) (G : Gh) (d m : Nat) (k : Kd) : Prop := ∃ hb Wc, Came W Wc s c G d k hb ∧ SideAdded Wc W' s (c + 1) (G.come d k hb) d m k
theorem side_add_new (h : Parts W s c G) (hc : c < 1000000) (hd : d < 2) (hm : m ∈ G.ms) (hx : (G.x m).d = d) (hk : (G.x m).kd = k) (hkb : -9223372036854775808 ≤ k.c ∧ k.c ≤ 9223372036854775807) (ho : G.on d (some k) = false) (hn0 : m ∉ G.l d none) (hl0 : (G.l d none).length + 1 < 100000) :
    Calls Try.prog 34 #[.pointer (some ⟨s, 2 + 4 * d, none⟩), .pointer (some ⟨m, 0, none⟩)] W fun e W' => e = .returned (.tuple #[]) ∧ NewAdded W W' s c G d m k := by
  have c1 := fun n => kinds_cell (h.below (drewN_below W n)) hd
  have c2 := fun W1 n (b : Below (W.drewN n).heap.size (W.drewN n) W1) => kinds_cell (h.below ((drewN_below W n).trans b)) hd
  obtain ⟨y2, y3, y4, -, -, -⟩ := mem_cells h hm
  have ym := fun W1 n (b : Below (W.drewN n).heap.size (W.drewN n) W1) => mem_cells (h.below ((drewN_below W n).trans b)) hm
  simp only [hk] at y2 y3 y4 ym
  have sl := h.sb.lt
  have ml := (h.mb m hm).lt
  have CL := hide (fun W1 n (b : Below (W.drewN n).heap.size (W.drewN n) W1) => (⟨Nat.lt_of_lt_of_le sl b.size, Nat.lt_of_lt_of_le ml b.size⟩ : s < W1.heap.size ∧ m < W1.heap.size))
  have l0 := fun n => ((h.below (drewN_below W n)).m2 d hd).look tyK (zeroH (W.drewN n)) (p := k) hkb
  rw [show (if G.on d (some k) = true then some (G.kb d k) else none) = none by rw [ho]; rfl] at l0
  rw [show valO encPt none = .pointer none from rfl, show keyK.kv k = kdV k from rfl] at l0
  have CB := hide (fun X => byBase_any X 37)
  have RUN := hide (fun n W1 (b : Below (W.drewN n).heap.size (W.drewN n) W1) => come_run h hc hd hkb ho b)
  have C1 := hide (fun hb Wc (C : Came W Wc s c G d k hb) => show Calls Try.prog 38 #[.pointer (some ⟨hb, 0, none⟩), .pointer (some ⟨m, 0, none⟩)] Wc fun e W' => e = .returned (.tuple #[]) ∧ Added Wc W' s (c + 1) (G.come d k hb) d (some k) m from by
    obtain ⟨e1, e2, e3, e4⟩ := come_l G d k hb
    have := heap_add (o := some k) C.2.1 hd e3 hm ⟨hx, fun k' e => by cases e; exact hk⟩ (by rw [e1]; simp) (by rw [e1]; decide)
    rw [show hbI s (G.come d k hb) d (some k) = hb from e4, show offI d (some k) = 0 from rfl] at this
    exact this)
  have C2 := hide (fun hb Wc (C : Came W Wc s c G d k hb) W' (A : Added Wc W' s (c + 1) (G.come d k hb) d (some k) m) => (second_add A hd hm hx (by rw [(come_l G d k hb).2.1]; exact hn0) (by rw [(come_l G d k hb).2.1]; exact hl0)).mono (R' := fun e W2 => e = .returned (.tuple #[]) ∧ NewAdded W W2 s c G d m k) fun e W2 ⟨he, a⟩ => ⟨he, hb, Wc, C, a⟩)
  obtain ⟨o, hoo⟩ : ∃ o, 2 + 4 * d = o := ⟨_, rfl⟩
  rw [hoo] at c1 C2 ⊢
  simp only [hoo] at c2
  unfold kdV at l0 RUN
  unfold Hv cmpV at CB RUN
  obtain ⟨RA, hRA⟩ : ∃ R : World → Prop, (fun W' => NewAdded W W' s c G d m k) = R := ⟨_, rfl⟩
  have hRA' : ∀ W', NewAdded W W' s c G d m k = RA W' := fun W' => congrFun hRA W'
  simp only [hRA'] at C2 ⊢
  obtain ⟨CM, hCM⟩ : ∃ R : Nat → World → Prop, (fun hb Wc => Came W Wc s c G d k hb) = R := ⟨_, rfl⟩
  have hCM' : ∀ hb Wc, Came W Wc s c G d k hb = CM hb Wc := fun hb Wc => congrFun (congrFun hCM hb) Wc
  simp only [hCM'] at C1 C2 RUN
  obtain ⟨AD, hAD⟩ : ∃ R : Nat → World → World → Prop, (fun hb Wc W' => Added Wc W' s (c + 1) (G.come d k hb) d (some k) m) = R := ⟨_, rfl⟩
  have hAD' : ∀ hb Wc W', Added Wc W' s (c + 1) (G.come d k hb) d (some k) m = AD hb Wc W' := fun hb Wc W' => congrFun (congrFun (congrFun hAD hb) Wc) W'
  simp only [hAD'] at C1 C2
  obtain ⟨mb, hmb⟩ : ∃ mb, G.mb d = mb := ⟨_, rfl⟩
  have cA : W.cell? ⟨s, o + 3, none⟩ = some (.map (some (G.mb d))) := c1 0
  rw [hmb] at l0 cA RUN
  simp only [hmb] at c2
  clear hRA hRA' hCM hCM' hAD hAD' hk hkb ho h hm hx hn0 hl0 c1 hc hmb hoo sl ml
  obtain ⟨kc, ka, kf⟩ := k
  simp only [] at l0 y2 y3 y4 RUN ym
  have YM := hide ym
  have C2H := hide c2
  clear ym c2
  go_enter Try.func34, Try.ntmps34
  go_wp2_with fail
  go_quiet (fail)
  go_wp2_with fail
  refine (CB.out _).mono ?_
  rintro e W1 ⟨rfl, b1⟩
  obtain ⟨Wc, r, C⟩ := RUN.out _ _ b1
  obtain ⟨l1, l2⟩ := CL.out _ _ b1
  have x0 := C2H.out _ _ b1
  obtain ⟨x2, x3, x4, -, -, -⟩ := YM.out _ _ b1
  have R1 := hide r
  have CC1 := hide (C1.out _ _ C)
  have CC2 := hide (C2.out _ _ C)
  clear RUN CL C2H YM r C C1 C2 b1 CB y2 y3 y4 cA l0
  go_wp2_with fail
  obtain ⟨hb, hhb⟩ : ∃ hb, W1.heap.size = hb := ⟨_, rfl⟩
  obtain ⟨X, hX⟩ : ∃ X, W1.alloc (.cells #[.slice none 0 0, .func (.func 36) #[] #[], .func (.func 37) #[] #[]] 55) = X := ⟨_, rfl⟩
  have bX : Below W1.heap.size W1 X := by rw [← hX]; exact below_alloc W1 _
  have x0' := (bX.cell (p := ⟨s, o + 3, none⟩) l1).trans x0
  have x2' := (bX.cell (p := ⟨m, 2, none⟩) l2).trans x2
  have x3' := (bX.cell (p := ⟨m, 3, none⟩) l2).trans x3
  have x4' := (bX.cell (p := ⟨m, 4, none⟩) l2).trans x4
  rw [hX, hhb] at R1
  rw [hhb] at CC1 CC2
  rw [hX, hhb]
  clear hX bX x0 x2 x3 x4 l1 l2 hhb
  refine still_tail 9 (by kernel_rfl) (by kernel_rfl) ?_
  simp only [List.take_succ_cons, List.take_zero, List.drop_succ_cons, List.drop_zero]
  repeat still_step
  refine wpStill_nil ?_
  have r := R1.out
  go_wp2_with fail
  refine CC1.out.mono ?_
  rintro e W3 ⟨rfl, a⟩
  have CC := hide (CC2.out _ a)
  clear a CC1 CC2
  go_wp2_with fail
  refine CC.out.mono ?_
  rintro e W2 ⟨rfl, a⟩
  clear CC
  go_wp2_with fail
  go_end0
  exact ⟨rfl, a⟩
end
end Go.Proofs.Ytdgjlekndhgjfaa
