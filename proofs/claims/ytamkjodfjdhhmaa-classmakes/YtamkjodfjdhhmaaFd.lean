/- classes, and find: the first class of the table that is not too small. -/
import Derived.Test.YtamkjodfjdhhmaaIt
namespace Go.Proofs.Ytamkjodfjdhhmaa
open Go.ChangeShapes Go.WideShapes Go.ChangeAt Go.RowKit Go.Proofs.Cl Go.Shelf
set_option linter.unusedVariables false
set_option linter.unusedSimpArgs false

attribute [local go_sem] Oper.semAt_some

theorem classes_any (page most : Int) (w : World) : Calls Try.prog 22 #[.int .i64 page, .int .i64 most] w fun e w' =>
    e = .returned (.func (.func 27) #[] #[.pointer (some ⟨w.heap.size + 1, 0, none⟩), .pointer (some ⟨w.heap.size, 0, none⟩)]) ∧ w' = (w.alloc (.cells #[.int .i64 page] 3)).alloc (.cells #[.int .i64 most] 3) := by
  go_enter Try.func22, Try.ntmps22
  go_wp2
  go_ret
  exact ⟨rfl, rfl⟩
theorem iter_seq (page most : Nat) (hp : 1024 ≤ page) (hp2 : page ≤ 65536) (hm : 64 ≤ most) (hm2 : most ≤ 262144) (n B Bp Bm : Nat) (w : World) (hB : B ≤ w.heap.size) (xp : Boxed w Bp 3 (.int .i64 page)) (xm : Boxed w Bm 3 (.int .i64 most)) :
    SeqC n Try.prog 27 #[.pointer (some ⟨Bm, 0, none⟩), .pointer (some ⟨Bp, 0, none⟩)] (fun c => #[cv c]) (Keeps B Bp Bm) (fun xs => xs = classes page most) (fun pre => pre <+: classes page most) (classes page most).length w :=
  fun l J Jx W hW hJ hY h0 => iter_in page most hp hp2 hm hm2 n B Bp Bm l J Jx W (Nat.le_trans hB hW.size) (boxed_block xp (hW.block _ (box_lt xp))) (boxed_block xm (hW.block _ (box_lt xm))) hJ hY h0
theorem box4_block {W W' : World} {b : Nat} (h : Box4 W b) (hb : W'.heap[b]? = W.heap[b]?) : Box4 W' b := by obtain ⟨cs, h1, h2⟩ := h; exact ⟨cs, hb.trans h1, h2⟩
theorem keeps_t {B Bp Bm : Nat} {X Y Z : World} (h : Keeps B Bp Bm X Y) (k : Keeps B Bp Bm Y Z) : Keeps B Bp Bm X Z :=
  ⟨Nat.le_trans h.1 k.1, k.2.1.trans h.2.1, k.2.2.1.trans h.2.2.1, fun b hb x => (k.2.2.2 b hb (box4_block x (h.2.2.2 b hb x))).trans (h.2.2.2 b hb x)⟩
theorem keeps_of {F : Nat → Prop} {B Bp Bm : Nat} {W W' : World} (h : Kept F W W') (lp : Bp < W.heap.size) (lm : Bm < W.heap.size) (hp : ¬ F Bp) (hm : ¬ F Bm) (hb : ∀ b, B ≤ b → Box4 W b → ¬ F b) : Keeps B Bp Bm W W' :=
  ⟨h.size, h.block _ lp hp, h.block _ lm hm, fun b hB x => h.block b (by obtain ⟨cs, h1, _⟩ := x; exact (Array.getElem?_eq_some_iff.1 h1).1) (hb b hB x)⟩
theorem not_box {W : World} {b : Nat} {o : Obj} (h : W.heap[b]? = some o) (hc : o.isCells = false) : ¬ Box4 W b := fun ⟨cs, h1, _⟩ => by rw [h] at h1; cases h1; cases hc
theorem keepsFrom_of {F : Nat → Prop} {B : Nat} {W W' : World} (h : Kept F W W') (hb : ∀ b, B ≤ b → ¬ F b) : KeepsFrom B W W' := ⟨h.size, fun k o hk ho _ => kept_at h ho (hb k hk)⟩
theorem below_kept {F : Nat → Prop} {N : Nat} {w W W' : World} (h : Below N w W) (k : Kept F W W') (hF : ∀ b, F b → N ≤ b) (hN : N ≤ W.heap.size) : Below N w W' := h.trans (k.below hN hF)
theorem cls_kept {F : Nat → Prop} {W W' : World} {b : Nat} {cs : Array Value} (h : ClsAt W b cs) (k : Kept F W W') (hb : ¬ F b) : ClsAt W' b cs := cls_block h (k.block _ (cls_lt h) hb)
theorem boxed_kept {F : Nat → Prop} {W W' : World} {b : Nat} {t : TypeId} {v : Value} (h : Boxed W b t v) (k : Kept F W W') (hb : ¬ F b) : Boxed W' b t v := boxed_block h (k.block _ (box_lt h) hb)

theorem wcall2 {m : Nat} {P : Program} {f : FuncId} {args : Array Value} {w : World} {R R' : Ending → World → Prop} (h : Calls P f args w R) (hr : ∀ e w', R e w' → R' e w') :
    Fence.wide.fn f ∧ CallsIn Fence.wide m P f args w R' := ⟨trivial, (callsIn_wide.2 h).mono hr⟩
/-- The cells of a class. -/
def cc (c : Cls) : Array Value := #[.int .i64 (c.size : Nat), .int .i64 (c.pages : Nat), .int .i64 (c.slots : Nat), .int .u32 (c.magic : Nat)]
/-- Between two rounds of find. -/
structure FI (N : Nat) (w : World) (sz : Nat) (pre : List Cls) (W : World) : Prop where
  s : Boxed W N 3 (.int .i64 sz)
  n : Boxed W (N + 1) 3 (.int .i64 (pre.length : Nat))
  c : ∃ cs : Array Value, ClsAt W (N + 2) cs ∧ cs.size = 4
  small : ∀ c ∈ pre, c.size < sz
  b : Below N w W
/-- Where find has left its loop. -/
structure FX (N : Nat) (w : World) (sz : Nat) (pre : List Cls) (W : World) : Prop where
  s : Boxed W N 3 (.int .i64 sz)
  n : Boxed W (N + 1) 3 (.int .i64 (pre.length : Nat))
  c : ∃ p c, pre = p ++ [c] ∧ ClsAt W (N + 2) (cc c) ∧ (∀ c ∈ p, c.size < sz) ∧ sz ≤ c.size
  b : Below N w W
theorem FI.kept {F : Nat → Prop} {N : Nat} {w : World} {sz : Nat} {pre : List Cls} {W W' : World} (h : FI N w sz pre W) (k : Kept F W W') (hF : ∀ b, F b → N + 3 ≤ b) : FI N w sz pre W' := by
  obtain ⟨cs, h1, h2⟩ := h.c
  exact ⟨boxed_kept h.s k (fun f => by have := hF _ f; omega), boxed_kept h.n k (fun f => by have := hF _ f; omega), ⟨cs, cls_kept h1 k (fun f => by have := hF _ f; omega), h2⟩, h.small, below_kept h.b k (fun b f => by have := hF _ f; omega) (by have := box_lt h.s; omega)⟩
theorem FX.kept {F : Nat → Prop} {N : Nat} {w : World} {sz : Nat} {pre : List Cls} {W W' : World} (h : FX N w sz pre W) (k : Kept F W W') (hF : ∀ b, F b → N + 3 ≤ b) : FX N w sz pre W' := by
  obtain ⟨p, c, h1, h2, h3, h4⟩ := h.c
  exact ⟨boxed_kept h.s k (fun f => by have := hF _ f; omega), boxed_kept h.n k (fun f => by have := hF _ f; omega), ⟨p, c, h1, cls_kept h2 k (fun f => by have := hF _ f; omega), h3, h4⟩, below_kept h.b k (fun b f => by have := hF _ f; omega) (by have := box_lt h.s; omega)⟩

set_option maxRecDepth 100000 in
set_option maxHeartbeats 4000000 in
theorem find_any (sz : Nat) (hs : sz ≤ 32768) (w : World) : Calls Try.prog 23 #[.int .i64 sz] w fun e w' =>
    ∃ (p : List Cls) (c : Cls), p ++ [c] <+: table ∧ (∀ d ∈ p, d.size < sz) ∧ sz ≤ c.size ∧ e = .returned (.tuple #[.int .i64 ((p.length + 1 : Nat) : Int), cv c]) ∧ Below w.heap.size w w' := by
  refine (callsIn_wide (n := 3)).1 ?_
  refine callsIn_of_wp_marks Try.func23 rfl trivial ?_ rfl
  simp only [Try.ntmps23, List.size_toArray, List.length_cons, List.length_nil, Nat.reduceAdd, Nat.reduceSub, Array.replicate_succ, Array.replicate_zero, List.push_toArray, List.append_toArray, List.nil_append, List.cons_append]
  gi_wp2_with fail
  refine wcall2 (classes_any _ _ _) ?_
  rintro e w5 ⟨rfl, h5⟩
  rw [h5]
  clear h5 w5
  gi_wp2_with fail
  obtain ⟨N, hN⟩ : ∃ N, w.heap.size = N := ⟨_, rfl⟩
  obtain ⟨w5, h5⟩ : ∃ w5, (((((w.alloc (.cells #[.int .i64 (sz : Int)] 3)).alloc (.cells #[.int .i64 0] 3)).alloc (.cells #[.int .i64 0, .int .i64 0, .int .i64 0, .int .u32 0] 30)).alloc (.cells #[.int .i64 8192] 3)).alloc (.cells #[.int .i64 32768] 3)) = w5 := ⟨_, rfl⟩
  have s5 : w5.heap.size = N + 5 := by rw [← h5]; simp [hN]
  have b5 : Below N w w5 := by
    rw [← h5, ← hN]
    exact (((((Below.refl _ w).alloc (Nat.le_refl _) _).alloc (by simp) _).alloc (by simp; omega) _).alloc (by simp; omega) _).alloc (by simp; omega) _
  have q0 : Boxed w5 N 3 (.int .i64 (sz : Int)) := by rw [← h5, ← hN]; exact ((((Boxed.new w _ _).alloc _).alloc _).alloc _).alloc _
  have q1 : Boxed w5 (N + 1) 3 (.int .i64 ((0 : Nat) : Int)) := by
    have := (((Boxed.new (w.alloc (.cells #[.int .i64 (sz : Int)] 3)) 3 (.int .i64 0)).alloc (.cells #[.int .i64 0, .int .i64 0, .int .i64 0, .int .u32 0] 30)).alloc (.cells #[.int .i64 8192] 3)).alloc (.cells #[.int .i64 32768] 3)
    rw [h5, World.size_alloc, hN] at this; exact this
  have q2 : ClsAt w5 (N + 2) #[.int .i64 0, .int .i64 0, .int .i64 0, .int .u32 0] := by
    have e := World.alloc_heap_new ((w.alloc (.cells #[.int .i64 (sz : Int)] 3)).alloc (.cells #[.int .i64 0] 3)) (.cells #[.int .i64 0, .int .i64 0, .int .i64 0, .int .u32 0] 30)
    simp only [World.size_alloc, hN] at e
    rw [← h5]
    exact ((Below.heap_alloc _ _ _ (by simp only [World.size_alloc, hN]; omega)).trans (Below.heap_alloc _ _ _ (by simp only [World.size_alloc, hN]; omega))).trans e
  have q3 : Boxed w5 (N + 3) 3 (.int .i64 ((8192 : Nat) : Int)) := by
    have := (Boxed.new (((w.alloc (.cells #[.int .i64 (sz : Int)] 3)).alloc (.cells #[.int .i64 0] 3)).alloc (.cells #[.int .i64 0, .int .i64 0, .int .i64 0, .int .u32 0] 30)) 3 (.int .i64 8192)).alloc (.cells #[.int .i64 32768] 3)
    simp only [h5, World.size_alloc, hN] at this; exact this
  have q4 : Boxed w5 (N + 4) 3 (.int .i64 ((32768 : Nat) : Int)) := by
    have := Boxed.new ((((w.alloc (.cells #[.int .i64 (sz : Int)] 3)).alloc (.cells #[.int .i64 0] 3)).alloc (.cells #[.int .i64 0, .int .i64 0, .int .i64 0, .int .u32 0] 30)).alloc (.cells #[.int .i64 8192] 3)) 3 (.int .i64 32768)
    simp only [h5, World.size_alloc, hN] at this; exact this
  rw [h5, hN]
  clear h5
  have seq := iter_seq 8192 32768 (by omega) (by omega) (by omega) (by omega) (3 - 1) (N + 5) (N + 3) (N + 4) w5 (by omega) q3 q4
  have f0 : FI N w sz [] w5 := ⟨q0, q1, ⟨_, q2, rfl⟩, (fun c hc => by cases hc), b5⟩
  refine range_law (w := w5) rfl (enters_of Try.func27 (by kernel_rfl) rfl) seq keeps_t ?hKb (Below.refl _ _) (fun _ => rfl) (FI N w sz) (fun c pre W => c = .exit 0 ∧ FX N w sz pre W) ?hI ?hIx f0 ?round ?done ?stop
  case hKb =>
    intro W o' hl hr
    rw [s5] at hl hr ⊢
    refine keeps_of (Kept.put (F := fun b => b = N + 6) W (N + 5 + 1) o' rfl) (by omega) (by omega) (by omega) (by omega) ?_
    rintro b _ ⟨cs, h1, _⟩ rfl
    cases hr _ h1
  case hI =>
    intro s A A' h k
    rw [s5] at k
    exact h.kept k (fun b hb => by omega)
  case hIx =>
    rintro c s A o' ⟨rfl, h⟩ hl
    rw [s5] at hl ⊢
    exact ⟨rfl, h.kept (Kept.put (F := fun b => b = N + 6) A (N + 5 + 1) o' rfl) (fun b hb => by omega)⟩
  case round =>
    rintro pre x W ⟨r0, hr0⟩ _ h hlen
    rw [s5] at hr0 ⊢
    have hlen' : pre.length < 67 := by rw [← table_len]; exact hlen
    obtain ⟨cs, hc, hc4⟩ := h.c
    obtain ⟨a0, a1, a2, a3, rfl⟩ : ∃ a0 a1 a2 a3, cs = #[a0, a1, a2, a3] := by
      obtain ⟨l⟩ := cs
      match l, hc4 with
      | [a, b, c, d], _ => exact ⟨_, _, _, _, rfl⟩
    have x0 := cls_cell hc 0
    have x1 := cls_cell hc 1
    have x2 := cls_cell hc 2
    have x3 := cls_cell hc 3
    have y0 := cls_frozen hc 0
    have y1 := cls_frozen hc 1
    have y2 := cls_frozen hc 2
    have y3 := cls_frozen hc 3
    have H := hide h
    have HC := hide hc
    have HR0 := hide hr0
    clear h hc hr0 seq f0 q0 q1 q2 q3 q4 b5
    simp only [cv]
    gi_wp2_with fail
    have k1 : Kept (fun b => b = N + 2) W (set4 W (N + 2) (.int .i64 (x.size : Nat)) (.int .i64 (x.pages : Nat)) (.int .i64 (x.slots : Nat)) (.int .u32 (x.magic : Nat))) := kept_set4 W (N + 2) _ _ _ _ rfl
    refine ⟨keepsFrom_of k1 (fun b hb e => by omega), fun r => ?_⟩
    have c1 := cls_set4 HC.out rfl (.int .i64 (x.size : Nat)) (.int .i64 (x.pages : Nat)) (.int .i64 (x.slots : Nat)) (.int .u32 (x.magic : Nat))
    have k2 := Kept.put (F := fun b => b = N + 6) (set4 W (N + 2) (.int .i64 (x.size : Nat)) (.int .i64 (x.pages : Nat)) (.int .i64 (x.slots : Nat)) (.int .u32 (x.magic : Nat))) (N + 5 + 1) (.loop r) rfl
    obtain ⟨W2, hW2⟩ : ∃ W2, (set4 W (N + 2) (.int .i64 (x.size : Nat)) (.int .i64 (x.pages : Nat)) (.int .i64 (x.slots : Nat)) (.int .u32 (x.magic : Nat))).putObj (N + 5 + 1) (.loop r) = W2 := ⟨_, rfl⟩
    change Code.wpIn _ _ _ _ (bodyEnd _ _ _ _ _ _ ((set4 W (N + 2) (.int .i64 (x.size : Nat)) (.int .i64 (x.pages : Nat)) (.int .i64 (x.slots : Nat)) (.int .u32 (x.magic : Nat))).putObj (N + 5 + 1) (.loop r))) _ ((set4 W (N + 2) (.int .i64 (x.size : Nat)) (.int .i64 (x.pages : Nat)) (.int .i64 (x.slots : Nat)) (.int .u32 (x.magic : Nat))).putObj (N + 5 + 1) (.loop r))
    rw [hW2] at k2 ⊢
    have c2 : ClsAt W2 (N + 2) (cc x) := cls_kept c1 k2 (by omega)
    have n2 := boxed_kept (boxed_kept H.out.n k1 (by omega)) k2 (by omega)
    have m2 := boxed_kept (boxed_kept H.out.s k1 (by omega)) k2 (by omega)
    have K2 := hide ((k1.mono (G := fun b => b = N + 1 ∨ b = N + 2 ∨ b = N + 6) (fun b h => by omega)).trans (k2.mono (G := fun b => b = N + 1 ∨ b = N + 2 ∨ b = N + 6) (fun b h => by omega)) (fun _ _ h => h))
    have cn := n2.cell
    have fn := n2.frozen
    have cs := m2.cell
    have cx := cls_cell c2 0
    simp only [cc] at cx
    have C2 := hide c2
    have N2 := hide n2
    have M2 := hide m2
    have pl : (0 : Int) ≤ (pre.length : Int) := by omega
    have pm : (pre.length : Int) ≤ 67 := by omega
    clear c2 n2 m2 k1 k2 c1 hW2 x0 x1 x2 x3 y0 y1 y2 y3 hlen hlen'
    have fin : ∀ W3 : World, Kept (fun b => b = N + 1) W2 W3 → Boxed W3 (N + 1) 3 (.int .i64 ((pre ++ [x]).length : Nat)) →
        KeepsFrom (N + 5) W2 W3 ∧ Keeps (N + 5) (N + 3) (N + 4) W W3 ∧ Boxed W3 N 3 (.int .i64 (sz : Int)) ∧ ClsAt W3 (N + 2) (cc x) ∧ Below N w W3 := fun W3 k3 _ => by
      have k := K2.out.trans (k3.mono (G := fun b => b = N + 1 ∨ b = N + 2 ∨ b = N + 6) (fun b h => by omega)) (fun _ _ h => h)
      have hl := (Array.getElem?_eq_some_iff.1 HR0.out).1
      refine ⟨keepsFrom_of k3 (fun b hb e => by omega), keeps_of k (by omega) (by omega) (by omega) (by omega) ?_, boxed_kept M2.out k3 (by omega), cls_kept C2.out k3 (by omega), below_kept H.out.b k (fun b hb => by omega) (by omega)⟩
      intro b hb hx e
      rcases e with e | e | e
      · omega
      · omega
      · subst e; exact not_box HR0.out rfl hx
    have FIN := hide fin
    clear fin
    by_cases ht : sz ≤ x.size
    · have ht' : (sz : Int) ≤ (x.size : Int) := by omega
      gi_wp2_with fail
      have k3 := kept_set (F := fun b => b = N + 1) W2 (N + 1) 0 (.int .i64 ((pre.length : Int) + 1)) rfl
      have n3 : Boxed (W2.setCell ⟨N + 1, 0, none⟩ (.int .i64 ((pre.length : Int) + 1))) (N + 1) 3 (.int .i64 ((pre ++ [x]).length : Nat)) := by
        have := N2.out.set (.int .i64 ((pre.length : Int) + 1))
        rw [List.length_append, List.length_singleton, Int.natCast_add]
        exact this
      obtain ⟨g1, g2, g3, g4, g5⟩ := FIN.out _ k3 n3
      exact ⟨g1, rfl, g3, n3, ⟨pre, x, rfl, g4, H.out.small, ht⟩, g5⟩
    · have ht' : (x.size : Int) < (sz : Int) := by omega
      gi_wp2_with fail
      have k3 := kept_set (F := fun b => b = N + 1) W2 (N + 1) 0 (.int .i64 ((pre.length : Int) + 1)) rfl
      have n3 : Boxed (W2.setCell ⟨N + 1, 0, none⟩ (.int .i64 ((pre.length : Int) + 1))) (N + 1) 3 (.int .i64 ((pre ++ [x]).length : Nat)) := by
        have := N2.out.set (.int .i64 ((pre.length : Int) + 1))
        rw [List.length_append, List.length_singleton, Int.natCast_add]
        exact this
      obtain ⟨g1, g2, g3, g4, g5⟩ := FIN.out _ k3 n3
      refine ⟨g1, g2, g3, n3, ⟨_, g4, rfl⟩, fun c hc => ?_, g5⟩
      rcases List.mem_append.1 hc with h | h
      · exact H.out.small c h
      · simp at h; subst h; omega
  case done =>
    rintro xs W rfl h hd
    exfalso
    have hl : ∃ c ∈ table, 32768 ≤ c.size := table_last
    obtain ⟨c, hc, hz⟩ := hl
    have := h.small c hc
    omega
  case stop =>
    rintro c pre W hpre ⟨rfl, h⟩ hd
    rw [s5] at hd ⊢
    obtain ⟨p, c, rfl, hc, hsm, hz⟩ := h.c
    have n2 := h.n
    have cn := n2.cell
    have fn := n2.frozen
    have x0 := cls_cell hc 0
    have x1 := cls_cell hc 1
    have x2 := cls_cell hc 2
    have x3 := cls_cell hc 3
    have y0 := cls_frozen hc 0
    have y1 := cls_frozen hc 1
    have y2 := cls_frozen hc 2
    have y3 := cls_frozen hc 3
    simp only [cc] at x0 x1 x2 x3
    have H := hide h
    have HC := hide hc
    have HD := hide hd
    clear h hc hd seq f0 q0 q1 q2 q3 q4 b5 n2
    gi_wp2_with fail
    gi_region
    have n3 := H.out.n.set (.int .i64 (((p ++ [c]).length : Nat) : Int))
    have k3 := kept_set (F := fun b => b = N + 1 ∨ b = N + 2) W (N + 1) 0 (.int .i64 (((p ++ [c]).length : Nat) : Int)) (.inl rfl)
    have c3 := cls_kept HC.out (kept_set (F := fun b => b = N + 1) W (N + 1) 0 (.int .i64 (((p ++ [c]).length : Nat) : Int)) rfl) (by omega)
    have k4 := kept_set4 (F := fun b => b = N + 1 ∨ b = N + 2) (W.setCell ⟨N + 1, 0, none⟩ (.int .i64 (((p ++ [c]).length : Nat) : Int))) (N + 2) (.int .i64 (c.size : Nat)) (.int .i64 (c.pages : Nat)) (.int .i64 (c.slots : Nat)) (.int .u32 (c.magic : Nat)) (.inr rfl)
    have n4 := boxed_kept n3 (kept_set4 (F := fun b => b = N + 2) (W.setCell ⟨N + 1, 0, none⟩ (.int .i64 (((p ++ [c]).length : Nat) : Int))) (N + 2) (.int .i64 (c.size : Nat)) (.int .i64 (c.pages : Nat)) (.int .i64 (c.slots : Nat)) (.int .u32 (c.magic : Nat)) rfl) (by omega)
    have c4 : ClsAt _ (N + 2) (cc c) := cls_set4 c3 rfl (.int .i64 (c.size : Nat)) (.int .i64 (c.pages : Nat)) (.int .i64 (c.slots : Nat)) (.int .u32 (c.magic : Nat))
    have k5 := k3.trans k4 (fun _ _ h => h)
    obtain ⟨Wf, hWf⟩ : ∃ Wf, (set4 (W.setCell ⟨N + 1, 0, none⟩ (.int .i64 (((p ++ [c]).length : Nat) : Int))) (N + 2) (.int .i64 (c.size : Nat)) (.int .i64 (c.pages : Nat)) (.int .i64 (c.slots : Nat)) (.int .u32 (c.magic : Nat))).drew = Wf := ⟨_, rfl⟩
    have e1 : (((p ++ [c]).length : Nat) : Int) = (p.length : Int) + 1 := by rw [List.length_append, List.length_singleton, Int.natCast_add]; rfl
    have n5 : Boxed Wf (N + 1) 3 (.int .i64 ((p.length : Int) + 1)) := by rw [← hWf, ← e1]; exact n4
    have c5 : ClsAt Wf (N + 2) (cc c) := by rw [← hWf]; exact c4
    have d5 : Wf.heap[N + 5]? = some (.deferred (some [])) := by rw [← hWf]; exact kept_at k5 HD.out (by omega)
    have b5 : Below N w Wf := by rw [← hWf]; exact (below_kept H.out.b k5 (fun b hb => by omega) (by have := box_lt H.out.s; omega)).drew
    rw [e1] at hWf
    change Exit.then _ _ Exit.normal _ ((set4 (W.setCell ⟨N + 1, 0, none⟩ (.int .i64 ((p.length : Int) + 1))) (N + 2) (.int .i64 (c.size : Nat)) (.int .i64 (c.pages : Nat)) (.int .i64 (c.slots : Nat)) (.int .u32 (c.magic : Nat))).drew)
    rw [hWf]
    clear hWf n3 k3 c3 k4 n4 c4 k5 e1 H HC HD cn fn x0 x1 x2 x3 y0 y1 y2 y3
    have D5 := hide d5
    have k6 := Kept.put (F := fun b => b = N + 5) Wf (N + 5) (.deferred none) rfl
    have r1 := (boxed_kept n5 k6 (by omega)).cell
    have c6 := cls_kept c5 k6 (by omega)
    have x0 := cls_cell c6 0
    have x1 := cls_cell c6 1
    have x2 := cls_cell c6 2
    have x3 := cls_cell c6 3
    simp only [cc] at x0 x1 x2 x3
    have B6 := hide (below_kept b5 k6 (fun b hb => by omega) (by have := box_lt n5; omega))
    clear d5 k6 c6 n5 c5 b5
    gi_wp2_with fail
    refine ⟨by simp, .inl ⟨_, _, rfl, run_takeDeferred D5.out, ?_⟩⟩
    refine ⟨.tuple #[.int .i64 ((p.length : Int) + 1), cv c], ?_, p, c, hpre, hsm, hz, by rw [Int.natCast_add]; rfl, ?_⟩
    · simp at x0 x1 x2 x3
      simp [results, Try.results23, go_sem, cv, Nat.add_assoc, r1, x0, x1, x2, x3, Result.andThen]
    · rw [hN]; exact B6.out
end Go.Proofs.Ytamkjodfjdhhmaa
