/- J26 of the proof of both laws: texts RefWb, RefX, one behind the other. -/
import Derived.Test.YtlfcnaalkjpgnaaJ25
/- The reference of chapter 3, as a face: Zero. -/
namespace Go.Proofs.Ytlfcnaalkjpgnaa
open Go.ChangeShapes Go.WideShapes Go.ChangeAt Go.RowKit Go.Proofs.Sp
set_option linter.unusedVariables false
set_option linter.unusedSimpArgs false

variable {w : World} {m : Nat}
set_option maxRecDepth 100000 in
theorem zero_askew (a b : Int) (ha : 0 ≤ a) (hb : 0 ≤ b) (h : a % 8 ≠ 0 ∨ b % 8 ≠ 0) :
    Calls Try.prog 27 #[.pointer (some ⟨m, 0, none⟩), .int .u64 a, .int .u64 b] w fun e w' => e = .returned (.int .i64 11) ∧ w' = w := by
  by_cases h1 : a % 8 = 0
  · have y0 : (a % 8 != 0) = false := by rw [h1]; rfl
    have y1 : (b % 8 != 0) = true := bne_iff_ne.2 (by omega)
    clear h h1
    go_enter Try.func27, Try.ntmps27
    go_wp2_with fail
    go_ret
    exact ⟨rfl, rfl⟩
  · have y0 : (a % 8 != 0) = true := bne_iff_ne.2 h1
    clear h h1
    go_enter Try.func27, Try.ntmps27
    go_wp2_with fail
    go_ret
    exact ⟨rfl, rfl⟩
set_option maxRecDepth 100000 in
theorem zero_none (a : Int) (ha : 0 ≤ a) (h : a % 8 = 0) :
    Calls Try.prog 27 #[.pointer (some ⟨m, 0, none⟩), .int .u64 a, .int .u64 0] w fun e w' => e = .returned (.int .i64 0) ∧ w' = w := by
  have y0 : (a % 8 != 0) = false := by rw [h]; rfl
  clear h
  go_enter Try.func27, Try.ntmps27
  go_wp2_with fail
  go_ret
  exact ⟨rfl, rfl⟩
set_option maxRecDepth 100000 in
theorem zero_far (a b : Int) (ha : 0 ≤ a) (hb : 0 < b) (ha8 : a % 8 = 0) (hb8 : b % 8 = 0) (h : 281474976710656 < a + b) :
    Calls Try.prog 27 #[.pointer (some ⟨m, 0, none⟩), .int .u64 a, .int .u64 b] w fun e w' => e = .returned (.int .i64 12) ∧ w' = w := by
  have y0 : (a % 8 != 0) = false := by rw [ha8]; rfl
  have y1 : (b % 8 != 0) = false := by rw [hb8]; rfl
  have y2 : (b == 0) = false := beq_eq_false_iff_ne.2 (by omega)
  by_cases h1 : 281474976710656 ≤ a
  · go_enter Try.func27, Try.ntmps27
    go_wp2_with fail
    go_ret
    exact ⟨rfl, rfl⟩
  · have y4 : 281474976710656 - a < b := by omega
    go_enter Try.func27, Try.ntmps27
    go_wp2_with fail
    go_ret
    exact ⟨rfl, rfl⟩
/-- A row that is ready lies within the space. -/
theorem ready_near {S : Sp} (h : WF S) {A B : Nat} (hB : 0 < B) (hr : allReady S A B) : A + B ≤ 281474976710656 := by
  have h1 := hr ((A + B - 1) / 8192 - A / 8192) (by omega)
  have h2 := h.below _ ((h.mem _).1 (by rw [h1]; decide))
  omega
/-- Zero, of rows that are not too great where they are ready. -/
theorem RI.zero {w : World} {m : Addr} {S : Sp} {F : Nat → Prop} {K : Nat} (a b : Int) (ha : two64 a) (hb : two64 b) (h : RI w m S F K) (hK : K ≤ 1000000000000) (hB : b ≤ 1073741824 ∨ ¬ allReady S a.toNat b.toNat) :
    Calls Try.prog rf.zero #[.pointer (some m), .int .u64 a, .int .u64 b] w fun e w' => e = .returned (.int .i64 ((zeroS S a.toNat b.toNat).1 : Nat)) ∧
      Step RI F w w' m (zeroS S a.toNat b.toNat).2 (K + cost (zeroS S a.toNat b.toNat).1 b.toNat) := by
  have h' := h
  obtain ⟨m, fl, ws, v0, v1, v2, o3, c3, o4, c4, rfl, h, ap, hF, hl, k1, k2, p1, p2⟩ := h
  unfold two64 at ha hb
  by_cases h8 : a.toNat % 8 ≠ 0 ∨ b.toNat % 8 ≠ 0
  · rw [zero_align h8]
    refine (zero_askew (w := w) (m := m) a b ha.1 hb.1 (by omega)).mono fun e w' ⟨he, hw⟩ => ⟨he, ?_⟩
    rw [hw]
    exact step_more (h'.below (Below.refl _ _)) (Nat.le_add_right _ _)
  · by_cases b0 : b = 0
    · subst b0
      have e : zeroS S a.toNat (0 : Int).toNat = (0, S) := by unfold zeroS; rw [if_neg h8, if_pos (show (0 : Int).toNat = 0 from rfl)]
      rw [e]
      refine (zero_none (w := w) (m := m) a ha.1 (by omega)).mono fun e w' ⟨he, hw⟩ => ⟨he, ?_⟩
      rw [hw]
      exact step_more (h'.below (Below.refl _ _)) (Nat.le_add_right _ _)
    · have e1 : ((a + b - 1) / 8192 - a / 8192 + 1).toNat = (a.toNat + b.toNat - 1) / 8192 - a.toNat / 8192 + 1 := by omega
      have e2 : (a / 8192).toNat = a.toNat / 8192 := by omega
      by_cases hr : allReady S a.toNat b.toNat
      · have hnear := ready_near h.wf (by omega) hr
        rw [zero_ok (by omega) (by omega) (fun _ => hr)]
        have hB' : b ≤ 1073741824 := hB.resolve_right (fun z => z hr)
        obtain ⟨g, rfl⟩ : ∃ g, o3 = some ⟨g, 0, none⟩ := by
          obtain ⟨_, hh | ⟨g, cap, cur, hv, _⟩⟩ := h.own3
          · exfalso
            have := (h.wf.mem _).1 (by rw [hr 0 (by omega)]; decide)
            have := List.length_pos_of_mem this
            omega
          · exact ⟨g, by injection hv⟩
        refine (zero_good g h ap a b ha.1 (by omega) (by omega) (by omega) (by omega) (by omega) (by omega) hB' (by rw [e1, e2]; exact hr)).mono fun e w' hz => ?_
        obtain ⟨he, ws', o4', c4', r1, r2, r3, r4, r5⟩ := hz
        exact ⟨he, RI.land hF r1 r2 r3 r4 (Nat.le_trans k1 (Nat.le_add_right _ _)) (by show ws'.length ≤ K + (b.toNat + 1); omega) p1 p2⟩
      · rw [zero_fault (by omega) (by omega) (by omega) hr]
        by_cases far : 281474976710656 < a + b
        · refine (zero_far (w := w) (m := m) a b ha.1 (by omega) (by omega) (by omega) far).mono fun e w' ⟨he, hw⟩ => ⟨he, ?_⟩
          rw [hw]
          exact step_more (h'.below (Below.refl _ _)) (Nat.le_add_right _ _)
        · refine (zero_faults h (h.lt m (Or.inl rfl)) (fun x hx => h.lt x (Or.inr (Or.inr (Or.inr (Or.inr (Or.inl hx)))))) a b ha.1 (by omega) (by omega) (by omega) (by omega) (by omega) (by rw [e1, e2]; exact hr)).mono fun e w' ⟨he, hbel⟩ => ⟨he, step_more (h'.below hbel) (Nat.le_add_right _ _)⟩
end Go.Proofs.Ytlfcnaalkjpgnaa

/- The reference of chapter 3: three lists copied in one statement, in whatever order; New: its contract. -/
namespace Go.Proofs.Ytlfcnaalkjpgnaa
open Go.ChangeShapes Go.WideShapes Go.ChangeAt Go.RowKit Go.Proofs.Sp Go.Maps
set_option linter.unusedVariables false
set_option linter.unusedSimpArgs false

theorem step_build {w : World} {ops : Array Oper} {o : Oper} {a : Act} {K : Act → World → Prop} {Q : Exit → Act → World → Prop} {E : Prop} (hgd : o.guard = none) (d : Tmp) (hd : o.dst = some d) (t e : TypeId)
    (ho : o.op = .buildSlice t 0 #[]) (hr : ∀ w : World, (Instr.buildSlice t 0 #[]).run Try.prog w = .ok (.slice (some ⟨w.heap.size, 0, none⟩) 0 0) (w.alloc (.cells #[] e))) (h : K (a.put o.dst (.slice (some ⟨w.heap.size, 0, none⟩) 0 0)) (w.alloc (.cells #[] e))) :
    if Region.wanted o (yielded ops a.tmps) = true then Oper.wp Try.prog o a w K Q else E := by
  have hw : Region.wanted o (yielded ops a.tmps) = true := by simp [Region.wanted, hgd]
  rw [if_pos hw]
  unfold Oper.wp execOp
  simp only [ho, Sem.run_bind, Sem.run_pure, Result.andThen_ok, List.map_toArray, List.map_nil, hr]
  exact h
theorem build_u (w : World) : (Instr.buildSlice 22 0 #[]).run Try.prog w = .ok (.slice (some ⟨w.heap.size, 0, none⟩) 0 0) (w.alloc (.cells #[] 33)) := by kernel_rfl
theorem build_b (w : World) : (Instr.buildSlice 23 0 #[]).run Try.prog w = .ok (.slice (some ⟨w.heap.size, 0, none⟩) 0 0) (w.alloc (.cells #[] 4)) := by kernel_rfl

/-- Three rows of our own behind W, each begun or not, filled or not. -/
structure Gs (W Y : World) (v0 : Value) (n0 : Nat) (x0 : List Value) (v1 : Value) (n1 : Nat) (x1 : List Value) (v2 : Value) (n2 : Nat) (x2 : List Value) : Prop where
  be : Below W.heap.size W Y
  o0 : Y.ownsRow W.heap.size 33 1 v0 n0 x0
  o1 : Y.ownsRow W.heap.size 4 1 v1 n1 x1
  o2 : Y.ownsRow W.heap.size 33 1 v2 n2 x2
  d01 : ∀ b, v0.ownBlock = some b → v1.ownBlock ≠ some b
  d02 : ∀ b, v0.ownBlock = some b → v2.ownBlock ≠ some b
  d12 : ∀ b, v1.ownBlock = some b → v2.ownBlock ≠ some b
theorem owns_nil (w : World) (base : Nat) (e : TypeId) : w.ownsRow base e 1 (.slice none 0 0) 0 [] := ⟨rfl, Or.inl ⟨rfl, rfl⟩⟩
theorem Gs.start (W : World) : Gs W W.drew (.slice none 0 0) 0 [] (.slice none 0 0) 0 [] (.slice none 0 0) 0 [] :=
  ⟨⟨rfl, rfl, rfl, Nat.le_refl _, fun _ _ => rfl⟩, owns_nil _ _ _, owns_nil _ _ _, owns_nil _ _ _, (fun b h => by cases h), (fun b h => by cases h), (fun b h => by cases h)⟩
theorem owns_ltB {w : World} {base n : Nat} {e : TypeId} {v : Value} {xs : List Value} (h : w.ownsRow base e 1 v n xs) {b : Nat} (hb : v.ownBlock = some b) : base ≤ b ∧ b < w.heap.size := by
  obtain ⟨_, ⟨rfl, _⟩ | ⟨g, cap, cur, rfl, h1, h2, _⟩⟩ := h
  · cases hb
  · cases hb; exact ⟨h1, (Array.getElem?_eq_some_iff.1 h2).1⟩
theorem owns_frame {w w' : World} {base n : Nat} {e : TypeId} {v : Value} {xs : List Value} (h : w.ownsRow base e 1 v n xs) (hk : ∀ b, v.ownBlock = some b → w'.heap[b]? = w.heap[b]?) : w'.ownsRow base e 1 v n xs := by
  obtain ⟨hl, h | ⟨g, cap, cur, rfl, h1, h2, h3⟩⟩ := h
  · exact ⟨hl, Or.inl h⟩
  · exact ⟨hl, Or.inr ⟨g, cap, cur, rfl, h1, (hk g rfl).trans h2, h3⟩⟩
theorem owns_new {w : World} {base : Nat} (e : TypeId) (hb : base ≤ w.heap.size) : (w.alloc (.cells #[] e)).ownsRow base e 1 (.slice (some ⟨w.heap.size, 0, none⟩) 0 0) 0 [] :=
  ⟨rfl, Or.inr ⟨w.heap.size, 0, #[], rfl, hb, by show (w.heap.push _)[w.heap.size]? = _; simp, Nat.le_refl _, Nat.zero_le _, rfl, rfl⟩⟩
theorem alloc_old (w : World) (o : Obj) {b : Nat} (h : b < w.heap.size) : (w.alloc o).heap[b]? = w.heap[b]? := by
  show (w.heap.push o)[b]? = _
  rw [Array.getElem?_push, if_neg (by omega)]
theorem ownB_of {B : Nat} {c : Nat} {n : Nat} : (Value.slice (some ⟨B, 0, none⟩) n c).ownBlock = some B := rfl
/-- A row that was empty, with a list laid behind. -/
theorem app_fresh {Y : World} {base : Nat} {t e : TypeId} {z : Value} {by_ : Nat} (ht : Try.prog.underlying t = some (.slice e)) (hinfo : (Try.prog.info? e).map (fun i => (i.zero, i.size, i.bytes)) = some (some z, 1, by_)) (hz : z.cells.size = 1) (hby : by_ ≤ 8) (ty : TypeId)
    {v : Value} (own : Y.ownsRow base e 1 v 0 []) (hne : v ≠ .slice none 0 0) (hb : base ≤ Y.heap.size) {u : Value} {zs : List Value} (h : Sl Y u zs) (hl : zs.length ≤ 1048576) (h1 : ∀ v ∈ zs, v.oneCell' = true) :
    ∃ v' Y', (Builtin.append_ #[t, t] ty #[v, u]).run Try.prog Y = .ok v' Y' ∧ Y'.ownsRow base e 1 v' zs.length zs ∧ Y.grownBy Y' v.ownBlock ∧ (v'.ownBlock = v.ownBlock ∨ v'.ownBlock = some Y.heap.size) := by
  obtain ⟨i0, hi0, hz0, hz1, hz2⟩ := info_parts hinfo
  rcases h with ⟨rfl, rfl⟩ | ⟨b, off, cap, rfl, hc, hbl, hx⟩
  · have hr := run_append_owned_none (P := Try.prog) (w := Y) base t ty e i0 1 ht hi0 _ 0 [] own
    exact ⟨_, _, hr, own, ⟨rfl, rfl, rfl, Nat.le_refl _, fun _ _ _ => rfl⟩, .inl rfl⟩
  · obtain ⟨v', w2, hr, hown, hg, _, ho⟩ := run_append_own_at (P := Try.prog) Y base t ty e i0 _ 1 by_ ht hi0 hz0 hz1 hz2 hz (by decide) _ 0 [] own ⟨b, off, none⟩ zs.length cap zs (by rw [Nat.mul_one]) (fun j u hu => by rw [addr_add]; exact hx j u hu) h1 (by unfold maxLen; omega) (by
      have : (0 + zs.length) * by_ ≤ 1048576 * 8 := Nat.mul_le_mul (by omega) hby
      omega) hb
    rw [List.nil_append, Nat.zero_add] at hown
    exact ⟨v', w2, hr, hown, hg, ho⟩
theorem Gs.make0 {W Y : World} {v1 v2 : Value} {n1 n2 : Nat} {x1 x2 : List Value} (h : Gs W Y (.slice none 0 0) 0 [] v1 n1 x1 v2 n2 x2) : Gs W (Y.alloc (.cells #[] 33)) (.slice (some ⟨Y.heap.size, 0, none⟩) 0 0) 0 [] v1 n1 x1 v2 n2 x2 :=
  ⟨h.be.alloc h.be.size _, owns_new 33 h.be.size, owns_frame h.o1 (fun b hb => alloc_old _ _ (owns_ltB h.o1 hb).2), owns_frame h.o2 (fun b hb => alloc_old _ _ (owns_ltB h.o2 hb).2), (fun b hb hc => by cases hb; exact absurd (owns_ltB h.o1 hc).2 (Nat.lt_irrefl _)), (fun b hb hc => by cases hb; exact absurd (owns_ltB h.o2 hc).2 (Nat.lt_irrefl _)), h.d12⟩
theorem Gs.app0 {W Y : World} {v0 v1 v2 : Value} {n1 n2 : Nat} {x1 x2 : List Value} (h : Gs W Y v0 0 [] v1 n1 x1 v2 n2 x2) (hne : v0 ≠ .slice none 0 0) {u : Value} {zs : List Value} (hs : Sl W u zs) (hl : zs.length ≤ 1048576) (h1 : ∀ v ∈ zs, v.oneCell' = true) (ty : TypeId) :
    ∃ o c Y', (Builtin.append_ #[22, 22] ty #[v0, u]).run Try.prog Y = .ok (.slice o zs.length c) Y' ∧ Gs W Y' (.slice o zs.length c) zs.length zs v1 n1 x1 v2 n2 x2 := by
  obtain ⟨v', Y', hr, ho, hg, hb⟩ := app_fresh Try.underlying22 infoU8 rfl (by decide) ty h.o0 hne h.be.size (hs.low h.be) hl h1
  obtain ⟨o, c, rfl, _⟩ := pg_shape ho
  have hblk : ∀ b, (Value.slice o zs.length c).ownBlock = some b → v0.ownBlock = some b ∨ b = Y.heap.size := fun b e => by
    rcases hb with hb | hb
    · left; exact hb.symm.trans e
    · right; exact (Option.some.inj (hb.symm.trans e)).symm
  refine ⟨o, c, Y', hr, h.be.grown hg h.be.size (fun k hk => (owns_ltB h.o0 hk).1), ho, owns_frame h.o1 (fun b e => hg.block b (owns_ltB h.o1 e).2 (fun z => h.d01 b z.symm e)), owns_frame h.o2 (fun b e => hg.block b (owns_ltB h.o2 e).2 (fun z => h.d02 b z.symm e)), (fun b hb hc => by rcases hblk b hb with z | z; exact h.d01 b z hc; have := (owns_ltB h.o1 hc).2; omega), (fun b hb hc => by rcases hblk b hb with z | z; exact h.d02 b z hc; have := (owns_ltB h.o2 hc).2; omega), h.d12⟩
theorem Gs.sapp0 {W Y : World} {v0 v1 v2 : Value} {n1 n2 : Nat} {x1 x2 : List Value} (h : Gs W Y v0 0 [] v1 n1 x1 v2 n2 x2) (hne : v0 ≠ .slice none 0 0) {u : Value} {zs : List Value} (hs : Sl W u zs) (hl : zs.length ≤ 1048576) (h1 : ∀ v ∈ zs, v.oneCell' = true) {ops : Array Oper} {o : Oper} {a : Act} {K : Act → World → Prop} {Q : Exit → Act → World → Prop} {E : Prop} (hgd : o.guard = none) (s x : Operand)
    (ho : o.op = .call { callee := .builtin .append, args := #[s, x], argTypes := #[22, 22] }) (es : a.eval s = v0) (ex : a.eval x = u) (hK : ∀ (o' : Option Addr) (c : Nat) (Y' : World), Gs W Y' (.slice o' zs.length c) zs.length zs v1 n1 x1 v2 n2 x2 → K (a.put o.dst (.slice o' zs.length c)) Y') :
    if Region.wanted o (yielded ops a.tmps) = true then Oper.wp Try.prog o a Y K Q else E := by
  obtain ⟨o', c, Y', hr, g⟩ := h.app0 hne hs hl h1 o.type
  exact step_append_run hgd s x 22 ho es ex hr (hK o' c Y' g)
theorem Gs.make1 {W Y : World} {v0 v2 : Value} {n0 n2 : Nat} {x0 x2 : List Value} (h : Gs W Y v0 n0 x0 (.slice none 0 0) 0 [] v2 n2 x2) : Gs W (Y.alloc (.cells #[] 4)) v0 n0 x0 (.slice (some ⟨Y.heap.size, 0, none⟩) 0 0) 0 [] v2 n2 x2 :=
  ⟨h.be.alloc h.be.size _, owns_frame h.o0 (fun b hb => alloc_old _ _ (owns_ltB h.o0 hb).2), owns_new 4 h.be.size, owns_frame h.o2 (fun b hb => alloc_old _ _ (owns_ltB h.o2 hb).2), (fun b hb hc => by cases hc; exact absurd (owns_ltB h.o0 hb).2 (Nat.lt_irrefl _)), h.d02, (fun b hb hc => by cases hb; exact absurd (owns_ltB h.o2 hc).2 (Nat.lt_irrefl _))⟩
theorem Gs.app1 {W Y : World} {v0 v1 v2 : Value} {n0 n2 : Nat} {x0 x2 : List Value} (h : Gs W Y v0 n0 x0 v1 0 [] v2 n2 x2) (hne : v1 ≠ .slice none 0 0) {u : Value} {zs : List Value} (hs : Sl W u zs) (hl : zs.length ≤ 1048576) (h1 : ∀ v ∈ zs, v.oneCell' = true) (ty : TypeId) :
    ∃ o c Y', (Builtin.append_ #[23, 23] ty #[v1, u]).run Try.prog Y = .ok (.slice o zs.length c) Y' ∧ Gs W Y' v0 n0 x0 (.slice o zs.length c) zs.length zs v2 n2 x2 := by
  obtain ⟨v', Y', hr, ho, hg, hb⟩ := app_fresh Try.underlying23 infoB1 rfl (by decide) ty h.o1 hne h.be.size (hs.low h.be) hl h1
  obtain ⟨o, c, rfl, _⟩ := pg_shape ho
  have hblk : ∀ b, (Value.slice o zs.length c).ownBlock = some b → v1.ownBlock = some b ∨ b = Y.heap.size := fun b e => by
    rcases hb with hb | hb
    · left; exact hb.symm.trans e
    · right; exact (Option.some.inj (hb.symm.trans e)).symm
  refine ⟨o, c, Y', hr, h.be.grown hg h.be.size (fun k hk => (owns_ltB h.o1 hk).1), owns_frame h.o0 (fun b e => hg.block b (owns_ltB h.o0 e).2 (fun z => h.d01 b e z.symm)), ho, owns_frame h.o2 (fun b e => hg.block b (owns_ltB h.o2 e).2 (fun z => h.d12 b z.symm e)), (fun b hb hc => by rcases hblk b hc with z | z; exact h.d01 b hb z; have := (owns_ltB h.o0 hb).2; omega), h.d02, (fun b hb hc => by rcases hblk b hb with z | z; exact h.d12 b z hc; have := (owns_ltB h.o2 hc).2; omega)⟩
theorem Gs.sapp1 {W Y : World} {v0 v1 v2 : Value} {n0 n2 : Nat} {x0 x2 : List Value} (h : Gs W Y v0 n0 x0 v1 0 [] v2 n2 x2) (hne : v1 ≠ .slice none 0 0) {u : Value} {zs : List Value} (hs : Sl W u zs) (hl : zs.length ≤ 1048576) (h1 : ∀ v ∈ zs, v.oneCell' = true) {ops : Array Oper} {o : Oper} {a : Act} {K : Act → World → Prop} {Q : Exit → Act → World → Prop} {E : Prop} (hgd : o.guard = none) (s x : Operand)
    (ho : o.op = .call { callee := .builtin .append, args := #[s, x], argTypes := #[23, 23] }) (es : a.eval s = v1) (ex : a.eval x = u) (hK : ∀ (o' : Option Addr) (c : Nat) (Y' : World), Gs W Y' v0 n0 x0 (.slice o' zs.length c) zs.length zs v2 n2 x2 → K (a.put o.dst (.slice o' zs.length c)) Y') :
    if Region.wanted o (yielded ops a.tmps) = true then Oper.wp Try.prog o a Y K Q else E := by
  obtain ⟨o', c, Y', hr, g⟩ := h.app1 hne hs hl h1 o.type
  exact step_append_run hgd s x 23 ho es ex hr (hK o' c Y' g)
theorem Gs.make2 {W Y : World} {v0 v1 : Value} {n0 n1 : Nat} {x0 x1 : List Value} (h : Gs W Y v0 n0 x0 v1 n1 x1 (.slice none 0 0) 0 []) : Gs W (Y.alloc (.cells #[] 33)) v0 n0 x0 v1 n1 x1 (.slice (some ⟨Y.heap.size, 0, none⟩) 0 0) 0 [] :=
  ⟨h.be.alloc h.be.size _, owns_frame h.o0 (fun b hb => alloc_old _ _ (owns_ltB h.o0 hb).2), owns_frame h.o1 (fun b hb => alloc_old _ _ (owns_ltB h.o1 hb).2), owns_new 33 h.be.size, h.d01, (fun b hb hc => by cases hc; exact absurd (owns_ltB h.o0 hb).2 (Nat.lt_irrefl _)), (fun b hb hc => by cases hc; exact absurd (owns_ltB h.o1 hb).2 (Nat.lt_irrefl _))⟩
theorem Gs.app2 {W Y : World} {v0 v1 v2 : Value} {n0 n1 : Nat} {x0 x1 : List Value} (h : Gs W Y v0 n0 x0 v1 n1 x1 v2 0 []) (hne : v2 ≠ .slice none 0 0) {u : Value} {zs : List Value} (hs : Sl W u zs) (hl : zs.length ≤ 1048576) (h1 : ∀ v ∈ zs, v.oneCell' = true) (ty : TypeId) :
    ∃ o c Y', (Builtin.append_ #[22, 22] ty #[v2, u]).run Try.prog Y = .ok (.slice o zs.length c) Y' ∧ Gs W Y' v0 n0 x0 v1 n1 x1 (.slice o zs.length c) zs.length zs := by
  obtain ⟨v', Y', hr, ho, hg, hb⟩ := app_fresh Try.underlying22 infoU8 rfl (by decide) ty h.o2 hne h.be.size (hs.low h.be) hl h1
  obtain ⟨o, c, rfl, _⟩ := pg_shape ho
  have hblk : ∀ b, (Value.slice o zs.length c).ownBlock = some b → v2.ownBlock = some b ∨ b = Y.heap.size := fun b e => by
    rcases hb with hb | hb
    · left; exact hb.symm.trans e
    · right; exact (Option.some.inj (hb.symm.trans e)).symm
  refine ⟨o, c, Y', hr, h.be.grown hg h.be.size (fun k hk => (owns_ltB h.o2 hk).1), owns_frame h.o0 (fun b e => hg.block b (owns_ltB h.o0 e).2 (fun z => h.d02 b e z.symm)), owns_frame h.o1 (fun b e => hg.block b (owns_ltB h.o1 e).2 (fun z => h.d12 b e z.symm)), ho, h.d01, (fun b hb hc => by rcases hblk b hc with z | z; exact h.d02 b hb z; have := (owns_ltB h.o0 hb).2; omega), (fun b hb hc => by rcases hblk b hc with z | z; exact h.d12 b hb z; have := (owns_ltB h.o1 hb).2; omega)⟩
theorem Gs.sapp2 {W Y : World} {v0 v1 v2 : Value} {n0 n1 : Nat} {x0 x1 : List Value} (h : Gs W Y v0 n0 x0 v1 n1 x1 v2 0 []) (hne : v2 ≠ .slice none 0 0) {u : Value} {zs : List Value} (hs : Sl W u zs) (hl : zs.length ≤ 1048576) (h1 : ∀ v ∈ zs, v.oneCell' = true) {ops : Array Oper} {o : Oper} {a : Act} {K : Act → World → Prop} {Q : Exit → Act → World → Prop} {E : Prop} (hgd : o.guard = none) (s x : Operand)
    (ho : o.op = .call { callee := .builtin .append, args := #[s, x], argTypes := #[22, 22] }) (es : a.eval s = v2) (ex : a.eval x = u) (hK : ∀ (o' : Option Addr) (c : Nat) (Y' : World), Gs W Y' v0 n0 x0 v1 n1 x1 (.slice o' zs.length c) zs.length zs → K (a.put o.dst (.slice o' zs.length c)) Y') :
    if Region.wanted o (yielded ops a.tmps) = true then Oper.wp Try.prog o a Y K Q else E := by
  obtain ⟨o', c, Y', hr, g⟩ := h.app2 hne hs hl h1 o.type
  exact step_append_run hgd s x 22 ho es ex hr (hK o' c Y' g)
end Go.Proofs.Ytlfcnaalkjpgnaa
