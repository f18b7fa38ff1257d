/- J24 of the proof of both laws: texts RefS, RefT, RefU, one behind the other. -/
import Derived.Test.YtlfcnaalkjpgnaaJ23
import Derived.Deep.RegionHeld3
/- The reference of chapter 3, as a face: Reserve. -/
namespace Go.Proofs.Ytlfcnaalkjpgnaa
open Go.ChangeShapes Go.WideShapes Go.ChangeAt Go.RowKit Go.Proofs.Sp
set_option linter.unusedVariables false
set_option linter.unusedSimpArgs false

set_option maxRecDepth 100000 in
theorem reserve_bad {w : World} {m : Nat} (a c : Int) (hc : 0 ≤ c) (hb : c = 0 ∨ c % 512 ≠ 0 ∨ 134217728 < c) :
    Calls Try.prog 17 #[.pointer (some ⟨m, 0, none⟩), .int .u64 a, .int .u64 c] w fun e w' => e = .returned (.tuple #[.int .u64 0, .int .i64 1]) ∧ w' = w := by
  by_cases h0 : c = 0
  · have y0 : (c == 0) = true := by simp [h0]
    clear h0 hb
    go_enter Try.func17, Try.ntmps17
    go_wp2_with fail
    go_ret2
    exact ⟨rfl, rfl⟩
  · have y0 : (c == 0) = false := beq_eq_false_iff_ne.2 h0
    by_cases h1 : c % 512 = 0
    · have y1 : (c % 512 != 0) = false := by rw [h1]; rfl
      have y3 : 134217728 < c := by omega
      have y2 : decide (134217728 < c) = true := decide_eq_true y3
      clear h0 h1 hb
      go_enter Try.func17, Try.ntmps17
      go_wp2_with fail
      go_ret2
      exact ⟨rfl, rfl⟩
    · have y1 : (c % 512 != 0) = true := bne_iff_ne.2 h1
      clear h0 h1 hb
      go_enter Try.func17, Try.ntmps17
      go_wp2_with fail
      go_ret2
      exact ⟨rfl, rfl⟩
variable {w : World} {m : Nat} {S : Sp} {fl : Nat → Nat} {ws : List (Nat × Nat)} {v0 v1 v2 : Value} {o3 : Option Addr} {c3 : Nat} {o4 : Option Addr} {c4 : Nat}
set_option maxRecDepth 100000 in
theorem reserve_refused (h : RefC w m S fl ws v0 v1 v2 o3 c3 o4 c4) (ap : Apart m v0 v1 v2 o3 o4) (a c : Int) (c1 : 0 < c) (c2 : c % 512 = 0) (c3' : c ≤ 134217728) (hre : S.refuse.headD false = true) :
    Calls Try.prog 17 #[.pointer (some ⟨m, 0, none⟩), .int .u64 a, .int .u64 c] w fun e w' => e = .returned (.tuple #[.int .u64 0, .int .i64 13]) ∧ ∃ v1', v1'.ownBlock = v1.ownBlock ∧ RefC w' m (takeRefuse S) fl ws v0 v1' v2 o3 c3 o4 c4 ∧ Kept (fun b => b = m) w w' := by
  have y0 : (c == 0) = false := beq_eq_false_iff_ne.2 (by omega)
  have y1 : (c % 512 != 0) = false := by rw [c2]; rfl
  have y2 : decide (134217728 < c) = false := decide_eq_false (by omega)
  have CR := hidR (h.refuses ap)
  have RE := hidR hre
  clear h ap hre
  go_enter Try.func17, Try.ntmps17
  go_wp2_with fail
  go_at_call 35
  refine CR.out.mono ?_
  rintro e w1 ⟨rfl, hw1⟩
  rw [RE.out]
  have HW := hidR hw1
  clear hw1 CR
  go_wp2_with fail
  go_ret2
  exact ⟨rfl, HW.out⟩
theorem lay_len {T : Sp} (h : WF T) (q n : Nat) : (lay T q n).pgs.length = T.pgs.length + n := by
  obtain ⟨e1, e2⟩ := filter_split h.rising q
  show (T.pgs.filter (· < q) ++ (List.range' q n ++ T.pgs.filter (q ≤ ·))).length = _
  rw [e1, e2, List.length_append, List.length_append, List.length_take, List.length_drop, List.length_range', Nat.min_eq_left (pos_le _ _)]
  have := pos_le T.pgs q
  omega
theorem RI.reserve {w : World} {m : Addr} {S : Sp} {F : Nat → Prop} {K : Nat} (a b : Int) (ha : two64 a) (hb : two64 b) (h : RI w m S F K) (hK : K ≤ lim) :
    Calls Try.prog rf.reserve #[.pointer (some m), .int .u64 a, .int .u64 b] w fun e w' => e = .returned (.tuple #[.int .u64 ((reserveS S a.toNat b.toNat).1 : Nat), .int .i64 ((reserveS S a.toNat b.toNat).2.1 : Nat)]) ∧
      Step RI F w w' m (reserveS S a.toNat b.toNat).2.2 (K + cost (reserveS S a.toNat b.toNat).2.1 b.toNat) := by
  have h' := h
  obtain ⟨m, fl, ws, v0, v1, v2, o3, c3, o4, c4, rfl, h, ap, hF, hl, k1, k2, p1, p2⟩ := h
  unfold two64 at ha hb
  unfold lim at hK
  by_cases g : b.toNat = 0 ∨ b.toNat % 512 ≠ 0 ∨ 134217728 < b.toNat
  · have e : reserveS S a.toNat b.toNat = (0, 1, S) := by unfold reserveS; rw [if_pos g]
    rw [e]
    refine (reserve_bad (w := w) (m := m) a b (by omega) (by omega)).mono fun e w' ⟨he, hw⟩ => ⟨he, ?_⟩
    rw [hw]
    exact step_more (h'.below (Below.refl _ _)) (Nat.le_add_right _ _)
  · have g2 : 0 < b ∧ b % 512 = 0 ∧ b ≤ 134217728 := by omega
    cases hx : S.refuse.headD false with
    | true =>
      have e : reserveS S a.toNat b.toNat = (0, 13, takeRefuse S) := by unfold reserveS; rw [if_neg g, hx]; rfl
      rw [e]
      refine (reserve_refused h ap a b g2.1 g2.2.1 g2.2.2 hx).mono fun e w' ⟨he, v1', hv1, hC, hk⟩ => ⟨he, ?_⟩
      exact RI.land hF hC (ap.same rfl hv1 rfl) (fun x hx => Or.inl (inRef_same rfl hv1 rfl x hx)) (hk.mono fun x hx => Or.inl hx) (Nat.le_trans k1 (Nat.le_add_right _ _)) (Nat.le_trans k2 (Nat.le_add_right _ _)) p1 p2
    | false =>
      refine (reserve_walk h ap a b (by omega) g2.1 g2.2.1 g2.2.2 (by omega) p1 hx).mono fun e w' hr => ?_
      unfold ResP at hr
      obtain ⟨he, fl', v0', v1', o3', c3', hC, hA, hnew, hk⟩ := hr
      refine ⟨he, RI.land hF hC hA hnew (hk.mono fun x hx => Or.inl hx) ?_ (Nat.le_trans k2 (Nat.le_add_right _ _)) ?_ ?_⟩
      · cases ho : ((asked S b.toNat).or (firstFrom S a.toNat b.toNat)).or (firstFrom S 0 b.toNat) with
        | none => rw [reserve_no g hx ho]; exact Nat.le_trans k1 (Nat.le_add_right _ _)
        | some q =>
          rw [(reserve_yes g hx ho).1]
          show (lay (takePlace (takeRefuse S)) q b.toNat).pgs.length ≤ K + cost 0 b.toNat
          rw [lay_len h.wf.refuse.place]
          show S.pgs.length + b.toNat ≤ K + (b.toNat + 1)
          omega
      · intro x hx'
        refine p1 x ?_
        cases ho : ((asked S b.toNat).or (firstFrom S a.toNat b.toNat)).or (firstFrom S 0 b.toNat) with
        | none => rw [reserve_no g hx ho] at hx'; exact List.mem_of_mem_tail hx'
        | some q => rw [(reserve_yes g hx ho).1] at hx'; exact List.mem_of_mem_tail hx'
      · intro x hx'
        refine p2 x ?_
        cases ho : ((asked S b.toNat).or (firstFrom S a.toNat b.toNat)).or (firstFrom S 0 b.toNat) with
        | none => rw [reserve_no g hx ho] at hx'; exact hx'
        | some q => rw [(reserve_yes g hx ho).1] at hx'; exact hx'
end Go.Proofs.Ytlfcnaalkjpgnaa

/- The reference of chapter 3: what New leaves; copies of lists. -/
namespace Go.Proofs.Ytlfcnaalkjpgnaa
open Go.ChangeShapes Go.WideShapes Go.ChangeAt Go.RowKit Go.Proofs.Sp Go.Maps
set_option linter.unusedVariables false
set_option linter.unusedSimpArgs false

theorem step_append_run {P : Program} {w w' : World} {ops : Array Oper} {o : Oper} {a : Act} {K : Act → World → Prop} {Q : Exit → Act → World → Prop} {E : Prop} (hgd : o.guard = none) (s x : Operand) (t : TypeId)
    (ho : o.op = .call { callee := .builtin .append, args := #[s, x], argTypes := #[t, t] }) {v u v' : Value} (hs : a.eval s = v) (hx : a.eval x = u) (hr : (Builtin.append_ #[t, t] o.type #[v, u]).run P w = .ok v' w') (h : K (a.put o.dst v') w') :
    if Region.wanted o (yielded ops a.tmps) = true then Oper.wp P o a w K Q else E := by
  have hw : Region.wanted o (yielded ops a.tmps) = true := by simp [Region.wanted, hgd]
  rw [if_pos hw]
  exact wp_append_run s x t ho hs hx hr h
theorem infoU8 : (Try.prog.info? 33).map (fun i => (i.zero, i.size, i.bytes)) = some (some (.int .u64 0), 1, 8) := by kernel_rfl
theorem copy_u {X : World} {u : Value} {xs : List Value} (h : Sl X u xs) (hl : xs.length ≤ 1048576) (h1 : ∀ v ∈ xs, v.oneCell' = true) (ty : TypeId) :
    ∃ o c X', (Builtin.append_ #[22, 22] ty #[.slice (some ⟨X.heap.size, 0, none⟩) 0 0, u]).run Try.prog (X.alloc (.cells #[] 33)) = .ok (.slice o xs.length c) X' ∧ X'.ownsRow X.heap.size 33 1 (.slice o xs.length c) xs.length xs ∧ Below X.heap.size X X' := by
  obtain ⟨i0, hi0, hz0, hz1, hz2⟩ := info_parts infoU8
  have own := own_empty X 33 1
  have bX : Below X.heap.size X (X.alloc (.cells #[] 33)) := (Below.refl _ _).alloc (Nat.le_refl _) _
  rcases h with ⟨rfl, rfl⟩ | ⟨b, off, cap, rfl, hc, hb, hx⟩
  · have hr := run_append_owned_none (P := Try.prog) (w := X.alloc (.cells #[] 33)) X.heap.size 22 ty 33 i0 1 Try.underlying22 hi0 _ 0 [] own
    exact ⟨_, _, _, hr, own, bX⟩
  · obtain ⟨v', w2, hr, hown, hg, _⟩ := run_append_own_at (P := Try.prog) (X.alloc (.cells #[] 33)) X.heap.size 22 ty 33 i0 _ 1 8 Try.underlying22 hi0 hz0 hz1 hz2 rfl (by decide) _ 0 [] own ⟨b, off, none⟩ xs.length cap xs (by rw [Nat.mul_one]) (fun j u hu => by rw [addr_add, World.cell?_alloc_lt _ _ _ (by exact hb)]; exact hx j u hu) h1 (by unfold maxLen; omega) (by omega) bX.size
    rw [List.nil_append, Nat.zero_add] at hown
    obtain ⟨o, c, rfl, _⟩ := pg_shape hown
    exact ⟨o, c, w2, hr, hown, bX.grown hg bX.size (fun k hk => (own.lt k hk).1)⟩
theorem infoB1 : (Try.prog.info? 4).map (fun i => (i.zero, i.size, i.bytes)) = some (some (.bool false), 1, 1) := by kernel_rfl
theorem copy_b {X : World} {u : Value} {xs : List Value} (h : Sl X u xs) (hl : xs.length ≤ 1048576) (h1 : ∀ v ∈ xs, v.oneCell' = true) (ty : TypeId) :
    ∃ o c X', (Builtin.append_ #[23, 23] ty #[.slice (some ⟨X.heap.size, 0, none⟩) 0 0, u]).run Try.prog (X.alloc (.cells #[] 4)) = .ok (.slice o xs.length c) X' ∧ X'.ownsRow X.heap.size 4 1 (.slice o xs.length c) xs.length xs ∧ Below X.heap.size X X' := by
  obtain ⟨i0, hi0, hz0, hz1, hz2⟩ := info_parts infoB1
  have own := own_empty X 4 1
  have bX : Below X.heap.size X (X.alloc (.cells #[] 4)) := (Below.refl _ _).alloc (Nat.le_refl _) _
  rcases h with ⟨rfl, rfl⟩ | ⟨b, off, cap, rfl, hc, hb, hx⟩
  · have hr := run_append_owned_none (P := Try.prog) (w := X.alloc (.cells #[] 4)) X.heap.size 23 ty 4 i0 1 Try.underlying23 hi0 _ 0 [] own
    exact ⟨_, _, _, hr, own, bX⟩
  · obtain ⟨v', w2, hr, hown, hg, _⟩ := run_append_own_at (P := Try.prog) (X.alloc (.cells #[] 4)) X.heap.size 23 ty 4 i0 _ 1 1 Try.underlying23 hi0 hz0 hz1 hz2 rfl (by decide) _ 0 [] own ⟨b, off, none⟩ xs.length cap xs (by rw [Nat.mul_one]) (fun j u hu => by rw [addr_add, World.cell?_alloc_lt _ _ _ (by exact hb)]; exact hx j u hu) h1 (by unfold maxLen; omega) (by omega) bX.size
    rw [List.nil_append, Nat.zero_add] at hown
    obtain ⟨o, c, rfl, _⟩ := pg_shape hown
    exact ⟨o, c, w2, hr, hown, bX.grown hg bX.size (fun k hk => (own.lt k hk).1)⟩
theorem u64s_one8 (l : List Nat) : ∀ v ∈ u64s l, v.oneCell' = true := by
  intro v hv
  obtain ⟨n, _, rfl⟩ := List.mem_map.1 hv
  rfl
theorem bools_one1 (l : List Bool) : ∀ v ∈ bools l, v.oneCell' = true := by
  intro v hv
  obtain ⟨n, _, rfl⟩ := List.mem_map.1 hv
  rfl
theorem u64s_len (l : List Nat) : (u64s l).length = l.length := by simp [u64s]
theorem bools_len (l : List Bool) : (bools l).length = l.length := by simp [bools]
theorem Sl.low {w w' : World} {v : Value} {xs : List Value} (h : Sl w v xs) (hb : Below w.heap.size w w') : Sl w' v xs := h.kept hb.size (fun b e => hb.block b (h.lt e))
theorem Sl.under {w w' : World} {B : Nat} {v : Value} {xs : List Value} (h : Sl w v xs) (hB : w.heap.size ≤ B) (hb : Below B w w') (hs : w.heap.size ≤ w'.heap.size) : Sl w' v xs := h.kept hs (fun b e => hb.block b (by have := h.lt e; omega))
theorem sl_of_owns {w : World} {base n : Nat} {e : TypeId} {v : Value} {xs : List Value} (h : w.ownsRow base e 1 v n xs) : Sl w v xs := by
  have H := h
  obtain ⟨hl, ⟨e1, z⟩ | ⟨g, cap, cur, e1, _, _, h1, h2, _⟩⟩ := h
  · exact Or.inl ⟨e1, List.eq_nil_of_length_eq_zero (by omega)⟩
  · subst e1
    refine Or.inr ⟨g, 0, cap, by rw [show xs.length = n by omega], by omega, (H.lt g rfl).2, fun j u hu => ?_⟩
    rw [Nat.zero_add, H.cellAt j (by have := (List.getElem?_eq_some_iff.1 hu).1; omega)]
    exact hu
/-- A machine that has just been made. -/
theorem RI.start {w0 X1 X2 X3 : World} {s0 s1 s2 : Value} {pl : List Nat} {re : List Bool} {fi : List Nat} {B0 B1 B2 : Nat} (b0 : ∀ x ∈ pl, x < 18446744073709551616) (b2 : ∀ x ∈ fi, x < 18446744073709551616)
    (w1 : w0.heap.size ≤ B0) (w2 : w0.heap.size ≤ B1) (w3 : w0.heap.size ≤ B2) (x1 : Below w0.heap.size w0 X1) (x2 : Below X1.heap.size X1 X2) (x3 : Below X2.heap.size X2 X3)
    (o0 : X1.ownsRow B0 33 1 s0 pl.length (u64s pl)) (o1 : X2.ownsRow B1 4 1 s1 re.length (bools re)) (o2 : X3.ownsRow B2 33 1 s2 fi.length (u64s fi)) :
    ∃ F, RI (X3.alloc (.cells #[s0, s1, s2, .slice none 0 0, .slice none 0 0] 57)) ⟨X3.heap.size, 0, none⟩ (Sp.new pl re fi) F 0 ∧ Kept (fun _ => False) w0 (X3.alloc (.cells #[s0, s1, s2, .slice none 0 0, .slice none 0 0] 57)) ∧ ∀ b, F b → w0.heap.size ≤ b := by
  have t1 := x1.size
  have t2 := x2.size
  have t3 := x3.size
  have hh := heap_alloc_new X3 (.cells #[s0, s1, s2, .slice none 0 0, .slice none 0 0] 57)
  have hb : Below X3.heap.size X3 (X3.alloc (.cells #[s0, s1, s2, .slice none 0 0, .slice none 0 0] 57)) := (Below.refl _ _).alloc (Nat.le_refl _) _
  have hf : ∀ k, (X3.alloc (.cells #[s0, s1, s2, .slice none 0 0, .slice none 0 0] 57)).frozen? ⟨X3.heap.size, k, none⟩ = false := fun k => by simp [go_sem]
  have hs : X3.heap.size < (X3.alloc (.cells #[s0, s1, s2, .slice none 0 0, .slice none 0 0] 57)).heap.size := by simp
  have hc := fun k => cell_of_row (X3.alloc (.cells #[s0, s1, s2, .slice none 0 0, .slice none 0 0] 57)) X3.heap.size k _ _ (0, 0) hh
  generalize X3.alloc (.cells #[s0, s1, s2, .slice none 0 0, .slice none 0 0] 57) = W at *
  have r0 : Sl W s0 (u64s pl) := ((sl_of_owns o0).low x2 |>.low x3).low hb
  have r1 : Sl W s1 (bools re) := ((sl_of_owns o1).low x3).low hb
  have r2 : Sl W s2 (u64s fi) := (sl_of_owns o2).low hb
  have hC : RefC W X3.heap.size (Sp.new pl re fi) (fun _ => 0) [] s0 s1 s2 none 0 none 0 :=
    ⟨WF.new _ _ _, fun k _ => hf k, hc 0, hc 1, hc 2, hc 3, hc 4, r0, r1, r2, ⟨rfl, Or.inl ⟨rfl, rfl⟩⟩, ⟨rfl, Or.inl ⟨rfl, rfl⟩⟩, List.Pairwise.nil, (fun x hx => by cases hx), (fun _ => by decide), fun a _ h => by cases h⟩
  have hA : Apart X3.heap.size s0 s1 s2 none none :=
    ⟨fun e => by have := (o0.lt _ e).2; omega, fun e => by have := (o1.lt _ e).2; omega, fun e => by have := (o2.lt _ e).2; omega, (fun e => by cases e), (fun e => by cases e), (fun b e => by cases e), fun b e => by cases e⟩
  refine ⟨inRef X3.heap.size s0 s1 s2 none none, ⟨X3.heap.size, _, [], s0, s1, s2, none, 0, none, 0, rfl, hC, hA, fun _ => Iff.rfl, fun b h => hC.lt b h, Nat.le_refl _, Nat.le_refl _, b0, b2⟩, Kept.of_below (x1.trans ((x2.trans ((x3.trans (hb.mono t3)).mono t2)).mono t1)), fun b h => ?_⟩
  rcases h with h | h | h | h | h | h
  · omega
  · have := (o0.lt _ h).1; omega
  · have := (o1.lt _ h).1; omega
  · have := (o2.lt _ h).1; omega
  · cases h
  · cases h
end Go.Proofs.Ytlfcnaalkjpgnaa

/- The reference of chapter 3: Zero, plain: what the words are while a row is cleared. -/
namespace Go.Proofs.Ytlfcnaalkjpgnaa
open Go.ChangeShapes Go.WideShapes Go.ChangeAt Go.RowKit Go.Proofs.Sp
set_option linter.unusedVariables false
set_option linter.unusedSimpArgs false

/-- The words of the row: cleared below D, as their pages were filled from D on. -/
def zAt (S : Sp) (fl : Nat → Nat) (addr bytes D : Nat) : Sp :=
  { S with wd := fun a => if addr ≤ a ∧ a < addr + bytes then (if a < D then 0 else fl (a / 8192)) else S.wd a }
variable {w : World} {m : Nat} {S : Sp} {fl : Nat → Nat} {ws : List (Nat × Nat)} {v0 v1 v2 : Value} {o3 : Option Addr} {c3 : Nat} {o4 : Option Addr} {c4 : Nat}
/-- Words that no call can see may be any. -/
theorem RefC.words (h : RefC w m S fl ws v0 v1 v2 o3 c3 o4 c4) (f : Nat → Nat) (hf : ∀ a, a % 8 = 0 → S.st (a / 8192) = 2 → f a = S.wd a) : RefC w m { S with wd := f } fl ws v0 v1 v2 o3 c3 o4 c4 :=
  ⟨⟨h.wf.rising, h.wf.below, h.wf.mem, h.wf.le3⟩, h.frozen, h.h0, h.h1, h.h2, h.h3, h.h4, h.r0, h.r1, h.r2, h.own3, h.own4, h.rising, h.ready, h.fill, fun a h1 h2 => (hf a h1 h2).trans (h.word a h1 h2)⟩
theorem logic_cut {addr bytes : Nat} (h : Logic S fl ws) (h8 : addr % 8 = 0) : Logic (zAt S fl addr bytes 0) fl (cutW ws addr (addr + bytes)) := by
  have hm := cutW_mem h.rising addr (addr + bytes) (by omega)
  refine ⟨⟨h.wf.rising, h.wf.below, h.wf.mem, h.wf.le3⟩, cutW_rising h.rising _ _ (by omega), fun x hx => h.ready x ((hm x).1 hx).1, h.fill, fun a h1 h2 => ?_⟩
  show (if addr ≤ a ∧ a < addr + bytes then (if a < 0 then 0 else fl (a / 8192)) else S.wd a) = _
  by_cases c : addr ≤ a ∧ a < addr + bytes
  · rw [if_pos c, if_neg (by omega), wordV_none]
    intro hx
    obtain ⟨v, hv⟩ := addrs_mem hx
    have := ((hm (a, v)).1 hv).2
    simp only at this
    omega
  · rw [if_neg c, cutW_word h.rising addr (addr + bytes) (by omega) fl fl a (by omega) rfl]
    exact h.word a h1 h2
/-- One word more, by Store. -/
theorem RefC.zput {addr bytes D : Nat} (h : RefC w m (putS (zAt S fl addr bytes D) D 0) fl ws v0 v1 v2 o3 c3 o4 c4) (hD : D % 8 = 0) (hr : addr ≤ D ∧ D < addr + bytes) : RefC w m (zAt S fl addr bytes (D + 8)) fl ws v0 v1 v2 o3 c3 o4 c4 := by
  refine h.words _ fun a h1 h2 => ?_
  show (if addr ≤ a ∧ a < addr + bytes then (if a < D + 8 then 0 else fl (a / 8192)) else S.wd a) = if a = D then 0 else if addr ≤ a ∧ a < addr + bytes then (if a < D then 0 else fl (a / 8192)) else S.wd a
  by_cases e : a = D
  · subst e; rw [if_pos hr, if_pos (by omega), if_pos rfl]
  · rw [if_neg e]
    by_cases c : addr ≤ a ∧ a < addr + bytes
    · rw [if_pos c, if_pos c]
      by_cases d : a < D
      · rw [if_pos d, if_pos (by omega)]
      · rw [if_neg d, if_neg (by omega)]
    · rw [if_neg c, if_neg c]
/-- One word that is not of the row. -/
theorem RefC.zskip {addr bytes D : Nat} (h : RefC w m (zAt S fl addr bytes D) fl ws v0 v1 v2 o3 c3 o4 c4) (hD : D % 8 = 0) (hr : ¬ (addr ≤ D ∧ D < addr + bytes)) : RefC w m (zAt S fl addr bytes (D + 8)) fl ws v0 v1 v2 o3 c3 o4 c4 := by
  refine h.words _ fun a h1 h2 => ?_
  show (if addr ≤ a ∧ a < addr + bytes then (if a < D + 8 then 0 else fl (a / 8192)) else S.wd a) = if addr ≤ a ∧ a < addr + bytes then (if a < D then 0 else fl (a / 8192)) else S.wd a
  by_cases c : addr ≤ a ∧ a < addr + bytes
  · rw [if_pos c, if_pos c]
    by_cases d : a < D
    · rw [if_pos d, if_pos (by omega)]
    · have : a ≠ D := by rintro rfl; exact hr c
      rw [if_neg d, if_neg (by omega)]
  · rw [if_neg c, if_neg c]
/-- A page that was filled with 0. -/
theorem RefC.zpage {addr bytes p D E : Nat} (h : RefC w m (zAt S fl addr bytes D) fl ws v0 v1 v2 o3 c3 o4 c4) (hp : fl p = 0) (hD : D = p * 8192) (hE : E = D + 8192) : RefC w m (zAt S fl addr bytes E) fl ws v0 v1 v2 o3 c3 o4 c4 := by
  refine h.words _ fun a h1 h2 => ?_
  show (if addr ≤ a ∧ a < addr + bytes then (if a < E then 0 else fl (a / 8192)) else S.wd a) = if addr ≤ a ∧ a < addr + bytes then (if a < D then 0 else fl (a / 8192)) else S.wd a
  by_cases c : addr ≤ a ∧ a < addr + bytes
  · rw [if_pos c, if_pos c]
    by_cases d : a < D
    · rw [if_pos d, if_pos (by omega)]
    · rw [if_neg d]
      by_cases e : a < E
      · rw [if_pos e, show a / 8192 = p by omega, hp]
      · rw [if_neg e]
  · rw [if_neg c, if_neg c]
/-- The first page: nothing of the row lies below it. -/
theorem RefC.zfirst {addr bytes D : Nat} (h : RefC w m (zAt S fl addr bytes 0) fl ws v0 v1 v2 o3 c3 o4 c4) (hD : D ≤ addr) : RefC w m (zAt S fl addr bytes D) fl ws v0 v1 v2 o3 c3 o4 c4 := by
  refine h.words _ fun a h1 h2 => ?_
  show (if addr ≤ a ∧ a < addr + bytes then (if a < D then 0 else fl (a / 8192)) else S.wd a) = if addr ≤ a ∧ a < addr + bytes then (if a < 0 then 0 else fl (a / 8192)) else S.wd a
  by_cases c : addr ≤ a ∧ a < addr + bytes
  · rw [if_pos c, if_pos c, if_neg (by omega), if_neg (by omega)]
  · rw [if_neg c, if_neg c]
/-- The row is cleared. -/
theorem RefC.zend {addr bytes D : Nat} (h : RefC w m (zAt S fl addr bytes D) fl ws v0 v1 v2 o3 c3 o4 c4) (hD : addr + bytes ≤ D) : RefC w m (zerS S addr bytes) fl ws v0 v1 v2 o3 c3 o4 c4 := by
  refine h.words _ fun a h1 h2 => ?_
  show (if addr ≤ a ∧ a < addr + bytes then 0 else S.wd a) = if addr ≤ a ∧ a < addr + bytes then (if a < D then 0 else fl (a / 8192)) else S.wd a
  by_cases c : addr ≤ a ∧ a < addr + bytes
  · rw [if_pos c, if_pos c, if_pos (by omega)]
  · rw [if_neg c, if_neg c]
end Go.Proofs.Ytlfcnaalkjpgnaa
