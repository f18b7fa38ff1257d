/- CacheUndo: a flush right behind a fill. -/
import Derived.Test.YtnclicdnncgdiaaDoorQi
import Derived.Laws.MakeOwn
namespace Go.Proofs.YtnclicdnncgdiaaDoor
open Go.ChangeShapes Go.WideShapes Go.ChangeAt Go.RowKit Go.Proofs.Bt Go.Shelf Go.Proofs.Rx Go.Maps Go.Proofs.Pk
set_option linter.unusedVariables false
set_option linter.unusedSimpArgs false

theorem undo_st {st : Nat → Nat} (h4 : Four st) (B : Nat) : flushS (fillS st B 64) B (wd (fun j => fre st (B + j)) 64).testBit (wd (fun j => rel st (B + j)) 64).testBit 64 = st := by
  funext q
  unfold flushS
  have h := h4 q
  by_cases z : B ≤ q ∧ q < B + 64
  · rw [wd_bit, wd_bit, decide_eq_true (by omega), Bool.true_and, Bool.true_and, show B + (q - B) = q by omega]
    unfold fre rel
    by_cases f : 2 ≤ st q
    · rw [if_pos ⟨z.1, z.2, decide_eq_true f⟩]
      by_cases g : st q = 3
      · rw [if_pos (decide_eq_true g)]; omega
      · rw [if_neg (by rw [decide_eq_false g]; decide)]; omega
    · rw [if_neg (fun y => f (of_decide_eq_true y.2.2))]
      unfold fillS
      rw [if_neg (fun y => f y.2.2)]
  · rw [if_neg (fun y => z ⟨y.1, y.2.1⟩)]
    unfold fillS
    rw [if_neg (fun y => z ⟨y.1, y.2.1⟩)]
theorem fill_free (st : Nat → Nat) (B : Nat) : ∀ i, B + i ≤ 34359738368 → frT (fillS st B i) + cnt (fre st) B i = frT st := by
  intro i
  induction i with
  | zero =>
    intro _
    rw [fillS_zero, show cnt (fre st) B 0 = 0 from rfl]
    exact Nat.add_zero _
  | succ i ih =>
    intro h
    have e := ih (by omega)
    have ec : cnt (fre st) B (i + 1) = cnt (fre st) B i + (fre st (B + i)).toNat := rfl
    rw [ec]
    by_cases f : 2 ≤ st (B + i)
    · have t := (tot_set (st := fillS st B i) (a := B + i) (n := 1) (s := 1) (by omega)).1
      rw [tl_one_free (by rw [fillS_at]; exact f), ← fillS_free f, if_neg (by decide)] at t
      have ef : (fre st (B + i)).toNat = 1 := by unfold fre; rw [decide_eq_true f]; rfl
      rw [ef]
      generalize frT (fillS st B (i + 1)) = u at *
      generalize frT (fillS st B i) = v at *
      generalize frT st = x at *
      omega
    · have ef : (fre st (B + i)).toNat = 0 := by unfold fre; rw [decide_eq_false f]; rfl
      rw [ef, fillS_used f]
      exact e
theorem has_pc (st : Nat → Nat) (B : Nat) : pc (wd (fun j => fre st (B + j)) 64) = cnt (fre st) B 64 := by
  rw [pc_cnt 64 _ (wd_lt _ (Nat.le_refl _))]
  exact cnt_congr fun k hk => by rw [wd_bit, decide_eq_true (by omega), Nat.zero_add]; rfl
theorem frT_le (st : Nat → Nat) : frT st ≤ 34359738368 := cnt_le _ _ _
/-- What was told of the first k pages. -/
def wasL (st : Nat → Nat) : Nat → List Value
  | 0 => []
  | k + 1 => wasL st k ++ [.bool (fre st (512 + k)), .bool (rel st (512 + k))]
theorem wasL_len (st : Nat → Nat) (k : Nat) : (wasL st k).length = 2 * k := by
  induction k with
  | zero => rfl
  | succ k ih => rw [wasL, List.length_append, ih]; simp; omega
theorem wasL_at (st : Nat → Nat) (k : Nat) : ∀ j, j < k → (wasL st k)[2 * j]? = some (.bool (fre st (512 + j))) ∧ (wasL st k)[2 * j + 1]? = some (.bool (rel st (512 + j))) := by
  induction k with
  | zero => intro j hj; omega
  | succ k ih =>
    intro j hj
    rw [wasL]
    by_cases e : j = k
    · subst e
      rw [List.getElem?_append_right (by rw [wasL_len]; omega), List.getElem?_append_right (by rw [wasL_len]; omega), wasL_len, show 2 * j - 2 * j = 0 by omega, show 2 * j + 1 - 2 * j = 1 by omega]
      exact ⟨rfl, rfl⟩
    · rw [List.getElem?_append_left (by rw [wasL_len]; omega), List.getElem?_append_left (by rw [wasL_len]; omega)]
      exact ih j (by omega)
theorem infoB : (Tryd.prog.info? 4).map (fun i => (i.zero, i.size, i.bytes)) = some (some (.bool false), 1, 1) := by kernel_rfl
theorem owns_keep {w w' : World} {base : Nat} {e : TypeId} {size : Nat} {v : Value} {n : Nat} {xs : List Value} (h : w.ownsRow base e size v n xs) (hk : ∀ x, v.ownBlock = some x → w'.heap[x]? = w.heap[x]?) : w'.ownsRow base e size v n xs := by
  obtain ⟨h1, h2 | ⟨g, cap, cur, e1, hb, hh, r⟩⟩ := h
  · exact ⟨h1, Or.inl h2⟩
  · exact ⟨h1, Or.inr ⟨g, cap, cur, e1, hb, (hk g (by rw [e1]; rfl)).trans hh, r⟩⟩
/-- Two truths more. -/
theorem bools_more {X2 : World} {base : Nat} {v : Value} {k : Nat} {t : List Value} (h : X2.ownsRow base 4 1 v k t) (hk : k < 2000) (blk : Nat) (p q : Bool) (n2 : X2.heap[blk]? = some (.cells #[.bool p, .bool q] 4 (0, 0))) (hb : base ≤ X2.heap.size) (ty : TypeId) :
    ∃ g cap Y, (Builtin.append_ #[34, 34] ty #[v, .slice (some ⟨blk, 0, none⟩) 2 2]).run Tryd.prog X2 = .ok (.slice (some ⟨g, 0, none⟩) (k + 2) cap) Y ∧ Y.ownsRow base 4 1 (.slice (some ⟨g, 0, none⟩) (k + 2) cap) (k + 2) (t ++ [.bool p, .bool q]) ∧ Kept (fun x => v.ownBlock = some x) X2 Y ∧ (v.ownBlock = some g ∨ X2.heap.size ≤ g) ∧ g < Y.heap.size := by
  obtain ⟨i0, hi0, hz0, hz1, hz2⟩ := Mg.info_parts infoB
  obtain ⟨g, cap, Y, r1, o1, g1, hat, hlt⟩ := run_append_lies (P := Tryd.prog) X2 34 ty base 4 i0 _ 1 1 Tryd.underlying34 hi0 hz0 hz1 hz2 rfl (by decide) v k t h ⟨blk, 0, none⟩ 2 2 [.bool p, .bool q] rfl (World.news_of_block n2) (by intro u hu; simp at hu; rcases hu with rfl | rfl <;> rfl) (by decide) (by unfold maxLen; omega) (by omega) hb _ rfl
  refine ⟨g, cap, Y, r1, o1, Kept.of_grown g1 (fun j e => e), ?_, hlt⟩
  rcases hat with e | e
  · exact .inl e
  · exact .inr (by omega)
/-- Between two rounds of the loop that tells. -/
structure UnI (N cb tb : Nat) (w : World) (st : Nat → Nat) (k : Nat) (v : Value) (W : World) : Prop where
  c : TC N (fun x => x = cb ∨ v.ownBlock = some x) w W tb cb st 0 0 0
  o : W.ownsRow (cb + 1) 4 1 v (2 * k) (wasL st k)
theorem UnI.next {N cb tb : Nat} {w W W1 W3 : World} {st : Nat → Nat} {k : Nat} {v : Value} (h : UnI N cb tb w st k v W) (t1 : T9 N (fun x => x = cb ∨ v.ownBlock = some x) w W1 tb st) (l1 : Left9 N (fun x => x = cb ∨ v.ownBlock = some x) W W1) (hk : k < 512)
    (hW3 : W3 = W1.alloc (.cells #[.bool (fre st (512 + k)), .bool (rel st (512 + k))] 4)) (ty : TypeId) :
    ∃ g cap Y, (Builtin.append_ #[34, 34] ty #[v, .slice (some ⟨W1.heap.size, 0, none⟩) 2 2]).run Tryd.prog W3 = .ok (.slice (some ⟨g, 0, none⟩) (2 * k + 2) cap) Y ∧ UnI N cb tb w st (k + 1) (.slice (some ⟨g, 0, none⟩) (2 * k + 2) cap) Y := by
  have o1 : W1.ownsRow (cb + 1) 4 1 v (2 * k) (wasL st k) := owns_keep h.o (fun x hx => Kept.block l1 x (h.o.lt x hx).2 (fun z => z.2 (.inr hx)))
  have bW : Below W1.heap.size W1 W3 := by rw [hW3]; exact grown1 W1 _
  have o3 : W3.ownsRow (cb + 1) 4 1 v (2 * k) (wasL st k) := owns_keep o1 (fun x hx => bW.block x (o1.lt x hx).2)
  have n3 : W3.heap[W1.heap.size]? = some (.cells #[.bool (fre st (512 + k)), .bool (rel st (512 + k))] 4 (0, 0)) := by rw [hW3]; exact World.alloc_heap_new W1 _
  have c1 := h.c.tree t1 l1
  have lb := c1.lb
  have s3 : W3.heap.size = W1.heap.size + 1 := by rw [hW3]; simp
  obtain ⟨g, cap, Y, r1, r2, r3, r4, r5⟩ := bools_more o3 (by omega) W1.heap.size _ _ n3 (by omega) ty
  have c3 := c1.read bW
  refine ⟨g, cap, Y, r1, ⟨⟨?_, ?_, .inl rfl⟩, by rw [show 2 * (k + 1) = 2 * k + 2 by omega]; exact r2⟩⟩
  · refine c3.t.grow r3 (fun x hx => ⟨.inr hx, by have := (o3.lt x hx).1; omega⟩) (fun x hx => ?_)
    rcases hx with e | e
    · exact .inl (.inl e)
    · have e : g = x := by simpa [Value.ownBlock] using e
      subst e
      rcases r4 with r | r
      · exact .inl (.inr r)
      · exact .inr ⟨r, r5⟩
  · exact c3.c.kept r3 (fun z => by have := (o3.lt cb z).1; omega)
theorem tell_mid (B H G : Nat) : ∃ x y : Int, tellV B H G = .tuple #[.int .u64 x, .int .u64 (H : Nat), .int .u64 y] := by
  unfold tellV
  by_cases z : H = 0
  · rw [if_pos z, z]; exact ⟨_, _, rfl⟩
  · rw [if_neg z]; exact ⟨_, _, rfl⟩
/-- What a fill has done, and what a flush will undo. -/
structure UnF (st st1 : Nat → Nat) (B H G : Nat) : Prop where
  b : B + 64 ≤ 34359738368
  h : H < 18446744073709551616
  sub : ∀ j, G.testBit j = true → H.testBit j = true
  own : ∀ j, H.testBit j = true → st1 (B + j) = 1
  undo : flushS st1 B H.testBit G.testBit 64 = st
  free : frT st1 + pc H = frT st
theorem pc_le64 {H : Nat} (h : H < 18446744073709551616) : pc H ≤ 64 := by rw [pc_cnt 64 _ h]; exact cnt_le _ _ _
theorem tc_fill_all {N : Nat} {O : Nat → Prop} {w W : World} {tb cb : Nat} {st : Nat → Nat} (h : TC N O w W tb cb st 0 0 0) :
    Calls Tryd.prog 13 #[.pointer (some ⟨cb, 0, none⟩), .pointer (some ⟨tb, 0, none⟩)] W fun e W' => ∃ (v : Int) (st1 : Nat → Nat) (B H G : Nat), e = .returned (.int .i64 v) ∧ (v == 0) = !decide (H = 0) ∧ TC N O w W' tb cb st1 B H G ∧ LeftC N O cb W W' ∧ UnF st st1 B H G := by
  by_cases hr : ∃ p, Run st p 1
  · obtain ⟨p0, hp0⟩ := hr
    obtain ⟨p, -, r1, r2⟩ := least_of (fun p => Run st p 1) p0 hp0
    have hp : p < 34359738368 := h.t.free_lt (by have := r1 p (Nat.le_refl _) (by omega); omega)
    obtain ⟨B, hB⟩ : ∃ B, p / 64 * 64 = B := ⟨_, rfl⟩
    have b64 : B + 64 ≤ 34359738368 := by omega
    refine (tc_fill h p ⟨r1, r2⟩).mono ?_
    rintro e W' ⟨e1, c1, l1⟩
    rw [hB] at c1
    refine ⟨0, _, _, _, _, e1, ?_, c1, l1, ⟨b64, wd_lt _ (Nat.le_refl _), fun j hj => ?_, fun j hj => ?_, undo_st h.t.four B, ?_⟩⟩
    · have bit : (wd (fun j => fre st (B + j)) 64).testBit (p - B) = true := by
        rw [wd_bit, decide_eq_true (by omega), Bool.true_and, show B + (p - B) = p by omega]
        have := r1 p (Nat.le_refl _) (by omega)
        unfold fre
        exact decide_eq_true this
      rw [decide_eq_false (fun z => by rw [z, Nat.zero_testBit] at bit; cases bit)]
      rfl
    · rw [wd_bit, Bool.and_eq_true] at hj
      rw [wd_bit, hj.1, Bool.true_and]
      have h2 := hj.2
      unfold rel at h2
      have h3 := of_decide_eq_true h2
      unfold fre
      exact decide_eq_true (by omega)
    · rw [wd_bit, Bool.and_eq_true] at hj
      have h2 := hj.2
      unfold fre at h2
      have l := of_decide_eq_true hj.1
      unfold fillS
      rw [if_pos ⟨by omega, by omega, of_decide_eq_true h2⟩]
    · rw [has_pc]
      exact fill_free st B 64 b64
  · refine (tc_fill_full h (fun p hp => hr ⟨p, hp⟩)).mono ?_
    rintro e W' ⟨e1, c1, l1⟩
    refine ⟨30, _, _, _, _, e1, rfl, c1, l1, ⟨by decide, by decide, fun j hj => hj, (fun j hj => by rw [Nat.zero_testBit] at hj; cases hj), ?_, ?_⟩⟩
    · funext q
      unfold flushS
      rw [if_neg (fun z => by rw [Nat.zero_testBit] at z; cases z.2.2)]
    · rw [pc_zero]; exact Nat.add_zero _
end Go.Proofs.YtnclicdnncgdiaaDoor
