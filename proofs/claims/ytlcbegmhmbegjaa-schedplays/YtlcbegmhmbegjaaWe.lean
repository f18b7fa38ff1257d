/- A step, done. -/
import Derived.Test.YtlcbegmhmbegjaaWd
namespace Go.Proofs.Ytlcbegmhmbegjaa
open Go.ChangeShapes Go.WideShapes Go.ChangeAt Go.RowKit Go.Proofs.Sc Go.Maps
set_option linter.unusedVariables false
set_option linter.unusedSimpArgs false

variable {w w' : World} {b : Nat} {S : Sc} {v0 v3 : Value} {bh bc n : Nat} {vs : List Value} {T : Nat → Prop}
/-- What was done, and what it left. -/
def Did (w : World) (b : Nat) (S' : Sc) (v0 v3 : Value) (bh bc n : Nat) (vs : List Value) (T : Nat → Prop) (w' : World) : Prop :=
  ∃ v3', Lies w' b S' v0 v3' bh bc n vs T ∧ Kept (Foot b bh bc v0 v3 T) w w' ∧ ∀ x, v3'.ownBlock = some x → v3.ownBlock = some x ∨ w.heap.size ≤ x
theorem act_lock (S : Sc) (i : Nat) (a x : Int) : actS S i ⟨1, a, x⟩ = { S with hold := fun l => if l = a then some i else S.hold l } := by simp [actS]
theorem act_unlock (S : Sc) (i : Nat) (a x : Int) : actS S i ⟨2, a, x⟩ = { S with hold := fun l => if l = a then none else S.hold l } := by simp [actS]
theorem act_add (S : Sc) (i : Nat) (a x : Int) : actS S i ⟨3, a, x⟩ = { S with cell := fun c => if c = a then IntKind.i64.wrap (S.cell c + x) else S.cell c } := by simp [actS]
theorem act_say (S : Sc) (i : Nat) (a x : Int) : actS S i ⟨5, a, x⟩ = { S with said := S.said ++ [a] } := by simp [actS]
theorem act_await (S : Sc) (i : Nat) (a x : Int) : actS S i ⟨4, a, x⟩ = S := by simp [actS]
theorem foot_h : Foot b bh bc v0 v3 T bh := Or.inr (Or.inl rfl)
theorem foot_c : Foot b bh bc v0 v3 T bc := Or.inr (Or.inr (Or.inl rfl))
theorem below_kept {F : Nat → Prop} {w w1 w2 : World} (h : Below w.heap.size w w1) (k : Kept F w1 w2) : Kept F w w2 :=
  ⟨k.os.trans h.os, k.tape.trans h.tape, k.output.trans h.output, Nat.le_trans h.size k.size, fun x hx hn => (k.block x (Nat.lt_of_lt_of_le hx h.size) hn).trans (h.block x hx)⟩
set_option maxRecDepth 100000 in
theorem do_ok (l : Lies w b S v0 v3 bh bc n vs T) (wf : Wf S) (hn : n ≤ 20000) (hsd : S.said.length ≤ 20000) (i : Nat) (hi : (i : Int) ≤ 64) (s : Stp) (hs : s.Ok) (hk : Known s) (hok : ¬ (s.op = 2 ∧ S.hold s.a ≠ some i)) :
    Calls Try.prog 34 #[.pointer (some ⟨b, 0, none⟩), .int .i64 (i : Int), .agg #[.int .i64 s.op, .int .i64 s.a, .int .i64 s.b]] w fun e w' => e = .returned (.tuple #[]) ∧ Did w b (actS S i s) v0 v3 bh bc (n + 1) vs T w' := by
  obtain ⟨op, a, x⟩ := s
  obtain ⟨⟨o1, o2⟩, ⟨a1, a2⟩, ⟨x1, x2⟩⟩ := hs
  obtain ⟨k1, k2⟩ := hk
  simp only at o1 o2 a1 a2 x1 x2 k1 k2 hok ⊢
  have hB : Below w.heap.size w (w.alloc (.cells #[.int .i64 op, .int .i64 a, .int .i64 x] 36)) := (Below.refl _ _).alloc (Nat.le_refl _) _
  have c1 := l.c1
  have c2 := l.c2
  have c3 := l.c3
  have f3 := l.fz 3
  have hbl := cell_lt c1
  have L1 := hide (l.below hB)
  have LD := hide (l.below hB.drew)
  have HB := hide hB
  have HD := hide hB.drew
  have W := hide wf
  obtain ⟨PO, hPO⟩ : ∃ PO, PO = Did w b (actS S i ⟨op, a, x⟩) v0 v3 bh bc (n + 1) vs T := ⟨_, rfl⟩
  rw [← hPO]
  have FN := hide hPO
  clear hPO hB wf
  by_cases e1 : op = 1
  · subst e1
    obtain ⟨w1, hrun, hm, hg⟩ := LD.out.hold.put (by unfold maxLen; omega) a ⟨a1, a2⟩ (i : Int)
    have FIN : Hid (PO w1) := hide (by
      rw [FN.out, act_lock]
      exact ⟨v3, LD.out.locks hg (by omega) (by rw [held_put]; exact hm), below_kept HD.out (Kept.of_grown hg (fun k e => by injection e with e; subst e; exact foot_h)), fun x hx => Or.inl hx⟩)
    clear hm hg L1 LD FN l
    go_enter Try.func34, Try.ntmps34
    go_wp2_with fail
    refine still_tail 7 (by kernel_rfl) (by kernel_rfl) ?_
    simp only [List.take_succ_cons, List.take_zero, List.drop_succ_cons, List.drop_zero]
    repeat still_step
    refine wpStill_nil ?_
    go_wp2_with fail
    go_end0
    exact ⟨rfl, FIN.out⟩
  · have d1 : (op == 1) = false := beq_eq_false_iff_ne.2 e1
    by_cases e2 : op = 2
    · subst e2
      have hh : S.hold a = some i := Classical.byContradiction fun z => hok ⟨rfl, z⟩
      have U := hide (unlock_ok L1.out i hi a ⟨a1, a2⟩ hh)
      clear L1 LD l hok
      go_enter Try.func34, Try.ntmps34
      go_wp2_with fail
      refine U.out.mono ?_
      rintro e w1 ⟨rfl, hl, hg⟩
      have FIN : Hid (PO w1) := hide (by
        rw [FN.out, act_unlock]
        exact ⟨v3, hl.more (by omega), below_kept HB.out (Kept.of_grown hg (fun k e => by injection e with e; subst e; exact foot_h)), fun x hx => Or.inl hx⟩)
      clear hl hg FN U
      go_wp2_with fail
      go_end0
      exact ⟨rfl, FIN.out⟩
    · have d2 : (op == 2) = false := beq_eq_false_iff_ne.2 e2
      by_cases e3 : op = 3
      · subst e3
        have U := hide (add_core L1.out hn a x ⟨a1, a2⟩ ⟨x1, x2⟩ (W.out.cell a))
        clear L1 LD l hok
        go_enter Try.func34, Try.ntmps34
        go_wp2_with fail
        refine U.out.mono ?_
        rintro e w1 ⟨rfl, hl, hg⟩
        have FIN : Hid (PO w1) := hide (by
          rw [FN.out, act_add]
          exact ⟨v3, hl, below_kept HB.out (Kept.of_grown hg (fun k e => by injection e with e; subst e; exact foot_c)), fun x hx => Or.inl hx⟩)
        clear hl hg FN U
        go_wp2_with fail
        go_end0
        exact ⟨rfl, FIN.out⟩
      · have d3 : (op == 3) = false := beq_eq_false_iff_ne.2 e3
        by_cases e5 : op = 5
        · subst e5
          obtain ⟨i0, hi0, hz0, hz1, hz2⟩ := info_parts infoI
          obtain ⟨W1, hW1⟩ : ∃ W1, W1 = ((w.alloc (.cells #[.int .i64 5, .int .i64 a, .int .i64 x] 36)).alloc (.cells #[.int .i64 a] 3)).drew := ⟨_, rfl⟩
          have B2 := hide (show Below w.heap.size w W1 by rw [hW1]; exact (HB.out.alloc (by simp) _).drew)
          have L2 := hide (l.below B2.out)
          have hsz : W1.heap.size = w.heap.size + 2 := by rw [hW1]; show ((w.alloc _).heap.push _).size = _; simp
          have SZ := hide hsz
          have HW1 := hide hW1
          have N1 : Hid (∀ j u, [Value.int .i64 a][j]? = some u → W1.cell? ((⟨w.heap.size + 1, 0, none⟩ : Addr).add j) = some u) := hide (by
            have := World.news_of_block (B := w.heap.size + 1) (w := W1) (cs := #[.int .i64 a]) (t := 3) (fr := (0, 0)) (by
              have e : (w.alloc (.cells #[.int .i64 5, .int .i64 a, .int .i64 x] 36)).heap.size = w.heap.size + 1 := by simp
              rw [hW1, ← e]; exact heap_alloc_new _ _)
            exact this)
          have nb3 : some b ≠ v3.ownBlock := fun e => (l.n3 b e.symm).1 rfl
          have NB := hide nb3
          have NB2 : Hid (some w.heap.size ≠ v3.ownBlock) := hide (fun e => by have := (l.said.lt _ e.symm).2; omega)
          have C5 : Hid (W1.cell? ⟨w.heap.size, 1, none⟩ = some (.int .i64 a)) := hide (by
            rw [hW1]
            show ((w.alloc _).alloc _).cell? _ = _
            rw [World.cell?_alloc_lt _ _ _ (by simp), World.cell?_alloc_new]
            rfl)
          have hcc : w.heap.size + 1 ≠ b := by omega
          clear L1 LD l hok hsz hW1 nb3
          go_enter Try.func34, Try.ntmps34
          go_wp2_with fail
          go_region_law ((rw [← HW1.out]; refine step_append_lies _ rfl (.tmp 38) (.tmp 41) 23 rfl 0 3 i0 _ 1 8 Try.underlying23 hi0 hz0 hz1 hz2 rfl (by decide) v3 S.said.length (ints S.said) (by simp [Act.eval]) L2.out.said ⟨w.heap.size + 1, 0, none⟩ 1 1 [.int .i64 a] (by simp [Act.eval]) rfl N1.out (by simp [Value.oneCell']) (by decide) (by unfold maxLen; omega) (by omega) (Nat.zero_le _) _ rfl ?_; intro g1 cap1 w1 hown1 hgrow1 hat1 hlt1; have k1 := (hgrow1.cell_far ⟨b, 3, none⟩ (by rw [SZ.out]; show b < _; omega) NB.out).trans L2.out.c3; have k2 := (hgrow1.frozen_far ⟨b, 3, none⟩ (by rw [SZ.out]; show b < _; omega) NB.out).trans (L2.out.fz 3); have O1 := hide hown1; have G1 := hide hgrow1; have A1 := hide hat1; clear hown1 hgrow1 hat1 hlt1))
          all_goals
            have FIN : Hid (PO (w1.setCell ⟨b, 3, none⟩ (.slice (some ⟨g1, 0, none⟩) (S.said.length + 1) cap1))) := hide (by
              rw [FN.out, act_say]
              refine ⟨_, (L2.out.say G1.out O1.out A1.out).more (by omega), ?_, ?_⟩
              · refine below_kept B2.out ((Kept.of_grown (F := Foot b bh bc v0 v3 T) G1.out (fun k e => Or.inr (Or.inr (Or.inr (Or.inr (Or.inl e)))))).trans (Kept.of_set (F := Foot b bh bc v0 v3 T) _ b 3 _ (Or.inl rfl)) (fun x hx => Or.inl hx))
              · intro y hy
                simp [Value.ownBlock] at hy
                subst hy
                rcases A1.out with z | z
                · exact Or.inl z
                · right; rw [z, SZ.out]; omega)
            clear FN O1 G1 A1 L2 B2 N1 C5
            go_wp2_with fail
            go_end0
            exact ⟨rfl, FIN.out⟩
        · obtain rfl : op = 4 := by omega
          have FIN : Hid (PO (w.alloc (.cells #[.int .i64 4, .int .i64 a, .int .i64 x] 36))) := hide (by
            rw [FN.out, act_await]
            exact ⟨v3, L1.out.more (by omega), Kept.of_below HB.out, fun x hx => Or.inl hx⟩)
          clear L1 LD FN l hok
          go_enter Try.func34, Try.ntmps34
          go_wp2_with fail
          go_end0
          exact ⟨rfl, FIN.out⟩
theorem do_bad (l : Lies w b S v0 v3 bh bc n vs T) (wf : Wf S) (i : Nat) (hi : (i : Int) ≤ 64) (a x : Int) (ha : i64 a) (hh : S.hold a ≠ some i) :
    Calls Try.prog 34 #[.pointer (some ⟨b, 0, none⟩), .int .i64 (i : Int), .agg #[.int .i64 2, .int .i64 a, .int .i64 x]] w fun e w' => e = .panicked [{ v := .iface 61 (.agg #[]), recovered := false }] ∧ Below w.heap.size w w' := by
  have hB : Below w.heap.size w (w.alloc (.cells #[.int .i64 2, .int .i64 a, .int .i64 x] 36)) := (Below.refl _ _).alloc (Nat.le_refl _) _
  have U := hide (unlock_bad (l.below hB) i hi a ha hh (fun q j hq => Nat.lt_of_lt_of_le (wf.held q j hq) wf.tasks))
  clear l hh
  go_enter Try.func34, Try.ntmps34
  go_wp2_with fail
  refine U.out.mono ?_
  rintro e w1 ⟨rfl, hw⟩
  subst hw
  exact ⟨rfl, rfl, hB⟩
end Go.Proofs.Ytlcbegmhmbegjaa
