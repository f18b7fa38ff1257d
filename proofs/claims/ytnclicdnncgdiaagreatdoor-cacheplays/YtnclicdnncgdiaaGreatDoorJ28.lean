/- J28 of the proof of both laws: texts Mf, Zh, Zm, one behind the other. -/
import Derived.Test.YtnclicdnncgdiaaGreatDoorJ15
import Derived.Test.YtnclicdnncgdiaaGreatDoorJ21
import Derived.Deep.AppendLies
/- The reference's Right, right, Merge: contracts (stage 7's texts). -/
namespace Go.Proofs.YtnclicdnncgdiaaGreatDoor.Mg
open Go.ChangeShapes Go.WideShapes Go.ChangeAt Go.RowKit Go.Proofs.Pk Go.Maps
set_option linter.unusedVariables false
set_option linter.unusedSimpArgs false

theorem ret_ce {fn : Func} {p u : Tmp} (hf : fn.results = #[.cell p 87, .tmp u]) {N Q : Nat} {w W : World} {x y z e : Int} {tmps : Array Value} (hp : tmps.getD p undef = .pointer (some ⟨Q, 0, none⟩)) (hu : tmps.getD u undef = .int .i64 e) (h : Bx N Q w W x y z) :
    (results fn tmps).run Tryz.prog W = .ok (.tuple #[sumV ⟨x, y, z⟩, .int .i64 e]) W := by
  have e0 := h.c0
  have e1 := h.c1
  have e2 := h.c2
  have hp' : tmps[p]?.getD undef = .pointer (some ⟨Q, 0, none⟩) := by simpa using hp
  have hu' : tmps[u]?.getD undef = .int .i64 e := by simpa using hu
  simp [results, hf, hp', hu', go_sem, sumV, Nat.add_assoc, e0, e1, e2, Result.andThen]
theorem Bx.drew {N Q : Nat} {w W : World} {x y z : Int} (h : Bx N Q w W x y z) : Bx N Q w W.drew x y z := h.of h.be.drew rfl
theorem wrap_in (x : Int) (h1 : -9223372036854775808 ≤ x) (h2 : x ≤ 9223372036854775807) : IntKind.i64.wrap x = x := by
  simp [IntKind.wrap, IntKind.bits, IntKind.signed]; omega
/-- What the reference's Merge has between two statements. -/
structure RM (N Q : Nat) (w W : World) (S M : Int) : Prop where
  r : Bx N N w W 0 0 0
  s : Bx N Q w W S M 0
  ne : N ≠ Q
theorem RM.drew {N Q : Nat} {w W : World} {S M : Int} (h : RM N Q w W S M) : RM N Q w W.drew S M := ⟨h.r.drew, h.s.drew, h.ne⟩
theorem RM.set0 {N Q : Nat} {w W : World} {S M : Int} (h : RM N Q w W S M) (v : Int) : RM N Q w (W.setCell ⟨Q, 0, none⟩ (.int .i64 v)) v M := ⟨h.r.far h.ne (h.s.put 0 _), h.s.set0 v, h.ne⟩
theorem RM.set1 {N Q : Nat} {w W : World} {S M : Int} (h : RM N Q w W S M) (v : Int) : RM N Q w (W.setCell ⟨Q, 1, none⟩ (.int .i64 v)) S v := ⟨h.r.far h.ne (h.s.put 1 _), h.s.set1 v, h.ne⟩
theorem RM.as {N Q : Nat} {w W : World} {S M S' M' : Int} (h : RM N Q w W S M) (e : S = S') (f : M = M') : RM N Q w W S' M' := e ▸ f ▸ h
end Go.Proofs.YtnclicdnncgdiaaGreatDoor.Mg

/- The reference's tree: Sum: its contract. -/
namespace Go.Proofs.YtnclicdnncgdiaaGreatDoor
open Go.ChangeShapes Go.WideShapes Go.ChangeAt Go.RowKit Go.Proofs.Bt Go.Shelf Go.Proofs.Rx Go.Maps Go.Proofs.Pk
set_option linter.unusedVariables false
set_option linter.unusedSimpArgs false

theorem infoSm9 : (Tryz.prog.info? 87).map (fun i => (i.zero, i.size, i.bytes)) = some (some (.agg #[.int .i64 0, .int .i64 0, .int .i64 0]), 3, 24) := by kernel_rfl
/-- One summary more. -/
theorem sums_more9 {X2 : World} {base : Nat} {v : Value} {k : Nat} {t : List Sm} (h : X2.ownsRow base 87 3 v k (Mg.flat t)) (hk : k < 1000) (blk : Nat) (q : Sm) (n2 : X2.heap[blk]? = some (.cells #[.int .i64 q.s, .int .i64 q.m, .int .i64 q.e] 87 (0, 0))) (hb : base ≤ X2.heap.size) (hne : v.ownBlock ≠ some blk) (ty : TypeId) :
    ∃ g cap Y, (Builtin.append_ #[155, 155] ty #[v, .slice (some ⟨blk, 0, none⟩) 1 1]).run Tryz.prog X2 = .ok (.slice (some ⟨g, 0, none⟩) (k + 1) cap) Y ∧ Y.ownsRow base 87 3 (.slice (some ⟨g, 0, none⟩) (k + 1) cap) (k + 1) (Mg.flat (t ++ [q])) ∧ Kept (fun x => v.ownBlock = some x) X2 Y ∧ (v.ownBlock = some g ∨ X2.heap.size ≤ g) ∧ g < Y.heap.size := by
  obtain ⟨i0, hi0, hz0, hz1, hz2⟩ := Mg.info_parts infoSm9
  obtain ⟨g, cap, Y, r1, o1, g1, hat, hlt⟩ := run_append_lies (P := Tryz.prog) X2 155 ty base 87 i0 _ 3 24 Tryz.underlying155 hi0 hz0 hz1 hz2 rfl (by decide) v k (Mg.flat t) h ⟨blk, 0, none⟩ 1 1 [.int .i64 q.s, .int .i64 q.m, .int .i64 q.e] rfl (World.news_of_block n2) (by intro u hu; simp at hu; rcases hu with rfl | rfl | rfl <;> rfl) (by decide) (by unfold maxLen; omega) (by omega) hb _ rfl
  refine ⟨g, cap, Y, r1, ?_, Kept.of_grown g1 (fun j e => e), ?_, hlt⟩
  · rw [Mg.flat_app]; exact o1
  · rcases hat with e | e
    · exact .inl e
    · exact .inr (by omega)
/-- The summaries of the first k rows. -/
def tX9 (X : Nat → Rw) (k : Nat) : List Sm := (List.range k).map fun j => sm (X j)
theorem tX9_len (X : Nat → Rw) (k : Nat) : (tX9 X k).length = k := by simp [tX9]
theorem tX9_succ (X : Nat → Rw) (k : Nat) : tX9 X (k + 1) = tX9 X k ++ [sm (X k)] := by simp [tX9, List.range_succ]
theorem tX9_at (X : Nat → Rw) (k : Nat) {j : Nat} (hj : j < k) : Mg.nth (tX9 X k) j = sm (X j) := by
  unfold Mg.nth tX9
  simp [hj]
/-- What the merge of the eight is. -/
theorem merged9 {st : Nat → Nat} {a P s m e : Nat} (hP : 1 ≤ P) (hP2 : P ≤ 2097152) {X : Nat → Rw} (hX : ∀ j, j < 8 → Su st (a + P * j) P (X j)) (hs : SumN (bsy st a) (P * 8) s m e) :
    Mg.RR (tX9 X 8) (P : Nat) ∧ mg ((P : Nat) : Int) (Mg.nth (tX9 X 8)) 8 = ⟨(s : Nat), (m : Nat), (e : Nat)⟩ := by
  obtain ⟨s', m', e', h1, h2⟩ := mg_rows (st := st) (a := a) (by omega) (X := X) 8 hX
  obtain ⟨rfl, rfl, rfl⟩ := h2.one hs
  refine ⟨⟨by omega, by omega, by rw [tX9_len]; omega, fun j hj => ?_⟩, ?_⟩
  · rw [tX9_len] at hj
    rw [tX9_at X 8 hj]
    exact su_rgt hP (hX j hj)
  · rw [← h1]; exact mg_congr _ (fun j hj => tX9_at X 8 hj)
/-- What Sum answers. -/
def SumE (st : Nat → Nat) (lv i : Nat) (W : World) (e : Ending) (w' : World) : Prop :=
  (∃ s m e' : Nat, e = .returned (.tuple #[.agg #[.int .i64 (s : Nat), .int .i64 (m : Nat), .int .i64 (e' : Nat)], .int .i64 0]) ∧ SumN (bsy st (i * sz (3 + lv))) (sz (3 + lv)) s m e') ∧ Below W.heap.size W w'
theorem kept_set3 (w : World) (B : Nat) (x y z : Value) : Kept (fun b => b = B) w (((w.setCell ⟨B, 0, none⟩ x).setCell ⟨B, 1, none⟩ y).setCell ⟨B, 2, none⟩ z) :=
  ((kept_set (F := fun b => b = B) w B 0 x rfl).trans (kept_set (F := fun b => b = B) _ B 1 y rfl) (fun _ _ h => h)).trans (kept_set (F := fun b => b = B) _ B 2 z rfl) (fun _ _ h => h)
theorem ret_sum {fn : Func} {p u : Tmp} (hf : fn.results = #[.cell p 87, .tmp u]) {W : World} {b : Nat} {x y z e : Int} {tmps : Array Value} (hp : tmps.getD p undef = .pointer (some ⟨b, 0, none⟩)) (hu : tmps.getD u undef = .int .i64 e) (h : Bk W b 87 #[.int .i64 x, .int .i64 y, .int .i64 z]) :
    (results fn tmps).run Tryz.prog W = .ok (.tuple #[.agg #[.int .i64 x, .int .i64 y, .int .i64 z], .int .i64 e]) W := by
  have e0 := h.cell 0 _ rfl
  have e1 := h.cell 1 _ rfl
  have e2 := h.cell 2 _ rfl
  have hp' : tmps[p]?.getD undef = .pointer (some ⟨b, 0, none⟩) := by simpa using hp
  have hu' : tmps[u]?.getD undef = .int .i64 e := by simpa using hu
  simp [results, hf, hp', hu', go_sem, Nat.add_assoc, e0, e1, e2, Result.andThen]
section
variable {F : Nat → Prop} {W : World} {rb : Nat} {st : Nat → Nat} {Q : List (Nat × Nat)} {o : Option Addr} {c : Nat}
end
end Go.Proofs.YtnclicdnncgdiaaGreatDoor

/- The reference's tree: Sum of the levels above the chunks: its contract. -/
namespace Go.Proofs.YtnclicdnncgdiaaGreatDoor
open Go.ChangeShapes Go.WideShapes Go.ChangeAt Go.RowKit Go.Proofs.Bt Go.Shelf Go.Proofs.Rx Go.Maps Go.Proofs.Pk
set_option linter.unusedVariables false
set_option linter.unusedSimpArgs false

/-- Every row has its summary. -/
theorem sum_total9 (st : Nat → Nat) (a n : Nat) : ∃ r : Rw, Su st a n r := by
  obtain ⟨s, m, e, _, h⟩ := mg_rows (st := st) (a := a) (P := 1) (by omega) (X := fun j => if fre st (a + 1 * j) = true then ⟨⟨0, 0, 0⟩, 1, 1, 1, 0⟩ else ⟨⟨0, 0, 0⟩, 0, 0, 0, 0⟩) n (fun j hj => by
    unfold Su
    by_cases z : fre st (a + 1 * j) = true
    · rw [if_pos z]
      exact sumN_full _ _ fun k hk => by
        have e : k = 0 := by omega
        subst e
        unfold bsy
        rw [Nat.add_zero, z]; rfl
    · rw [if_neg z]
      exact sumN_none _ _ fun k hk => by
        have e : k = 0 := by omega
        subst e
        unfold bsy
        rw [Nat.add_zero]
        simpa using z)
  rw [Nat.one_mul] at h
  exact ⟨⟨⟨0, 0, 0⟩, s, m, e, 0⟩, h⟩
/-- Between two rounds of the loop over the eight. -/
structure SgI (B : Nat) (V : World) (X : Nat → Rw) (k : Nat) (v : Value) (W : World) : Prop where
  be : Below (B + 1) V W
  o : W.ownsRow (B + 1) 87 3 v k (Mg.flat (tX9 X k))
theorem SgI.next {B : Nat} {V W W1 W3 : World} {X : Nat → Rw} {k : Nat} {v : Value} (h : SgI B V X k v W) (hV : V.heap.size = B + 1) (b1 : Below W.heap.size W W1) (hk : k < 1000) (hW3 : W3 = (W1.alloc (.cells #[.int .i64 ((X k).s : Nat), .int .i64 ((X k).m : Nat), .int .i64 ((X k).e : Nat)] 87)).alloc (.cells #[.int .i64 ((X k).s : Nat), .int .i64 ((X k).m : Nat), .int .i64 ((X k).e : Nat)] 87)) (ty : TypeId) :
    ∃ g cap Y, (Builtin.append_ #[155, 155] ty #[v, .slice (some ⟨W1.heap.size + 1, 0, none⟩) 1 1]).run Tryz.prog W3 = .ok (.slice (some ⟨g, 0, none⟩) (k + 1) cap) Y ∧ SgI B V X (k + 1) (.slice (some ⟨g, 0, none⟩) (k + 1) cap) Y := by
  have sW : B + 1 ≤ W.heap.size := by have := h.be.size; omega
  have s1 := b1.size
  have bW : Below W1.heap.size W1 W3 := by rw [hW3]; exact ((Below.refl _ W1).alloc (Nat.le_refl _) _).alloc (by simp) _
  have s3 : W3.heap.size = W1.heap.size + 2 := by rw [hW3]; simp
  have o3 : W3.ownsRow (B + 1) 87 3 v k (Mg.flat (tX9 X k)) := owns_kept h.o (fun x hx => (bW.block x (by have := (h.o.lt x hx).2; omega)).trans (b1.block x (h.o.lt x hx).2))
  have n3 : W3.heap[W1.heap.size + 1]? = some (.cells #[.int .i64 (sm (X k)).s, .int .i64 (sm (X k)).m, .int .i64 (sm (X k)).e] 87 (0, 0)) := by
    rw [hW3, alloc_at, if_pos (by simp)]; rfl
  obtain ⟨g, cap, Y, r1, r2, r3, r4, r5⟩ := sums_more9 o3 hk (W1.heap.size + 1) (sm (X k)) n3 (by omega) (fun z => by have := (h.o.lt _ z).2; omega) ty
  refine ⟨g, cap, Y, r1, ⟨?_, by rw [tX9_succ]; exact r2⟩⟩
  have b3 : Below (B + 1) V W3 := (h.be.trans (b1.mono sW)).trans (bW.mono (by omega))
  exact b3.trans (r3.below (by omega) (fun b e => (o3.lt b e).1))
theorem far_3 (i : Nat) (h : ¬ (i + 1) * sz (3 + 3) ≤ 34359738368) : 67108864 ≤ i := by
  rcases Nat.lt_or_ge i 67108864 with z | z
  · exact absurd (Nat.le_trans (Nat.mul_le_mul_right _ (show i + 1 ≤ 67108864 by omega)) (Nat.le_of_eq rfl)) h
  · exact z
theorem far_2 (i : Nat) (h : ¬ (i + 1) * sz (3 + 2) ≤ 34359738368) : 8388608 ≤ i := by
  rcases Nat.lt_or_ge i 8388608 with z | z
  · exact absurd (Nat.le_trans (Nat.mul_le_mul_right _ (show i + 1 ≤ 8388608 by omega)) (Nat.le_of_eq rfl)) h
  · exact z
theorem far_1 (i : Nat) (h : ¬ (i + 1) * sz (3 + 1) ≤ 34359738368) : 1048576 ≤ i := by
  rcases Nat.lt_or_ge i 1048576 with z | z
  · exact absurd (Nat.le_trans (Nat.mul_le_mul_right _ (show i + 1 ≤ 1048576 by omega)) (Nat.le_of_eq rfl)) h
  · exact z
theorem far_0 (i : Nat) (h : ¬ (i + 1) * sz (3 + 0) ≤ 34359738368) : 131072 ≤ i := by
  rcases Nat.lt_or_ge i 131072 with z | z
  · exact absurd (Nat.le_trans (Nat.mul_le_mul_right _ (show i + 1 ≤ 131072 by omega)) (Nat.le_of_eq rfl)) h
  · exact z
section
variable {F : Nat → Prop} {W : World} {rb : Nat} {st : Nat → Nat} {Q : List (Nat × Nat)} {o : Option Addr} {c : Nat}
theorem b8_2 (i : Nat) (hi : (i + 1) * 4096 ≤ 34359738368) : (∀ j, j < 8 → (8 * i + j + 1) * 512 ≤ 34359738368) ∧ (∀ j, (8 * i + j) * 512 = i * 4096 + 512 * j) ∧ i < 8388608 := ⟨fun j hj => Nat.le_trans (Nat.mul_le_mul_right 512 (show 8 * i + j + 1 ≤ 67108864 by
    have : i + 1 ≤ 8388608 := by omega
    omega)) (Nat.le_of_eq rfl), fun j => by omega, by omega⟩
theorem b8_1 (i : Nat) (hi : (i + 1) * 32768 ≤ 34359738368) : (∀ j, j < 8 → (8 * i + j + 1) * 4096 ≤ 34359738368) ∧ (∀ j, (8 * i + j) * 4096 = i * 32768 + 4096 * j) ∧ i < 1048576 := ⟨fun j hj => Nat.le_trans (Nat.mul_le_mul_right 4096 (show 8 * i + j + 1 ≤ 8388608 by
    have : i + 1 ≤ 1048576 := by omega
    omega)) (Nat.le_of_eq rfl), fun j => by omega, by omega⟩
theorem b8_0 (i : Nat) (hi : (i + 1) * 262144 ≤ 34359738368) : (∀ j, j < 8 → (8 * i + j + 1) * 32768 ≤ 34359738368) ∧ (∀ j, (8 * i + j) * 32768 = i * 262144 + 32768 * j) ∧ i < 131072 := ⟨fun j hj => Nat.le_trans (Nat.mul_le_mul_right 32768 (show 8 * i + j + 1 ≤ 1048576 by
    have : i + 1 ≤ 131072 := by omega
    omega)) (Nat.le_of_eq rfl), fun j => by omega, by omega⟩
end
end Go.Proofs.YtnclicdnncgdiaaGreatDoor
