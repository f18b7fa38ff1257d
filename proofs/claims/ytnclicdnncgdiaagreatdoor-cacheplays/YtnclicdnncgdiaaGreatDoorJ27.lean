/- J27 of the proof of both laws: texts Zi, Zj, Zl, one behind the other. -/
import Derived.Test.YtnclicdnncgdiaaGreatDoorJ22
import Derived.Maps.AppendAt
import Derived.Laws.AppendOwnNone
/- The reference's tree grows: lists of chunks. -/
namespace Go.Proofs.YtnclicdnncgdiaaGreatDoor
open Go.ChangeShapes Go.WideShapes Go.ChangeAt Go.RowKit Go.Proofs.Bt Go.Shelf Go.Proofs.Rx Go.Maps Go.Proofs.Pk
set_option linter.unusedVariables false
set_option linter.unusedSimpArgs false

def cq (x : Nat × Nat) : List Value := [.int .u64 (x.1 : Int), .pointer (some ⟨x.2, 0, none⟩)]
theorem infoPt : (Tryz.prog.info? 64).map (fun i => (i.zero, i.size, i.bytes)) = some (some (.agg #[.int .u64 0, .pointer none]), 2, 16) := by kernel_rfl
theorem cqs_one (l : List (Nat × Nat)) : ∀ u ∈ l.flatMap cq, u.oneCell' = true := by
  intro u hu
  obtain ⟨s, _, h⟩ := List.mem_flatMap.1 hu
  simp [cq] at h
  rcases h with rfl | rfl <;> rfl
theorem cqs_len (l : List (Nat × Nat)) : (l.flatMap cq).length = l.length * 2 := by
  induction l with
  | nil => rfl
  | cons a l ih => rw [List.flatMap_cons, List.length_append, ih, List.length_cons]; simp [cq]; omega
theorem cqs_part (ps : List (Nat × Nat)) (a n : Nat) (h : a + n ≤ ps.length) (j : Nat) (u : Value) (hu : (((ps.drop a).take n).flatMap cq)[j]? = some u) : (ps.flatMap cq)[a * 2 + j]? = some u := by
  have e : ps = ps.take a ++ ((ps.drop a).take n ++ (ps.drop a).drop n) := by rw [List.take_append_drop, List.take_append_drop]
  have l1 : ((ps.take a).flatMap cq).length = a * 2 := by rw [cqs_len, List.length_take, Nat.min_eq_left (by omega)]
  have hj := (List.getElem?_eq_some_iff.1 hu).1
  rw [e, List.flatMap_append, List.getElem?_append_right (by omega), l1, show a * 2 + j - a * 2 = j by omega, List.flatMap_append, List.getElem?_append_left hj]
  exact hu
/-- Chunks more. -/
theorem parts_more {w1 : World} {base : Nat} {v : Value} {n : Nat} {ys : List Value} (hb : base ≤ w1.heap.size) (own : w1.ownsRow base 64 2 v n ys) (hn : n ≤ 1000000000) {src : Value} {xs : List (Nat × Nat)} (hl : xs.length ≤ 1000000000)
    (hsrc : (src = .slice none 0 0 ∧ xs = []) ∨ ∃ b off cap, src = .slice (some ⟨b, off, none⟩) xs.length cap ∧ ∀ j u, (xs.flatMap cq)[j]? = some u → w1.cell? ⟨b, off + j, none⟩ = some u) (ty : TypeId) :
    ∃ o c w2, (Builtin.append_ #[27, 27] ty #[v, src]).run Tryz.prog w1 = .ok (.slice o (n + xs.length) c) w2 ∧ w2.ownsRow base 64 2 (.slice o (n + xs.length) c) (n + xs.length) (ys ++ xs.flatMap cq) ∧ Kept (fun x => v.ownBlock = some x) w1 w2 ∧ ((Value.slice o 0 0).ownBlock = v.ownBlock ∨ (Value.slice o 0 0).ownBlock = some w1.heap.size) := by
  obtain ⟨i0, hi0, hz0, hz1, hz2⟩ := Mg.info_parts infoPt
  rcases hsrc with ⟨rfl, rfl⟩ | ⟨b, off, cap, rfl, hc⟩
  · have hr := run_append_owned_none (P := Tryz.prog) (w := w1) base 27 ty 64 i0 2 Tryz.underlying27 hi0 v n ys own
    rcases Joins.ownsRow_forms own with ⟨rfl, rfl⟩ | ⟨g, cap, rfl⟩
    · exact ⟨none, 0, w1, by simpa using hr, by simpa using own, Kept.refl _ _, .inl rfl⟩
    · exact ⟨some ⟨g, 0, none⟩, cap, w1, by simpa using hr, by simpa using own, Kept.refl _ _, .inl rfl⟩
  · obtain ⟨v', w2, hr, hown, hg, _, hat⟩ := run_append_own_at (P := Tryz.prog) w1 base 27 ty 64 i0 _ 2 16 Tryz.underlying27 hi0 hz0 hz1 hz2 rfl (by decide) v n ys own ⟨b, off, none⟩ xs.length cap (xs.flatMap cq) (cqs_len xs) (fun j u hu => by rw [Mg.addr_add0]; exact hc j u hu) (cqs_one xs) (by unfold maxLen; omega) (by omega) hb
    have kp : Kept (fun x => v.ownBlock = some x) w1 w2 := Kept.of_grown hg (fun k e => e)
    rcases Joins.ownsRow_forms hown with ⟨rfl, e⟩ | ⟨g, cap, rfl⟩
    · exact ⟨none, 0, w2, by rw [hr, e], by rw [e] at hown ⊢; exact hown, kp, hat⟩
    · exact ⟨some ⟨g, 0, none⟩, cap, w2, hr, hown, kp, hat⟩
/-- New chunks, from number c on, in blocks B. -/
def news (c : Nat) : List Nat → List (Nat × Nat)
  | [] => []
  | b :: B => (c, b) :: news (c + 1) B
theorem news_len (c : Nat) (B : List Nat) : (news c B).length = B.length := by
  induction B generalizing c with
  | nil => rfl
  | cons b B ih => simp [news, ih]
theorem news_snoc (c : Nat) (B : List Nat) (b : Nat) : news c (B ++ [b]) = news c B ++ [(c + B.length, b)] := by
  induction B generalizing c with
  | nil => simp [news]
  | cons a B ih =>
    show (c, a) :: news (c + 1) (B ++ [b]) = _
    rw [ih]
    simp [news]
    omega
theorem news_mem {c : Nat} {B : List Nat} {x : Nat × Nat} : x ∈ news c B → c ≤ x.1 ∧ x.1 < c + B.length ∧ x.2 ∈ B := by
  induction B generalizing c with
  | nil => intro h; cases h
  | cons b B ih =>
    intro h
    rcases List.mem_cons.1 h with rfl | h
    · simp
    · obtain ⟨h1, h2, h3⟩ := ih h
      exact ⟨by omega, by simp; omega, List.mem_cons_of_mem _ h3⟩
theorem news_has {c : Nat} {B : List Nat} {k : Nat} (hk : k < B.length) : ∃ x ∈ news c B, x.1 = c + k := by
  induction B generalizing c k with
  | nil => cases hk
  | cons b B ih =>
    cases k with
    | zero => exact ⟨(c, b), List.mem_cons_self, rfl⟩
    | succ k =>
      obtain ⟨x, h1, h2⟩ := ih (c := c + 1) (k := k) (by simpa using hk)
      exact ⟨x, List.mem_cons_of_mem _ h1, by omega⟩
theorem news_up {c : Nat} {B : List Nat} : ((news c B).map (·.1)).Pairwise (· < ·) := by
  induction B generalizing c with
  | nil => exact List.Pairwise.nil
  | cons b B ih =>
    show ((c :: (news (c + 1) B).map (·.1))).Pairwise (· < ·)
    refine List.Pairwise.cons (fun y hy => ?_) ih
    obtain ⟨x, hx, rfl⟩ := List.mem_map.1 hy
    have := (news_mem hx).1
    omega
theorem news_blks {c : Nat} {B : List Nat} : (news c B).map (·.2) = B := by
  induction B generalizing c with
  | nil => rfl
  | cons b B ih => show b :: (news (c + 1) B).map (·.2) = _; rw [ih]
section
variable {st : Nat → Nat} {Q : List (Nat × Nat)} {c n : Nat}
/-- Is one of the chunks there already? -/
theorem twice_iff (h : Mt st Q) (hn : 1 ≤ n) : (∃ hi : pos9 c (pts st Q) < Q.length, Q[pos9 c (pts st Q)].1 < c + n) ↔ 0 < (tl st (c * 512) (n * 512)).p := by
  constructor
  · rintro ⟨hi, e⟩
    have ge := pos9_ge c (pts st Q) (by rw [pts_len]; exact hi)
    rw [pts_at] at ge
    have ge : c ≤ Q[pos9 c (pts st Q)].1 := ge
    have h1 := h.inn _ (List.getElem_mem hi) 0 (by omega)
    rcases Nat.eq_zero_or_pos (tl st (c * 512) (n * 512)).p with z | z
    · have := cnt_zero.1 z (512 * Q[pos9 c (pts st Q)].1 - c * 512) (by omega)
      rw [show c * 512 + (512 * Q[pos9 c (pts st Q)].1 - c * 512) = 512 * Q[pos9 c (pts st Q)].1 + 0 by omega] at this
      unfold inU at this
      simp at this
      exact absurd this h1
    · exact z
  · intro hp
    have : ¬ ∀ k, k < n * 512 → inU st (c * 512 + k) = false := fun z => by
      have : (tl st (c * 512) (n * 512)).p = 0 := cnt_none z
      omega
    obtain ⟨k, hk⟩ := Classical.not_forall.1 this
    obtain ⟨k1, k2⟩ := Classical.not_imp.1 hk
    have k3 : st (c * 512 + k) ≠ 0 := by unfold inU at k2; simpa using k2
    obtain ⟨x, hx, e⟩ := h.out _ k3
    obtain ⟨j, hj, rfl⟩ := List.getElem_of_mem hx
    have le : pos9 c (pts st Q) ≤ j := by
      rcases Nat.lt_or_ge j (pos9 c (pts st Q)) with y | y
      · have := pos9_lt c (pts st Q) j (by rw [pts_len]; exact hj) y
        rw [pts_at] at this
        have : Q[j].1 < c := this
        omega
      · exact y
    refine ⟨by omega, ?_⟩
    rcases Nat.eq_or_lt_of_le le with y | y
    · simp only [y]; omega
    · have := h.lt (i := pos9 c (pts st Q)) (by omega) hj y
      omega
/-- The chunks with the new ones. -/
def grownQ (st : Nat → Nat) (Q : List (Nat × Nat)) (c : Nat) (B : List Nat) : List (Nat × Nat) := Q.take (pos9 c (pts st Q)) ++ (news c B ++ Q.drop (pos9 c (pts st Q)))
theorem grownQ_mem {B : List Nat} {x : Nat × Nat} : x ∈ grownQ st Q c B ↔ x ∈ Q ∨ x ∈ news c B := by
  unfold grownQ
  rw [List.mem_append, List.mem_append]
  constructor
  · rintro (h | h | h)
    · exact .inl (List.mem_of_mem_take h)
    · exact .inr h
    · exact .inl (List.mem_of_mem_drop h)
  · rintro (h | h)
    · rw [← List.take_append_drop (pos9 c (pts st Q)) Q, List.mem_append] at h
      exact h.imp id .inr
    · exact .inr (.inl h)
theorem Mt.grow (h : Mt st Q) (hn : 1 ≤ n) (hc : c + n ≤ 67108864) (ht : ¬ 0 < (tl st (c * 512) (n * 512)).p) {B : List Nat} (hB : B.length = n) (nd : B.Nodup) (ne : ∀ x ∈ Q, x.2 ∉ B) : Mt (setSt st (c * 512) (c * 512 + n * 512) 3) (grownQ st Q c B) := by
  have hz : ∀ q, c * 512 ≤ q → q < c * 512 + n * 512 → st q = 0 := fun q q1 q2 => by
    have := cnt_zero.1 (show cnt (inU st) (c * 512) (n * 512) = 0 from Nat.eq_zero_of_not_pos ht) (q - c * 512) (by omega)
    rw [show c * 512 + (q - c * 512) = q by omega] at this
    unfold inU at this
    simpa using this
  have hout : ∀ x ∈ Q, ¬ (c ≤ x.1 ∧ x.1 < c + n) := fun x hx z => by
    have h1 := h.inn x hx 0 (by omega)
    exact h1 (hz _ (by omega) (by omega))
  have t1 : ∀ x ∈ Q.take (pos9 c (pts st Q)), x.1 < c := fun x hx => by
    obtain ⟨j, hj, rfl⟩ := List.getElem_of_mem hx
    rw [List.length_take] at hj
    have := pos9_lt c (pts st Q) j (by rw [pts_len]; omega) (by omega)
    rw [pts_at] at this
    rw [List.getElem_take]
    exact this
  have t2 : ∀ x ∈ Q.drop (pos9 c (pts st Q)), c + n ≤ x.1 := fun x hx => by
    obtain ⟨j, hj, rfl⟩ := List.getElem_of_mem hx
    rw [List.length_drop] at hj
    have hk : pos9 c (pts st Q) < Q.length := by omega
    have ge := pos9_ge c (pts st Q) (by rw [pts_len]; exact hk)
    rw [pts_at] at ge
    have ge : c ≤ Q[pos9 c (pts st Q)].1 := ge
    rw [List.getElem_drop]
    have ho := hout _ (List.getElem_mem (l := Q) (n := pos9 c (pts st Q) + j) (by omega))
    rcases Nat.eq_zero_or_pos j with y | y
    · subst y; simp only [Nat.add_zero] at ho ⊢; omega
    · have := h.lt (i := pos9 c (pts st Q)) (j := pos9 c (pts st Q) + j) hk (by omega) (by omega)
      omega
  have sub1 : ((Q.take (pos9 c (pts st Q))).map (·.1)).Pairwise (· < ·) := by
    rw [List.map_take]; exact h.rising.sublist (List.take_sublist _ _)
  have sub2 : ((Q.drop (pos9 c (pts st Q))).map (·.1)).Pairwise (· < ·) := by
    rw [List.map_drop]; exact h.rising.sublist (List.drop_sublist _ _)
  refine ⟨?_, fun x hx => ?_, ?_, fun x hx k hk => ?_, fun q hq => ?_, setSt_four h.four (by omega)⟩
  · unfold grownQ
    rw [List.map_append, List.map_append]
    refine List.pairwise_append.2 ⟨sub1, List.pairwise_append.2 ⟨news_up, sub2, fun a ha b hb => ?_⟩, fun a ha b hb => ?_⟩
    · obtain ⟨x, hx, rfl⟩ := List.mem_map.1 ha
      obtain ⟨y, hy, rfl⟩ := List.mem_map.1 hb
      have := (news_mem hx).2.1
      have := t2 y hy
      omega
    · obtain ⟨x, hx, rfl⟩ := List.mem_map.1 ha
      have := t1 x hx
      rcases List.mem_append.1 hb with hb | hb
      · obtain ⟨y, hy, rfl⟩ := List.mem_map.1 hb
        have := (news_mem hy).1
        omega
      · obtain ⟨y, hy, rfl⟩ := List.mem_map.1 hb
        have := t2 y hy
        omega
  · rcases grownQ_mem.1 hx with hx | hx
    · exact h.below x hx
    · have := (news_mem hx).2.1; omega
  · unfold grownQ
    rw [List.map_append, List.map_append, news_blks]
    have nd1 : ((Q.take (pos9 c (pts st Q))).map (·.2)).Nodup := by rw [List.map_take]; exact h.nd.sublist (List.take_sublist _ _)
    have nd2 : ((Q.drop (pos9 c (pts st Q))).map (·.2)).Nodup := by rw [List.map_drop]; exact h.nd.sublist (List.drop_sublist _ _)
    have nd3 : ∀ a ∈ (Q.take (pos9 c (pts st Q))).map (·.2), ∀ b ∈ (Q.drop (pos9 c (pts st Q))).map (·.2), a ≠ b := by
      have := h.nd
      rw [← List.take_append_drop (pos9 c (pts st Q)) Q, List.map_append] at this
      exact (List.nodup_append.1 this).2.2
    refine List.nodup_append.2 ⟨nd1, List.nodup_append.2 ⟨nd, nd2, fun a ha b hb e => ?_⟩, fun a ha b hb e => ?_⟩
    · obtain ⟨y, hy, rfl⟩ := List.mem_map.1 hb
      exact ne y (List.mem_of_mem_drop hy) (e ▸ ha)
    · rcases List.mem_append.1 hb with hb | hb
      · obtain ⟨y, hy, rfl⟩ := List.mem_map.1 ha
        exact ne y (List.mem_of_mem_take hy) (e ▸ hb)
      · exact nd3 a ha b hb e
  · unfold setSt
    split
    · decide
    · rename_i z
      rcases grownQ_mem.1 hx with hx | hx
      · exact h.inn x hx k hk
      · have := news_mem hx
        omega
  · unfold setSt at hq
    split at hq
    · rename_i z
      obtain ⟨x, hx, e⟩ := news_has (c := c) (B := B) (k := q / 512 - c) (by omega)
      exact ⟨x, grownQ_mem.2 (.inr hx), by omega⟩
    · obtain ⟨x, hx, e⟩ := h.out q hq
      exact ⟨x, grownQ_mem.2 (.inl hx), e⟩
end
end Go.Proofs.YtnclicdnncgdiaaGreatDoor

/- The reference's tree: what Grow lays. -/
namespace Go.Proofs.YtnclicdnncgdiaaGreatDoor
open Go.ChangeShapes Go.WideShapes Go.ChangeAt Go.RowKit Go.Proofs.Bt Go.Shelf Go.Proofs.Rx Go.Maps Go.Proofs.Pk
set_option linter.unusedVariables false
set_option linter.unusedSimpArgs false

/-- The list so far: the chunks ahead of place p, and new ones in blocks B. -/
structure Laid9 (W : World) (Q : List (Nat × Nat)) (p c : Nat) (B : List Nat) (v : Value) (wr : World) : Prop where
  be : Below W.heap.size W wr
  own : wr.ownsRow W.heap.size 64 2 v (p + B.length) ((Q.take p ++ news c B).flatMap cq)
  bk : ∀ b ∈ B, W.heap.size ≤ b ∧ RcF wr b (fun _ => false) (setF (fun _ => false) 0 512) ∧ v.ownBlock ≠ some b
  nd : B.Nodup
section
variable {W wr w1 : World} {Q : List (Nat × Nat)} {p c : Nat} {B : List Nat} {v : Value}
theorem Laid9.shape (h : Laid9 W Q p c B v wr) : ∃ o k, v = .slice o (p + B.length) k := by
  rcases Joins.ownsRow_forms h.own with ⟨rfl, e⟩ | ⟨g, cap, rfl⟩
  · exact ⟨none, 0, by rw [e]⟩
  · exact ⟨_, _, rfl⟩
theorem Laid9.start {o : Option Addr} {cap : Nat} (hp : p ≤ Q.length) (own : w1.ownsRow W.heap.size 64 2 (.slice o p cap) p ((Q.take p).flatMap cq)) (be : Below W.heap.size W w1) : Laid9 W Q p c [] (.slice o p cap) w1 :=
  ⟨be, by simpa [news] using own, fun b hb => absurd hb (by simp), List.nodup_nil⟩
theorem Laid9.push (h : Laid9 W Q p c B v wr) (hn : p + B.length ≤ 999999999) (hb : Below wr.heap.size wr w1) (r : RcF w1 wr.heap.size (fun _ => false) (setF (fun _ => false) 0 512)) (ty : TypeId) :
    ∃ o k w2, (Builtin.append_ #[27, 27] ty #[v, .slice (some ⟨w1.heap.size, 0, none⟩) 1 1]).run Tryz.prog (w1.alloc (.cells #[.int .u64 ((c + B.length : Nat) : Int), .pointer (some ⟨wr.heap.size, 0, none⟩)] 64)) = .ok (.slice o (p + (B.length + 1)) k) w2 ∧ Laid9 W Q p c (B ++ [wr.heap.size]) (.slice o (p + (B.length + 1)) k) w2 := by
  obtain ⟨w3, hw3⟩ : ∃ w3, w1.alloc (.cells #[.int .u64 ((c + B.length : Nat) : Int), .pointer (some ⟨wr.heap.size, 0, none⟩)] 64) = w3 := ⟨_, rfl⟩
  have sW := h.be.size
  have s1 := hb.size
  have rl := r.lt
  have s3 : w3.heap.size = w1.heap.size + 1 := by rw [← hw3]; simp
  have b13 : Below w1.heap.size w1 w3 := by rw [← hw3]; exact (Below.refl _ w1).alloc (Nat.le_refl _) _
  have br3 : Below wr.heap.size wr w3 := hb.trans (b13.mono s1)
  have o3 : w3.ownsRow W.heap.size 64 2 v (p + B.length) ((Q.take p ++ news c B).flatMap cq) := owns_kept h.own (fun x hx => br3.block x (h.own.lt x hx).2)
  obtain ⟨o, k, w2, r1, r2, r3, r4⟩ := parts_more (xs := [(c + B.length, wr.heap.size)]) (by omega) o3 (by omega) (by simp) (src := .slice (some ⟨w1.heap.size, 0, none⟩) 1 1) (.inr ⟨w1.heap.size, 0, 1, rfl, fun j u hu => by
    rw [Nat.zero_add, ← hw3, World.cell?_alloc_new]
    simpa [cq] using hu⟩) ty
  rw [hw3]
  simp only [List.length_cons, List.length_nil, Nat.zero_add] at r1 r2
  refine ⟨o, k, w2, r1, ⟨?_, ?_, fun b hb' => ?_, ?_⟩⟩
  · exact (h.be.trans (br3.mono sW)).trans (r3.below (by omega) (fun b e => (o3.lt b e).1))
  · rw [news_snoc, ← List.append_assoc, List.flatMap_append, List.length_append]
    exact r2
  · rcases List.mem_append.1 hb' with hb' | hb'
    · obtain ⟨q1, q2, q3⟩ := h.bk b hb'
      refine ⟨q1, (q2.below br3).kept r3 q3, fun e => ?_⟩
      rw [own_of] at e
      rcases r4 with r4 | r4
      · exact q3 (r4.symm.trans e)
      · have := q2.lt
        have e' : some w3.heap.size = some b := r4.symm.trans e
        injection e' with e'
        omega
    · obtain rfl : b = wr.heap.size := by simpa using hb'
      have ne : v.ownBlock ≠ some wr.heap.size := fun e => by have := (h.own.lt _ e).2; omega
      refine ⟨sW, (r.below b13).kept r3 ne, fun e => ?_⟩
      rw [own_of] at e
      rcases r4 with r4 | r4
      · exact ne (r4.symm.trans e)
      · have e' : some w3.heap.size = some wr.heap.size := r4.symm.trans e
        injection e' with e'
        omega
  · refine List.nodup_append.2 ⟨h.nd, by simp, fun a ha b hb' => ?_⟩
    obtain rfl : b = wr.heap.size := by simpa using hb'
    have := (h.bk a ha).2.1.lt
    omega
/-- What Grow leaves. -/
def GrwL (F : Nat → Prop) (W : World) (rb : Nat) (st : Nat → Nat) (Q : List (Nat × Nat)) (c n : Nat) (e : Ending) (W' : World) : Prop :=
  e = .returned (.int .i64 0) ∧ (∃ B o k, B.length = n ∧ RefAt (fun x => F x ∨ (W.heap.size ≤ x ∧ x < W'.heap.size)) W' rb (setSt st (c * 512) (c * 512 + n * 512) 3) (grownQ st Q c B) o k) ∧ Kept F W W'
theorem Laid9.done {F : Nat → Prop} {rb : Nat} {st : Nat → Nat} {o : Option Addr} {k n : Nat} (R : RefAt F W rb st Q o k) (hp : p = pos9 c (pts st Q)) (h : Laid9 W Q p c B v wr) (hB : B.length = n) (hn : 1 ≤ n) (hc : c + n ≤ 67108864) (ht : ¬ 0 < (tl st (c * 512) (n * 512)).p)
    {w6 : World} {o6 : Option Addr} {c6 : Nat} (own : w6.ownsRow W.heap.size 64 2 (.slice o6 (p + n + (Q.length - p)) c6) (p + n + (Q.length - p)) ((Q.take p ++ news c B).flatMap cq ++ (Q.drop p).flatMap cq)) (kp : Kept (fun x => v.ownBlock = some x) wr w6) :
    GrwL F W rb st Q c n (.returned (.int .i64 0)) (w6.setCell ⟨rb, 0, none⟩ (.slice o6 (p + n + (Q.length - p)) c6)) := by
  have hrb := R.lt (.inl rfl)
  have sW := h.be.size
  have b6 : Below W.heap.size W w6 := h.be.trans (kp.below sW (fun b e => (h.own.lt b e).1))
  have s6 := b6.size
  obtain ⟨W7, hW7⟩ : ∃ W7, w6.setCell ⟨rb, 0, none⟩ (.slice o6 (p + n + (Q.length - p)) c6) = W7 := ⟨_, rfl⟩
  have k7 : ∀ x, x ≠ rb → W7.heap[x]? = w6.heap[x]? := fun x hx => by rw [← hW7]; exact Below.heap_setCell _ _ _ _ hx
  have s7 : W7.heap.size = w6.heap.size := by rw [← hW7]; simp
  have c7 : W7.cell? ⟨rb, 0, none⟩ = some (.slice o6 (p + n + (Q.length - p)) c6) := by
    rw [← hW7]; exact World.cell?_setCell_same _ _ _ ((b6.cell (p := ⟨rb, 0, none⟩) hrb).trans R.cell0)
  have f7 : W7.frozen? ⟨rb, 0, none⟩ = false := by
    rw [← hW7, World.frozen?_setCell]; exact (b6.frozen (p := ⟨rb, 0, none⟩) hrb).trans R.tr.fz
  have hle : p ≤ Q.length := by rw [hp]; have := pos9_le c (pts st Q); rwa [pts_len] at this
  have eQ : grownQ st Q c B = Q.take p ++ news c B ++ Q.drop p := by unfold grownQ; rw [← hp, List.append_assoc]
  have lQ : (grownQ st Q c B).length = p + n + (Q.length - p) := by
    rw [eQ, List.length_append, List.length_append, List.length_take, List.length_drop, news_len, hB, Nat.min_eq_left hle]
  have m' := R.mt.grow hn hc ht hB h.nd (fun x hx hb => by
    have h1 := (h.bk _ hb).1
    have h2 := R.lt (.inr (.inr ⟨x, hx, rfl⟩))
    omega)
  have lo := own.lt
  rw [hW7]
  refine ⟨rfl, ⟨B, o6, c6, hB, ⟨⟨?_, f7, ?_, fun i hi => ?_, ?_, ?_⟩, m', fun x hx => ?_⟩⟩, ?_⟩
  · rw [pts_len, lQ]; exact c7
  · rw [pts_len, lQ, ptcells_eq, eQ, List.flatMap_append]
    exact owns_kept (Joins.ownsRow_le own (Nat.zero_le _)) (fun x hx => k7 x (fun e => by have := (lo x hx).1; omega))
  · have hi' : i < (grownQ st Q c B).length := by rw [pts_len] at hi; exact hi
    simp only [pts_at]
    rcases grownQ_mem.1 (List.getElem_mem hi') with hx | hx
    · obtain ⟨j, hj, e⟩ := List.getElem_of_mem hx
      rw [← e]
      have h1 := R.blk hj
      have e1 : W7.heap[Q[j].2]? = W.heap[Q[j].2]? := (k7 _ (R.ne_rb hj)).trans (b6.block _ h1.lt)
      have no : ¬ (c ≤ Q[j].1 ∧ Q[j].1 < c + n) := fun z => ht (by
        rcases Nat.eq_zero_or_pos (tl st (c * 512) (n * 512)).p with y | y
        · have := cnt_zero.1 y (512 * Q[j].1 - c * 512) (by omega)
          rw [show c * 512 + (512 * Q[j].1 - c * 512) = 512 * Q[j].1 + 0 by omega] at this
          unfold inU at this
          simp at this
          exact absurd this (R.mt.inn _ (List.getElem_mem hj) 0 (by omega))
        · exact y)
      refine ⟨(h1.used.block e1).congr fun q hq => ?_, (h1.gone.block e1).congr fun q hq => ?_⟩
      · unfold pt; dsimp only; rw [setSt_out (by omega)]
      · unfold pt; dsimp only; rw [setSt_out (by omega)]
    · obtain ⟨q1, q2, q3⟩ := news_mem hx
      obtain ⟨b1, b2, b3⟩ := h.bk _ q3
      have r6 := b2.kept kp b3
      have e1 := k7 (grownQ st Q c B)[i].2 (by omega)
      refine ⟨(r6.used.block e1).congr fun q hq => ?_, (r6.gone.block e1).congr fun q hq => ?_⟩
      · unfold pt; dsimp only; rw [setSt_in (by omega)]; rfl
      · unfold pt setF; dsimp only; rw [setSt_in (by omega), decide_eq_true (by omega)]; rfl
  · rw [pts_ns]; exact m'.rising
  · intro x hx
    unfold pts at hx
    obtain ⟨y, hy, rfl⟩ := List.mem_map.1 hx
    exact m'.below y hy
  · rcases hx with rfl | hx | ⟨y, hy, rfl⟩
    · exact .inl (R.ft _ (.inl rfl))
    · have := lo x (by rw [own_of]; exact hx)
      exact .inr ⟨this.1, by omega⟩
    · rcases grownQ_mem.1 hy with hy | hy
      · exact .inl (R.ft _ (.inr (.inr ⟨y, hy, rfl⟩)))
      · obtain ⟨b1, b2, b3⟩ := h.bk _ (news_mem hy).2.2
        have := (b2.kept kp b3).lt
        exact .inr ⟨b1, by omega⟩
  · rw [← hW7]
    exact (Kept.of_below b6).trans (kept_set w6 rb 0 _ (R.ft _ (.inl rfl))) (fun _ _ z => z)
end
end Go.Proofs.YtnclicdnncgdiaaGreatDoor

/- The reference's tree: Grow: its contract. -/
namespace Go.Proofs.YtnclicdnncgdiaaGreatDoor
open Go.ChangeShapes Go.WideShapes Go.ChangeAt Go.RowKit Go.Proofs.Bt Go.Shelf Go.Proofs.Rx Go.Maps Go.Proofs.Pk
set_option linter.unusedVariables false
set_option linter.unusedSimpArgs false

theorem own_emptyP (w : World) : (w.alloc (.cells #[] 64)).ownsRow w.heap.size 64 2 (.slice (some ⟨w.heap.size, 0, none⟩) 0 0) 0 [] :=
  World.ownsRow_made w #[] 0 (Nat.le_refl _) (by decide) rfl
section
variable {F : Nat → Prop} {W : World} {rb : Nat} {st : Nat → Nat} {Q : List (Nat × Nat)} {o : Option Addr} {k : Nat}
set_option maxRecDepth 100000 in
theorem r9_grow_bad (h : RefAt F W rb st Q o k) (c n : Nat) (hc : c < 18446744073709551616) (hn : n < 18446744073709551616) (hb : GrowBad c n) :
    Calls Tryz.prog 7 #[.pointer (some ⟨rb, 0, none⟩), .int .u64 (c : Nat), .int .u64 (n : Nat)] W (RfL F W rb st Q o k (.int .i64 1)) := by
  obtain ⟨R, hR⟩ : ∃ R, R = RfL F W rb st Q o k (.int .i64 1) := ⟨_, rfl⟩
  rw [← hR]
  have FI := hide (show R (.returned (.int .i64 1)) W from by rw [hR]; exact ⟨rfl, h, Kept.refl _ _⟩)
  obtain ⟨C, hC⟩ : ∃ C : Int, (c : Int) = C := ⟨_, rfl⟩
  obtain ⟨M, hM⟩ : ∃ M : Int, (n : Int) = M := ⟨_, rfl⟩
  have c0 : 0 ≤ C := by omega
  have m0 : 0 ≤ M := by omega
  have c1 : C < 18446744073709551616 := by omega
  have m1 : M < 18446744073709551616 := by omega
  have hb' : M = 0 ∨ 262144 < M ∨ 67108864 < C + M := by unfold GrowBad at hb; omega
  rw [hC, hM]
  clear hR h hb hC hM hc hn
  by_cases z1 : M = 0
  · have d1 : (M == 0) = true := beq_iff_eq.2 z1
    clear hb' z1
    go_enter Tryz.func7, Tryz.ntmps7
    go_wp2_with fail
    first | exact FI.out | (go_ret; exact FI.out)
  have d1 : (M == 0) = false := beq_eq_false_iff_ne.2 z1
  by_cases z2 : 262144 < M
  · have d2 : decide (262144 < M) = true := decide_eq_true z2
    clear hb' z1 z2
    go_enter Tryz.func7, Tryz.ntmps7
    go_wp2_with fail
    first | exact FI.out | (go_ret; exact FI.out)
  have d2 : decide (262144 < M) = false := decide_eq_false z2
  by_cases z3 : 67108864 < C
  · have d3 : decide (67108864 < C) = true := decide_eq_true z3
    clear hb' z1 z2 z3
    go_enter Tryz.func7, Tryz.ntmps7
    go_wp2_with fail
    first | exact FI.out | (go_ret; exact FI.out)
  have d3 : decide (67108864 < C) = false := decide_eq_false z3
  have d4 : decide (67108864 - C < M) = true := decide_eq_true (by omega)
  have z4 : C ≤ 67108864 := by omega
  clear hb' z1 z2 z3
  go_enter Tryz.func7, Tryz.ntmps7
  go_wp2_with fail
  first | exact FI.out | (go_ret; exact FI.out)
set_option maxRecDepth 100000 in
theorem r9_grow_twice (h : RefAt F W rb st Q o k) (hl : Q.length ≤ 1000000) (c n : Nat) (hb : ¬ GrowBad c n) (ht : 0 < (tl st (c * 512) (n * 512)).p) :
    Calls Tryz.prog 7 #[.pointer (some ⟨rb, 0, none⟩), .int .u64 (c : Nat), .int .u64 (n : Nat)] W (RfL F W rb st Q o k (.int .i64 34)) := by
  obtain ⟨R, hR⟩ : ∃ R, R = RfL F W rb st Q o k (.int .i64 34) := ⟨_, rfl⟩
  rw [← hR]
  have HR := hide hR
  have CF := hide (find9 h.tr (by rw [pts_len]; exact hl) (c : Nat) (by omega))
  rw [Int.toNat_natCast] at CF
  have hb' : n ≠ 0 ∧ n ≤ 262144 ∧ c + n ≤ 67108864 := by unfold GrowBad at hb; omega
  obtain ⟨hi, hlt⟩ := (twice_iff (c := c) h.mt (by omega)).2 ht
  obtain ⟨p, hp⟩ : ∃ p, pos9 c (pts st Q) = p := ⟨_, rfl⟩
  simp only [hp] at hi hlt CF
  generalize has9 c (pts st Q) = hb9 at CF
  have HH := hide h
  obtain ⟨C, hC⟩ : ∃ C : Int, (c : Int) = C := ⟨_, rfl⟩
  obtain ⟨M, hM⟩ : ∃ M : Int, (n : Int) = M := ⟨_, rfl⟩
  obtain ⟨P, hP⟩ : ∃ P : Int, (p : Int) = P := ⟨_, rfl⟩
  rw [hC, hP] at CF
  rw [hC, hM]
  have c0 : 0 ≤ C := by omega
  have m0 : 1 ≤ M := by omega
  have m1 : M ≤ 262144 := by omega
  have m2 : C + M ≤ 67108864 := by omega
  have d1 : (M == 0) = false := beq_eq_false_iff_ne.2 (by omega)
  have d2 : decide (262144 < M) = false := decide_eq_false (by omega)
  have d3 : decide (67108864 < C) = false := decide_eq_false (by omega)
  have d4 : decide (67108864 - C < M) = false := decide_eq_false (by omega)
  obtain ⟨b, rfl, e0, -⟩ := h.at hi
  obtain ⟨NI, hNI⟩ : ∃ NI : Int, (Q[p].1 : Int) = NI := ⟨_, rfl⟩
  rw [hNI, show p = P.toNat by omega] at e0
  have q1 : NI < C + M := by omega
  have q2 : 0 ≤ NI := by omega
  obtain ⟨L, hL⟩ : ∃ L : Nat, Q.length = L := ⟨_, rfl⟩
  have f0 := h.cell0
  rw [hL] at f0
  have p0 : 0 ≤ P := by omega
  have p1 : P < (L : Int) := by omega
  have l1 : (L : Int) ≤ 1000000 := by omega
  have CC := hide (show ∀ j, (W.drewN j).cell? ⟨rb, 0, none⟩ = some (.slice (some ⟨b, 0, none⟩) L k) ∧ (W.drewN j).cell? ⟨b, P.toNat * 2, none⟩ = some (.int .u64 NI) from fun j => ⟨f0, e0⟩)
  clear hR h hb hC hM hP hNI hlt hp ht hb' hi hL f0 e0
  go_enter Tryz.func7, Tryz.ntmps7
  go_wp2_with fail
  refine CF.out.mono ?_
  rintro e w1 ⟨rfl, j, hw⟩
  obtain ⟨f0, e0⟩ := CC.out j
  rw [← hw] at f0 e0
  have FI := hide (show R (.returned (.int .i64 34)) w1 from by rw [HR.out]; exact ⟨rfl, HH.out.same ⟨j, hw⟩⟩)
  clear hw CF CC HH HR
  go_wp2_with fail
  first | exact FI.out | (go_ret; exact FI.out)
set_option maxRecDepth 100000 in
set_option maxHeartbeats 2000000 in
theorem r9_grow (h : RefAt F W rb st Q o k) (hl : Q.length ≤ 1000000) (c n : Nat) (hb : ¬ GrowBad c n) (ht : ¬ 0 < (tl st (c * 512) (n * 512)).p) :
    Calls Tryz.prog 7 #[.pointer (some ⟨rb, 0, none⟩), .int .u64 (c : Nat), .int .u64 (n : Nat)] W (GrwL F W rb st Q c n) := by
  obtain ⟨R, hR⟩ : ∃ R, R = GrwL F W rb st Q c n := ⟨_, rfl⟩
  rw [← hR]
  have HR := hide hR
  have CF := hide (find9 h.tr (by rw [pts_len]; exact hl) (c : Nat) (by omega))
  rw [Int.toNat_natCast] at CF
  have hb' : n ≠ 0 ∧ n ≤ 262144 ∧ c + n ≤ 67108864 := by unfold GrowBad at hb; omega
  have HT := hide ht
  obtain ⟨p, hp⟩ : ∃ p, pos9 c (pts st Q) = p := ⟨_, rfl⟩
  have HP := hide hp
  have hle : p ≤ Q.length := by rw [← hp]; have := pos9_le c (pts st Q); rwa [pts_len] at this
  have hno : ∀ hi : p < Q.length, c + n ≤ Q[p].1 := fun hi => by
    rcases Nat.lt_or_ge Q[p].1 (c + n) with y | y
    · exact absurd ((twice_iff (c := c) h.mt (by omega)).1 (by rw [hp]; exact ⟨hi, y⟩)) ht
    · exact y
  simp only [hp] at CF
  generalize has9 c (pts st Q) = hb9 at CF
  have HH := hide h
  obtain ⟨C, hC⟩ : ∃ C : Int, (c : Int) = C := ⟨_, rfl⟩
  obtain ⟨M, hM⟩ : ∃ M : Int, (n : Int) = M := ⟨_, rfl⟩
  obtain ⟨P, hP⟩ : ∃ P : Int, (p : Int) = P := ⟨_, rfl⟩
  rw [hC] at CF
  rw [hC, hM]
  have c0 : 0 ≤ C := by omega
  have m0 : 1 ≤ M := by omega
  have m1 : M ≤ 262144 := by omega
  have m2 : C + M ≤ 67108864 := by omega
  have d1 : (M == 0) = false := beq_eq_false_iff_ne.2 (by omega)
  have d2 : decide (262144 < M) = false := decide_eq_false (by omega)
  have d3 : decide (67108864 < C) = false := decide_eq_false (by omega)
  have d4 : decide (67108864 - C < M) = false := decide_eq_false (by omega)
  have HNO := hide hno
  have HCM := hide (And.intro hC hM)
  have HLE := hide hle
  have HBB := hide hb'
  obtain ⟨L, hL⟩ : ∃ L : Nat, Q.length = L := ⟨_, rfl⟩
  have HL := hide hL
  have l1 : (L : Int) ≤ 1000000 := by omega
  have p1 : (p : Int) ≤ (L : Int) := by omega
  clear hR h hb hC hM hP hp ht hno hb' hle hL
  go_enter Tryz.func7, Tryz.ntmps7
  go_wp2_with fail
  refine CF.out.mono ?_
  rintro e W1 ⟨rfl, j, hw⟩
  have R1 := hide (show RefAt F W1 rb st Q o k from by rw [hw]; exact HH.out.drewN j)
  have FIN := hide (show ∀ W', GrwL F W1 rb st Q c n (.returned (.int .i64 0)) W' → R (.returned (.int .i64 0)) W' from fun W' q => by
    rw [HR.out]
    rw [hw] at q
    exact ⟨q.1, q.2.1, (kept_drewN F W j).trans q.2.2 (fun _ _ z => z)⟩)
  clear hw CF HH HR
  have f0 := R1.out.cell0
  rw [HL.out] at f0
  have z0 := R1.out.tr.fz
  have hrb := R1.out.lt (.inl rfl)
  rcases Joins.ownsRow_forms R1.out.tr.own with ⟨e, hn0⟩ | ⟨g, cap, e⟩
  · injection e with e1 e2 e3
    subst e1
    subst e3
    rw [pts_len, HL.out] at e2
    subst e2
    obtain rfl : p = 0 := by omega
    obtain ⟨o5, c5, w5, r5, own5, k5, -⟩ := parts_more (w1 := W1.alloc (.cells #[] 64)) (base := W1.heap.size) (by simp) (own_emptyP W1) (by omega) (src := .slice none 0 0) (xs := Q.take 0) (by rw [List.length_take]; omega) (.inl ⟨rfl, by simp⟩) 27
    have lt1 : (Q.take 0).length = 0 := by rw [List.length_take]; have := HLE.out; omega
    rw [lt1, Nat.zero_add] at r5 own5
    have L0 := hide (show Laid9 W1 Q 0 c [] (.slice o5 0 c5) w5 from Laid9.start HLE.out (by simpa using own5) (((Below.refl _ W1).alloc (Nat.le_refl _) _).trans (k5.below (by simp) (fun b e => ((own_emptyP W1).lt b e).1))))
    have R5 := hide r5
    have hc0 : (W1.alloc (.cells #[] 64)).cell? ⟨rb, 0, none⟩ = some (.slice none 0 0) := by rw [World.cell?_alloc_lt _ _ _ (by exact hrb)]; exact f0
    clear r5 own5 k5 lt1
    go_wp2_with (at_builtin; refine list_append_run (by rfl) (.tmp 54) (.tmp 60) 27 (by rfl) (by rfl) (by rfl) R5.out ?_)
    clear R5 hc0
    go_loopw [9, 10] (fun lv iv wr => ∃ (i : Nat) (ol : Option Addr) (cl : Nat), lv = .slice ol (i) cl ∧ iv = .int .u64 (i : Int) ∧ (i : Int) ≤ M ∧ Hid (∃ B : List Nat, B.length = i ∧ Laid9 W1 Q 0 c B (.slice ol (i) cl) wr)) (fun _ iv _ => M.toNat - (intOf iv).toNat)
    case atStart => exact ⟨0, o5, c5, rfl, rfl, by omega, hide ⟨[], rfl, L0.out⟩⟩
    case round =>
      clear L0
      obtain ⟨i, ol, cl, rfl, rfl, hi, HB⟩ := hrel
      obtain ⟨B, hB, hL9⟩ := HB.out
      have H9 := hide hL9
      have HBL := hide hB
      clear HB hL9 hB
      by_cases hlt : (i : Int) < M
      · have CN := hide (newR_any wr)
        have ci : C + (i : Int) < 18446744073709551616 := by omega
        have ci0 : 0 ≤ C + (i : Int) := by omega
        have PU := hide (fun w1 hb r => H9.out.push (w1 := w1) (by have := HBL.out; have := HLE.out; have := HL.out; omega) hb r 27)
        rw [HBL.out, show ((c + i : Nat) : Int) = C + (i : Int) by have := HCM.out; omega] at PU
        generalize hbn : wr.heap.size = bn at CN PU
        clear H9 f0 z0
        go_wp2_with fail
        refine CN.out.mono ?_
        rintro e w1 ⟨rfl, r1, b1⟩
        obtain ⟨o7, c7, w7, r7, L7⟩ := PU.out w1 b1 r1
        simp only [Nat.zero_add] at r7 L7
        have R7 := hide r7
        have NX := hide (show ∃ B : List Nat, B.length = i + 1 ∧ Laid9 W1 Q 0 c B (.slice o7 (i + 1) c7) w7 from ⟨_, by rw [List.length_append, HBL.out]; rfl, L7⟩)
        clear r7 L7 PU CN b1 r1 hbn
        go_wp2_with (at_builtin; refine list_append_run (by rfl) (.tmp 67) (.tmp 73) 27 (by rfl) (by rfl) (by rfl) R7.out ?_)
        go_roundw
        case rel => exact ⟨i + 1, o7, c7, rfl, by go_num, by omega, NX⟩
        case measure => simp [intOf]; omega
      · obtain rfl : i = n := by have := HCM.out; omega
        have d0 : decide ((i : Int) < M) = false := decide_eq_false hlt
        have hp1 : 0 ≤ Q.length := HLE.out
        obtain ⟨o6, c6, w6, r6, own6, k6, -⟩ := parts_more H9.out.be.size H9.out.own (by have := HBL.out; have := HL.out; have := HBB.out; omega) (src := .slice none 0 0) (xs := Q.drop 0) (by rw [List.length_drop]; omega) (.inl ⟨rfl, List.eq_nil_of_length_eq_zero (by rw [List.length_drop, HL.out])⟩) 27
        have LN : 0 + i + (Q.length - 0) = i := by have := HL.out; omega
        rw [HBL.out, List.length_drop] at r6 own6
        have dn := Laid9.done R1.out HP.out.symm H9.out HBL.out (by have := HBB.out; omega) HBB.out.2.2 HT.out own6 k6
        rw [LN] at r6 dn
        have R6 := hide r6
        have FN := hide (FIN.out _ dn)
        have b6 : Below W1.heap.size W1 w6 := H9.out.be.trans (k6.below H9.out.be.size (fun b e => (H9.out.own.lt b e).1))
        have c7 := (H9.out.be.cell (p := ⟨rb, 0, none⟩) hrb).trans f0
        have c8 := (b6.cell (p := ⟨rb, 0, none⟩) hrb).trans f0
        have z8 := (b6.frozen (p := ⟨rb, 0, none⟩) hrb).trans z0
        clear r6 own6 k6 dn LN b6 H9 FIN R1 f0 z0 hlt hp1
        go_wp2_with (at_builtin; refine list_append_run (by rfl) (.tmp 76) (.tmp 82) 27 (by rfl) (by rfl) (by rfl) R6.out ?_)
        first | exact FN.out | (go_ret; exact FN.out)
  · injection e with e1 e2 e3
    subst e1
    subst e3
    have hcap : L ≤ k ∧ k ≤ 9223372036854775807 := by
      obtain ⟨_, ⟨z, _⟩ | ⟨g', cap', cur, z, _, _, h1, h2, _⟩⟩ := R1.out.tr.own
      · cases z
      · injection z with z1 z2 z3
        rw [pts_len, HL.out] at h1
        unfold maxLen at h2
        subst z3
        exact ⟨h1, by omega⟩
    have hg := R1.out.lt (.inr (.inl rfl))
    have CL := hide (show ∀ a m, a + m ≤ Q.length → ∀ j u, (((Q.drop a).take m).flatMap cq)[j]? = some u → W1.cell? ⟨g, a * 2 + j, none⟩ = some u from fun a m hm j u hu => by
      have q := cqs_part Q a m hm j u hu
      have hj := (List.getElem?_eq_some_iff.1 q).1
      rw [cqs_len] at hj
      have own := R1.out.tr.own
      rw [pts_len, ptcells_eq] at own
      rw [own.cellAt (a * 2 + j) (by omega)]
      exact q)
    obtain ⟨hc1, hc2⟩ := hcap
    by_cases kp : k = p
    · subst kp
      obtain rfl : L = k := by omega
      obtain ⟨o5, c5, w5, r5, own5, k5, -⟩ := parts_more (w1 := W1.alloc (.cells #[] 64)) (base := W1.heap.size) (by simp) (own_emptyP W1) (by omega) (src := .slice (some ⟨g, 0, none⟩) L L) (xs := Q.take L) (by rw [List.length_take]; omega) (.inr ⟨g, 0, L, by rw [List.length_take, Nat.min_eq_left HLE.out], fun j u hu => by rw [Nat.zero_add, World.cell?_alloc_lt _ _ _ (by exact hg)]; have := CL.out 0 L (by have := HLE.out; omega) j u (by rw [List.drop_zero]; exact hu); rw [Nat.zero_mul, Nat.zero_add] at this; exact this⟩) 27
      have lt1 : (Q.take L).length = L := by rw [List.length_take]; have := HLE.out; omega
      rw [lt1, Nat.zero_add] at r5 own5
      have L0 := hide (show Laid9 W1 Q L c [] (.slice o5 L c5) w5 from Laid9.start HLE.out (by simpa using own5) (((Below.refl _ W1).alloc (Nat.le_refl _) _).trans (k5.below (by simp) (fun b e => ((own_emptyP W1).lt b e).1))))
      have R5 := hide r5
      have hc0 : (W1.alloc (.cells #[] 64)).cell? ⟨rb, 0, none⟩ = some (.slice (some ⟨g, 0, none⟩) L L) := by rw [World.cell?_alloc_lt _ _ _ (by exact hrb)]; exact f0
      clear r5 own5 k5 lt1
      go_wp2_with (at_builtin; refine list_append_run (by rfl) (.tmp 54) (.tmp 60) 27 (by rfl) (by rfl) (by rfl) R5.out ?_)
      clear R5 hc0
      go_loopw [9, 10] (fun lv iv wr => ∃ (i : Nat) (ol : Option Addr) (cl : Nat), lv = .slice ol (L + i) cl ∧ iv = .int .u64 (i : Int) ∧ (i : Int) ≤ M ∧ Hid (∃ B : List Nat, B.length = i ∧ Laid9 W1 Q L c B (.slice ol (L + i) cl) wr)) (fun _ iv _ => M.toNat - (intOf iv).toNat)
      case atStart => exact ⟨0, o5, c5, rfl, rfl, by omega, hide ⟨[], rfl, L0.out⟩⟩
      case round =>
        clear L0
        obtain ⟨i, ol, cl, rfl, rfl, hi, HB⟩ := hrel
        obtain ⟨B, hB, hL9⟩ := HB.out
        have H9 := hide hL9
        have HBL := hide hB
        clear HB hL9 hB
        by_cases hlt : (i : Int) < M
        · have CN := hide (newR_any wr)
          have ci : C + (i : Int) < 18446744073709551616 := by omega
          have ci0 : 0 ≤ C + (i : Int) := by omega
          have PU := hide (fun w1 hb r => H9.out.push (w1 := w1) (by have := HBL.out; have := HLE.out; have := HL.out; omega) hb r 27)
          rw [HBL.out, show ((c + i : Nat) : Int) = C + (i : Int) by have := HCM.out; omega] at PU
          generalize hbn : wr.heap.size = bn at CN PU
          clear H9 f0 z0
          go_wp2_with fail
          refine CN.out.mono ?_
          rintro e w1 ⟨rfl, r1, b1⟩
          obtain ⟨o7, c7, w7, r7, L7⟩ := PU.out w1 b1 r1
          have R7 := hide r7
          have NX := hide (show ∃ B : List Nat, B.length = i + 1 ∧ Laid9 W1 Q L c B (.slice o7 (L + (i + 1)) c7) w7 from ⟨_, by rw [List.length_append, HBL.out]; rfl, L7⟩)
          clear r7 L7 PU CN b1 r1 hbn
          go_wp2_with (at_builtin; refine list_append_run (by rfl) (.tmp 67) (.tmp 73) 27 (by rfl) (by rfl) (by rfl) R7.out ?_)
          go_roundw
          case rel => exact ⟨i + 1, o7, c7, rfl, by go_num, by omega, NX⟩
          case measure => simp [intOf]; omega
        · obtain rfl : i = n := by have := HCM.out; omega
          have d0 : decide ((i : Int) < M) = false := decide_eq_false hlt
          have hp1 : L ≤ Q.length := HLE.out
          obtain ⟨o6, c6, w6, r6, own6, k6, -⟩ := parts_more H9.out.be.size H9.out.own (by have := HBL.out; have := HL.out; have := HBB.out; omega) (src := .slice (some ⟨g, 0, none⟩) 0 0) (xs := Q.drop L) (by rw [List.length_drop]; omega) (.inr ⟨g, 0, 0, by rw [List.length_drop, HL.out, Nat.sub_self], fun j u hu => by rw [List.eq_nil_of_length_eq_zero (show (Q.drop L).length = 0 by rw [List.length_drop, HL.out, Nat.sub_self])] at hu; cases hu⟩) 27
          have LN : L + i + (Q.length - L) = L + i := by have := HL.out; omega
          rw [HBL.out, List.length_drop] at r6 own6
          have dn := Laid9.done R1.out HP.out.symm H9.out HBL.out (by have := HBB.out; omega) HBB.out.2.2 HT.out own6 k6
          rw [LN] at r6 dn
          have R6 := hide r6
          have FN := hide (FIN.out _ dn)
          have b6 : Below W1.heap.size W1 w6 := H9.out.be.trans (k6.below H9.out.be.size (fun b e => (H9.out.own.lt b e).1))
          have c7 := (H9.out.be.cell (p := ⟨rb, 0, none⟩) hrb).trans f0
          have c8 := (b6.cell (p := ⟨rb, 0, none⟩) hrb).trans f0
          have z8 := (b6.frozen (p := ⟨rb, 0, none⟩) hrb).trans z0
          clear r6 own6 k6 dn LN b6 H9 FIN R1 f0 z0 hlt hp1
          go_wp2_with (at_builtin; refine list_append_run (by rfl) (.tmp 76) (.tmp 82) 27 (by rfl) (by rfl) (by rfl) R6.out ?_)
          first | exact FN.out | (go_ret; exact FN.out)
    · have kp' : p < k := by omega
      by_cases pl : p < L
      · obtain ⟨NI, hNI⟩ : ∃ NI : Int, (((Q[p]'(by have := HL.out; omega)).1 : Nat) : Int) = NI := ⟨_, rfl⟩
        have e0 : W1.cell? ⟨g, p * 2, none⟩ = some (.int .u64 NI) := by
          obtain ⟨b, e, q, _⟩ := R1.out.at (i := p) (by have := HL.out; omega)
          injection e with e
          injection e with e
          rw [e, ← hNI]
          exact q
        have q1 : C + M ≤ NI := by have := HNO.out (by have := HL.out; omega); have := HCM.out; omega
        have q2 : 0 ≤ NI := by omega
        have dn : decide (NI < C + M) = false := decide_eq_false (by omega)
        have pI : (p : Int) < (L : Int) := by omega
        clear hNI
        obtain ⟨o5, c5, w5, r5, own5, k5, -⟩ := parts_more (w1 := W1.alloc (.cells #[] 64)) (base := W1.heap.size) (by simp) (own_emptyP W1) (by omega) (src := .slice (some ⟨g, 0, none⟩) p k) (xs := Q.take p) (by rw [List.length_take]; omega) (.inr ⟨g, 0, k, by rw [List.length_take, Nat.min_eq_left HLE.out], fun j u hu => by rw [Nat.zero_add, World.cell?_alloc_lt _ _ _ (by exact hg)]; have := CL.out 0 p (by have := HLE.out; omega) j u (by rw [List.drop_zero]; exact hu); rw [Nat.zero_mul, Nat.zero_add] at this; exact this⟩) 27
        have lt1 : (Q.take p).length = p := by rw [List.length_take]; have := HLE.out; omega
        rw [lt1, Nat.zero_add] at r5 own5
        have L0 := hide (show Laid9 W1 Q p c [] (.slice o5 p c5) w5 from Laid9.start HLE.out (by simpa using own5) (((Below.refl _ W1).alloc (Nat.le_refl _) _).trans (k5.below (by simp) (fun b e => ((own_emptyP W1).lt b e).1))))
        have R5 := hide r5
        have hc0 : (W1.alloc (.cells #[] 64)).cell? ⟨rb, 0, none⟩ = some (.slice (some ⟨g, 0, none⟩) L k) := by rw [World.cell?_alloc_lt _ _ _ (by exact hrb)]; exact f0
        clear r5 own5 k5 lt1
        go_wp2_with (at_builtin; refine list_append_run (by rfl) (.tmp 54) (.tmp 60) 27 (by rfl) (by rfl) (by rfl) R5.out ?_)
        clear R5 hc0
        go_loopw [9, 10] (fun lv iv wr => ∃ (i : Nat) (ol : Option Addr) (cl : Nat), lv = .slice ol (p + i) cl ∧ iv = .int .u64 (i : Int) ∧ (i : Int) ≤ M ∧ Hid (∃ B : List Nat, B.length = i ∧ Laid9 W1 Q p c B (.slice ol (p + i) cl) wr)) (fun _ iv _ => M.toNat - (intOf iv).toNat)
        case atStart => exact ⟨0, o5, c5, rfl, rfl, by omega, hide ⟨[], rfl, L0.out⟩⟩
        case round =>
          clear L0
          obtain ⟨i, ol, cl, rfl, rfl, hi, HB⟩ := hrel
          obtain ⟨B, hB, hL9⟩ := HB.out
          have H9 := hide hL9
          have HBL := hide hB
          clear HB hL9 hB
          by_cases hlt : (i : Int) < M
          · have CN := hide (newR_any wr)
            have ci : C + (i : Int) < 18446744073709551616 := by omega
            have ci0 : 0 ≤ C + (i : Int) := by omega
            have PU := hide (fun w1 hb r => H9.out.push (w1 := w1) (by have := HBL.out; have := HLE.out; have := HL.out; omega) hb r 27)
            rw [HBL.out, show ((c + i : Nat) : Int) = C + (i : Int) by have := HCM.out; omega] at PU
            generalize hbn : wr.heap.size = bn at CN PU
            clear H9 f0 z0
            go_wp2_with fail
            refine CN.out.mono ?_
            rintro e w1 ⟨rfl, r1, b1⟩
            obtain ⟨o7, c7, w7, r7, L7⟩ := PU.out w1 b1 r1
            have R7 := hide r7
            have NX := hide (show ∃ B : List Nat, B.length = i + 1 ∧ Laid9 W1 Q p c B (.slice o7 (p + (i + 1)) c7) w7 from ⟨_, by rw [List.length_append, HBL.out]; rfl, L7⟩)
            clear r7 L7 PU CN b1 r1 hbn
            go_wp2_with (at_builtin; refine list_append_run (by rfl) (.tmp 67) (.tmp 73) 27 (by rfl) (by rfl) (by rfl) R7.out ?_)
            go_roundw
            case rel => exact ⟨i + 1, o7, c7, rfl, by go_num, by omega, NX⟩
            case measure => simp [intOf]; omega
          · obtain rfl : i = n := by have := HCM.out; omega
            have d0 : decide ((i : Int) < M) = false := decide_eq_false hlt
            have hp1 : p ≤ Q.length := HLE.out
            obtain ⟨o6, c6, w6, r6, own6, k6, -⟩ := parts_more H9.out.be.size H9.out.own (by have := HBL.out; have := HL.out; have := HBB.out; omega) (src := .slice (some ⟨g, p * 2, none⟩) (L - p) (k - p)) (xs := Q.drop p) (by rw [List.length_drop]; omega) (.inr ⟨g, p * 2, k - p, by rw [List.length_drop, HL.out], fun j u hu => (H9.out.be.cell (p := ⟨g, p * 2 + j, none⟩) hg).trans (CL.out p (L - p) (by have := HL.out; omega) j u (by rw [List.take_of_length_le (by rw [List.length_drop, HL.out]; exact Nat.le_refl _)]; exact hu))⟩) 27
            have LN : p + i + (Q.length - p) = p + i + (L - p) := by have := HL.out; omega
            rw [HBL.out, List.length_drop] at r6 own6
            have dn := Laid9.done R1.out HP.out.symm H9.out HBL.out (by have := HBB.out; omega) HBB.out.2.2 HT.out own6 k6
            rw [LN] at r6 dn
            have R6 := hide r6
            have FN := hide (FIN.out _ dn)
            have b6 : Below W1.heap.size W1 w6 := H9.out.be.trans (k6.below H9.out.be.size (fun b e => (H9.out.own.lt b e).1))
            have c7 := (H9.out.be.cell (p := ⟨rb, 0, none⟩) hrb).trans f0
            have c8 := (b6.cell (p := ⟨rb, 0, none⟩) hrb).trans f0
            have z8 := (b6.frozen (p := ⟨rb, 0, none⟩) hrb).trans z0
            clear r6 own6 k6 dn LN b6 H9 FIN R1 f0 z0 hlt hp1
            go_wp2_with (at_builtin; refine list_append_run (by rfl) (.tmp 76) (.tmp 82) 27 (by rfl) (by rfl) (by rfl) R6.out ?_)
            first | exact FN.out | (go_ret; exact FN.out)
      · have dpl : decide ((p : Int) < (L : Int)) = false := decide_eq_false (by omega)
        have dpn : decide (p < L) = false := decide_eq_false pl
        obtain ⟨o5, c5, w5, r5, own5, k5, -⟩ := parts_more (w1 := W1.alloc (.cells #[] 64)) (base := W1.heap.size) (by simp) (own_emptyP W1) (by omega) (src := .slice (some ⟨g, 0, none⟩) p k) (xs := Q.take p) (by rw [List.length_take]; omega) (.inr ⟨g, 0, k, by rw [List.length_take, Nat.min_eq_left HLE.out], fun j u hu => by rw [Nat.zero_add, World.cell?_alloc_lt _ _ _ (by exact hg)]; have := CL.out 0 p (by have := HLE.out; omega) j u (by rw [List.drop_zero]; exact hu); rw [Nat.zero_mul, Nat.zero_add] at this; exact this⟩) 27
        have lt1 : (Q.take p).length = p := by rw [List.length_take]; have := HLE.out; omega
        rw [lt1, Nat.zero_add] at r5 own5
        have L0 := hide (show Laid9 W1 Q p c [] (.slice o5 p c5) w5 from Laid9.start HLE.out (by simpa using own5) (((Below.refl _ W1).alloc (Nat.le_refl _) _).trans (k5.below (by simp) (fun b e => ((own_emptyP W1).lt b e).1))))
        have R5 := hide r5
        have hc0 : (W1.alloc (.cells #[] 64)).cell? ⟨rb, 0, none⟩ = some (.slice (some ⟨g, 0, none⟩) L k) := by rw [World.cell?_alloc_lt _ _ _ (by exact hrb)]; exact f0
        clear r5 own5 k5 lt1
        go_wp2_with (at_builtin; refine list_append_run (by rfl) (.tmp 54) (.tmp 60) 27 (by rfl) (by rfl) (by rfl) R5.out ?_)
        clear R5 hc0
        go_loopw [9, 10] (fun lv iv wr => ∃ (i : Nat) (ol : Option Addr) (cl : Nat), lv = .slice ol (p + i) cl ∧ iv = .int .u64 (i : Int) ∧ (i : Int) ≤ M ∧ Hid (∃ B : List Nat, B.length = i ∧ Laid9 W1 Q p c B (.slice ol (p + i) cl) wr)) (fun _ iv _ => M.toNat - (intOf iv).toNat)
        case atStart => exact ⟨0, o5, c5, rfl, rfl, by omega, hide ⟨[], rfl, L0.out⟩⟩
        case round =>
          clear L0
          obtain ⟨i, ol, cl, rfl, rfl, hi, HB⟩ := hrel
          obtain ⟨B, hB, hL9⟩ := HB.out
          have H9 := hide hL9
          have HBL := hide hB
          clear HB hL9 hB
          by_cases hlt : (i : Int) < M
          · have CN := hide (newR_any wr)
            have ci : C + (i : Int) < 18446744073709551616 := by omega
            have ci0 : 0 ≤ C + (i : Int) := by omega
            have PU := hide (fun w1 hb r => H9.out.push (w1 := w1) (by have := HBL.out; have := HLE.out; have := HL.out; omega) hb r 27)
            rw [HBL.out, show ((c + i : Nat) : Int) = C + (i : Int) by have := HCM.out; omega] at PU
            generalize hbn : wr.heap.size = bn at CN PU
            clear H9 f0 z0
            go_wp2_with fail
            refine CN.out.mono ?_
            rintro e w1 ⟨rfl, r1, b1⟩
            obtain ⟨o7, c7, w7, r7, L7⟩ := PU.out w1 b1 r1
            have R7 := hide r7
            have NX := hide (show ∃ B : List Nat, B.length = i + 1 ∧ Laid9 W1 Q p c B (.slice o7 (p + (i + 1)) c7) w7 from ⟨_, by rw [List.length_append, HBL.out]; rfl, L7⟩)
            clear r7 L7 PU CN b1 r1 hbn
            go_wp2_with (at_builtin; refine list_append_run (by rfl) (.tmp 67) (.tmp 73) 27 (by rfl) (by rfl) (by rfl) R7.out ?_)
            go_roundw
            case rel => exact ⟨i + 1, o7, c7, rfl, by go_num, by omega, NX⟩
            case measure => simp [intOf]; omega
          · obtain rfl : i = n := by have := HCM.out; omega
            have d0 : decide ((i : Int) < M) = false := decide_eq_false hlt
            have hp1 : p ≤ Q.length := HLE.out
            obtain ⟨o6, c6, w6, r6, own6, k6, -⟩ := parts_more H9.out.be.size H9.out.own (by have := HBL.out; have := HL.out; have := HBB.out; omega) (src := .slice (some ⟨g, p * 2, none⟩) (L - p) (k - p)) (xs := Q.drop p) (by rw [List.length_drop]; omega) (.inr ⟨g, p * 2, k - p, by rw [List.length_drop, HL.out], fun j u hu => (H9.out.be.cell (p := ⟨g, p * 2 + j, none⟩) hg).trans (CL.out p (L - p) (by have := HL.out; omega) j u (by rw [List.take_of_length_le (by rw [List.length_drop, HL.out]; exact Nat.le_refl _)]; exact hu))⟩) 27
            have LN : p + i + (Q.length - p) = p + i + (L - p) := by have := HL.out; omega
            rw [HBL.out, List.length_drop] at r6 own6
            have dn := Laid9.done R1.out HP.out.symm H9.out HBL.out (by have := HBB.out; omega) HBB.out.2.2 HT.out own6 k6
            rw [LN] at r6 dn
            have R6 := hide r6
            have FN := hide (FIN.out _ dn)
            have b6 : Below W1.heap.size W1 w6 := H9.out.be.trans (k6.below H9.out.be.size (fun b e => (H9.out.own.lt b e).1))
            have c7 := (H9.out.be.cell (p := ⟨rb, 0, none⟩) hrb).trans f0
            have c8 := (b6.cell (p := ⟨rb, 0, none⟩) hrb).trans f0
            have z8 := (b6.frozen (p := ⟨rb, 0, none⟩) hrb).trans z0
            clear r6 own6 k6 dn LN b6 H9 FIN R1 f0 z0 hlt hp1
            go_wp2_with (at_builtin; refine list_append_run (by rfl) (.tmp 76) (.tmp 82) 27 (by rfl) (by rfl) (by rfl) R6.out ?_)
            first | exact FN.out | (go_ret; exact FN.out)
end
end Go.Proofs.YtnclicdnncgdiaaGreatDoor
