/- J23 of the proof of both laws: texts RefRa, RefRb, RefR, one behind the other. -/
import Derived.Test.YtlfcnaalkjpgnaaJ22
import Derived.Maps.AppendAt
import Derived.Deep.CutRange
import Derived.Deep.Cut
/- The reference of chapter 3: pages that are laid out, plain and in memory. -/
namespace Go.Proofs.Ytlfcnaalkjpgnaa
open Go.ChangeShapes Go.WideShapes Go.ChangeAt Go.RowKit Go.Proofs.Sp
set_option linter.unusedVariables false
set_option linter.unusedSimpArgs false

theorem filter_split : ∀ {l : List Nat} (hs : l.Pairwise (· < ·)) (q : Nat), l.filter (· < q) = l.take (pos l q) ∧ l.filter (q ≤ ·) = l.drop (pos l q)
  | [], _, q => by simp [pos]
  | a :: t, hs, q => by
    obtain ⟨h1, h2⟩ := List.pairwise_cons.1 hs
    by_cases c : a < q
    · obtain ⟨i1, i2⟩ := filter_split h2 q
      have hp : pos (a :: t) q = pos t q + 1 := by unfold pos; rw [List.countP_cons_of_pos (by simpa using c)]
      rw [hp, List.take_succ_cons, List.drop_succ_cons, List.filter_cons_of_pos (by simpa using c), List.filter_cons_of_neg (by simp; omega), i1, i2]
      exact ⟨rfl, rfl⟩
    · have hp : pos (a :: t) q = 0 := by
        unfold pos
        rw [List.countP_eq_zero]
        intro x hx
        rcases List.mem_cons.1 hx with rfl | hx
        · simpa using c
        · have := h1 x hx; simp; omega
      rw [hp, List.take_zero, List.drop_zero]
      refine ⟨List.filter_eq_nil_iff.2 fun x hx => ?_, List.filter_eq_self.2 fun x hx => ?_⟩
      · rcases List.mem_cons.1 hx with rfl | hx
        · simpa using c
        · have := h1 x hx; simp; omega
      · rcases List.mem_cons.1 hx with rfl | hx
        · simp; omega
        · have := h1 x hx; simp; omega
def layF (fl : Nat → Nat) (q n : Nat) : Nat → Nat := fun p => if q ≤ p ∧ p < q + n then 0 else fl p
def newPgs (q n : Nat) : List Pg := (List.range n).map fun i => (q + i, 1, 0)
theorem newPgs_len (q n : Nat) : (newPgs q n).length = n := by simp [newPgs]
theorem newPgs_succ (q n : Nat) : newPgs q (n + 1) = newPgs q n ++ [(q + n, 1, 0)] := by unfold newPgs; rw [List.range_succ, List.map_append]; rfl
theorem lay_off {S : Sp} (h : WF S) {q n : Nat} (hf : free S n q) : ∀ p ∈ S.pgs, ¬ (q ≤ p ∧ p < q + n) := by
  intro p hp hh
  have := hf.2.2.2 (p - q) (by omega)
  rw [show q + (p - q) = p by omega] at this
  exact (h.mem p).2 hp this
theorem lay_pages {S : Sp} (h : WF S) (fl : Nat → Nat) {q n : Nat} (hf : free S n q) : pageL (lay S q n) (layF fl q n) = (pageL S fl).take (pos S.pgs q) ++ newPgs q n ++ (pageL S fl).drop (pos S.pgs q) := by
  obtain ⟨e1, e2⟩ := filter_split h.rising q
  have off := lay_off h hf
  have key : ∀ l : List Nat, (∀ p ∈ l, p ∈ S.pgs) → l.map (fun p => (p, (lay S q n).st p, layF fl q n p)) = l.map fun p => (p, S.st p, fl p) := fun l hl => by
    refine List.map_congr_left fun p hp => ?_
    have := off p (hl p hp)
    show (p, (if q ≤ p ∧ p < q + n then 1 else S.st p), (if q ≤ p ∧ p < q + n then 0 else fl p)) = _
    rw [if_neg this, if_neg this]
  unfold pageL
  show (S.pgs.filter (· < q) ++ (List.range' q n ++ S.pgs.filter (q ≤ ·))).map _ = _
  rw [List.map_append, List.map_append, e1, e2, key _ (fun p hp => List.mem_of_mem_take hp), key _ (fun p hp => List.mem_of_mem_drop hp), List.map_take, List.map_drop, List.append_assoc]
  congr 2
  unfold newPgs
  rw [List.range'_eq_map_range, List.map_map]
  refine List.map_congr_left fun i hi => ?_
  have hi := List.mem_range.1 hi
  show (q + i, (if q ≤ q + i ∧ q + i < q + n then 1 else S.st (q + i)), (if q ≤ q + i ∧ q + i < q + n then 0 else fl (q + i))) = _
  rw [if_pos ⟨by omega, by omega⟩, if_pos ⟨by omega, by omega⟩]
theorem lay_logic {S : Sp} {fl : Nat → Nat} {ws : List (Nat × Nat)} (h : Logic S fl ws) {q n : Nat} (hf : free S n q) : Logic (lay S q n) (layF fl q n) ws := by
  have off : ∀ p, S.st p = 2 → ¬ (q ≤ p ∧ p < q + n) := fun p hp => lay_off h.wf hf p ((h.wf.mem p).1 (by rw [hp]; decide))
  have off2 : ∀ p, (lay S q n).st p = 2 → ¬ (q ≤ p ∧ p < q + n) ∧ S.st p = 2 := fun p hp => by
    have hp : (if q ≤ p ∧ p < q + n then 1 else S.st p) = 2 := hp
    by_cases c : q ≤ p ∧ p < q + n
    · rw [if_pos c] at hp; cases hp
    · rw [if_neg c] at hp; exact ⟨c, hp⟩
  refine ⟨h.wf.lay hf, h.rising, fun x hx => ?_, fun p => ?_, fun a ha hr => ?_⟩
  · obtain ⟨a, b, c⟩ := h.ready x hx
    refine ⟨?_, b, c⟩
    show (if q ≤ x.1 / 8192 ∧ x.1 / 8192 < q + n then 1 else S.st (x.1 / 8192)) = 2
    rw [if_neg (off _ a)]; exact a
  · show (if q ≤ p ∧ p < q + n then 0 else fl p) < _
    split
    · decide
    · exact h.fill p
  · obtain ⟨c, hr⟩ := off2 _ hr
    show S.wd a = _
    rw [h.word a ha hr]
    unfold wordV
    have : layF fl q n (a / 8192) = fl (a / 8192) := by unfold layF; rw [if_neg c]
    rw [this]
variable {w : World} {m : Nat} {S : Sp} {fl : Nat → Nat} {pl : List Nat} {re : List Bool} {fi : List Nat} {ps : List Pg} {ws : List (Nat × Nat)} {v0 v1 v2 : Value} {o3 : Option Addr} {c3 : Nat} {o4 : Option Addr} {c4 : Nat}
/-- The pages are another row now, in a block of its own. -/
theorem RefM.newRow (h : RefM w m pl re fi ps ws v0 v1 v2 o3 c3 o4 c4) (ap : Apart m v0 v1 v2 o3 o4) (hm : m < w.heap.size) (hb : ∀ b, inRef m v0 v1 v2 o3 o4 b → b < w.heap.size) {w1 : World} {g cp : Nat} {ps' : List Pg}
    (hbel : Below w.heap.size w w1) (own : w1.ownsRow w.heap.size 66 3 (.slice (some ⟨g, 0, none⟩) ps'.length cp) ps'.length (ps'.flatMap pc)) :
    RefM (w1.setCell ⟨m, 3, none⟩ (.slice (some ⟨g, 0, none⟩) ps'.length cp)) m pl re fi ps' ws v0 v1 v2 (some ⟨g, 0, none⟩) cp o4 c4 ∧ Apart m v0 v1 v2 (some ⟨g, 0, none⟩) o4 ∧ w.heap.size ≤ g ∧
    Kept (fun b => b = m) w (w1.setCell ⟨m, 3, none⟩ (.slice (some ⟨g, 0, none⟩) ps'.length cp)) := by
  have hg := own.lt g rfl
  have oth : ∀ b, b < w.heap.size → b ≠ m → (w1.setCell ⟨m, 3, none⟩ (.slice (some ⟨g, 0, none⟩) ps'.length cp)).heap[b]? = w.heap[b]? := fun b hb hbm => (Below.heap_setCell _ _ _ _ hbm).trans (hbel.block b hb)
  have sz : w.heap.size ≤ (w1.setCell ⟨m, 3, none⟩ (.slice (some ⟨g, 0, none⟩) ps'.length cp)).heap.size := by have := hbel.size; simpa [World.setCell] using this
  have old : ∀ k u, w.cell? ⟨m, k, none⟩ = some u → w1.cell? ⟨m, k, none⟩ = some u := fun k u hu => (hbel.cell (p := ⟨m, k, none⟩) hm).trans hu
  have cell : ∀ k u, k ≠ 3 → w.cell? ⟨m, k, none⟩ = some u → (w1.setCell ⟨m, 3, none⟩ (.slice (some ⟨g, 0, none⟩) ps'.length cp)).cell? ⟨m, k, none⟩ = some u := fun k u hk hu => by
    rw [World.cell?_setCell_other _ _ _ _ (by simp [Ne.symm hk])]; exact old k u hu
  have nm : ∀ b, b ≠ m → inRef m v0 v1 v2 o3 o4 b → (w1.setCell ⟨m, 3, none⟩ (.slice (some ⟨g, 0, none⟩) ps'.length cp)).heap[b]? = w.heap[b]? := fun b h1 h2 => oth b (hb b h2) h1
  refine ⟨⟨fun k hk => ?_, cell 0 _ (by decide) h.h0, cell 1 _ (by decide) h.h1, cell 2 _ (by decide) h.h2, World.cell?_setCell_same _ _ _ (old 3 _ h.h3), cell 4 _ (by decide) h.h4,
    h.r0.kept sz fun b e => nm b ?_ (Or.inr (Or.inl e)), h.r1.kept sz fun b e => nm b ?_ (Or.inr (Or.inr (Or.inl e))), h.r2.kept sz fun b e => nm b ?_ (Or.inr (Or.inr (Or.inr (Or.inl e)))),
    owns_base (owns_kept own fun b e => ?_), owns_kept h.own4 fun b e => nm b ?_ ?_⟩, ⟨ap.m0, ap.m1, ap.m2, ?_, ap.m4, fun b e => ?_, ap.q⟩, hg.1, ⟨hbel.os, hbel.tape, hbel.output, sz, fun b h1 h2 => oth b h1 h2⟩⟩
  · rw [World.frozen?_setCell, hbel.frozen (p := ⟨m, k, none⟩) hm]; exact h.frozen k hk
  · rintro rfl; exact ap.m0 e
  · rintro rfl; exact ap.m1 e
  · rintro rfl; exact ap.m2 e
  · have : b = g := by simpa [Value.ownBlock] using e.symm
    subst this
    exact Below.heap_setCell _ _ _ _ (by have := hg.1; show b ≠ m; omega)
  · rintro rfl; rw [own_slice] at e; exact ap.m4 e
  · rw [own_slice] at e; exact Or.inr (Or.inr (Or.inr (Or.inr (Or.inr e))))
  · intro e; have : g = m := by simpa using e
    omega
  · have : g = b := by simpa using e
    refine ⟨fun e2 => ?_, fun e2 => ?_, fun e2 => ?_, fun e2 => ?_⟩
    · have := hb b (Or.inr (Or.inl e2)); omega
    · have := hb b (Or.inr (Or.inr (Or.inl e2))); omega
    · have := hb b (Or.inr (Or.inr (Or.inr (Or.inl e2)))); omega
    · have := hb b (Or.inr (Or.inr (Or.inr (Or.inr (Or.inr e2))))); omega
end Go.Proofs.Ytlfcnaalkjpgnaa

/- The reference of chapter 3: appends of pages. -/
namespace Go.Proofs.Ytlfcnaalkjpgnaa
open Go.ChangeShapes Go.WideShapes Go.ChangeAt Go.RowKit Go.Proofs.Sp Go.Maps
set_option linter.unusedVariables false
set_option linter.unusedSimpArgs false

/-- An append whose run is known. -/
theorem wp_append_run {P : Program} {w w' : World} {o : Oper} {a : Act} {K : Act → World → Prop} {Q : Exit → Act → World → Prop} (s x : Operand) (t : TypeId)
    (ho : o.op = .call { callee := .builtin .append, args := #[s, x], argTypes := #[t, t] }) {v u v' : Value} (hs : a.eval s = v) (hx : a.eval x = u) (hr : (Builtin.append_ #[t, t] o.type #[v, u]).run P w = .ok v' w') (h : K (a.put o.dst v') w') : o.wp P a w K Q := by
  unfold Oper.wp execOp
  simp only [ho, resolve, invoke, builtin, Sem.run_bind, Sem.run_pure, Result.andThen_ok, List.map_toArray, List.map_cons, List.map_nil, hs, hx, hr]
  exact h
theorem list_append_run {P : Program} {w w' : World} {ops : Array Oper} {rest : List Oper} {o : Oper} {a : Act} {Q : Exit → Act → World → Prop} (hgd : o.guard = none) (s x : Operand) (t : TypeId)
    (ho : o.op = .call { callee := .builtin .append, args := #[s, x], argTypes := #[t, t] }) {v u v' : Value} (hs : a.eval s = v) (hx : a.eval x = u) (hr : (Builtin.append_ #[t, t] o.type #[v, u]).run P w = .ok v' w') (h : wpList P ops Q rest (a.put o.dst v') w') : wpList P ops Q (o :: rest) a w :=
  wpList_plain hgd fun _ hK => wp_append_run s x t ho hs hx hr (hK _ _ h)
theorem pg_shape {w : World} {base n size : Nat} {e : TypeId} {v : Value} {xs : List Value} (h : w.ownsRow base e size v n xs) : ∃ o cap, v = .slice o n cap ∧ (0 < n → ∃ g, o = some ⟨g, 0, none⟩) := by
  obtain ⟨_, ⟨e1, e2⟩ | ⟨g, cap, cur, e1, _⟩⟩ := h
  · exact ⟨none, 0, by rw [e1, e2], fun z => by omega⟩
  · exact ⟨some ⟨g, 0, none⟩, cap, e1, fun _ => ⟨g, rfl⟩⟩
theorem pcs_one (l : List Pg) : ∀ u ∈ l.flatMap pc, u.oneCell' = true := by
  intro u hu
  obtain ⟨s, _, h⟩ := List.mem_flatMap.1 hu
  simp [pc] at h
  rcases h with rfl | rfl | rfl <;> rfl
theorem append_pages {W w1 : World} {v : Value} {n : Nat} {ys : List Value} (hB : Below W.heap.size W w1) (own : w1.ownsRow W.heap.size 66 3 v n ys) (hn : n ≤ 2199023255552) {src : Value} {xs : List Pg} (hl : xs.length ≤ 2199023255552)
    (hsrc : (src = .slice none 0 0 ∧ xs = []) ∨ ∃ b off cap, src = .slice (some ⟨b, off, none⟩) xs.length cap ∧ ∀ j u, (xs.flatMap pc)[j]? = some u → w1.cell? ⟨b, off + j, none⟩ = some u) (ty : TypeId) :
    ∃ o c w2, (Builtin.append_ #[54, 54] ty #[v, src]).run Try.prog w1 = .ok (.slice o (n + xs.length) c) w2 ∧ w2.ownsRow W.heap.size 66 3 (.slice o (n + xs.length) c) (n + xs.length) (ys ++ xs.flatMap pc) ∧ Below W.heap.size W w2 := by
  obtain ⟨i0, hi0, hz0, hz1, hz2⟩ := info_parts infoPg
  rcases hsrc with ⟨rfl, rfl⟩ | ⟨b, off, cap, rfl, hc⟩
  · have hr := run_append_owned_none (P := Try.prog) (w := w1) W.heap.size 54 ty 66 i0 3 Try.underlying54 hi0 v n ys own
    obtain ⟨o, c, rfl, _⟩ := pg_shape own
    exact ⟨o, c, w1, by simpa using hr, by simpa using own, hB⟩
  · obtain ⟨v', w2, hr, hown, hg, _⟩ := run_append_own_at (P := Try.prog) w1 W.heap.size 54 ty 66 i0 _ 3 24 Try.underlying54 hi0 hz0 hz1 hz2 rfl (by decide) v n ys own ⟨b, off, none⟩ xs.length cap (xs.flatMap pc) (flat_length 3 pc (fun _ => rfl) xs) (fun j u hu => by rw [addr_add]; exact hc j u hu) (pcs_one xs) (by unfold maxLen; omega) (by omega) hB.size
    obtain ⟨o, c, rfl, _⟩ := pg_shape hown
    exact ⟨o, c, w2, hr, hown, hB.grown hg hB.size (fun k hk => (own.lt k hk).1)⟩
theorem push_page {W w1 : World} {v : Value} {n : Nat} {ys : List Value} (hB : Below W.heap.size W w1) (own : w1.ownsRow W.heap.size 66 3 v n ys) (hn : n ≤ 2199023255552) (p : Nat) (ty : TypeId) :
    ∃ o c w2, (Builtin.append_ #[54, 54] ty #[v, .slice (some ⟨w1.heap.size, 0, none⟩) 1 1]).run Try.prog (w1.alloc (.cells #[.int .u64 (p : Int), .int .i64 1, .int .u64 0] 66)) = .ok (.slice o (n + 1) c) w2 ∧ w2.ownsRow W.heap.size 66 3 (.slice o (n + 1) c) (n + 1) (ys ++ [(p, 1, 0)].flatMap pc) ∧ Below W.heap.size W w2 :=
  append_pages (hB.alloc hB.size _) (World.ownsRow.alloc own _) hn (xs := [(p, 1, 0)]) (by simp) (Or.inr ⟨w1.heap.size, 0, 1, rfl, fun j u hu => by
    rw [Nat.zero_add, World.cell?_alloc_new]
    simpa [pc] using hu⟩) ty
theorem pcs_part (ps : List Pg) (a n : Nat) (h : a + n ≤ ps.length) (j : Nat) (u : Value) (hu : (((ps.drop a).take n).flatMap pc)[j]? = some u) : (ps.flatMap pc)[a * 3 + j]? = some u := by
  have e : ps = ps.take a ++ ((ps.drop a).take n ++ (ps.drop a).drop n) := by rw [List.take_append_drop, List.take_append_drop]
  have l1 : ((ps.take a).flatMap pc).length = a * 3 := by rw [flat_length 3 pc (fun _ => rfl), List.length_take, Nat.min_eq_left (by omega)]
  have hj := (List.getElem?_eq_some_iff.1 hu).1
  rw [e, List.flatMap_append, List.getElem?_append_right (by omega), l1, show a * 3 + j - a * 3 = j by omega, List.flatMap_append, List.getElem?_append_left hj]
  exact hu
variable {w : World} {m : Nat} {S : Sp} {fl : Nat → Nat} {ws : List (Nat × Nat)} {v0 v1 v2 : Value} {o3 : Option Addr} {c3 : Nat} {o4 : Option Addr} {c4 : Nat}
theorem RefC.pages3 (h : RefC w m S fl ws v0 v1 v2 o3 c3 o4 c4) : (o3 = none ∧ S.pgs.length = 0 ∧ c3 = 0) ∨ ∃ g, o3 = some ⟨g, 0, none⟩ ∧ S.pgs.length ≤ c3 ∧ c3 ≤ 9223372036854775807 ∧ g < w.heap.size ∧
    ∀ a n, a + n ≤ S.pgs.length → ∀ j u, ((((pageL S fl).drop a).take n).flatMap pc)[j]? = some u → w.cell? ⟨g, a * 3 + j, none⟩ = some u := by
  have H := h.own3
  obtain ⟨hl, ⟨e, z⟩ | ⟨g, cap, cur, e, _, _, h1, h2, _⟩⟩ := h.own3
  · injection e with e1 e2 e3
    exact Or.inl ⟨e1, z, e3⟩
  · injection e with e1 e2 e3
    subst e1 e3
    refine Or.inr ⟨g, rfl, h1, by unfold maxLen at h2; omega, (H.lt g rfl).2, fun a n hn j u hu => ?_⟩
    have l : (pageL S fl).length = S.pgs.length := by simp [pageL]
    have := pcs_part (pageL S fl) a n (by rw [l]; exact hn) j u hu
    rw [← pcells_pageL] at this
    have hj := (List.getElem?_eq_some_iff.1 this).1
    rw [H.cellAt (a * 3 + j) (by omega)]
    exact this
theorem reserve_no {S : Sp} {a c : Nat} (g : ¬ (c = 0 ∨ c % 512 ≠ 0 ∨ 134217728 < c)) (r : S.refuse.headD false = false) (h : ((asked S c).or (firstFrom S a c)).or (firstFrom S 0 c) = none) : reserveS S a c = (0, 13, takePlace (takeRefuse S)) := by
  unfold reserveS
  rw [if_neg g, r]
  simp only [Bool.false_eq_true, if_false]
  rw [← Option.or_assoc, h]
theorem reserve_yes {S : Sp} {a c q : Nat} (g : ¬ (c = 0 ∨ c % 512 ≠ 0 ∨ 134217728 < c)) (r : S.refuse.headD false = false) (h : ((asked S c).or (firstFrom S a c)).or (firstFrom S 0 c) = some q) : reserveS S a c = (q, 0, lay (takePlace (takeRefuse S)) q c) ∧ free S c q := by
  refine ⟨?_, or_free (hint := a) (by rw [← Option.or_assoc]; exact h)⟩
  unfold reserveS
  rw [if_neg g, r]
  simp only [Bool.false_eq_true, if_false]
  rw [← Option.or_assoc, h]
/-- What Reserve leaves. -/
def ResP (w : World) (m : Nat) (S : Sp) (ws : List (Nat × Nat)) (v0 v1 v2 : Value) (o3 o4 : Option Addr) (c4 : Nat) (a c : Nat) (e : Ending) (w' : World) : Prop :=
  e = .returned (.tuple #[.int .u64 ((reserveS S a c).1 : Nat), .int .i64 ((reserveS S a c).2.1 : Nat)]) ∧ ∃ fl' v0' v1' o3' c3', RefC w' m (reserveS S a c).2.2 fl' ws v0' v1' v2 o3' c3' o4 c4 ∧ Apart m v0' v1' v2 o3' o4 ∧ (∀ b, inRef m v0' v1' v2 o3' o4 b → inRef m v0 v1 v2 o3 o4 b ∨ w.heap.size ≤ b) ∧ Kept (fun b => b = m) w w'
/-- The pages so far: those ahead of the place, and i new ones. -/
def Laid (W wr : World) (T : Sp) (fl : Nat → Nat) (q p i : Nat) (v : Value) : Prop :=
  Below W.heap.size W wr ∧ wr.ownsRow W.heap.size 66 3 v (p + i) (((pageL T fl).take p ++ newPgs q i).flatMap pc)
theorem Laid.shape {W wr : World} {T : Sp} {fl : Nat → Nat} {q p i : Nat} {v : Value} (h : Laid W wr T fl q p i v) : ∃ o c, v = .slice o (p + i) c := by
  obtain ⟨o, c, e, _⟩ := pg_shape h.2
  exact ⟨o, c, e⟩
theorem Laid.push {W wr : World} {T : Sp} {fl : Nat → Nat} {q p i : Nat} {v : Value} (h : Laid W wr T fl q p i v) (hn : p + i ≤ 2199023255552) (ty : TypeId) :
    ∃ o c w2, (Builtin.append_ #[54, 54] ty #[v, .slice (some ⟨wr.heap.size, 0, none⟩) 1 1]).run Try.prog (wr.alloc (.cells #[.int .u64 ((q + i : Nat) : Int), .int .i64 1, .int .u64 0] 66)) = .ok (.slice o (p + (i + 1)) c) w2 ∧ Laid W w2 T fl q p (i + 1) (.slice o (p + (i + 1)) c) := by
  obtain ⟨o, c, w2, r, own, b⟩ := push_page h.1 h.2 hn (q + i) ty
  refine ⟨o, c, w2, r, b, ?_⟩
  rw [newPgs_succ, ← List.append_assoc, List.flatMap_append]
  exact own
theorem Laid.done {W w2 : World} {T : Sp} {p q C n' : Nat} (RW : RefC W m T fl ws v0 v1 v2 o3 c3 o4 c4) (ap : Apart m v0 v1 v2 o3 o4) (hf : free T C q) (hC : 0 < C) (hp : pos T.pgs q = p) {o6 : Option Addr} {c6 : Nat} (hn' : n' = T.pgs.length - p)
    (own : w2.ownsRow W.heap.size 66 3 (.slice o6 (p + C + n') c6) (p + C + n') (((pageL T fl).take p ++ newPgs q C).flatMap pc ++ ((pageL T fl).drop p).flatMap pc)) (b2 : Below W.heap.size W w2) :
    ∃ g6, o6 = some ⟨g6, 0, none⟩ ∧ W.heap.size ≤ g6 ∧ RefC (w2.setCell ⟨m, 3, none⟩ (.slice o6 (p + C + n') c6)) m (lay T q C) (layF fl q C) ws v0 v1 v2 o6 c6 o4 c4 ∧ Apart m v0 v1 v2 o6 o4 ∧ Kept (fun b => b = m) W (w2.setCell ⟨m, 3, none⟩ (.slice o6 (p + C + n') c6)) := by
  have lp := lay_pages RW.wf fl hf
  rw [hp] at lp
  have hple := pos_le T.pgs q
  rw [hp] at hple
  have l : (pageL T fl).length = T.pgs.length := by simp [pageL]
  have len : (pageL (lay T q C) (layF fl q C)).length = p + C + n' := by
    rw [lp, List.length_append, List.length_append, List.length_take, List.length_drop, newPgs_len, l, Nat.min_eq_left hple, hn']
  rw [← List.flatMap_append, ← lp] at own
  obtain ⟨o, c, e, hs⟩ := pg_shape own
  injection e with e1 e2 e3
  obtain ⟨g6, hg6⟩ := hs (by omega)
  rw [← e1] at hg6
  subst hg6
  rw [← len] at own ⊢
  obtain ⟨n1, n2, n3, n4⟩ := RW.mem.newRow ap (RW.lt m (Or.inl rfl)) (fun b hb => RW.lt b hb) b2 own
  exact ⟨g6, rfl, n3, RefM.ref (S := lay T q C) n1 (lay_logic RW.logic hf), n2, n4⟩
end Go.Proofs.Ytlfcnaalkjpgnaa

/- The reference of chapter 3: Reserve: where pages are laid out. -/
namespace Go.Proofs.Ytlfcnaalkjpgnaa
open Go.ChangeShapes Go.WideShapes Go.ChangeAt Go.RowKit Go.Proofs.Sp

/-- What the search for a place leaves: the answer so far, and the space with one place less. -/
def RP (w : World) (m : Nat) (S : Sp) (fl : Nat → Nat) (ws : List (Nat × Nat)) (v0 v1 v2 : Value) (o3 : Option Addr) (c3 : Nat) (o4 : Option Addr) (c4 : Nat) (A : Option Nat) (px : Int) (ok : Bool) (wc : World) : Prop :=
  ∃ v0', v0'.ownBlock = v0.ownBlock ∧ RefC wc m (takePlace S) fl ws v0' v1 v2 o3 c3 o4 c4 ∧ Kept (fun b => b = m) w wc ∧ ((ok = true ∧ ∃ q : Nat, A = some q ∧ px = (q : Int)) ∨ (ok = false ∧ A = none))
theorem take_nil {S : Sp} (h : S.places = []) : takePlace S = S := by unfold takePlace; rw [h]; cases S; simp_all
variable {w : World} {m : Nat} {S : Sp} {fl : Nat → Nat} {ws : List (Nat × Nat)} {v0 v1 v2 : Value} {o3 : Option Addr} {c3 : Nat} {o4 : Option Addr} {c4 : Nat}
/-- The first place is taken off. -/
theorem RefC.place (h : RefC w m S fl ws v0 v1 v2 o3 c3 o4 c4) (ap : Apart m v0 v1 v2 o3 o4) {x : Nat} {r : List Nat} (hr : S.places = x :: r) :
    ∃ b off cap, v0 = .slice (some ⟨b, off, none⟩) (r.length + 1) cap ∧ r.length + 1 ≤ cap ∧ w.cell? ⟨b, off, none⟩ = some (.int .u64 (x : Int)) ∧
      RefC (w.setCell ⟨m, 0, none⟩ (.slice (some (cutAddr b off cap)) r.length (cap - 1))) m (takePlace S) fl ws (.slice (some (cutAddr b off cap)) r.length (cap - 1)) v1 v2 o3 c3 o4 c4 := by
  have r0 := h.r0
  rw [hr] at r0
  obtain ⟨b, off, cap, hv, hc, hx⟩ := Sl.head (x := .int .u64 (x : Int)) (xs := u64s r) r0
  have hl : (u64s r).length = r.length := by simp [u64s]
  have t := Sl.tail (x := .int .u64 (x : Int)) (xs := u64s r) (by rw [← hv]; exact r0)
  have := h.setA ap 0 (.slice (some (cutAddr b off cap)) (u64s r).length (cap - 1)) _ v1 v2 r S.refuse S.fills rfl rfl rfl (by decide) t h.r1 h.r2 (by rw [hv]; rfl) rfl rfl
  have e : takePlace S = { S with places := r, refuse := S.refuse, fills := S.fills } := by unfold takePlace; rw [hr]; rfl
  rw [hl] at hv hc this
  rw [e]
  exact ⟨b, off, cap, hv, hc, hx, this⟩
/-- The search goes on. -/
theorem RP.more {A B : Option Nat} {px px' : Int} {ok ok' : Bool} {wc : World} (h : RP w m S fl ws v0 v1 v2 o3 c3 o4 c4 A px ok wc) (k : Nat) (hb : (ok' = true ∧ ∃ q : Nat, B = some q ∧ px' = (q : Int)) ∨ (ok' = false ∧ B = none)) : RP w m S fl ws v0 v1 v2 o3 c3 o4 c4 B px' ok' (wc.drewN k) := by
  obtain ⟨v0', h1, h2, h3, _⟩ := h
  exact ⟨v0', h1, h2.drewN k, ⟨h3.os, h3.tape, h3.output, h3.size, h3.block⟩, hb⟩
theorem RP.same {A B : Option Nat} {px : Int} {ok : Bool} {wc : World} (h : RP w m S fl ws v0 v1 v2 o3 c3 o4 c4 A px ok wc) (hb : (ok = true ∧ ∃ q : Nat, A = some q ∧ px = (q : Int)) → B = A) (ht : ok = true) : RP w m S fl ws v0 v1 v2 o3 c3 o4 c4 B px ok wc := by
  obtain ⟨v0', h1, h2, h3, h4⟩ := h
  refine ⟨v0', h1, h2, h3, ?_⟩
  rcases h4 with h4 | ⟨h4, _⟩
  · rw [hb h4]; exact Or.inl h4
  · rw [ht] at h4; cases h4
set_option maxRecDepth 100000 in
set_option maxHeartbeats 4000000 in
theorem reserve_walk (h : RefC w m S fl ws v0 v1 v2 o3 c3 o4 c4) (ap : Apart m v0 v1 v2 o3 o4) (a c : Int) (ha : 0 ≤ a ∧ a ≤ 18446744073709551615) (c1 : 0 < c) (c2 : c % 512 = 0) (c3' : c ≤ 134217728) (hn : S.pgs.length ≤ 1099511627776) (hpl : ∀ x ∈ S.places, x < 18446744073709551616) (hre : S.refuse.headD false = false) :
    Calls Try.prog 17 #[.pointer (some ⟨m, 0, none⟩), .int .u64 a, .int .u64 c] w (ResP w m S ws v0 v1 v2 o3 o4 c4 a.toNat c.toNat) := by
  obtain ⟨PO, hPO⟩ : ∃ PO, PO = ResP w m S ws v0 v1 v2 o3 o4 c4 a.toNat c.toNat := ⟨_, rfl⟩
  rw [← hPO]
  have HPO := hidR hPO
  have HLT := hidR h.lt
  clear hPO
  have y0 : (c == 0) = false := beq_eq_false_iff_ne.2 (by omega)
  have y1 : (c % 512 != 0) = false := by rw [c2]; rfl
  have y2 : decide (134217728 < c) = false := decide_eq_false (by omega)
  have CR := hidR (h.refuses ap)
  have RE := hidR hre
  have AP := hidR ap
  have HP := hidR hpl
  clear h ap hre hpl
  go_enter Try.func17, Try.ntmps17
  go_wp2_with fail
  go_at_call 35
  refine CR.out.mono ?_
  rintro e w1 ⟨rfl, v1', b1, R1, k1⟩
  have HB1 := hidR b1
  rw [RE.out]
  have A1 := hidR (AP.out.same rfl b1 rfl)
  have HR1 := hidR R1
  have HK1 := hidR k1
  have f0 := R1.frozen 0 (by decide)
  clear k1 CR
  have hv : ∃ o cap, v0 = .slice o S.places.length cap := by
    rcases R1.r0 with ⟨e, e2⟩ | ⟨b, off, cap, e, _⟩
    · have e2 : u64s S.places = [] := e2
      have : S.places = [] := by simpa [u64s] using e2
      exact ⟨none, 0, by rw [this]; exact e⟩
    · exact ⟨some ⟨b, off, none⟩, cap, by rw [e]; simp [u64s, takeRefuse]⟩
  obtain ⟨o, cap, rfl⟩ := hv
  have g0 := R1.h0
  obtain ⟨np, hnp⟩ : ∃ np, np = S.places.length := ⟨_, rfl⟩
  rw [← hnp] at g0 HR1 A1
  have HNP := hidR hnp
  clear R1 hnp
  go_upto_if 33 with fail
  go_cut [8, 9] from 14 (fun s8 s9 wc => ∃ (px : Int) (ok : Bool), s8 = .int .u64 px ∧ s9 = .bool ok ∧ Hid (RP w1 m (takeRefuse S) fl ws (.slice o np cap) v1' v2 o3 c3 o4 c4 (asked S c.toNat) px ok wc))
  case first =>
    cases hp : S.places with
    | nil =>
      have z : np = 0 := by rw [HNP.out, hp]; rfl
      subst z
      go_wp2_with fail
      go_meet
      case rel => exact ⟨0, false, rfl, rfl, hidR ⟨_, rfl, by rw [take_nil (S := takeRefuse S) hp]; exact HR1.out, ⟨rfl, rfl, rfl, Nat.le_refl _, fun _ _ _ => rfl⟩, Or.inr ⟨rfl, by unfold asked; rw [hp]; rfl⟩⟩⟩
    | cons x r =>
      obtain ⟨b, off, cap', e, hcap, hx, RW0⟩ := HR1.out.place A1.out (x := x) (r := r) hp
      injection e with e1 e2 e3
      subst e1 e2 e3
      have hx64 : x < 18446744073709551616 := HP.out x (by rw [hp]; exact List.mem_cons_self)
      have CC := hidR (fun p1 p2 p3 => RW0.clear (x : Int) c p1 p2 p3 hn)
      have CRR := hidR (fun w => right_any (x : Int) c (by omega) (by omega) w)
      have RW := hidR RW0
      clear RW0
      have nr : (0 : Int) < (r.length : Int) + 1 := by omega
      obtain ⟨z, hz⟩ : ∃ z : Int, z = (x : Int) := ⟨_, rfl⟩
      rw [← hz] at hx CC CRR
      have HZ := hidR hz
      have z0 : 0 ≤ z := by omega
      have z1 : z < 18446744073709551616 := by omega
      clear hz
      have HPP := hidR hp
      by_cases k1 : cap = 1
      · subst k1
        obtain rfl : r = [] := List.eq_nil_of_length_eq_zero (by omega)
        have kc : cutAddr b off 1 = ⟨b, off, none⟩ := rfl
        rw [kc] at RW CC
        clear kc hp nr hcap
        by_cases q1 : z = 0
        · have d1 : decide (0 < z) = false := decide_eq_false (by omega)
          have hnone : asked S c.toNat = none := by
            unfold asked
            rw [HPP.out]
            show (if free S c.toNat x then some x else none) = none
            rw [if_neg (fun f => by have hz := HZ.out; exact f.2.1 (by omega))]
          have HN := hidR hnone
          clear hnone q1
          go_wp2_with fail
          go_meet
          case rel => exact ⟨_, false, rfl, rfl, hidR ⟨_, by rfl, RW.out, kept_setCell _ _ _ _, Or.inr ⟨rfl, HN.out⟩⟩⟩
        · have d1 : decide (0 < z) = true := decide_eq_true (by omega)
          by_cases q2 : z % 512 = 0
          · have d2 : (z % 512 == 0) = true := beq_iff_eq.2 q2
            by_cases q3 : Sp.right z.toNat c.toNat
            · have DR := hidR (decide_eq_true q3)
              have q3' := q3
              unfold Sp.right at q3'
              have cc := CC.out z0 (by omega) (by omega)
              have CK := hidR cc
              clear cc q3
              go_wp2_with (first
                | (go_at_call 36; refine (CRR.out _).mono ?_; rintro e w' ⟨rfl, hw'⟩; rw [hw', DR.out]; clear hw' w'))
              go_at_call 37
              refine CK.out.mono ?_
              rintro e w' ⟨x', ok, rfl, hck, k, rfl⟩
              have HCK := hidR hck
              have K0 := hidR (kept_setCell w1 m 0 (Value.slice (some ⟨b, off, none⟩) 0 0))
              clear hck CK
              go_wp2_with fail
              go_meet
              case rel =>
                refine ⟨z, ok, rfl, rfl, hidR ⟨_, by rfl, RW.out.drewN k, ⟨K0.out.os, K0.out.tape, K0.out.output, K0.out.size, K0.out.block⟩, ?_⟩⟩
                have hz := HZ.out
                have ex : z.toNat = x := by omega
                have hask : asked S c.toNat = if free S c.toNat x then some x else none := by unfold asked; rw [HPP.out]; rfl
                cases ok with
                | true =>
                  obtain ⟨_, hall⟩ := HCK.out.1 rfl
                  rw [ex] at hall
                  exact Or.inl ⟨rfl, x, by rw [hask, if_pos ⟨by omega, by omega, by omega, hall⟩], hz⟩
                | false =>
                  obtain ⟨p, hp1, hp2, hp3, _⟩ := HCK.out.2 rfl
                  refine Or.inr ⟨rfl, ?_⟩
                  rw [hask, if_neg (fun f => ?_)]
                  have := f.2.2.2 (p - x) (by omega)
                  rw [show x + (p - x) = p by omega] at this
                  exact (HR1.out.wf.mem p).2 hp1 this
            · have DR := hidR (decide_eq_false q3)
              have hnone : asked S c.toNat = none := by
                unfold asked
                rw [HPP.out]
                show (if free S c.toNat x then some x else none) = none
                rw [if_neg (fun f => by have hz := HZ.out; exact q3 ⟨by omega, by have := f.2.2.1; omega⟩)]
              have HN := hidR hnone
              clear hnone q3
              go_wp2_with (first | (go_at_call 36; refine (CRR.out _).mono ?_; rintro e w' ⟨rfl, hw'⟩; rw [hw', DR.out]; clear hw' w'))
              go_meet
              case rel => exact ⟨_, false, rfl, rfl, hidR ⟨_, by rfl, RW.out, kept_setCell _ _ _ _, Or.inr ⟨rfl, HN.out⟩⟩⟩
          · have d2 : (z % 512 == 0) = false := beq_eq_false_iff_ne.2 q2
            have hnone : asked S c.toNat = none := by
              unfold asked
              rw [HPP.out]
              show (if free S c.toNat x then some x else none) = none
              rw [if_neg (fun f => by have hz := HZ.out; exact q2 (by have := f.1; omega))]
            have HN := hidR hnone
            clear hnone q2
            go_wp2_with fail
            go_meet
            case rel => exact ⟨_, false, rfl, rfl, hidR ⟨_, by rfl, RW.out, kept_setCell _ _ _ _, Or.inr ⟨rfl, HN.out⟩⟩⟩
      · have kc : cutAddr b off cap = ⟨b, off + 1, none⟩ := by unfold cutAddr; rw [if_neg k1]
        rw [kc] at RW CC
        clear kc hp
        by_cases q1 : z = 0
        · have d1 : decide (0 < z) = false := decide_eq_false (by omega)
          have hnone : asked S c.toNat = none := by
            unfold asked
            rw [HPP.out]
            show (if free S c.toNat x then some x else none) = none
            rw [if_neg (fun f => by have hz := HZ.out; exact f.2.1 (by omega))]
          have HN := hidR hnone
          clear hnone q1
          go_wp2_with fail
          go_meet
          case rel => exact ⟨_, false, rfl, rfl, hidR ⟨_, by rfl, RW.out, kept_setCell _ _ _ _, Or.inr ⟨rfl, HN.out⟩⟩⟩
        · have d1 : decide (0 < z) = true := decide_eq_true (by omega)
          by_cases q2 : z % 512 = 0
          · have d2 : (z % 512 == 0) = true := beq_iff_eq.2 q2
            by_cases q3 : Sp.right z.toNat c.toNat
            · have DR := hidR (decide_eq_true q3)
              have q3' := q3
              unfold Sp.right at q3'
              have cc := CC.out z0 (by omega) (by omega)
              have CK := hidR cc
              clear cc q3
              go_wp2_with (first
                | (go_at_call 36; refine (CRR.out _).mono ?_; rintro e w' ⟨rfl, hw'⟩; rw [hw', DR.out]; clear hw' w'))
              go_at_call 37
              refine CK.out.mono ?_
              rintro e w' ⟨x', ok, rfl, hck, k, rfl⟩
              have HCK := hidR hck
              have K0 := hidR (kept_setCell w1 m 0 (Value.slice (some ⟨b, off + 1, none⟩) r.length (cap - 1)))
              clear hck CK
              go_wp2_with fail
              go_meet
              case rel =>
                refine ⟨z, ok, rfl, rfl, hidR ⟨_, by rfl, RW.out.drewN k, ⟨K0.out.os, K0.out.tape, K0.out.output, K0.out.size, K0.out.block⟩, ?_⟩⟩
                have hz := HZ.out
                have ex : z.toNat = x := by omega
                have hask : asked S c.toNat = if free S c.toNat x then some x else none := by unfold asked; rw [HPP.out]; rfl
                cases ok with
                | true =>
                  obtain ⟨_, hall⟩ := HCK.out.1 rfl
                  rw [ex] at hall
                  exact Or.inl ⟨rfl, x, by rw [hask, if_pos ⟨by omega, by omega, by omega, hall⟩], hz⟩
                | false =>
                  obtain ⟨p, hp1, hp2, hp3, _⟩ := HCK.out.2 rfl
                  refine Or.inr ⟨rfl, ?_⟩
                  rw [hask, if_neg (fun f => ?_)]
                  have := f.2.2.2 (p - x) (by omega)
                  rw [show x + (p - x) = p by omega] at this
                  exact (HR1.out.wf.mem p).2 hp1 this
            · have DR := hidR (decide_eq_false q3)
              have hnone : asked S c.toNat = none := by
                unfold asked
                rw [HPP.out]
                show (if free S c.toNat x then some x else none) = none
                rw [if_neg (fun f => by have hz := HZ.out; exact q3 ⟨by omega, by have := f.2.2.1; omega⟩)]
              have HN := hidR hnone
              clear hnone q3
              go_wp2_with (first | (go_at_call 36; refine (CRR.out _).mono ?_; rintro e w' ⟨rfl, hw'⟩; rw [hw', DR.out]; clear hw' w'))
              go_meet
              case rel => exact ⟨_, false, rfl, rfl, hidR ⟨_, by rfl, RW.out, kept_setCell _ _ _ _, Or.inr ⟨rfl, HN.out⟩⟩⟩
          · have d2 : (z % 512 == 0) = false := beq_eq_false_iff_ne.2 q2
            have hnone : asked S c.toNat = none := by
              unfold asked
              rw [HPP.out]
              show (if free S c.toNat x then some x else none) = none
              rw [if_neg (fun f => by have hz := HZ.out; exact q2 (by have := f.1; omega))]
            have HN := hidR hnone
            clear hnone q2
            go_wp2_with fail
            go_meet
            case rel => exact ⟨_, false, rfl, rfl, hidR ⟨_, by rfl, RW.out, kept_setCell _ _ _ _, Or.inr ⟨rfl, HN.out⟩⟩⟩
  case rest =>
    obtain ⟨px, ok, rfl, rfl, hRP⟩ := hcut
    go_upto_if 72 with fail
    go_cut [8, 9] from 14 (fun s8 s9 wc => ∃ (px : Int) (ok : Bool), s8 = .int .u64 px ∧ s9 = .bool ok ∧ Hid (RP w1 m (takeRefuse S) fl ws (.slice o np cap) v1' v2 o3 c3 o4 c4 ((asked S c.toNat).or (firstFrom S a.toNat c.toNat)) px ok wc))
    case first =>
      cases ok with
      | true =>
        go_wp2_with fail
        go_meet
        case rel => exact ⟨px, true, rfl, rfl, hidR (hRP.out.same (fun z => by obtain ⟨_, q, e, _⟩ := z; rw [e]; rfl) rfl)⟩
      | false =>
        have hno : asked S c.toNat = none := by
          obtain ⟨_, _, _, _, h4⟩ := hRP.out
          rcases h4 with ⟨h4, _⟩ | ⟨_, h4⟩
          · cases h4
          · exact h4
        have HNO := hidR hno
        obtain ⟨v0', _, RC, _, _⟩ := hRP.out
        have cf := RC.first a c (by omega) c1 c3' hn
        have CF := hidR cf
        clear hno cf RC
        go_wp2_with fail
        go_at_call 38
        refine CF.out.mono ?_
        rintro e wq ⟨rfl, k, rfl⟩
        have FE : Hid (firstFrom (takePlace (takeRefuse S)) ((a : Int)).toNat c.toNat = firstFrom S ((a : Int)).toNat c.toNat) := hidR rfl
        rw [FE.out]
        cases hf : firstFrom S ((a : Int)).toNat c.toNat with
        | some y =>
          have HF := hidR hf
          clear hf CF
          go_wp2_with fail
          go_meet
          case rel => exact ⟨(y : Int), true, rfl, rfl, hidR (hRP.out.more k (Or.inl ⟨rfl, y, by rw [HNO.out]; exact HF.out, rfl⟩))⟩
        | none =>
          have HF := hidR hf
          clear hf CF
          go_wp2_with fail
          go_meet
          case rel => exact ⟨0, false, rfl, rfl, hidR (hRP.out.more k (Or.inr ⟨rfl, by rw [HNO.out]; exact HF.out⟩))⟩
    case rest =>
      obtain ⟨px, ok, rfl, rfl, hRP⟩ := hcut
      go_upto_if 81 with fail
      go_cut [8, 9] from 14 (fun s8 s9 wc => ∃ (px : Int) (ok : Bool), s8 = .int .u64 px ∧ s9 = .bool ok ∧ Hid (RP w1 m (takeRefuse S) fl ws (.slice o np cap) v1' v2 o3 c3 o4 c4 (((asked S c.toNat).or (firstFrom S a.toNat c.toNat)).or (firstFrom S (0 : Int).toNat c.toNat)) px ok wc))
      case first =>
        cases ok with
        | true =>
          go_wp2_with fail
          go_meet
          case rel => exact ⟨px, true, rfl, rfl, hidR (hRP.out.same (fun z => by obtain ⟨_, q, e, _⟩ := z; rw [e]; rfl) rfl)⟩
        | false =>
          have hno : (asked S c.toNat).or (firstFrom S a.toNat c.toNat) = none := by
            obtain ⟨_, _, _, _, h4⟩ := hRP.out
            rcases h4 with ⟨h4, _⟩ | ⟨_, h4⟩
            · cases h4
            · exact h4
          have HNO := hidR hno
          obtain ⟨v0', _, RC, _, _⟩ := hRP.out
          have cf := RC.first 0 c (by omega) c1 c3' hn
          have CF := hidR cf
          clear hno cf RC
          go_wp2_with fail
          go_at_call 38
          refine CF.out.mono ?_
          rintro e wq ⟨rfl, k, rfl⟩
          have FE : Hid (firstFrom (takePlace (takeRefuse S)) ((0 : Int)).toNat c.toNat = firstFrom S ((0 : Int)).toNat c.toNat) := hidR rfl
          rw [FE.out]
          cases hf : firstFrom S ((0 : Int)).toNat c.toNat with
          | some y =>
            have HF := hidR hf
            clear hf CF
            go_wp2_with fail
            go_meet
            case rel => exact ⟨(y : Int), true, rfl, rfl, hidR (hRP.out.more k (Or.inl ⟨rfl, y, by rw [HNO.out]; exact HF.out, rfl⟩))⟩
          | none =>
            have HF := hidR hf
            clear hf CF
            go_wp2_with fail
            go_meet
            case rel => exact ⟨0, false, rfl, rfl, hidR (hRP.out.more k (Or.inr ⟨rfl, by rw [HNO.out]; exact HF.out⟩))⟩
      case rest =>
        obtain ⟨px, ok, rfl, rfl, hRP⟩ := hcut
        obtain ⟨v0', bv0, RC, KP, hans⟩ := hRP.out
        have GD : Hid (¬ (c.toNat = 0 ∨ c.toNat % 512 ≠ 0 ∨ 134217728 < c.toNat)) := hidR (by omega)
        have KK : Hid (Kept (fun b => b = m) w wc) := hidR (Kept.trans HK1.out KP)
        have AT : Hid (Apart m v0' v1' v2 o3 o4) := hidR (A1.out.same bv0 rfl rfl)
        have IR : Hid (∀ b, inRef m v0' v1' v2 o3 o4 b → inRef m (.slice o np cap) v1 v2 o3 o4 b) := hidR (fun b hb => inRef_same bv0 HB1.out rfl b hb)
        have HRC := hidR RC
        rcases hans with ⟨rfl, q, hq, rfl⟩ | ⟨rfl, hno⟩
        · obtain ⟨hres, hfree⟩ := reserve_yes GD.out RE.out hq
          have hq35 : q + c.toNat ≤ 34359738368 := hfree.2.2.1
          obtain ⟨C, hC⟩ : ∃ C, c.toNat = C := ⟨_, rfl⟩
          rw [hC] at hres hfree hq35
          have HC := hidR hC
          obtain ⟨T, hT⟩ : ∃ T, T = takePlace (takeRefuse S) := ⟨_, rfl⟩
          have HFT : Hid (free T C q) := hidR (by rw [hT]; exact hfree)
          have hnT : T.pgs.length ≤ 1099511627776 := by rw [hT]; exact hn
          rw [← hT] at HRC
          have HT := hidR hT
          have HRES := hidR hres
          have CFD := hidR (HRC.out.find (q : Int) (by omega) hnT)
          obtain ⟨p, hp⟩ : ∃ p, pos T.pgs q = p := ⟨_, rfl⟩
          have hple : p ≤ T.pgs.length := by rw [← hp]; exact pos_le _ _
          rw [show ((q : Int)).toNat = q by omega, hp] at CFD
          have HPP := hidR hp
          clear hRP RC KP hres hfree hq hT hp
          go_wp2_with fail
          go_at_call 39
          refine CFD.out.mono ?_
          rintro e W ⟨rfl, k, hW⟩
          have RW : Hid (RefC W m T fl ws v0' v1' v2 o3 c3 o4 c4) := hidR (by rw [hW]; exact HRC.out.drewN k)
          have KW : Hid (Kept (fun b => b = m) w W) := hidR (by rw [hW]; exact KK.out.trans ⟨rfl, rfl, rfl, Nat.le_refl _, fun _ _ _ => rfl⟩)
          have HDL : Hid (((pageL T fl).drop p).length = T.pgs.length - p) := hidR (by rw [List.length_drop]; simp [pageL])
          have HTL : Hid (((pageL T fl).take p).length = p) := hidR (by rw [List.length_take, Nat.min_eq_left (by simpa [pageL] using hple)])
          clear hW CFD HRC KK
          rcases RW.out.pages3 with ⟨rfl, hn0, rfl⟩ | ⟨g, rfl, hcap, hcm, hg, hcells⟩
          · obtain rfl : p = 0 := by omega
            have HQQ : Hid (T.pgs.length = 0) := hidR (by omega)
            have HZ0 : Hid (T.pgs.length - 0 = 0) := hidR (by omega)
            obtain ⟨o5, c5, w5, r5, own5, b5⟩ := append_pages (W := W) (w1 := W.alloc (.cells #[] 66)) ((Below.refl _ _).alloc (Nat.le_refl _) _) (own_empty W 66 3) (by omega) (src := .slice none 0 0) (xs := (pageL T fl).take 0) (by rw [HTL.out]; omega) (Or.inl ⟨rfl, by simp⟩) 54
            rw [HTL.out, Nat.zero_add] at r5 own5
            have L0 : Hid (Laid W w5 T fl q 0 0 (.slice o5 0 c5)) := hidR ⟨b5, by rw [Nat.add_zero]; rw [List.nil_append] at own5; simpa [newPgs] using own5⟩
            clear own5 b5
            have LP : Hid (∀ wr v, Laid W wr T fl q 0 C v → ∃ o6 c6 w6, (Builtin.append_ #[54, 54] 54 #[v, .slice none 0 0]).run Try.prog wr = .ok (.slice o6 (C) c6) w6 ∧ w6.cell? ⟨m, 3, none⟩ = some (.slice none 0 0) ∧ w6.frozen? ⟨m, 3, none⟩ = false ∧ PO (.returned (.tuple #[.int .u64 (q : Int), .int .i64 0])) (w6.setCell ⟨m, 3, none⟩ (.slice o6 (C) c6))) := hidR (by
              intro wr v hLd
              have hB := hLd.1
              obtain ⟨o6, c6, w6, r6, own6, b6⟩ := append_pages hLd.1 hLd.2 (by omega) (src := .slice none 0 0) (xs := (pageL T fl).drop 0) (by rw [HDL.out]; omega) (Or.inl ⟨rfl, List.eq_nil_of_length_eq_zero (by rw [HDL.out, HZ0.out])⟩) 54
              rw [HDL.out, HZ0.out] at r6 own6
              obtain ⟨g6, e6, hg6, RC6, AP6, KP6⟩ := Laid.done RW.out AT.out HFT.out (by omega) HPP.out HZ0.out.symm own6 b6
              simp only [Nat.zero_add, Nat.add_zero] at r6 RC6 KP6
              have hmW := RW.out.lt m (Or.inl rfl)
              refine ⟨o6, c6, w6, r6, (b6.cell (p := ⟨m, 3, none⟩) hmW).trans (by have := RW.out.h3; rw [HQQ.out] at this; exact this), (b6.frozen (p := ⟨m, 3, none⟩) hmW).trans (RW.out.frozen 3 (by decide)), ?_⟩
              rw [HPO.out]
              unfold ResP
              rw [HC.out, HRES.out, ← HT.out]
              refine ⟨rfl, _, v0', v1', _, _, RC6, AP6, fun b hb => ?_, KW.out.trans KP6⟩
              subst e6
              rcases hb with z | z | z | z | z | z
              · exact Or.inl (Or.inl z)
              · exact Or.inl (by have := IR.out b (Or.inr (Or.inl z)); rw [HNP.out] at this; exact this)
              · exact Or.inl (by have := IR.out b (Or.inr (Or.inr (Or.inl z))); rw [HNP.out] at this; exact this)
              · exact Or.inl (by have := IR.out b (Or.inr (Or.inr (Or.inr (Or.inl z)))); rw [HNP.out] at this; exact this)
              · have : g6 = b := by simpa using z
                have := KW.out.size
                exact Or.inr (by omega)
              · exact Or.inl (by have := IR.out b (Or.inr (Or.inr (Or.inr (Or.inr (Or.inr z))))); rw [HNP.out] at this; exact this))
            have hc0 : (W.alloc (.cells #[] 66)).cell? ⟨m, 3, none⟩ = some (.slice none 0 0) := by rw [World.cell?_alloc_lt _ _ _ (by exact RW.out.lt m (Or.inl rfl))]; exact (by have := RW.out.h3; rw [HQQ.out] at this; exact this)
            have R5 := hidR r5
            clear r5
            go_wp2_with (first
              | (at_builtin; refine list_append_run (by rfl) (.tmp 96) (.tmp 102) 54 (by rfl) (by rfl) (by rfl) R5.out ?_))
            clear R5
            go_loopw [12, 13] (fun lv iv wr => ∃ (i : Nat) (ol : Option Addr) (cl : Nat), lv = .slice ol (i) cl ∧ iv = .int .u64 (i : Int) ∧ (i : Int) ≤ c ∧ Hid (Laid W wr T fl q 0 i (.slice ol (i) cl))) (fun _ iv _ => c.toNat - (intOf iv).toNat)
            case atStart => exact ⟨0, o5, c5, rfl, rfl, by omega, L0⟩
            case round =>
              clear L0
              obtain ⟨i, ol, cl, rfl, rfl, hi, HLd⟩ := hrel
              by_cases hlt : (i : Int) < c
              · obtain ⟨o7, c7, w7, r7, L7⟩ := HLd.out.push (by omega) 54
                simp only [Nat.zero_add] at r7 L7
                rw [show ((q + i : Nat) : Int) = (q : Int) + (i : Int) by omega] at r7
                have R7 := hidR r7
                have HL7 := hidR L7
                have qi : (q : Int) + (i : Int) < 18446744073709551616 := by omega
                have qi0 : (0 : Int) ≤ (q : Int) + (i : Int) := by omega
                clear r7 L7 LP
                go_wp2_with (first
                  | (at_builtin; refine list_append_run (by rfl) (.tmp 109) (.tmp 114) 54 (by rfl) (by rfl) (by rfl) R7.out ?_))
                go_roundw
                case rel => exact ⟨i + 1, o7, c7, rfl, by go_num, by omega, HL7⟩
                case measure => simp [intOf]; omega
              · obtain rfl : i = C := by omega
                have d0 : decide ((i : Int) < c) = false := decide_eq_false hlt
                obtain ⟨o6, c6, w6, r6, cc6, f6, FN⟩ := LP.out wr _ HLd.out
                have ccr : wr.cell? ⟨m, 3, none⟩ = some (.slice none 0 0) := (HLd.out.1.cell (p := ⟨m, 3, none⟩) (RW.out.lt m (Or.inl rfl))).trans (by have := RW.out.h3; rw [HQQ.out] at this; exact this)
                have R6 := hidR r6
                have FN := hidR FN
                clear r6 LP HLd
                go_wp2_with (first
                  | (at_builtin; refine list_append_run (by rfl) (.tmp 117) (.tmp 123) 54 (by rfl) (by rfl) (by rfl) R6.out ?_))
                first | exact FN.out | (go_ret; exact FN.out)
          · have HCL := hidR hcells
            obtain ⟨o5, c5, w5, r5, own5, b5⟩ := append_pages (W := W) (w1 := W.alloc (.cells #[] 66)) ((Below.refl _ _).alloc (Nat.le_refl _) _) (own_empty W 66 3) (by omega) (src := .slice (some ⟨g, 0, none⟩) p c3) (xs := (pageL T fl).take p) (by rw [HTL.out]; omega) (Or.inr ⟨g, 0, c3, by rw [HTL.out], fun j u hu => by
              rw [Nat.zero_add, World.cell?_alloc_lt _ _ _ (by exact hg)]
              have := HCL.out 0 p (by omega) j u (by rw [List.drop_zero]; exact hu)
              rw [Nat.zero_mul, Nat.zero_add] at this
              exact this⟩) 54
            rw [HTL.out, Nat.zero_add] at r5 own5
            have L0 : Hid (Laid W w5 T fl q p 0 (.slice o5 p c5)) := hidR ⟨b5, by rw [Nat.add_zero]; rw [List.nil_append] at own5; simpa [newPgs] using own5⟩
            clear hcells own5 b5
            by_cases cf : c3 = p
            · subst c3
              have HQQ : Hid (T.pgs.length = p) := hidR (by omega)
              have HZ0 : Hid (T.pgs.length - p = 0) := hidR (by omega)
              have LP : Hid (∀ wr v, Laid W wr T fl q p C v → ∃ o6 c6 w6, (Builtin.append_ #[54, 54] 54 #[v, .slice (some ⟨g, 0, none⟩) 0 0]).run Try.prog wr = .ok (.slice o6 (p + C) c6) w6 ∧ w6.cell? ⟨m, 3, none⟩ = some (.slice (some ⟨g, 0, none⟩) p p) ∧ w6.frozen? ⟨m, 3, none⟩ = false ∧ PO (.returned (.tuple #[.int .u64 (q : Int), .int .i64 0])) (w6.setCell ⟨m, 3, none⟩ (.slice o6 (p + C) c6))) := hidR (by
                intro wr v hLd
                have hB := hLd.1
                obtain ⟨o6, c6, w6, r6, own6, b6⟩ := append_pages hLd.1 hLd.2 (by omega) (src := .slice (some ⟨g, 0, none⟩) 0 0) (xs := (pageL T fl).drop p) (by rw [HDL.out]; omega) (Or.inr ⟨g, 0, 0, by rw [HDL.out, HZ0.out], fun j u hu => by rw [List.eq_nil_of_length_eq_zero (show ((pageL T fl).drop p).length = 0 by rw [HDL.out, HZ0.out])] at hu; cases hu⟩) 54
                rw [HDL.out, HZ0.out] at r6 own6
                obtain ⟨g6, e6, hg6, RC6, AP6, KP6⟩ := Laid.done RW.out AT.out HFT.out (by omega) HPP.out HZ0.out.symm own6 b6
                have hmW := RW.out.lt m (Or.inl rfl)
                refine ⟨o6, c6, w6, r6, (b6.cell (p := ⟨m, 3, none⟩) hmW).trans (by have := RW.out.h3; rw [HQQ.out] at this; exact this), (b6.frozen (p := ⟨m, 3, none⟩) hmW).trans (RW.out.frozen 3 (by decide)), ?_⟩
                rw [HPO.out]
                unfold ResP
                rw [HC.out, HRES.out, ← HT.out]
                refine ⟨rfl, _, v0', v1', _, _, RC6, AP6, fun b hb => ?_, KW.out.trans KP6⟩
                subst e6
                rcases hb with z | z | z | z | z | z
                · exact Or.inl (Or.inl z)
                · exact Or.inl (by have := IR.out b (Or.inr (Or.inl z)); rw [HNP.out] at this; exact this)
                · exact Or.inl (by have := IR.out b (Or.inr (Or.inr (Or.inl z))); rw [HNP.out] at this; exact this)
                · exact Or.inl (by have := IR.out b (Or.inr (Or.inr (Or.inr (Or.inl z)))); rw [HNP.out] at this; exact this)
                · have : g6 = b := by simpa using z
                  have := KW.out.size
                  exact Or.inr (by omega)
                · exact Or.inl (by have := IR.out b (Or.inr (Or.inr (Or.inr (Or.inr (Or.inr z))))); rw [HNP.out] at this; exact this))
              have hc0 : (W.alloc (.cells #[] 66)).cell? ⟨m, 3, none⟩ = some (.slice (some ⟨g, 0, none⟩) p p) := by rw [World.cell?_alloc_lt _ _ _ (by exact RW.out.lt m (Or.inl rfl))]; exact (by have := RW.out.h3; rw [HQQ.out] at this; exact this)
              have R5 := hidR r5
              clear r5
              go_wp2_with (first
                | (at_builtin; refine list_append_run (by rfl) (.tmp 96) (.tmp 102) 54 (by rfl) (by rfl) (by rfl) R5.out ?_))
              clear R5
              go_loopw [12, 13] (fun lv iv wr => ∃ (i : Nat) (ol : Option Addr) (cl : Nat), lv = .slice ol (p + i) cl ∧ iv = .int .u64 (i : Int) ∧ (i : Int) ≤ c ∧ Hid (Laid W wr T fl q p i (.slice ol (p + i) cl))) (fun _ iv _ => c.toNat - (intOf iv).toNat)
              case atStart => exact ⟨0, o5, c5, rfl, rfl, by omega, L0⟩
              case round =>
                clear L0
                obtain ⟨i, ol, cl, rfl, rfl, hi, HLd⟩ := hrel
                by_cases hlt : (i : Int) < c
                · obtain ⟨o7, c7, w7, r7, L7⟩ := HLd.out.push (by omega) 54
                  rw [show ((q + i : Nat) : Int) = (q : Int) + (i : Int) by omega] at r7
                  have R7 := hidR r7
                  have HL7 := hidR L7
                  have qi : (q : Int) + (i : Int) < 18446744073709551616 := by omega
                  have qi0 : (0 : Int) ≤ (q : Int) + (i : Int) := by omega
                  clear r7 L7 LP
                  go_wp2_with (first
                    | (at_builtin; refine list_append_run (by rfl) (.tmp 109) (.tmp 114) 54 (by rfl) (by rfl) (by rfl) R7.out ?_))
                  go_roundw
                  case rel => exact ⟨i + 1, o7, c7, rfl, by go_num, by omega, HL7⟩
                  case measure => simp [intOf]; omega
                · obtain rfl : i = C := by omega
                  have d0 : decide ((i : Int) < c) = false := decide_eq_false hlt
                  obtain ⟨o6, c6, w6, r6, cc6, f6, FN⟩ := LP.out wr _ HLd.out
                  have ccr : wr.cell? ⟨m, 3, none⟩ = some (.slice (some ⟨g, 0, none⟩) p p) := (HLd.out.1.cell (p := ⟨m, 3, none⟩) (RW.out.lt m (Or.inl rfl))).trans (by have := RW.out.h3; rw [HQQ.out] at this; exact this)
                  have R6 := hidR r6
                  have FN := hidR FN
                  clear r6 LP HLd
                  go_wp2_with (first
                    | (at_builtin; refine list_append_run (by rfl) (.tmp 117) (.tmp 123) 54 (by rfl) (by rfl) (by rfl) R6.out ?_))
                  first | exact FN.out | (go_ret; exact FN.out)
            · have cf' : ¬ c3 ≤ p := by omega
              have LP : Hid (∀ wr v, Laid W wr T fl q p C v → ∃ o6 c6 w6, (Builtin.append_ #[54, 54] 54 #[v, .slice (some ⟨g, p * 3, none⟩) (T.pgs.length - p) (c3 - p)]).run Try.prog wr = .ok (.slice o6 (p + C + (T.pgs.length - p)) c6) w6 ∧ w6.cell? ⟨m, 3, none⟩ = some (.slice (some ⟨g, 0, none⟩) T.pgs.length c3) ∧ w6.frozen? ⟨m, 3, none⟩ = false ∧ PO (.returned (.tuple #[.int .u64 (q : Int), .int .i64 0])) (w6.setCell ⟨m, 3, none⟩ (.slice o6 (p + C + (T.pgs.length - p)) c6))) := hidR (by
                intro wr v hLd
                have hB := hLd.1
                obtain ⟨o6, c6, w6, r6, own6, b6⟩ := append_pages hLd.1 hLd.2 (by omega) (src := .slice (some ⟨g, p * 3, none⟩) (T.pgs.length - p) (c3 - p)) (xs := (pageL T fl).drop p) (by rw [HDL.out]; omega) (Or.inr ⟨g, p * 3, c3 - p, by rw [HDL.out], fun j u hu => (hB.cell (p := ⟨g, p * 3 + j, none⟩) hg).trans (HCL.out p (T.pgs.length - p) (by omega) j u (by rw [List.take_of_length_le (by rw [HDL.out]; exact Nat.le_refl _)]; exact hu))⟩) 54
                rw [HDL.out] at r6 own6
                obtain ⟨g6, e6, hg6, RC6, AP6, KP6⟩ := Laid.done RW.out AT.out HFT.out (by omega) HPP.out rfl own6 b6
                have hmW := RW.out.lt m (Or.inl rfl)
                refine ⟨o6, c6, w6, r6, (b6.cell (p := ⟨m, 3, none⟩) hmW).trans RW.out.h3, (b6.frozen (p := ⟨m, 3, none⟩) hmW).trans (RW.out.frozen 3 (by decide)), ?_⟩
                rw [HPO.out]
                unfold ResP
                rw [HC.out, HRES.out, ← HT.out]
                refine ⟨rfl, _, v0', v1', _, _, RC6, AP6, fun b hb => ?_, KW.out.trans KP6⟩
                subst e6
                rcases hb with z | z | z | z | z | z
                · exact Or.inl (Or.inl z)
                · exact Or.inl (by have := IR.out b (Or.inr (Or.inl z)); rw [HNP.out] at this; exact this)
                · exact Or.inl (by have := IR.out b (Or.inr (Or.inr (Or.inl z))); rw [HNP.out] at this; exact this)
                · exact Or.inl (by have := IR.out b (Or.inr (Or.inr (Or.inr (Or.inl z)))); rw [HNP.out] at this; exact this)
                · have : g6 = b := by simpa using z
                  have := KW.out.size
                  exact Or.inr (by omega)
                · exact Or.inl (by have := IR.out b (Or.inr (Or.inr (Or.inr (Or.inr (Or.inr z))))); rw [HNP.out] at this; exact this))
              have hc0 : (W.alloc (.cells #[] 66)).cell? ⟨m, 3, none⟩ = some (.slice (some ⟨g, 0, none⟩) T.pgs.length c3) := by rw [World.cell?_alloc_lt _ _ _ (by exact RW.out.lt m (Or.inl rfl))]; exact RW.out.h3
              have R5 := hidR r5
              clear r5
              go_wp2_with (first
                | (at_builtin; refine list_append_run (by rfl) (.tmp 96) (.tmp 102) 54 (by rfl) (by rfl) (by rfl) R5.out ?_))
              clear R5
              go_loopw [12, 13] (fun lv iv wr => ∃ (i : Nat) (ol : Option Addr) (cl : Nat), lv = .slice ol (p + i) cl ∧ iv = .int .u64 (i : Int) ∧ (i : Int) ≤ c ∧ Hid (Laid W wr T fl q p i (.slice ol (p + i) cl))) (fun _ iv _ => c.toNat - (intOf iv).toNat)
              case atStart => exact ⟨0, o5, c5, rfl, rfl, by omega, L0⟩
              case round =>
                clear L0
                obtain ⟨i, ol, cl, rfl, rfl, hi, HLd⟩ := hrel
                by_cases hlt : (i : Int) < c
                · obtain ⟨o7, c7, w7, r7, L7⟩ := HLd.out.push (by omega) 54
                  rw [show ((q + i : Nat) : Int) = (q : Int) + (i : Int) by omega] at r7
                  have R7 := hidR r7
                  have HL7 := hidR L7
                  have qi : (q : Int) + (i : Int) < 18446744073709551616 := by omega
                  have qi0 : (0 : Int) ≤ (q : Int) + (i : Int) := by omega
                  clear r7 L7 LP
                  go_wp2_with (first
                    | (at_builtin; refine list_append_run (by rfl) (.tmp 109) (.tmp 114) 54 (by rfl) (by rfl) (by rfl) R7.out ?_))
                  go_roundw
                  case rel => exact ⟨i + 1, o7, c7, rfl, by go_num, by omega, HL7⟩
                  case measure => simp [intOf]; omega
                · obtain rfl : i = C := by omega
                  have d0 : decide ((i : Int) < c) = false := decide_eq_false hlt
                  obtain ⟨o6, c6, w6, r6, cc6, f6, FN⟩ := LP.out wr _ HLd.out
                  have ccr : wr.cell? ⟨m, 3, none⟩ = some (.slice (some ⟨g, 0, none⟩) T.pgs.length c3) := (HLd.out.1.cell (p := ⟨m, 3, none⟩) (RW.out.lt m (Or.inl rfl))).trans RW.out.h3
                  have R6 := hidR r6
                  have FN := hidR FN
                  clear r6 LP HLd
                  go_wp2_with (first
                    | (at_builtin; refine list_append_run (by rfl) (.tmp 117) (.tmp 123) 54 (by rfl) (by rfl) (by rfl) R6.out ?_))
                  first | exact FN.out | (go_ret; exact FN.out)
        · have FN : Hid (PO (.returned (.tuple #[.int .u64 0, .int .i64 13])) wc) := hidR (by
            rw [HPO.out]
            unfold ResP
            rw [reserve_no GD.out RE.out hno]
            refine ⟨rfl, fl, v0', v1', o3, c3, HRC.out, AT.out, fun b hb => Or.inl ?_, KK.out⟩
            have := IR.out b hb
            rw [HNP.out] at this
            exact this)
          clear hRP RC KP
          go_wp2_with fail
          first | exact FN.out | (go_ret; exact FN.out)
end Go.Proofs.Ytlfcnaalkjpgnaa
