/- ClassMakes: lists that are written. -/
import Derived.Test.YtamkjodfjdhhmaaRo
import Derived.Test.YtamkjodfjdhhmaaSm
namespace Go.Proofs.Ytamkjodfjdhhmaa
open Go.ChangeShapes Go.WideShapes Go.ChangeAt Go.RowKit Go.Proofs.Cl Go.Shelf
set_option linter.unusedVariables false
set_option linter.unusedSimpArgs false

/-- A class of nothing but a size. -/
def only (k : Nat) : Cls := ⟨k, 0, 0, 0⟩
/-- A list whose first i classes are written over. -/
def repC (k i : Nat) (l : List Cls) : List Cls := List.replicate i (only k) ++ l.drop i
theorem rep_len {k i : Nat} {l : List Cls} (h : i ≤ l.length) : (repC k i l).length = l.length := by simp [repC]; omega
theorem rep_zero (k : Nat) (l : List Cls) : repC k 0 l = l := by simp [repC]
theorem rep_all (k : Nat) (l : List Cls) : repC k l.length l = List.replicate l.length (only k) := by simp [repC]
theorem rep_set {k i : Nat} {l : List Cls} (h : i < l.length) : (repC k i l).set i (only k) = repC k (i + 1) l := by
  unfold repC
  rw [List.drop_eq_getElem_cons h, set_mid (by simp), List.replicate_succ', List.append_assoc]
  rfl
theorem flatC_set4 {l : List Cls} {i : Nat} (h : i < l.length) (x : Cls) : ((((flatC l).set (i * 4) (.int .i64 (x.size : Nat))).set (i * 4 + 1) (.int .i64 (x.pages : Nat))).set (i * 4 + 2) (.int .i64 (x.slots : Nat))).set (i * 4 + 3) (.int .u32 (x.magic : Nat)) = flatC (l.set i x) := by
  induction l generalizing i with
  | nil => simp at h
  | cons a l ih =>
    cases i with
    | zero => rfl
    | succ i =>
      rw [flatC_cons, show (i + 1) * 4 = i * 4 + 1 + 1 + 1 + 1 by omega]
      simp only [List.set_cons_succ, show i * 4 + 1 + 1 + 1 + 1 + 1 = i * 4 + 1 + 1 + 1 + 1 + 1 from rfl, show i * 4 + 1 + 1 + 1 + 1 + 2 = i * 4 + 2 + 1 + 1 + 1 + 1 by omega, show i * 4 + 1 + 1 + 1 + 1 + 3 = i * 4 + 3 + 1 + 1 + 1 + 1 by omega]
      rw [ih (i := i) (by simpa using h), flatC_cons]
/-- A row of classes in a block of its own. -/
def Row (w : World) (base g n cap : Nat) (l : List Cls) : Prop := w.ownsRow base 30 4 (.slice (some ⟨g, 0, none⟩) n cap) n (flatC l) ∧ l.length = n
theorem Row.kept {F : Nat → Prop} {w w' : World} {base g n cap : Nat} {l : List Cls} (h : Row w base g n cap l) (k : Kept F w w') (hg : ¬ F g) : Row w' base g n cap l := ⟨owns_kept h.1 k (fun g' e => by rw [← own_eq e]; exact hg), h.2⟩
theorem Row.below {w w' : World} {base g n cap : Nat} {l : List Cls} (h : Row w base g n cap l) (k : Below w.heap.size w w') : Row w' base g n cap l := h.kept (Kept.of_below (F := fun _ => False) k) (fun f => f)
theorem Row.at {w : World} {base g n cap : Nat} {l : List Cls} (h : Row w base g n cap l) : ListAt w g l := list_at h.1 h.2.symm
theorem Row.lt {w : World} {base g n cap : Nat} {l : List Cls} (h : Row w base g n cap l) : base ≤ g ∧ g < w.heap.size := h.1.lt g rfl
theorem Row.fz {w : World} {base g n cap : Nat} {l : List Cls} (h : Row w base g n cap l) (j : Nat) : w.frozen? ⟨g, j, none⟩ = false := h.1.frozenAt j
/-- A class is stored. -/
def put4 (w : World) (g i k : Nat) : World := (((w.setCell ⟨g, i * 4, none⟩ (.int .i64 (k : Int))).setCell ⟨g, i * 4 + 1, none⟩ (.int .i64 0)).setCell ⟨g, i * 4 + 2, none⟩ (.int .i64 0)).setCell ⟨g, i * 4 + 3, none⟩ (.int .u32 0)
theorem Row.put {w : World} {base g n cap : Nat} {l : List Cls} (h : Row w base g n cap l) {i : Nat} (hi : i < n) (k : Nat) : Row (put4 w g i k) base g n cap (l.set i (only k)) := by
  have a1 := (h.1.stored (i * 4) (.int .i64 (k : Int))).1
  have a2 := (a1.stored (i * 4 + 1) (.int .i64 0)).1
  have a3 := (a2.stored (i * 4 + 2) (.int .i64 0)).1
  have a4 := (a3.stored (i * 4 + 3) (.int .u32 0)).1
  refine ⟨?_, by rw [List.length_set]; exact h.2⟩
  rw [← flatC_set4 (by rw [h.2]; exact hi) (only k)]
  exact a4
theorem put_kept {F : Nat → Prop} (w : World) (g i k : Nat) (h : F g) : Kept F w (put4 w g i k) :=
  (((kept_set w g (i * 4) _ h).trans (kept_set _ g (i * 4 + 1) _ h) (fun _ _ h => h)).trans (kept_set _ g (i * 4 + 2) _ h) (fun _ _ h => h)).trans (kept_set _ g (i * 4 + 3) _ h) (fun _ _ h => h)
/-- append(row, class), of a block of one class that was laid last. -/
theorem row_append {w : World} {base g n cap : Nat} {l : List Cls} (h : Row w base g n cap l) (hn : n ≤ 100000) (k : Nat) :
    ∃ g' c' w', (Builtin.append_ #[22, 22] 22 #[.slice (some ⟨g, 0, none⟩) n cap, .slice (some ⟨w.heap.size, 0, none⟩) 1 1]).run Try.prog (w.alloc (.cells #[.int .i64 (k : Int), .int .i64 0, .int .i64 0, .int .u32 0] 30)) = .ok (.slice (some ⟨g', 0, none⟩) (n + 1) c') w' ∧
      Row w' base g' (n + 1) c' (l ++ [only k]) ∧ Kept (fun b => b = g) w w' := by
  obtain ⟨i0, hi, hz0, hz1, hz2⟩ := info_parts infoC
  have hb := h.lt
  obtain ⟨v', w1, hrun, r1, r2, r3⟩ := run_append_own (P := Try.prog) (w.alloc (.cells #[.int .i64 (k : Int), .int .i64 0, .int .i64 0, .int .u32 0] 30)) base 22 22 30 i0 _ 4 32 Try.underlying22 hi hz0 hz1 hz2 rfl (by decide) _ n _ (h.1.alloc _) ⟨w.heap.size, 0, none⟩ 1 1 (flatC [only k]) (flatC_len _)
    (World.news_of_block (World.alloc_heap_new w _)) (flatC_one' _) (by unfold maxLen; omega) (by omega) (by rw [World.size_alloc]; omega)
  obtain ⟨g', c', rfl⟩ := ownsRow_succ r1
  refine ⟨g', c', w1, hrun, ⟨by rw [flatC_append]; exact r1, by rw [List.length_append, h.2]; rfl⟩, ?_⟩
  exact (Kept.of_below (below_alloc w _)).trans (Kept.of_grown r2 (fun j e => (own_eq e).symm)) (fun _ _ h => h)
theorem nil_append (w : World) (k : Nat) :
    ∃ g' c' w', (Builtin.append_ #[22, 22] 22 #[.slice none 0 0, .slice (some ⟨w.heap.size, 0, none⟩) 1 1]).run Try.prog (w.alloc (.cells #[.int .i64 (k : Int), .int .i64 0, .int .i64 0, .int .u32 0] 30)) = .ok (.slice (some ⟨g', 0, none⟩) 1 c') w' ∧
      Row w' w.heap.size g' 1 c' [only k] ∧ Kept (fun _ => False) w w' := by
  obtain ⟨i0, hi, hz0, hz1, hz2⟩ := info_parts infoC
  obtain ⟨v', w1, hrun, r1, r2, r3⟩ := run_append_own (P := Try.prog) (w.alloc (.cells #[.int .i64 (k : Int), .int .i64 0, .int .i64 0, .int .u32 0] 30)) w.heap.size 22 22 30 i0 _ 4 32 Try.underlying22 hi hz0 hz1 hz2 rfl (by decide) _ 0 _ (World.ownsRow_nil _ _ _ _) ⟨w.heap.size, 0, none⟩ 1 1 (flatC [only k]) (flatC_len _)
    (World.news_of_block (World.alloc_heap_new w _)) (flatC_one' _) (by unfold maxLen; omega) (by omega) (by rw [World.size_alloc]; omega)
  obtain ⟨g', c', rfl⟩ := ownsRow_succ r1
  refine ⟨g', c', w1, hrun, ⟨by simpa using r1, rfl⟩, ?_⟩
  exact (Kept.of_below (below_alloc w _)).trans (Kept.of_grown r2 (fun j e => by cases e)) (fun _ _ h => h)
theorem apart_of {w : World} {b1 g1 n1 c1 b2 g2 n2 c2 : Nat} {l1 l2 : List Cls} {x y : Cls} (h1 : Row w b1 g1 n1 c1 l1) (h2 : Row w b2 g2 n2 c2 l2) (e1 : l1[0]? = some x) (e2 : l2[0]? = some y) (hxy : x.size ≠ y.size) : g1 ≠ g2 := by
  intro e
  subst e
  have a := (h1.at 0 x e1).1
  have b := (h2.at 0 y e2).1
  rw [a] at b
  simp at b
  omega
end Go.Proofs.Ytamkjodfjdhhmaa
