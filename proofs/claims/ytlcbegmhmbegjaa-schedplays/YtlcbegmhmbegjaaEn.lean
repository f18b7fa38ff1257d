/- SchedEnds. -/
import Derived.Test.YtlcbegmhmbegjaaJ
namespace Go.Proofs.Ytlcbegmhmbegjaa
open Go.ChangeShapes Go.WideShapes Go.ChangeAt Go.RowKit Go.Proofs.Sc Go.Maps
set_option linter.unusedVariables false
set_option linter.unusedSimpArgs false

theorem able_one {S : Sc} {s : Stp} {r : List Stp} (h0 : S.over = false) (h1 : S.ahead = [s :: r]) (h2 : waitsS S s = false) : ableS S = [0] := by
  unfold ableS
  rw [if_neg (by rw [h0]; simp), h1]
  show List.filter _ [0] = [0]
  rw [List.filter_cons_of_pos]
  · rfl
  · rw [h1]; show (!waitsS S s) = true; rw [h2]; rfl
theorem go_one {S : Sc} {s : Stp} {r : List Stp} (p : Int) (h0 : S.over = false) (h1 : S.ahead = [s :: r]) (h2 : waitsS S s = false) : goS S p = (0, stepS S 0) := by
  have ha := able_one h0 h1 h2
  have hd : doneS S = false := by unfold doneS; rw [h1]; rfl
  have hp : pickS S p = 0 := by
    unfold pickS
    rw [ha]
    simp
  unfold goS
  rw [if_neg (by rw [h0]; simp), if_neg (by rw [hd]; simp), if_neg (by rw [ha]; simp), hp]
def endsT (j : Nat) : List Stp := List.replicate j ⟨3, 1, 2⟩ ++ [⟨2, 1, 0⟩, ⟨5, 9, 0⟩]
def endsS (j k : Nat) : Sc := ⟨[endsT j], fun _ => none, fun c => if c = 1 then 2 * (k : Int) else 0, [], false⟩
theorem wrap_small {x : Int} (h : i64 x) : IntKind.i64.wrap x = x := by
  unfold i64 at h
  unfold IntKind.wrap
  simp [IntKind.bits, IntKind.signed]
  split <;> omega
theorem step_ok {S : Sc} {i : Nat} {s : Stp} {r : List Stp} (h : S.ahead[i]? = some (s :: r)) (hok : ¬ (s.op = 2 ∧ S.hold s.a ≠ some i)) : stepS S i = (0, { actS S i s with ahead := S.ahead.set i r }) := by
  unfold stepS
  rw [show S.ahead.getD i [] = s :: r by rw [List.getD_eq_getElem?_getD, h]; rfl]
  simp only
  rw [if_neg hok]
theorem step_bad {S : Sc} {i : Nat} {s : Stp} {r : List Stp} (h : S.ahead[i]? = some (s :: r)) (hok : s.op = 2 ∧ S.hold s.a ≠ some i) : stepS S i = (20, { S with over := true }) := by
  unfold stepS
  rw [show S.ahead.getD i [] = s :: r by rw [List.getD_eq_getElem?_getD, h]; rfl]
  simp only
  rw [if_pos hok]
theorem ends_go (j k : Nat) (p : Int) (hk : k ≤ 100) : goS (endsS (j + 1) k) p = (0, 0, endsS j (k + 1)) := by
  have h1 : (endsS (j + 1) k).ahead = [⟨3, 1, 2⟩ :: endsT j] := by simp [endsS, endsT, List.replicate_succ]
  rw [go_one p rfl h1 (by rfl), step_ok (i := 0) (s := ⟨3, 1, 2⟩) (r := endsT j) (by rw [h1]; rfl) (by simp), act_add, h1]
  have e : (fun c : Int => if c = 1 then IntKind.i64.wrap ((endsS (j + 1) k).cell c + 2) else (endsS (j + 1) k).cell c) = (endsS j (k + 1)).cell := by
    funext c
    by_cases e : c = 1
    · subst e
      simp only [if_true, endsS]
      rw [wrap_small (by unfold i64; omega)]
      omega
    · simp only [if_neg e, endsS]
  simp only [e]
  rfl
theorem ends_last (k : Nat) (p : Int) : goS (endsS 0 k) p = (0, 20, { endsS 0 k with over := true }) := by
  have h1 : (endsS 0 k).ahead = [⟨2, 1, 0⟩ :: [⟨5, 9, 0⟩]] := rfl
  rw [go_one p rfl h1 (by rfl), step_bad (i := 0) (s := ⟨2, 1, 0⟩) (r := [⟨5, 9, 0⟩]) rfl ⟨rfl, by simp [endsS]⟩]
theorem ends_over (k : Nat) (p : Int) : goS { endsS 0 k with over := true } p = (0, 20, { endsS 0 k with over := true }) := by unfold goS; rw [if_pos rfl]
theorem ends_okS {s : Stp} {n : Nat} (h : s ∈ endsT n) : s.Ok ∧ Known s := by
  unfold endsT at h
  rcases List.mem_append.1 h with h | h
  · rw [List.eq_of_mem_replicate h]
    exact ⟨⟨by unfold i64; decide, by unfold i64; decide, by unfold i64; decide⟩, by decide, by decide⟩
  · simp at h
    rcases h with rfl | rfl
    · exact ⟨⟨by unfold i64; decide, by unfold i64; decide, by unfold i64; decide⟩, by decide, by decide⟩
    · exact ⟨⟨by unfold i64; decide, by unfold i64; decide, by unfold i64; decide⟩, by decide, by decide⟩
theorem ends_len (n : Nat) : (endsT n).length = n + 2 := by simp [endsT]
theorem ends_init (n : Nat) : initS [endsT n] = endsS n 0 := by
  unfold initS endsS
  simp
theorem flat_append (a b : List Stp) : flat (a ++ b) = flat a ++ flat b := by simp [flat]
/-- append(own, steps...), of a block of steps that was laid last. -/
theorem snoc_run (w : World) (base : Nat) (ty : TypeId) {v : Value} {t r : List Stp} (hv : w.ownsRow base 36 3 v t.length (flat t)) (cs : Array Value) (hc : cs.toList = flat r) (hr : 0 < r.length) (hl : t.length + r.length ≤ 1000000) (hb : base ≤ w.heap.size) :
    ∃ g c w', (Builtin.append_ #[34, 34] ty #[v, .slice (some ⟨w.heap.size, 0, none⟩) r.length r.length]).run Try.prog (w.alloc (.cells cs 36)) = .ok (.slice (some ⟨g, 0, none⟩) (t.length + r.length) c) w' ∧ w'.ownsRow base 36 3 (.slice (some ⟨g, 0, none⟩) (t.length + r.length) c) (t ++ r).length (flat (t ++ r)) ∧ Below base w w' ∧ (w.alloc (.cells cs 36)).grownBy w' v.ownBlock := by
  obtain ⟨i0, hi0, hz0, hz1, hz2⟩ := info_parts infoS
  have own : (w.alloc (.cells cs 36)).ownsRow base 36 3 v t.length (flat t) := hv.alloc _
  obtain ⟨g, c, w', h1, h2, h3, h4, h5⟩ := run_append_lies (P := Try.prog) (w.alloc (.cells cs 36)) 34 ty base 36 i0 _ 3 24 Try.underlying34 hi0 hz0 hz1 hz2 rfl (by decide) v t.length (flat t) own ⟨w.heap.size, 0, none⟩ r.length r.length (flat r) (flat_len r) (by have := World.news_of_block (heap_alloc_new w (.cells cs 36)); rw [hc] at this; exact this) (flat_one r) hr (by unfold maxLen; omega) (by omega) (by simp; omega) _ rfl
  refine ⟨g, c, w', h1, ?_, ?_, h3⟩
  · rw [flat_append, List.length_append]; exact h2
  · exact ((Below.refl _ _).alloc hb _).grown h3 (by simp; omega) (fun k hk => (own.lt k hk).1)
end Go.Proofs.Ytlcbegmhmbegjaa
