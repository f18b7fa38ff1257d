/- Package sets: heaps by their sides: swap, rise, lower, sink: contracts. -/
import Derived.Test.YtdgjlekndhgjfaaHq
namespace Go.Proofs.Ytdgjlekndhgjfaa
open Go.ChangeShapes Go.WideShapes Go.ChangeAt Go.RowKit Go.Shelf Go.Proofs.Rx Go.Maps Go.Proofs.Hm
set_option linter.unusedVariables false
set_option linter.unusedSimpArgs false

attribute [local go_sem] Oper.semAt_some

set_option maxHeartbeats 1000000 in
theorem swapA {W : World} {b o : Nat} {q : Nat → Array Value} {B : Nat → Nat} {v : Value} {l : List Nat} {p : Nat → Int} (h : Hp W b o 32 6 q B v l p) (i k : Nat) (hi : i < l.length) (hk : k < l.length) :
    Calls Try.prog 41 #[.pointer (some ⟨b, o, none⟩), .int .i64 (i : Nat), .int .i64 (k : Nat)] W fun e W' => e = .returned (.tuple #[]) ∧ Hp W' b o 32 6 q B v (swapL l i k) (swapP l i k p) ∧ Kept (fun z => v.ownBlock = some z ∨ z ∈ l) W W' := by
  obtain ⟨g, cap, rfl, hc, hf⟩ := h.form (by omega)
  obtain ⟨n, hn⟩ : ∃ n, l.length = n := ⟨_, rfl⟩
  rw [hn] at hi hk hc
  have c0 := h.at_.c0
  have c2 := h.at_.c2
  have f0 := h.at_.f0
  rw [hn] at c0
  have hs : (W.setCell ⟨g, i, none⟩ (.pointer (some ⟨at' l k, 0, none⟩))).drew.cell? ⟨g, k, none⟩ = some (.pointer (some ⟨at' l k, 0, none⟩)) := by
    show (W.setCell ⟨g, i, none⟩ (.pointer (some ⟨at' l k, 0, none⟩))).cell? ⟨g, k, none⟩ = _
    by_cases e : k = i
    · subst e; exact World.cell?_setCell_same W _ _ (hc k hk)
    · rw [World.cell?_setCell_other _ _ _ _ (by intro z; have := congrArg Addr.off z; simp at this; omega)]; exact hc k hk
  have H := hide h
  have HN := hide hn
  clear h hn
  go_enter Try.func41, Try.ntmps41
  go_wp2_with fail
  go_region
  all_goals go_wp2_with fail
  obtain ⟨W1, hW1⟩ : ∃ W1, ((W.setCell ⟨g, i, none⟩ (.pointer (some ⟨at' l k, 0, none⟩))).setCell ⟨g, k, none⟩ (.pointer (some ⟨at' l i, 0, none⟩))).drew = W1 := ⟨_, rfl⟩
  have h := H.out
  rw [HN.out] at h
  obtain ⟨h1, k1⟩ := h.rowswap HN.out i k hi hk hW1
  rw [hW1]
  clear hW1 hs hc hf c0 c2 f0 h
  obtain ⟨L, hL⟩ : ∃ L, swapL l i k = L := ⟨_, rfl⟩
  have nL : L.length = n := by rw [← hL, len_swap, HN.out]
  have ei : at' L i = at' l k := by
    rw [← hL, at_swap (by rw [HN.out]; exact hi) (by rw [HN.out]; exact hk)]
    by_cases e : i = k
    · rw [if_pos e, e]
    · rw [if_neg e, if_pos rfl]
  have ek : at' L k = at' l i := by rw [← hL, at_swap (by rw [HN.out]; exact hi) (by rw [HN.out]; exact hk), if_pos rfl]
  rw [hL] at h1
  have mi : at' l k ∈ L := by rw [← ei]; exact at_mem (by omega)
  have mk : at' l i ∈ L := by rw [← ek]; exact at_mem (by omega)
  obtain ⟨g', cap', eg, hc, hf⟩ := h1.form (by omega)
  rw [nL] at eg hc
  cases eg
  have c0 := h1.at_.c0
  have c2 := h1.at_.c2
  have d1 := hc i hi
  rw [ei] at d1
  have x1 := h1.ms.place (by decide) mi
  have y1 := (h1.ms.bk _ mi).fz 6
  have CP := hide place6
  have K1 := hide k1
  have H1 := hide h1
  have FA := hide (And.intro hL (And.intro nL (And.intro ei (And.intro ek (And.intro mi mk)))))
  clear hL nL ei ek mi mk h1 k1 hc hf
  refine still_tail 13 (by kernel_rfl) (by kernel_rfl) ?_
  simp only [List.take_succ_cons, List.take_zero, List.drop_succ_cons, List.drop_zero]
  repeat still_step
  still_call (CP.out _ _)
  repeat still_step
  refine wpStill_nil ?_
  go_wp2_with fail
  obtain ⟨W2, hW2⟩ : ∃ W2, (W1.setCell ⟨at' l k, 6, none⟩ (.int .i64 (i : Nat))).drew = W2 := ⟨_, rfl⟩
  obtain ⟨hL, nL, ei, ek, mi, mk⟩ := FA.out
  obtain ⟨h2, k2⟩ := H1.out.put mi (i : Int) hW2
  rw [hW2]
  clear hW2 c0 c2 d1 x1 y1
  obtain ⟨g', cap', eg, hc, hf⟩ := h2.form (by omega)
  rw [nL] at eg hc
  cases eg
  have c0 := h2.at_.c0
  have c2 := h2.at_.c2
  have d1 := hc k hk
  rw [ek] at d1
  have x1 := h2.ms.place (by decide) mk
  have y1 := (h2.ms.bk _ mk).fz 6
  have K2 := hide k2
  have H2 := hide h2
  clear hL nL ei ek mi mk h2 k2 hc hf
  refine still_tail 13 (by kernel_rfl) (by kernel_rfl) ?_
  simp only [List.take_succ_cons, List.take_zero, List.drop_succ_cons, List.drop_zero]
  repeat still_step
  still_call (CP.out _ _)
  repeat still_step
  refine wpStill_nil ?_
  go_wp2_with fail
  go_end0
  refine ⟨rfl, ?_⟩
  obtain ⟨hL, nL, ei, ek, mi, mk⟩ := FA.out
  obtain ⟨h3, k3⟩ := H2.out.put mk (k : Int) rfl
  rw [HN.out, hL]
  refine ⟨h3, ?_⟩
  have pm := perm_swap (l := l) (i := i) (k := k) (by rw [HN.out]; exact hi) (by rw [HN.out]; exact hk)
  rw [hL] at pm
  have a1 : Kept (fun z => (Value.slice (some ⟨g, 0, none⟩) n cap).ownBlock = some z ∨ z ∈ l) W W1 := K1.out.mono (fun z e => .inl (by rw [e]; rfl))
  have a2 := K2.out.mono (G := fun z => (Value.slice (some ⟨g, 0, none⟩) n cap).ownBlock = some z ∨ z ∈ l) (fun z e => .inr (by rw [e]; exact pm.mem_iff.1 mi))
  have a3 := k3.mono (G := fun z => (Value.slice (some ⟨g, 0, none⟩) n cap).ownBlock = some z ∨ z ∈ l) (fun z e => .inr (by rw [e]; exact pm.mem_iff.1 mk))
  exact (a1.trans a2 (fun _ _ h => h)).trans a3 (fun _ _ h => h)
end Go.Proofs.Ytdgjlekndhgjfaa
