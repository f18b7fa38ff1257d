/- The law's own model: add, set: contracts. -/
import Derived.Test.YtdcjldpbgickmaaMo
namespace Go.Proofs.Ytdcjldpbgickmaa
open Go.ChangeShapes Go.WideShapes Go.ChangeAt Go.RowKit Go.Shelf Go.Proofs.Rx Go.Maps
set_option linter.unusedVariables false
set_option linter.unusedSimpArgs false

attribute [local go_sem] Oper.semAt_some

theorem infoI : (Try.prog.info? 3).map (fun i => (i.zero, i.size, i.bytes)) = some (some (.int .i64 0), 1, 8) := by kernel_rfl
/-- One number more. -/
theorem u64s_more {X2 : World} {base : Nat} {v : Value} {k : Nat} {t : List Nat} (h : X2.ownsRow base 35 1 v k (t.map encU)) (hk : k < 100000) (blk : Nat) (q : Nat) (n2 : X2.heap[blk]? = some (.cells #[.int .u64 (q : Nat)] 35 (0, 0))) (hb : base ≤ X2.heap.size) (ty : TypeId) :
    ∃ g cap Y, (Builtin.append_ #[27, 27] ty #[v, .slice (some ⟨blk, 0, none⟩) 1 1]).run Try.prog X2 = .ok (.slice (some ⟨g, 0, none⟩) (k + 1) cap) Y ∧ Y.ownsRow base 35 1 (.slice (some ⟨g, 0, none⟩) (k + 1) cap) (k + 1) ((t ++ [q]).map encU) ∧ Kept (fun x => v.ownBlock = some x) X2 Y ∧ (v.ownBlock = some g ∨ X2.heap.size ≤ g) ∧ g < Y.heap.size := by
  obtain ⟨i0, hi0, hz0, hz1, hz2⟩ := info_parts infoU
  obtain ⟨g, cap, Y, r1, o1, g1, hat, hlt⟩ := run_append_lies (P := Try.prog) X2 27 ty base 35 i0 _ 1 8 Try.underlying27 hi0 hz0 hz1 hz2 rfl (by decide) v k (t.map encU) h ⟨blk, 0, none⟩ 1 1 [.int .u64 (q : Nat)] rfl (World.news_of_block n2) (by intro u hu; simp at hu; rw [hu]; rfl) (by decide) (by unfold maxLen; omega) (by omega) hb _ rfl
  refine ⟨g, cap, Y, r1, ?_, Kept.of_grown g1 (fun j e => e), ?_, hlt⟩
  · rw [List.map_append]; exact o1
  · rcases hat with e | e
    · exact .inl e
    · exact .inr (by omega)
theorem ints_more {X2 : World} {base : Nat} {v : Value} {k : Nat} {t : List Int} (h : X2.ownsRow base 3 1 v k (t.map encI)) (hk : k < 100000) (blk : Nat) (q : Int) (n2 : X2.heap[blk]? = some (.cells #[.int .i64 q] 3 (0, 0))) (hb : base ≤ X2.heap.size) (ty : TypeId) :
    ∃ g cap Y, (Builtin.append_ #[28, 28] ty #[v, .slice (some ⟨blk, 0, none⟩) 1 1]).run Try.prog X2 = .ok (.slice (some ⟨g, 0, none⟩) (k + 1) cap) Y ∧ Y.ownsRow base 3 1 (.slice (some ⟨g, 0, none⟩) (k + 1) cap) (k + 1) ((t ++ [q]).map encI) ∧ Kept (fun x => v.ownBlock = some x) X2 Y ∧ (v.ownBlock = some g ∨ X2.heap.size ≤ g) ∧ g < Y.heap.size := by
  obtain ⟨i0, hi0, hz0, hz1, hz2⟩ := info_parts infoI
  obtain ⟨g, cap, Y, r1, o1, g1, hat, hlt⟩ := run_append_lies (P := Try.prog) X2 28 ty base 3 i0 _ 1 8 Try.underlying28 hi0 hz0 hz1 hz2 rfl (by decide) v k (t.map encI) h ⟨blk, 0, none⟩ 1 1 [.int .i64 q] rfl (World.news_of_block n2) (by intro u hu; simp at hu; rw [hu]; rfl) (by decide) (by unfold maxLen; omega) (by omega) hb _ rfl
  refine ⟨g, cap, Y, r1, ?_, Kept.of_grown g1 (fun j e => e), ?_, hlt⟩
  · rw [List.map_append]; exact o1
  · rcases hat with e | e
    · exact .inl e
    · exact .inr (by omega)
/-- An append whose run is known. -/
theorem wp_append_run {P : Program} {w w' : World} {o : Oper} {a : Act} {K : Act → World → Prop} {Q : Exit → Act → World → Prop} (s x : Operand) (t : TypeId)
    (ho : o.op = .call { callee := .builtin .append, args := #[s, x], argTypes := #[t, t] }) {v u v' : Value} (hs : a.eval s = v) (hx : a.eval x = u) (hr : (Builtin.append_ #[t, t] o.type #[v, u]).run P w = .ok v' w') (h : K (a.put o.dst v') w') : o.wp P a w K Q := by
  unfold Oper.wp execOp
  simp only [ho, resolve, invoke, builtin, Sem.run_bind, Sem.run_pure, Result.andThen_ok, List.map_toArray, List.map_cons, List.map_nil, hs, hx, hr]
  exact h
theorem list_append_run {P : Program} {w w' : World} {ops : Array Oper} {rest : List Oper} {o : Oper} {a : Act} {Q : Exit → Act → World → Prop} (hgd : o.guard = none) (s x : Operand) (t : TypeId)
    (ho : o.op = .call { callee := .builtin .append, args := #[s, x], argTypes := #[t, t] }) {v u v' : Value} (hs : a.eval s = v) (hx : a.eval x = u) (hr : (Builtin.append_ #[t, t] o.type #[v, u]).run P w = .ok v' w') (h : wpList P ops Q rest (a.put o.dst v') w') : wpList P ops Q (o :: rest) a w :=
  wpList_plain hgd fun _ hK => wp_append_run s x t ho hs hx hr (hK _ _ h)
section
variable {N : Nat} {W W' : World} {xb : Nat} {v0 v1 v2 : Value} {cs ps : List Nat} {is : List Int}
theorem Mo.push0 (h : Mo N W xb v0 v1 v2 cs ps is) (hN : N ≤ W.heap.size) (hk : cs.length < 100000) (q : Nat) (ty : TypeId) :
    ∃ g cap Y, (Builtin.append_ #[27, 27] ty #[v0, .slice (some ⟨W.heap.size, 0, none⟩) 1 1]).run Try.prog (W.alloc (.cells #[.int .u64 (q : Nat)] 35)) = .ok (.slice (some ⟨g, 0, none⟩) (cs.length + 1) cap) Y ∧ Bk Y xb 30 #[v0, v1, v2] ∧
      Mo N (Y.setCell ⟨xb, 0, none⟩ (.slice (some ⟨g, 0, none⟩) (cs.length + 1) cap)) xb (.slice (some ⟨g, 0, none⟩) (cs.length + 1) cap) v1 v2 (cs ++ [q]) ps is ∧ Kept (ownM xb v0 v1 v2) W (Y.setCell ⟨xb, 0, none⟩ (.slice (some ⟨g, 0, none⟩) (cs.length + 1) cap)) ∧ ∀ z, ownM xb (.slice (some ⟨g, 0, none⟩) (cs.length + 1) cap) v1 v2 z → ownM xb v0 v1 v2 z ∨ W.heap.size ≤ z := by
  have b2 := below_alloc W (.cells #[.int .u64 (q : Nat)] 35)
  have h2 := h.below b2
  have n2 := World.alloc_heap_new W (.cells #[.int .u64 (q : Nat)] 35)
  have xl := h.bk.lt
  obtain ⟨g, cap, Y, r1, r2, r3, r4, r5⟩ := u64s_more h2.r0 hk W.heap.size q n2 (by rw [World.size_alloc]; omega) ty
  rw [World.size_alloc] at r4
  have gx : g ≠ xb := by
    rcases r4 with z | z
    · exact fun e => h.n0 (e ▸ z)
    · omega
  have gd1 : v1.ownBlock ≠ some g := fun e => by
    rcases r4 with z | z
    · exact h.d01 g z e
    · have := (h.own (.inr (.inr (.inl e)))).2; omega
  have gd2 : v2.ownBlock ≠ some g := fun e => by
    rcases r4 with z | z
    · exact h.d02 g z e
    · have := (h.own (.inr (.inr (.inr e)))).2; omega
  have kz := kept_set (F := fun z => z = xb) Y xb 0 (.slice (some ⟨g, 0, none⟩) (cs.length + 1) cap) rfl
  have bkY := h2.bk.kept r3 h.n0
  refine ⟨g, cap, Y, r1, bkY, ⟨bkY.set 0 _, by rw [List.length_append, List.length_singleton]; exact owns_kept r2 kz (fun z hz => by rw [← own_eq hz]; exact gx), owns_kept (owns_kept h2.r1 r3 (fun z hz u => h.d01 z u hz)) kz (fun z hz u => h.n1 (u ▸ hz)), owns_kept (owns_kept h2.r2 r3 (fun z hz u => h.d02 z u hz)) kz (fun z hz u => h.n2 (u ▸ hz)), h.x, (fun z => gx (own_eq z)), h.n1, h.n2, (fun z hz u => by rw [← own_eq hz] at u; exact gd1 u), (fun z hz u => by rw [← own_eq hz] at u; exact gd2 u), h.d12⟩, ?_, fun z hz => ?_⟩
  · refine ((Kept.of_below b2).trans (r3.mono (G := ownM xb v0 v1 v2) fun z hz => ?_) (fun _ _ f => f)).trans (kz.mono (G := ownM xb v0 v1 v2) fun z hz => .inl hz) (fun _ _ f => f)
    exact .inr (.inl hz)
  · rcases hz with hz | hz | hz | hz
    · exact .inl (.inl hz)
    · rcases r4 with r | r
      · exact .inl (.inr (.inl (own_eq hz ▸ r)))
      · exact .inr (by rw [← own_eq hz]; omega)
    · exact .inl (.inr (.inr (.inl hz)))
    · exact .inl (.inr (.inr (.inr hz)))
theorem Mo.push1 (h : Mo N W xb v0 v1 v2 cs ps is) (hN : N ≤ W.heap.size) (hk : ps.length < 100000) (q : Nat) (ty : TypeId) :
    ∃ g cap Y, (Builtin.append_ #[27, 27] ty #[v1, .slice (some ⟨W.heap.size, 0, none⟩) 1 1]).run Try.prog (W.alloc (.cells #[.int .u64 (q : Nat)] 35)) = .ok (.slice (some ⟨g, 0, none⟩) (ps.length + 1) cap) Y ∧ Bk Y xb 30 #[v0, v1, v2] ∧
      Mo N (Y.setCell ⟨xb, 1, none⟩ (.slice (some ⟨g, 0, none⟩) (ps.length + 1) cap)) xb v0 (.slice (some ⟨g, 0, none⟩) (ps.length + 1) cap) v2 cs (ps ++ [q]) is ∧ Kept (ownM xb v0 v1 v2) W (Y.setCell ⟨xb, 1, none⟩ (.slice (some ⟨g, 0, none⟩) (ps.length + 1) cap)) ∧ ∀ z, ownM xb v0 (.slice (some ⟨g, 0, none⟩) (ps.length + 1) cap) v2 z → ownM xb v0 v1 v2 z ∨ W.heap.size ≤ z := by
  have b2 := below_alloc W (.cells #[.int .u64 (q : Nat)] 35)
  have h2 := h.below b2
  have n2 := World.alloc_heap_new W (.cells #[.int .u64 (q : Nat)] 35)
  have xl := h.bk.lt
  obtain ⟨g, cap, Y, r1, r2, r3, r4, r5⟩ := u64s_more h2.r1 hk W.heap.size q n2 (by rw [World.size_alloc]; omega) ty
  rw [World.size_alloc] at r4
  have gx : g ≠ xb := by
    rcases r4 with z | z
    · exact fun e => h.n1 (e ▸ z)
    · omega
  have gd0 : v0.ownBlock ≠ some g := fun e => by
    rcases r4 with z | z
    · exact h.d01 g e z
    · have := (h.own (.inr (.inl e))).2; omega
  have gd2 : v2.ownBlock ≠ some g := fun e => by
    rcases r4 with z | z
    · exact h.d12 g z e
    · have := (h.own (.inr (.inr (.inr e)))).2; omega
  have kz := kept_set (F := fun z => z = xb) Y xb 1 (.slice (some ⟨g, 0, none⟩) (ps.length + 1) cap) rfl
  have bkY := h2.bk.kept r3 h.n1
  refine ⟨g, cap, Y, r1, bkY, ⟨bkY.set 1 _, owns_kept (owns_kept h2.r0 r3 (fun z hz u => h.d01 z hz u)) kz (fun z hz u => h.n0 (u ▸ hz)), by rw [List.length_append, List.length_singleton]; exact owns_kept r2 kz (fun z hz => by rw [← own_eq hz]; exact gx), owns_kept (owns_kept h2.r2 r3 (fun z hz u => h.d12 z u hz)) kz (fun z hz u => h.n2 (u ▸ hz)), h.x, h.n0, (fun z => gx (own_eq z)), h.n2, (fun z hz u => by rw [← own_eq u] at hz; exact gd0 hz), h.d02, (fun z hz u => by rw [← own_eq hz] at u; exact gd2 u)⟩, ?_, fun z hz => ?_⟩
  · refine ((Kept.of_below b2).trans (r3.mono (G := ownM xb v0 v1 v2) fun z hz => ?_) (fun _ _ f => f)).trans (kz.mono (G := ownM xb v0 v1 v2) fun z hz => .inl hz) (fun _ _ f => f)
    exact .inr (.inr (.inl hz))
  · rcases hz with hz | hz | hz | hz
    · exact .inl (.inl hz)
    · exact .inl (.inr (.inl hz))
    · rcases r4 with r | r
      · exact .inl (.inr (.inr (.inl (own_eq hz ▸ r))))
      · exact .inr (by rw [← own_eq hz]; omega)
    · exact .inl (.inr (.inr (.inr hz)))
theorem Mo.push2 (h : Mo N W xb v0 v1 v2 cs ps is) (hN : N ≤ W.heap.size) (hk : is.length < 100000) (q : Int) (ty : TypeId) :
    ∃ g cap Y, (Builtin.append_ #[28, 28] ty #[v2, .slice (some ⟨W.heap.size, 0, none⟩) 1 1]).run Try.prog (W.alloc (.cells #[.int .i64 q] 3)) = .ok (.slice (some ⟨g, 0, none⟩) (is.length + 1) cap) Y ∧ Bk Y xb 30 #[v0, v1, v2] ∧
      Mo N (Y.setCell ⟨xb, 2, none⟩ (.slice (some ⟨g, 0, none⟩) (is.length + 1) cap)) xb v0 v1 (.slice (some ⟨g, 0, none⟩) (is.length + 1) cap) cs ps (is ++ [q]) ∧ Kept (ownM xb v0 v1 v2) W (Y.setCell ⟨xb, 2, none⟩ (.slice (some ⟨g, 0, none⟩) (is.length + 1) cap)) ∧ ∀ z, ownM xb v0 v1 (.slice (some ⟨g, 0, none⟩) (is.length + 1) cap) z → ownM xb v0 v1 v2 z ∨ W.heap.size ≤ z := by
  have b2 := below_alloc W (.cells #[.int .i64 q] 3)
  have h2 := h.below b2
  have n2 := World.alloc_heap_new W (.cells #[.int .i64 q] 3)
  have xl := h.bk.lt
  obtain ⟨g, cap, Y, r1, r2, r3, r4, r5⟩ := ints_more h2.r2 hk W.heap.size q n2 (by rw [World.size_alloc]; omega) ty
  rw [World.size_alloc] at r4
  have gx : g ≠ xb := by
    rcases r4 with z | z
    · exact fun e => h.n2 (e ▸ z)
    · omega
  have gd0 : v0.ownBlock ≠ some g := fun e => by
    rcases r4 with z | z
    · exact h.d02 g e z
    · have := (h.own (.inr (.inl e))).2; omega
  have gd1 : v1.ownBlock ≠ some g := fun e => by
    rcases r4 with z | z
    · exact h.d12 g e z
    · have := (h.own (.inr (.inr (.inl e)))).2; omega
  have kz := kept_set (F := fun z => z = xb) Y xb 2 (.slice (some ⟨g, 0, none⟩) (is.length + 1) cap) rfl
  have bkY := h2.bk.kept r3 h.n2
  refine ⟨g, cap, Y, r1, bkY, ⟨bkY.set 2 _, owns_kept (owns_kept h2.r0 r3 (fun z hz u => h.d02 z hz u)) kz (fun z hz u => h.n0 (u ▸ hz)), owns_kept (owns_kept h2.r1 r3 (fun z hz u => h.d12 z hz u)) kz (fun z hz u => h.n1 (u ▸ hz)), by rw [List.length_append, List.length_singleton]; exact owns_kept r2 kz (fun z hz => by rw [← own_eq hz]; exact gx), h.x, h.n0, h.n1, (fun z => gx (own_eq z)), h.d01, (fun z hz u => by rw [← own_eq u] at hz; exact gd0 hz), (fun z hz u => by rw [← own_eq u] at hz; exact gd1 hz)⟩, ?_, fun z hz => ?_⟩
  · refine ((Kept.of_below b2).trans (r3.mono (G := ownM xb v0 v1 v2) fun z hz => ?_) (fun _ _ f => f)).trans (kz.mono (G := ownM xb v0 v1 v2) fun z hz => .inl hz) (fun _ _ f => f)
    exact .inr (.inr (.inr hz))
  · rcases hz with hz | hz | hz | hz
    · exact .inl (.inl hz)
    · exact .inl (.inr (.inl hz))
    · exact .inl (.inr (.inr (.inl hz)))
    · rcases r4 with r | r
      · exact .inl (.inr (.inr (.inr (own_eq hz ▸ r))))
      · exact .inr (by rw [← own_eq hz]; omega)
/-! ### add -/
set_option maxRecDepth 100000 in
theorem mo_add_arg (c : Nat) (hc2 : 67108864 ≤ c) :
    Calls Try.prog 20 #[.pointer (some ⟨xb, 0, none⟩), .int .u64 (c : Nat)] W fun e W' => e = .returned (.int .i64 1) ∧ W' = W := by
  have d0 : decide ((67108864 : Int) ≤ (c : Int)) = true := decide_eq_true (by omega)
  go_enter Try.func20, Try.ntmps20
  go_wp2_with fail
  go_ret
  exact ⟨rfl, rfl⟩
set_option maxRecDepth 100000 in
theorem mo_add_twice (h : Mo N W xb v0 v1 v2 cs ps is) (hc : cs.length ≤ 1000) (c : Nat) (hc2 : c < 67108864) (hn : c ∈ cs) :
    Calls Try.prog 20 #[.pointer (some ⟨xb, 0, none⟩), .int .u64 (c : Nat)] W fun e W' => e = .returned (.int .i64 34) ∧ W' = W := by
  have C := hide (mo_has h hc c)
  rw [decide_eq_true hn] at C
  have d0 : decide ((67108864 : Int) ≤ (c : Int)) = false := decide_eq_false (by omega)
  have d1 : ¬ 67108864 ≤ c := by omega
  clear h
  go_enter Try.func20, Try.ntmps20
  go_wp2_with fail
  refine C.out.mono ?_
  rintro e W1 ⟨rfl, hw⟩
  rw [hw]
  clear hw C W1
  go_wp2_with fail
  go_ret
  exact ⟨rfl, rfl⟩
set_option maxRecDepth 100000 in
theorem mo_add_new (h : Mo N W xb v0 v1 v2 cs ps is) (hN : N ≤ W.heap.size) (hc : cs.length ≤ 1000) (c : Nat) (hc2 : c < 67108864) (hn : c ∉ cs) :
    Calls Try.prog 20 #[.pointer (some ⟨xb, 0, none⟩), .int .u64 (c : Nat)] W fun e W' => e = .returned (.int .i64 0) ∧ ∃ v0', Mo N W' xb v0' v1 v2 (cs ++ [c]) ps is ∧ Kept (ownM xb v0 v1 v2) W W' ∧ ∀ z, ownM xb v0' v1 v2 z → ownM xb v0 v1 v2 z ∨ W.heap.size ≤ z := by
  have y0 := h.bk.cell 0 v0 rfl
  have xl := h.bk.lt
  have C := hide (mo_has h hc c)
  rw [decide_eq_false hn] at C
  obtain ⟨g, cap, Y, r1, r2, r3⟩ := h.push0 hN (by omega) c 27
  have RUN := hide r1
  have R3 := hide r3
  have y1 := r2.cell 0 v0 rfl
  have f1 := r2.fz 0
  have d0 : decide ((67108864 : Int) ≤ (c : Int)) = false := decide_eq_false (by omega)
  have d1 : ¬ 67108864 ≤ c := by omega
  clear h r1 r2 r3
  go_enter Try.func20, Try.ntmps20
  go_wp2_with fail
  refine C.out.mono ?_
  rintro e W1 ⟨rfl, hw⟩
  rw [hw]
  clear hw C W1
  go_wp2_with (at_builtin; refine list_append_run (by rfl) (.tmp 14) (.tmp 16) 27 (by rfl) (by rfl) (by rfl) RUN.out ?_)
  go_ret
  exact ⟨rfl, _, R3.out⟩
end
end Go.Proofs.Ytdcjldpbgickmaa
