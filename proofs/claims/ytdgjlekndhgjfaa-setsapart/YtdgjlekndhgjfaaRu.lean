/- The reference's sets: Put, Flip: contracts. -/
import Derived.Test.YtdgjlekndhgjfaaRt
import Derived.Deep.RegionLaw
namespace Go.Proofs.Ytdgjlekndhgjfaa
open Go.ChangeShapes Go.WideShapes Go.ChangeAt Go.RowKit Go.Shelf Go.Proofs.Rx Go.Maps Go.Proofs.Hm
set_option linter.unusedVariables false
set_option linter.unusedSimpArgs false

attribute [local go_sem] Oper.semAt_some

theorem step_append_run {P : Program} {w w' : World} {ops : Array Oper} {o : Oper} {a : Act} {K : Act → World → Prop} {Q : Exit → Act → World → Prop} {E : Prop} (hgd : o.guard = none) (s x : Operand) (t : TypeId)
    (ho : o.op = .call { callee := .builtin .append, args := #[s, x], argTypes := #[t, t] }) {v u v' : Value} (hs : a.eval s = v) (hx : a.eval x = u) (hr : (Builtin.append_ #[t, t] o.type #[v, u]).run P w = .ok v' w') (h : K (a.put o.dst v') w') :
    if Region.wanted o (yielded ops a.tmps) = true then Oper.wp P o a w K Q else E := by
  have hw : Region.wanted o (yielded ops a.tmps) = true := by simp [Region.wanted, hgd]
  rw [if_pos hw]
  exact wp_append_run s x t ho hs hx hr h
def oneA (x : On) : Array Value := #[.int .i64 x.id, .int .u64 (x.base : Nat), .int .i64 x.kd.c, .bool x.kd.a, .bool x.kd.f, .bool x.sw]
theorem oneA_list (x : On) : (oneA x).toList = oneV x := rfl
section
variable {W W' : World} {r : Nat} {v : Value} {L : List On} {F : Nat → Prop}
/-- One more at the end. -/
theorem put_run (h : RefAt W r v L) (hl : L.length ≤ 10000) (x : On) (hF : ∀ z, F z ↔ (z = r ∨ v.ownBlock = some z)) :
    ∃ g cap Y, (Builtin.append_ #[26, 26] 26 #[v, .slice (some ⟨W.heap.size, 0, none⟩) 1 1]).run Try.prog (W.alloc (.cells (oneA x) 65)) = .ok (.slice (some ⟨g, 0, none⟩) (L.length + 1) cap) Y ∧
      Y.cell? ⟨r, 0, none⟩ = some v ∧ Y.frozen? ⟨r, 0, none⟩ = false ∧ Kept (fun z => v.ownBlock = some z) (W.alloc (.cells (oneA x) 65)) Y ∧ RTurn r (L ++ [x]) W (Y.setCell ⟨r, 0, none⟩ (.slice (some ⟨g, 0, none⟩) (L.length + 1) cap)) F := by
  have b := below_alloc W (.cells (oneA x) 65)
  have h1 := h.below b
  have n2 : (W.alloc (.cells (oneA x) 65)).heap[W.heap.size]? = some (.cells (oneA x) 65 (0, 0)) := World.alloc_heap_new W _
  obtain ⟨v', Y, hr, ho, k, n⟩ := ones_src (k := L.length) h1.row ⟨W.heap.size, 0, none⟩ 1 1 (oneV x) rfl (by rw [← oneA_list]; exact World.news_of_block n2) (one_cells x) (by omega) 26
  have hf := flat_app L [x]
  rw [show flat [x] = oneV x by simp [flat]] at hf
  rw [← hf] at ho
  obtain ⟨g, cap, rfl⟩ : ∃ g cap, v' = .slice (some ⟨g, 0, none⟩) (L.length + 1) cap := by
    rcases ho.2 with ⟨_, e⟩ | ⟨g, cap, cur, e, _⟩
    · omega
    · exact ⟨g, cap, e⟩
  have nr : v.ownBlock ≠ some r := fun e => by
    rcases h.row.2 with ⟨a, _⟩ | ⟨g', cap', cur, a, _, c, _⟩
    · rw [a] at e; cases e
    · rw [a] at e
      have e' : g' = r := by simpa [Value.ownBlock] using e
      rw [e'] at c
      have := h.bk
      unfold Bk at this
      rw [this] at c
      injection c with c
      injection c with _ c _
      exact absurd c (by decide)
  have bY : Bk Y r 28 #[v] := h1.bk.kept k nr
  have gr : g ≠ r := fun e => by
    rcases n g rfl with u | u
    · exact nr (by rw [← e]; exact u)
    · have := h.bk.lt
      have := b.size
      omega
  refine ⟨g, cap, Y, hr, bY.cell 0 _ rfl, bY.fz 0, k, fun z => z = r ∨ (Value.slice (some ⟨g, 0, none⟩) (L.length + 1) cap).ownBlock = some z, ⟨_, ⟨bY.set 0 _, ?_⟩, fun _ => Iff.rfl⟩, ?_, fun z hz => ?_⟩
  · rw [List.length_append, List.length_singleton]
    exact owns_kept ho (kept_set (F := fun z => z = r) Y r 0 _ rfl) (fun q hq e => gr (by rw [← e]; simpa [Value.ownBlock] using hq))
  · exact ((Kept.of_below b).trans k (fun z hz hz' => (hF z).2 (.inr hz'))).trans (kept_set (F := F) Y r 0 _ ((hF r).2 (.inl rfl))) (fun _ _ h => h)
  · rcases hz with u | u
    · exact .inl ((hF z).2 (.inl u))
    · have e' : g = z := by simpa [Value.ownBlock] using u
      rcases n g rfl with q | q
      · exact .inl ((hF z).2 (.inr (by rw [← e']; exact q)))
      · exact .inr (by have := b.size; omega)
theorem rput_arg (x : On) (hA : argB x.id x.kd.c = false) (r : Nat) (W : World) :
    Calls Try.prog 18 #[.pointer (some ⟨r, 0, none⟩), .agg (oneA x)] W fun e W' => e = .returned (.int .i64 1) ∧ Below W.heap.size W W' := by
  unfold oneA
  obtain ⟨id, bs, ⟨cl, np, fu⟩, sw⟩ := x
  simp only [] at hA ⊢
  obtain ⟨B, hB⟩ : ∃ B : Int, (bs : Int) = B := ⟨_, rfl⟩
  rw [hB]
  clear hB
  by_cases c0 : id < 1
  · have d0 : decide (id < 1) = true := decide_eq_true c0
    clear hA c0
    go_enter Try.func18, Try.ntmps18
    go_wp2_with fail
    go_ret
    exact ⟨rfl, below_alloc _ _⟩
  · have d0 : decide (id < 1) = false := decide_eq_false c0
    by_cases c1 : cl < 0
    · have d1 : decide (cl < 0) = true := decide_eq_true c1
      clear hA c0 c1
      go_enter Try.func18, Try.ntmps18
      go_wp2_with fail
      go_ret
      exact ⟨rfl, below_alloc _ _⟩
    · have d1 : decide (cl < 0) = false := decide_eq_false c1
      have d2 : decide (67 < cl) = true := by
        refine decide_eq_true ?_
        unfold argB at hA
        simp at hA
        have := hA (by omega) (by omega)
        omega
      clear hA c0 c1
      go_enter Try.func18, Try.ntmps18
      go_wp2_with fail
      go_ret
      exact ⟨rfl, below_alloc _ _⟩
set_option maxRecDepth 100000 in
set_option maxHeartbeats 2000000 in
theorem rput_right (h : (tRef r L).P W F) (hl : L.length ≤ 10000) (x : On) (hA : argB x.id x.kd.c = true) :
    Calls Try.prog 18 #[.pointer (some ⟨r, 0, none⟩), .agg (oneA x)] W fun e W' => e = .returned (.int .i64 (if twice L x.id x.base then 34 else 0)) ∧ RTurn r (if twice L x.id x.base then L else L ++ [x]) W W' F := by
  obtain ⟨v, h, hF⟩ := h
  obtain ⟨R, hR⟩ : ∃ R : Ending → World → Prop, R = fun e W' => e = .returned (.int .i64 (if twice L x.id x.base then 34 else 0)) ∧ RTurn r (if twice L x.id x.base then L else L ++ [x]) W W' F := ⟨_, rfl⟩
  rw [← hR]
  obtain ⟨q0, q1, q2⟩ := arg_true hA
  have d0 : decide (x.id < 1) = false := decide_eq_false (by omega)
  have d1 : decide (x.kd.c < 0) = false := decide_eq_false (by omega)
  have d2 : decide (67 < x.kd.c) = false := decide_eq_false (by omega)
  obtain ⟨WA, hWA⟩ : ∃ WA, W.alloc (.cells (oneA x) 65) = WA := ⟨_, rfl⟩
  obtain ⟨xb, hxb⟩ : ∃ xb, W.heap.size = xb := ⟨_, rfl⟩
  have bA : Below W.heap.size W WA := by rw [← hWA]; exact below_alloc W _
  have kb : Bk WA xb 65 (oneA x) := by rw [← hWA, ← hxb]; exact World.alloc_heap_new W _
  have FT := hide (show twice L x.id x.base = true → ∀ n m, R (.returned (.int .i64 34)) ((WA.drewN n).drewN m) from fun e n m => by
    rw [hR, e]
    exact ⟨rfl, RTurn.same ⟨v, h, hF⟩ ((bA.trans ((drewN_below WA n).mono bA.size)).trans ((drewN_below (WA.drewN n) m).mono (Nat.le_trans bA.size (drewN_below WA n).size)))⟩)
  have FO := hide (show twice L x.id x.base = false → ∀ n, ∃ g cap Y, (Builtin.append_ #[26, 26] 26 #[v, .slice (some ⟨(WA.drewN n).drew.heap.size, 0, none⟩) 1 1]).run Try.prog ((WA.drewN n).drew.alloc (.cells (oneA x) 65)) = .ok (.slice (some ⟨g, 0, none⟩) (L.length + 1) cap) Y ∧ Y.cell? ⟨r, 0, none⟩ = some v ∧ Y.frozen? ⟨r, 0, none⟩ = false ∧ (∀ k, Y.cell? ⟨xb, k, none⟩ = WA.cell? ⟨xb, k, none⟩) ∧ R (.returned (.int .i64 0)) (Y.setCell ⟨r, 0, none⟩ (.slice (some ⟨g, 0, none⟩) (L.length + 1) cap)) from fun e n => by
    have bd : Below W.heap.size W (WA.drewN n).drew := (bA.trans ((drewN_below WA n).mono bA.size)).trans ((drew_below _).mono (Nat.le_trans bA.size (drewN_below WA n).size))
    obtain ⟨g, cap, Y, r1, r2, r3, rk, r4⟩ := put_run (h.below bd) hl x hF
    refine ⟨g, cap, Y, r1, r2, r3, fun k => ?_, ?_⟩
    · have lx : xb < (WA.drewN n).drew.heap.size := kb.lt
      have e1 : Y.heap[xb]? = ((WA.drewN n).drew.alloc (.cells (oneA x) 65)).heap[xb]? := rk.block xb (by rw [World.size_alloc]; omega) (fun u => by
        have := (h.row.lt xb u).2
        omega)
      have e2 : ((WA.drewN n).drew.alloc (.cells (oneA x) 65)).heap[xb]? = WA.heap[xb]? := (below_alloc (WA.drewN n).drew _).block xb lx
      exact cell_block (e1.trans e2) k
    · rw [hR, e]
      exact ⟨rfl, r4.from bd⟩)
  have H := hide (h.below bA)
  have HH := hide (And.intro hxb hWA)
  obtain ⟨ov, cap0, rfl⟩ := row_form6 h.row
  have c0 : WA.cell? ⟨r, 0, none⟩ = some (.slice ov L.length cap0) := (h.below bA).bk.cell 0 _ rfl
  have f0 : WA.frozen? ⟨r, 0, none⟩ = false := (h.below bA).bk.fz 0
  obtain ⟨n, hn⟩ : ∃ n : Nat, L.length = n := ⟨_, rfl⟩
  have HN := hide hn
  rw [hn] at c0 hl FO
  have y0 : WA.cell? ⟨xb, 0, none⟩ = some (.int .i64 x.id) := kb.cell 0 _ rfl
  have y1 : WA.cell? ⟨xb, 1, none⟩ = some (.int .u64 (x.base : Nat)) := kb.cell 1 _ rfl
  have y2 : WA.cell? ⟨xb, 2, none⟩ = some (.int .i64 x.kd.c) := kb.cell 2 _ rfl
  have y3 : WA.cell? ⟨xb, 3, none⟩ = some (.bool x.kd.a) := kb.cell 3 _ rfl
  have y4 : WA.cell? ⟨xb, 4, none⟩ = some (.bool x.kd.f) := kb.cell 4 _ rfl
  have y5 : WA.cell? ⟨xb, 5, none⟩ = some (.bool x.sw) := kb.cell 5 _ rfl
  have TW : Hid (∀ (k : Nat) (z : On), L[k]? = some z → (z.id = x.id ∨ z.base = x.base) → twice L x.id x.base = true) := hide (fun k z hz e => twice_iff.2 ⟨z, List.mem_of_getElem? hz, e⟩)
  have TN : Hid ((∀ (k : Nat) (z : On), k < n → L[k]? = some z → z.id ≠ x.id ∧ z.base ≠ x.base) → twice L x.id x.base = false) := hide (fun hh => by
    cases e : twice L x.id x.base with
    | false => rfl
    | true =>
      obtain ⟨z, hz, u⟩ := twice_iff.1 e
      obtain ⟨k, hk, ek⟩ := List.getElem_of_mem hz
      have := hh k z (by omega) (by rw [List.getElem?_eq_getElem hk, ek])
      rcases u with u | u
      · exact absurd u this.1
      · exact absurd u this.2)
  clear h hn hR hF hWA hxb bA kb hA q0 q1 q2
  obtain ⟨id, bs, ⟨cl, np, fu⟩, sw⟩ := x
  unfold oneA at FO HH ⊢
  simp only [] at FO HH TW TN FT d0 d1 d2 y0 y1 y2 y3 y4 y5 ⊢
  go_enter Try.func18, Try.ntmps18
  go_upto_region 1 with fail
  rw [HH.out.2, HH.out.1]
  go_wp2_with fail
  go_loopw [5] (fun vi wr => ∃ (i j : Nat), vi = .int .i64 (i : Nat) ∧ i ≤ n ∧ wr = WA.drewN j ∧ Hid (∀ (k : Nat) (z : On), k < i → L[k]? = some z → z.id ≠ id ∧ z.base ≠ bs)) (fun vi _ => n - (zi vi).toNat)
  case atStart => exact ⟨0, 0, rfl, by omega, rfl, hide (fun k z hk => by omega)⟩
  case round =>
    obtain ⟨i, j, rfl, hi, hw, HA⟩ := hrel
    rw [hw]
    clear hw
    have pi : IntKind.i64.wrap ((i : Int) + 1) = (i : Int) + 1 := by rw [IntKind.wrap_i64]; omega
    by_cases c : i < n
    · have d : decide ((i : Int) < (n : Int)) = true := decide_eq_true (by omega)
      have d' : decide (i < n) = true := decide_eq_true c
      obtain ⟨z, hz⟩ : ∃ z, L[i]? = some z := ⟨_, List.getElem?_eq_getElem (by rw [HN.out]; exact c)⟩
      obtain ⟨g, cap, ev, x0, x1, x2, x3, x4, x5, _, _⟩ := H.out.at hz
      rw [HN.out] at ev
      obtain ⟨rfl, rfl⟩ : ov = some ⟨g, 0, none⟩ ∧ cap0 = cap := by simpa using ev
      have i0 : 0 ≤ (i : Int) := by omega
      have i1 : (i : Int) < (n : Int) := by omega
      by_cases e : z.id = id
      · have FF := hide (FT.out (TW.out i z hz (.inl e)))
        have eb' : (id == id) = true := by simp
        rw [e] at x0
        clear ev x1 x2 x3 x4 x5 hz TW TN FT FO e
        go_wp2_with fail
        go_quiet (fail)
        go_wp2_with fail
        first | exact FF.out _ _ | (go_ret; exact FF.out _ _)
      · have eb : (z.id == id) = false := by simpa using e
        by_cases e2 : z.base = bs
        · have FF := hide (FT.out (TW.out i z hz (.inr e2)))
          have eb2 : ((z.base : Int) == (bs : Int)) = true := by rw [e2]; simp
          have eb3 : ((bs : Int) == (bs : Int)) = true := by simp
          rw [e2] at x1
          clear ev x2 x3 x4 x5 hz TW TN FT FO e e2 eb2
          go_wp2_with fail
          go_quiet (fail)
          go_wp2_with fail
          first | exact FF.out _ _ | (go_ret; exact FF.out _ _)
        · have eb2 : ((z.base : Int) == (bs : Int)) = false := by
            rw [beq_eq_false_iff_ne]
            omega
          have eb3 : (z.base == bs) = false := by simpa using e2
          have FA : Hid (∀ (k : Nat) (y : On), k < i + 1 → L[k]? = some y → y.id ≠ id ∧ y.base ≠ bs) := hide (fun k y hk hy => by
            by_cases q : k = i
            · subst q
              rw [hz] at hy
              rw [← Option.some.inj hy]
              exact ⟨e, e2⟩
            · exact HA.out k y (by omega) hy)
          clear ev x2 x3 x4 x5 hz TW TN FT FO e e2
          go_wp2_with fail
          go_quiet (fail)
          go_wp2_with fail
          exact ⟨⟨i + 1, _, by push_cast; rfl, by omega, rfl, FA⟩, by simp only [zi]; omega⟩
    · have d : decide ((i : Int) < (n : Int)) = false := decide_eq_false (by omega)
      have d' : decide (i < n) = false := decide_eq_false c
      obtain ⟨g, cap, Y, r1, r2, r3, r5, r4⟩ := FO.out (TN.out (fun k z hk hz => HA.out k z (by omega) hz)) j
      have q0 := (r5 0).trans y0
      have q1 := (r5 1).trans y1
      have q2 := (r5 2).trans y2
      have q3 := (r5 3).trans y3
      have q4 := (r5 4).trans y4
      have q5 := (r5 5).trans y5
      have R1 := hide r1
      have R4 := hide r4
      have z0 : (WA.drewN j).cell? ⟨r, 0, none⟩ = some (.slice ov n cap0) := c0
      have w0 : (WA.drewN j).cell? ⟨xb, 0, none⟩ = some (.int .i64 id) := y0
      have w1 : (WA.drewN j).cell? ⟨xb, 1, none⟩ = some (.int .u64 (bs : Nat)) := y1
      have w2 : (WA.drewN j).cell? ⟨xb, 2, none⟩ = some (.int .i64 cl) := y2
      have w3 : (WA.drewN j).cell? ⟨xb, 3, none⟩ = some (.bool np) := y3
      have w4 : (WA.drewN j).cell? ⟨xb, 4, none⟩ = some (.bool fu) := y4
      have w5 : (WA.drewN j).cell? ⟨xb, 5, none⟩ = some (.bool sw) := y5
      have ZL := hide (show r < (WA.drewN j).drew.heap.size from World.block_lt_of_cell? (WA.drewN j).drew ⟨r, 0, none⟩ z0)
      obtain ⟨Z, hZ⟩ : ∃ Z, WA.drewN j = Z := ⟨_, rfl⟩
      rw [hZ] at R1 ZL z0 w0 w1 w2 w3 w4 w5
      rw [hZ]
      clear FT FO TW TN r1 r4 r5 c0 y0 y1 y2 y3 y4 y5 f0 hZ H
      go_upto_region 8 with fail
      have zA : (Z.drew.alloc (.cells #[.int .i64 id, .int .u64 (bs : Nat), .int .i64 cl, .bool np, .bool fu, .bool sw] 65)).cell? ⟨r, 0, none⟩ = some (.slice ov n cap0) := ((below_alloc Z.drew _).cell (p := ⟨r, 0, none⟩) ZL.out).trans z0
      have zB : (Z.alloc (.cells #[.int .i64 id, .int .u64 (bs : Nat), .int .i64 cl, .bool np, .bool fu, .bool sw] 65)).drew.cell? ⟨r, 0, none⟩ = some (.slice ov n cap0) := zA
      have zC : (Z.alloc (.cells #[.int .i64 id, .int .u64 (bs : Nat), .int .i64 cl, .bool np, .bool fu, .bool sw] 65)).cell? ⟨r, 0, none⟩ = some (.slice ov n cap0) := zA
      go_region_law (first | (refine step_append_run (by rfl) (.tmp 56) (.tmp 58) 26 (by rfl) (by rfl) (by rfl) R1.out ?_))
      all_goals go_wp2_with fail
      all_goals first | exact R4.out | (go_ret; exact R4.out)
end
end Go.Proofs.Ytdgjlekndhgjfaa
