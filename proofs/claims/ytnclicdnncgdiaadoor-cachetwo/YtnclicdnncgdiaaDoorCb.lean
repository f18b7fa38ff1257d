/- The landed chunk: New, Find, Sum, Free, Released, Rows: contracts. -/
import Derived.Test.YtnclicdnncgdiaaDoorCa
namespace Go.Proofs.YtnclicdnncgdiaaDoor
open Go.ChangeShapes Go.WideShapes Go.ChangeAt Go.RowKit Go.Proofs.Bt Go.Shelf
set_option linter.unusedVariables false
set_option linter.unusedSimpArgs false

theorem new_row {w : World} {b ro : Nat} {cs : Array Value} {t : TypeId} (h : w.heap[b]? = some (.cells cs t (0, 0))) (hc : ∀ k, k < 8 → cs[ro + k]? = some (.int .u64 0)) : RowF w b ro (fun _ => false) :=
  ⟨fun _ => 0, ⟨fun k hk => by simp [World.cell?, h, hc k hk], fun k hk => by simp [World.frozen?, h], fun _ => by omega⟩, fun i _ => by unfold bitW; simp⟩
def zeros16 : Array Value := #[.int .u64 0, .int .u64 0, .int .u64 0, .int .u64 0, .int .u64 0, .int .u64 0, .int .u64 0, .int .u64 0, .int .u64 0, .int .u64 0, .int .u64 0, .int .u64 0, .int .u64 0, .int .u64 0, .int .u64 0, .int .u64 0]
theorem zeros_at (k : Nat) (hk : k < 16) : zeros16[k]? = some (.int .u64 0) := by
  rw [show zeros16 = Array.replicate 16 (.int .u64 0) from rfl, Array.getElem?_replicate, if_pos hk]
theorem findC_any (b : Nat) (u g : Nat → Bool) (w : World) (h : ChF w b u g) (ht : TabW w) (n from_ : Int) (hn : n ≤ 9223372036854775807) (hf : from_ ≤ 9223372036854775807) :
    Calls Tryd.prog 41 #[.pointer (some ⟨b, 0, none⟩), .int .i64 n, .int .i64 from_] w (FindR w u n from_) := by
  have cC := find_any b 0 u n from_ hn hf w h.used ht
  clear h ht
  go_enter Tryd.func41, Tryd.ntmps41
  go_wp2_with fail
  go_at_call 63
  refine cC.mono ?_
  rintro e w1 ⟨i, ok, rfl, p1, k1⟩
  have K1 := hide k1
  have P1 := hide p1
  clear k1 p1
  go_wp2_with fail
  go_ret2
  exact ⟨i, ok, rfl, P1.out, K1.out⟩
theorem sumC_any (b : Nat) (u g : Nat → Bool) (w : World) (h : ChF w b u g) (ht : TabW w) :
    Calls Tryd.prog 72 #[.pointer (some ⟨b, 0, none⟩)] w (SumR w u) := by
  have HC := hide h
  have HT := hide ht
  clear h ht
  go_enter Tryd.func72, Tryd.ntmps72
  go_wp2_with fail
  go_at_call 79
  have k0 : Below w.heap.size w (w.alloc (Obj.cells #[Value.int IntKind.i64 0, Value.int IntKind.i64 0, Value.int IntKind.i64 0] 82)) := (Below.refl _ w).alloc (Nat.le_refl _) _
  have hz := alloc_at w (Obj.cells #[Value.int IntKind.i64 0, Value.int IntKind.i64 0, Value.int IntKind.i64 0] 82) w.heap.size
  rw [if_pos rfl] at hz
  have hs : (w.alloc (Obj.cells #[Value.int IntKind.i64 0, Value.int IntKind.i64 0, Value.int IntKind.i64 0] 82)).heap.size = w.heap.size + 1 := by simp
  obtain ⟨w0, hw0⟩ : ∃ w0, w0 = w.alloc (Obj.cells #[Value.int IntKind.i64 0, Value.int IntKind.i64 0, Value.int IntKind.i64 0] 82) := ⟨_, rfl⟩
  rw [← hw0] at k0 hz hs ⊢
  refine (sum_any b 0 u w0 (HC.out.below k0).used (HT.out.below k0)).mono ?_
  rintro e w1 ⟨s, m, n, rfl, p1, k1⟩
  have hz1 : SumAt w1 w.heap.size 0 0 0 := (k1.block _ (by omega)).trans hz
  have c0 := hz1.c0
  have c1 := hz1.c1
  have c2 := hz1.c2
  have g0 := hz1.fz 0
  have g1 := hz1.fz 1
  have g2 := hz1.fz 2
  have HZ := hide hz1
  unfold sumV
  have K1 := hide (k0.trans (k1.mono k0.size))
  have P1 := hide p1
  clear k1 p1 k0 hz hs hw0 w0 hz1
  go_wp2_with fail
  have ks := fun (w' : World) (k : Nat) (v : Value) => kept_set (F := fun b => b = w.heap.size) w' w.heap.size k v rfl
  have k5 := ((ks w1 0 (.int .i64 (s : Nat))).trans (ks _ 1 (.int .i64 (m : Nat))) (fun _ _ h => h)).trans (ks _ 2 (.int .i64 (n : Nat))) (fun _ _ h => h)
  have o4 := ((HZ.out.set0 (s : Nat)).set1 (m : Nat)).set2 (n : Nat)
  have B4 := below_kept K1.out k5 (fun x hx => by omega) K1.out.size
  have d0 := o4.c0
  have d1 := o4.c1
  have d2 := o4.c2
  refine bodyPost_ret (v := sumV s m n) ?_ rfl ?_
  · simp [results, Tryd.results72, go_sem, sumV, Nat.add_assoc, d0, d1, d2, Result.andThen]
  · exact ⟨s, m, n, rfl, P1.out, B4⟩
theorem newC_any (w : World) : Calls Tryd.prog 64 #[] w fun e w' => e = .returned (.pointer (some ⟨w.heap.size, 0, none⟩)) ∧ ChF w' w.heap.size (fun _ => false) (setF (fun _ => false) 0 512) ∧ Below w.heap.size w w' := by
  obtain ⟨N, hN⟩ : ∃ N, w.heap.size = N := ⟨_, rfl⟩
  obtain ⟨w0, hw0⟩ : ∃ w0, w0 = w.alloc (.cells zeros16 72) := ⟨_, rfl⟩
  have k0 : Below N w w0 := by rw [hw0, ← hN]; exact (Below.refl _ w).alloc (Nat.le_refl _) _
  have hz : w0.heap[N]? = some (.cells zeros16 72 (0, 0)) := by rw [hw0, ← hN, alloc_at, if_pos rfl]
  have h0 : ChF w0 N (fun _ => false) (fun _ => false) := ⟨new_row hz (fun k hk => zeros_at _ (by omega)), new_row hz (fun k hk => zeros_at _ (by omega))⟩
  have H0 := hide h0
  have K0 := hide k0
  have W0 := hide hw0
  rw [hN]
  clear hw0 k0 hz h0
  go_enter Tryd.func64, Tryd.ntmps64
  go_wp2_with fail
  go_at_call 45
  have e0 := W0.out
  unfold zeros16 at e0
  rw [← e0]
  clear e0 W0
  refine (set_int N 8 (fun _ => false) w0 H0.out.gone 0 512 (by omega) (by omega) (by omega)).mono ?_
  rintro e w1 ⟨rfl, r1, k1⟩
  have HC := hide (H0.out.setG k1 r1)
  have KK := hide (K0.out.trans (k1.kept.below (by have := K0.out.size; omega) (fun x hx => by omega)))
  clear r1 k1
  go_wp2_with fail
  go_ret
  exact ⟨rfl, HC.out, KK.out⟩
theorem RowAt.all0 {w : World} {b : Nat} {g : Nat → Nat} (h : RowAt w b 0 g) : w.cell? ⟨b, 0, none⟩ = some (.int .u64 ((g 0 : Nat) : Int)) ∧ w.cell? ⟨b, 1, none⟩ = some (.int .u64 ((g 1 : Nat) : Int)) ∧ w.cell? ⟨b, 2, none⟩ = some (.int .u64 ((g 2 : Nat) : Int)) ∧ w.cell? ⟨b, 3, none⟩ = some (.int .u64 ((g 3 : Nat) : Int)) ∧ w.cell? ⟨b, 4, none⟩ = some (.int .u64 ((g 4 : Nat) : Int)) ∧ w.cell? ⟨b, 5, none⟩ = some (.int .u64 ((g 5 : Nat) : Int)) ∧ w.cell? ⟨b, 6, none⟩ = some (.int .u64 ((g 6 : Nat) : Int)) ∧ w.cell? ⟨b, 7, none⟩ = some (.int .u64 ((g 7 : Nat) : Int)) :=
  ⟨h.cell 0 (by omega), h.cell 1 (by omega), h.cell 2 (by omega), h.cell 3 (by omega), h.cell 4 (by omega), h.cell 5 (by omega), h.cell 6 (by omega), h.cell 7 (by omega)⟩
theorem RowAt.all8 {w : World} {b : Nat} {g : Nat → Nat} (h : RowAt w b 8 g) : w.cell? ⟨b, 8, none⟩ = some (.int .u64 ((g 0 : Nat) : Int)) ∧ w.cell? ⟨b, 9, none⟩ = some (.int .u64 ((g 1 : Nat) : Int)) ∧ w.cell? ⟨b, 10, none⟩ = some (.int .u64 ((g 2 : Nat) : Int)) ∧ w.cell? ⟨b, 11, none⟩ = some (.int .u64 ((g 3 : Nat) : Int)) ∧ w.cell? ⟨b, 12, none⟩ = some (.int .u64 ((g 4 : Nat) : Int)) ∧ w.cell? ⟨b, 13, none⟩ = some (.int .u64 ((g 5 : Nat) : Int)) ∧ w.cell? ⟨b, 14, none⟩ = some (.int .u64 ((g 6 : Nat) : Int)) ∧ w.cell? ⟨b, 15, none⟩ = some (.int .u64 ((g 7 : Nat) : Int)) :=
  ⟨h.cell 0 (by omega), h.cell 1 (by omega), h.cell 2 (by omega), h.cell 3 (by omega), h.cell 4 (by omega), h.cell 5 (by omega), h.cell 6 (by omega), h.cell 7 (by omega)⟩
theorem RowAt.range {w : World} {b ro : Nat} {g : Nat → Nat} (h : RowAt w b ro g) : w.rangeAt b ro (cells8 g).toList := fun j v hv => by
  have hj : j < 8 := (List.getElem?_eq_some_iff.1 hv).1
  have : (cells8 g).toList[j]? = some (.int .u64 ((g j : Nat) : Int)) := by
    match j, hj with
    | 0, _ | 1, _ | 2, _ | 3, _ | 4, _ | 5, _ | 6, _ | 7, _ => rfl
  rw [this] at hv
  cases hv
  exact h.cell j hj
/-- Eight words stored one by one. -/
def put8 (w : World) (b : Nat) (g : Nat → Nat) : World := ((((((((w.setCell ⟨b, 0, none⟩ (.int .u64 ((g 0 : Nat) : Int))).setCell ⟨b, 1, none⟩ (.int .u64 ((g 1 : Nat) : Int))).setCell ⟨b, 2, none⟩ (.int .u64 ((g 2 : Nat) : Int))).setCell ⟨b, 3, none⟩ (.int .u64 ((g 3 : Nat) : Int))).setCell ⟨b, 4, none⟩ (.int .u64 ((g 4 : Nat) : Int))).setCell ⟨b, 5, none⟩ (.int .u64 ((g 5 : Nat) : Int))).setCell ⟨b, 6, none⟩ (.int .u64 ((g 6 : Nat) : Int))).setCell ⟨b, 7, none⟩ (.int .u64 ((g 7 : Nat) : Int)))
theorem RowAt.put8 {w : World} {b : Nat} {g g' : Nat → Nat} (h : RowAt w b 0 g) (hg : ∀ k, g' k < 18446744073709551616) : RowAt (put8 w b g') b 0 g' := by
  have h0 := h.set 0 (g' 0) (by omega) (hg 0)
  have h1 := h0.set 1 (g' 1) (by omega) (hg 1)
  have h2 := h1.set 2 (g' 2) (by omega) (hg 2)
  have h3 := h2.set 3 (g' 3) (by omega) (hg 3)
  have h4 := h3.set 4 (g' 4) (by omega) (hg 4)
  have h5 := h4.set 5 (g' 5) (by omega) (hg 5)
  have h6 := h5.set 6 (g' 6) (by omega) (hg 6)
  have h7 := h6.set 7 (g' 7) (by omega) (hg 7)
  refine RowAt.congr h7 (fun k hk => ?_) hg
  match k, hk with
  | 0, _ | 1, _ | 2, _ | 3, _ | 4, _ | 5, _ | 6, _ | 7, _ => rfl
theorem kept_put8 (w : World) (b : Nat) (g : Nat → Nat) : Kept (fun x => x = b) w (put8 w b g) := by
  have ks := fun (w' : World) (k : Nat) (v : Value) => kept_set (F := fun x => x = b) w' b k v rfl
  have tr : ∀ {w1 w2 w3 : World}, Kept (fun x => x = b) w1 w2 → Kept (fun x => x = b) w2 w3 → Kept (fun x => x = b) w1 w3 := fun h k => h.trans k (fun _ _ h => h)
  exact tr (tr (tr (tr (tr (tr (tr (ks _ 0 _) (ks _ 1 _)) (ks _ 2 _)) (ks _ 3 _)) (ks _ 4 _)) (ks _ 5 _)) (ks _ 6 _)) (ks _ 7 _)
theorem new8 {w : World} {b : Nat} {g : Nat → Nat} {t : TypeId} (h : w.heap[b]? = some (.cells (cells8 g) t (0, 0))) (hg : ∀ k, g k < 18446744073709551616) : RowAt w b 0 g :=
  ⟨fun k hk => by
    match k, hk with
    | 0, _ | 1, _ | 2, _ | 3, _ | 4, _ | 5, _ | 6, _ | 7, _ => simp [World.cell?, h, cells8], fun k hk => by simp [World.frozen?, h], hg⟩
theorem row_info : (Tryd.prog.info? 70).map (·.size) = some 8 := by kernel_rfl
theorem RowAt.load {w : World} {b ro : Nat} {g : Nat → Nat} (h : RowAt w b ro g) : (loadVar 70 ⟨b, ro, none⟩).run Tryd.prog w = .ok (words g) w :=
  run_loadVar_mid (P := Tryd.prog) w b ro 70 (cells8 g).toList _ h.range Tryd.underlying70 rfl row_info
theorem idx8 (g : Nat → Nat) (k : Nat) (hk : k < 8) (w : World) : (Instr.index 70 (.agg (cells8 g)) (.int .i64 (k : Nat))).run Tryd.prog w = .ok (.int .u64 ((g k : Nat) : Int)) w := by
  obtain rfl | rfl | rfl | rfl | rfl | rfl | rfl | rfl : k = 0 ∨ k = 1 ∨ k = 2 ∨ k = 3 ∨ k = 4 ∨ k = 5 ∨ k = 6 ∨ k = 7 := by omega
  all_goals kernel_rfl
theorem results_one9 {fn : Func} {p : Tmp} {ty : TypeId} (h : fn.results = #[.cell p ty]) (tmps : Array Value) (w : World) (a : Addr) (v : Value) (ha : tmps.getD p undef = .pointer (some a)) (hv : (loadVar ty a).run Tryd.prog w = .ok v w) :
    (results fn tmps).run Tryd.prog w = .ok v w := by
  have hp' : tmps[p]?.getD undef = .pointer (some a) := by simpa using ha
  simp [results, h, hp', asAddr, hv]
theorem results_two {fn : Func} {p q : Tmp} {ty ty' : TypeId} (h : fn.results = #[.cell p ty, .cell q ty']) (tmps : Array Value) (w : World) (a a' : Addr) (v v' : Value) (ha : tmps.getD p undef = .pointer (some a)) (ha' : tmps.getD q undef = .pointer (some a')) (hv : (loadVar ty a).run Tryd.prog w = .ok v w) (hv' : (loadVar ty' a').run Tryd.prog w = .ok v' w) :
    (results fn tmps).run Tryd.prog w = .ok (.tuple #[v, v']) w := by
  have hp' : tmps[p]?.getD undef = .pointer (some a) := by simpa using ha
  have hq' : tmps[q]?.getD undef = .pointer (some a') := by simpa using ha'
  simp [results, h, hp', hq', asAddr, hv, hv']
set_option maxRecDepth 100000 in
set_option maxHeartbeats 4000000 in
theorem rows_any (b : Nat) (u g : Nat → Bool) (w : World) (h : ChF w b u g) :
    Calls Tryd.prog 69 #[.pointer (some ⟨b, 0, none⟩)] w fun e w' => ∃ gu gg : Nat → Nat, e = .returned (.tuple #[words gu, words gg]) ∧ (∀ k, gu k < 18446744073709551616) ∧ (∀ k, gg k < 18446744073709551616) ∧ (∀ i, i < 512 → bitW gu i = u i) ∧ (∀ i, i < 512 → bitW gg i = g i) ∧ Below w.heap.size w w' := by
  obtain ⟨⟨gu, hu, fu⟩, ⟨gg, hg, fg⟩⟩ := h
  obtain ⟨N, hN⟩ : ∃ N, w.heap.size = N := ⟨_, rfl⟩
  have hb := hu.lt
  obtain ⟨w0, hw0⟩ : ∃ w0, w0 = (w.alloc (.cells (cells8 (fun _ => 0)) 70)).alloc (.cells (cells8 (fun _ => 0)) 70) := ⟨_, rfl⟩
  have k0 : Below w.heap.size w w0 := by rw [hw0]; exact ((Below.refl _ w).alloc (Nat.le_refl _) _).alloc (by simp) _
  have z0 : w0.heap[w.heap.size]? = some (.cells (cells8 (fun _ => 0)) 70 (0, 0)) := by rw [hw0, alloc_at, if_neg (by simp), alloc_at, if_pos rfl]
  have z1 : w0.heap[w.heap.size + 1]? = some (.cells (cells8 (fun _ => 0)) 70 (0, 0)) := by rw [hw0, alloc_at, if_pos (by simp)]
  have R := hide (show ∀ W, Below w.heap.size w W → ∃ gu' gg' : Nat → Nat, Ending.returned (.tuple #[words gu, words gg]) = .returned (.tuple #[words gu', words gg']) ∧ (∀ k, gu' k < 18446744073709551616) ∧ (∀ k, gg' k < 18446744073709551616) ∧ (∀ i, i < 512 → bitW gu' i = u i) ∧ (∀ i, i < 512 → bitW gg' i = g i) ∧ Below w.heap.size w W from fun W hW => ⟨gu, gg, rfl, hu.fit, hg.fit, fu, fg, hW⟩)
  have W0 := hide hw0
  have Z0 := hide (new8 z0 (fun _ => by omega))
  have Z1 := hide (new8 z1 (fun _ => by omega))
  have K0 := hide k0
  have HU := hide (hu.below k0)
  have HG := hide (hg.below k0)
  rw [hN] at Z0 Z1
  have n0 : b ≠ N := by omega
  have n1 : b ≠ N + 1 := by omega
  have n2 : N ≠ b := by omega
  have n3 : N + 1 ≠ b := by omega
  clear hw0 z0 z1 k0 hu hg fu fg hb
  go_enter Tryd.func69, Tryd.ntmps69
  go_wp2_with fail
  have e0 := W0.out
  unfold cells8 at e0
  simp only [Int.ofNat_zero, Int.natCast_zero] at e0
  rw [← e0]
  clear e0 W0
  obtain ⟨u0, u1, u2, u3, u4, u5, u6, u7⟩ := HU.out.all0
  obtain ⟨v0, v1, v2, v3, v4, v5, v6, v7⟩ := HG.out.all8
  obtain ⟨x0, x1, x2, x3, x4, x5, x6, x7⟩ := Z0.out.all0
  obtain ⟨y0, y1, y2, y3, y4, y5, y6, y7⟩ := Z1.out.all0
  have p0 := Z0.out.frozen 0 (by omega)
  have p1 := Z0.out.frozen 1 (by omega)
  have p2 := Z0.out.frozen 2 (by omega)
  have p3 := Z0.out.frozen 3 (by omega)
  have p4 := Z0.out.frozen 4 (by omega)
  have p5 := Z0.out.frozen 5 (by omega)
  have p6 := Z0.out.frozen 6 (by omega)
  have p7 := Z0.out.frozen 7 (by omega)
  have q0 := Z1.out.frozen 0 (by omega)
  have q1 := Z1.out.frozen 1 (by omega)
  have q2 := Z1.out.frozen 2 (by omega)
  have q3 := Z1.out.frozen 3 (by omega)
  have q4 := Z1.out.frozen 4 (by omega)
  have q5 := Z1.out.frozen 5 (by omega)
  have q6 := Z1.out.frozen 6 (by omega)
  have q7 := Z1.out.frozen 7 (by omega)
  simp only [Nat.zero_add] at p0 p1 p2 p3 p4 p5 p6 p7 q0 q1 q2 q3 q4 q5 q6 q7
  go_region_held3 (fun w' => w'.cell? ⟨b, 0, none⟩ = some (.int .u64 ((gu 0 : Nat) : Int)) ∧ w'.cell? ⟨b, 1, none⟩ = some (.int .u64 ((gu 1 : Nat) : Int)) ∧ w'.cell? ⟨b, 2, none⟩ = some (.int .u64 ((gu 2 : Nat) : Int)) ∧ w'.cell? ⟨b, 3, none⟩ = some (.int .u64 ((gu 3 : Nat) : Int)) ∧ w'.cell? ⟨b, 4, none⟩ = some (.int .u64 ((gu 4 : Nat) : Int)) ∧ w'.cell? ⟨b, 5, none⟩ = some (.int .u64 ((gu 5 : Nat) : Int)) ∧ w'.cell? ⟨b, 6, none⟩ = some (.int .u64 ((gu 6 : Nat) : Int)) ∧ w'.cell? ⟨b, 7, none⟩ = some (.int .u64 ((gu 7 : Nat) : Int)) ∧ w'.cell? ⟨b, 8, none⟩ = some (.int .u64 ((gg 0 : Nat) : Int)) ∧ w'.cell? ⟨b, 9, none⟩ = some (.int .u64 ((gg 1 : Nat) : Int)) ∧ w'.cell? ⟨b, 10, none⟩ = some (.int .u64 ((gg 2 : Nat) : Int)) ∧ w'.cell? ⟨b, 11, none⟩ = some (.int .u64 ((gg 3 : Nat) : Int)) ∧ w'.cell? ⟨b, 12, none⟩ = some (.int .u64 ((gg 4 : Nat) : Int)) ∧ w'.cell? ⟨b, 13, none⟩ = some (.int .u64 ((gg 5 : Nat) : Int)) ∧ w'.cell? ⟨b, 14, none⟩ = some (.int .u64 ((gg 6 : Nat) : Int)) ∧ w'.cell? ⟨b, 15, none⟩ = some (.int .u64 ((gg 7 : Nat) : Int))) (go_keep) (fail)
  have r0 := (Z0.out.put8 HU.out.fit)
  have kk := kept_put8 w0 N gu
  have r1 := (Z1.out.kept kk (by omega)).put8 HG.out.fit
  have kk2 := kept_put8 (put8 w0 N gu) (N + 1) gg
  have r0' := r0.kept kk2 (by omega)
  have be := below_kept (below_kept K0.out kk (fun x hx => by omega) K0.out.size) kk2 (fun x hx => by omega) (Nat.le_trans K0.out.size kk.size)
  have bd := be.trans ((drew_below _).mono be.size)
  have d0 := r0'.below (drew_below _)
  have d1 := r1.below (drew_below _)
  obtain ⟨Wf, hWf⟩ : ∃ Wf, Wf = (put8 (put8 w0 N gu) (N + 1) gg).drew := ⟨_, rfl⟩
  rw [← hWf] at bd d0 d1
  unfold put8 at hWf
  have HW := hide hWf
  have D0 := hide d0
  have D1 := hide d1
  have BD := hide bd
  rw [← hWf]
  clear hWf d0 d1 bd r0 r1 r0' be kk kk2
  go_wp2_with fail
  exact bodyPost_ret (results_two Tryd.results69 _ Wf ⟨N, 0, none⟩ ⟨N + 1, 0, none⟩ _ _ rfl rfl D0.out.load D1.out.load) rfl (R.out _ BD.out)
set_option maxRecDepth 100000 in
set_option maxHeartbeats 4000000 in
theorem idle_any (b : Nat) (u g : Nat → Bool) (w : World) (h : ChF w b u g) :
    Calls Tryd.prog 43 #[.pointer (some ⟨b, 0, none⟩)] w fun e w' => ∃ gi : Nat → Nat, e = .returned (words gi) ∧ (∀ k, gi k < 18446744073709551616) ∧ (∀ i, i < 512 → bitW gi i = (u i || g i)) ∧ Below w.heap.size w w' := by
  obtain ⟨⟨gu, hu, fu⟩, ⟨gg, hg, fg⟩⟩ := h
  obtain ⟨u0, u1, u2, u3, u4, u5, u6, u7⟩ := hu.all0
  obtain ⟨v0, v1, v2, v3, v4, v5, v6, v7⟩ := hg.all8
  have hb := hu.lt
  obtain ⟨w0, hw0⟩ : ∃ w0, w0 = (w.alloc (.cells (cells8 (fun _ => 0)) 70)).alloc (.cells (cells8 gu) 70) := ⟨_, rfl⟩
  have k0 : Below w.heap.size w w0 := by rw [hw0]; exact ((Below.refl _ w).alloc (Nat.le_refl _) _).alloc (by simp) _
  have z0 : w0.heap[w.heap.size]? = some (.cells (cells8 (fun _ => 0)) 70 (0, 0)) := by rw [hw0, alloc_at, if_neg (by simp), alloc_at, if_pos rfl]
  have z1 : w0.heap[w.heap.size + 1]? = some (.cells (cells8 gu) 70 (0, 0)) := by rw [hw0, alloc_at, if_pos (by simp)]
  obtain ⟨gi, hgi⟩ : ∃ gi : Nat → Nat, gi = fun k => gu k ||| gg k := ⟨_, rfl⟩
  have fi : ∀ k, gi k < 18446744073709551616 := fun k => by rw [hgi]; exact or_lt (hu.fit k) (hg.fit k)
  have bi : ∀ i, i < 512 → bitW gi i = (u i || g i) := fun i hi => by rw [hgi, ← fu i hi, ← fg i hi]; unfold bitW; rw [Nat.testBit_or]
  have R := hide (show ∀ W, Below w.heap.size w W → ∃ gi' : Nat → Nat, Ending.returned (words gi) = .returned (words gi') ∧ (∀ k, gi' k < 18446744073709551616) ∧ (∀ i, i < 512 → bitW gi' i = (u i || g i)) ∧ Below w.heap.size w W from fun W hW => ⟨gi, rfl, fi, bi, hW⟩)
  have W0 := hide hw0
  have Z0 := hide (new8 z0 (fun _ => by omega))
  have Z1 := hide (new8 z1 hu.fit)
  have K0 := hide k0
  have FU := hide hu.fit
  have FG := hide hg.fit
  have GI := hide hgi
  have FI := hide fi
  clear hu hg fu fg hw0 k0 z0 z1 hgi fi bi
  go_enter Tryd.func43, Tryd.ntmps43
  go_wp2
  have e0 := W0.out
  unfold cells8 at e0
  simp only [Int.ofNat_zero, Int.natCast_zero] at e0
  rw [← e0]
  obtain ⟨N, hN⟩ : ∃ N, w.heap.size = N := ⟨_, rfl⟩
  simp only [hN] at Z0 Z1 ⊢
  have HN := hide hN
  clear hN
  clear e0 W0 u0 u1 u2 u3 u4 u5 u6 u7 v0 v1 v2 v3 v4 v5 v6 v7
  go_loopw [14] (fun v wr => ∃ k : Nat, v = .int .i64 (k : Int) ∧ k ≤ 8 ∧ Hid (RowAt wr (N + 1) 0 (fun j => if j < k then gi j else gu j) ∧ RowAt wr N 0 (fun _ => 0) ∧ Below w.heap.size w wr)) (fun v _ => 8 - (intOf v).toNat)
  case atStart => exact ⟨0, rfl, by omega, hide ⟨Z1.out, Z0.out, K0.out⟩⟩
  case round =>
    obtain ⟨k, rfl, hk, HR⟩ := hrel
    by_cases hlt : k < 8
    · have c1 := HR.out.1.cell k hlt
      have f1 := HR.out.1.frozen k hlt
      rw [if_neg (Nat.lt_irrefl k), Nat.zero_add] at c1
      rw [Nat.zero_add] at f1
      have hb := w_or (gu k) (gg k) (FU.out k) (FG.out k)
      have fin : ∀ W, W = wr.setCell ⟨N + 1, k, none⟩ (.int .u64 ((gu k ||| gg k : Nat) : Int)) → Hid (RowAt W (N + 1) 0 (fun j => if j < k + 1 then gi j else gu j) ∧ RowAt W N 0 (fun _ => 0) ∧ Below w.heap.size w W) := fun W hW => by
        have s1 := HR.out.1.set k (gu k ||| gg k) hlt (or_lt (FU.out k) (FG.out k))
        rw [Nat.zero_add, ← hW] at s1
        have k1 : Kept (fun x => x = N + 1) wr W := by rw [hW]; exact kept_set wr (N + 1) k _ rfl
        refine hide ⟨s1.congr (fun j hj => ?_) (fun j => ?_), HR.out.2.1.kept k1 (by omega), below_kept HR.out.2.2 k1 (fun x hx => by have := HN.out; omega) HR.out.2.2.size⟩
        · by_cases e : j = k
          · rw [if_pos e, if_pos (by omega), GI.out, e]
          · rw [if_neg e]
            by_cases l : j < k
            · rw [if_pos l, if_pos (by omega)]
            · rw [if_neg l, if_neg (by omega)]
        · by_cases l : j < k + 1
          · rw [if_pos l]; exact FI.out j
          · rw [if_neg l]; exact FU.out j
      have FIN := hide fin
      clear fin
      have hlt' : (k : Int) < 8 := by omega
      have hx := idx8 gg k hlt wr
      unfold cells8 at hx
      go_wp2_with (simp only [hx])
      refine ⟨⟨k + 1, by rw [Int.natCast_add]; rfl, by omega, ?_⟩, ?_⟩
      · exact FIN.out _ (by first | rfl | rw [hb])
      · simp [intOf]; omega
    · have hk8 : k = 8 := by omega
      subst hk8
      have HH := hide (HR.out.1.congr (g' := gi) (fun j hj => by rw [if_pos hj]) FI.out)
      obtain ⟨u0, u1, u2, u3, u4, u5, u6, u7⟩ := HH.out.all0
      obtain ⟨x0, x1, x2, x3, x4, x5, x6, x7⟩ := HR.out.2.1.all0
      have p0 := HR.out.2.1.frozen 0 (by omega)
      have p1 := HR.out.2.1.frozen 1 (by omega)
      have p2 := HR.out.2.1.frozen 2 (by omega)
      have p3 := HR.out.2.1.frozen 3 (by omega)
      have p4 := HR.out.2.1.frozen 4 (by omega)
      have p5 := HR.out.2.1.frozen 5 (by omega)
      have p6 := HR.out.2.1.frozen 6 (by omega)
      have p7 := HR.out.2.1.frozen 7 (by omega)
      simp only [Nat.zero_add] at p0 p1 p2 p3 p4 p5 p6 p7
      have r1 := HR.out.2.1.put8 FI.out
      have r2 := below_kept HR.out.2.2 (kept_put8 wr N gi) (fun x hx => by have := HN.out; omega) HR.out.2.2.size
      have e0 : put8 wr N gi = put8 wr N gi := rfl
      obtain ⟨Wf, hWf⟩ : ∃ Wf, Wf = put8 wr N gi := ⟨_, rfl⟩
      rw [← hWf] at r1 r2
      unfold put8 at hWf
      have HW := hide hWf
      have R1 := hide r1
      have R2 := hide r2
      clear hWf r1 r2 e0 hlt hk
      go_wp2_with fail
      rw [← HW.out]
      exact bodyPost_ret (results_one9 Tryd.results43 _ Wf ⟨N, 0, none⟩ _ rfl R1.out.load) rfl (R.out _ R2.out)
end Go.Proofs.YtnclicdnncgdiaaDoor
