/- Package radix: lastIdle: what stands between two rounds. -/
import Derived.Test.YtnclicdnncgdiaaDoorSh
namespace Go.Proofs.YtnclicdnncgdiaaDoor
open Go.ChangeShapes Go.WideShapes Go.ChangeAt Go.RowKit Go.Proofs.Bt Go.Shelf Go.Proofs.Rx Go.Maps Go.Proofs.Pk
set_option linter.unusedVariables false
set_option linter.unusedSimpArgs false

/-- As many are released as are free: none is idle. -/
theorem no_idle {st : Nat → Nat} {a : Nat} : ∀ n, (tl st a n).f ≤ (tl st a n).r → ∀ q, a ≤ q → q < a + n → st q ≠ 2
  | 0, _, q, q1, q2 => by omega
  | n + 1, h, q, q1, q2 => by
    have e := tl_add st a n 1
    have o1 := (tl_order st a n).1
    have o2 := (tl_order st (a + n) 1).1
    rw [e] at h
    have h1 : (tl st a n).f + (tl st (a + n) 1).f ≤ (tl st a n).r + (tl st (a + n) 1).r := h
    rcases Nat.lt_or_ge q (a + n) with y | y
    · exact no_idle n (by omega) q q1 y
    · obtain rfl : q = a + n := by omega
      intro hq
      have f1 : (tl st (a + n) 1).f = 1 := by
        show cnt (fre st) (a + n) 1 = 1
        refine cnt_full.2 fun k hk => ?_
        obtain rfl : k = 0 := by omega
        unfold fre
        rw [Nat.add_zero, hq]; rfl
      have r1 : (tl st (a + n) 1).r = 0 := by
        show cnt (rel st) (a + n) 1 = 0
        refine cnt_none fun k hk => ?_
        obtain rfl : k = 0 := by omega
        unfold rel
        rw [Nat.add_zero, hq]; rfl
      omega
/-- Fewer are released than are free: one is idle. -/
theorem some_idle {st : Nat → Nat} (h4 : Four st) {a n : Nat} (h : (tl st a n).r < (tl st a n).f) : ∃ q, a ≤ q ∧ q < a + n ∧ st q = 2 := by
  by_cases z : ∃ q, a ≤ q ∧ q < a + n ∧ st q = 2
  · exact z
  · exfalso
    have e : (tl st a n).f = (tl st a n).r := by
      show cnt (fre st) a n = cnt (rel st) a n
      refine cnt_congr fun k hk => ?_
      have h1 : st (a + k) ≠ 2 := fun y => z ⟨a + k, by omega, by omega, y⟩
      have h2 := h4 (a + k)
      unfold fre rel
      rw [decide_eq_decide]
      omega
    omega
/-- Between two rounds of the way down: the row has an idle page, and none behind it is idle. -/
structure LD (N I : Nat) (w : World) (T : Tid) (L : Lv) (C : Ch) (st : Nat → Nat) (k i : Nat) (r : Rw) (l : List Nat) (zs : Array Value) (X : World) : Prop where
  be : Below N w X
  rz : Bk X N 72 zs
  ib : Bk X I 23 #[.int .u64 (i : Nat)]
  rb : Bk X (I + 1) 84 #[.int .u64 (r.t.p : Nat), .int .u64 (r.t.f : Nat), .int .u64 (r.t.r : Nat), .int .i64 (r.s : Nat), .int .i64 (r.m : Nat), .int .i64 (r.e : Nat), .int .i64 (r.rest : Nat)]
  rad : RadAt X T L C
  gd : Rx.Good L C st (6 - k) k i r
  hi : (i + 1) * sz k ≤ 34359738368
  has : r.t.r < r.t.f
  above : ∀ q, (i + 1) * sz k ≤ q → st q ≠ 2
  mks : Marks (I + 2) l X
theorem LD.kept {F : Nat → Prop} {N I : Nat} {w : World} {T : Tid} {L : Lv} {C : Ch} {st : Nat → Nat} {k i : Nat} {r : Rw} {l : List Nat} {zs : Array Value} {X X' : World} (h : LD N I w T L C st k i r l zs X) (kk : Kept F X X') (h0 : RadAt w T L C) (hw : w.heap.size = N) (hI : N + 1 ≤ I) (hF : ∀ x, F x → I + 2 ≤ x ∧ x ∉ l) : LD N I w T L C st k i r l zs X' :=
  ⟨below_kept h.be kk (fun x hx => by have := (hF x hx).1; omega) (by have := h.rz.lt; omega), h.rz.kept kk (fun z => by have := (hF _ z).1; omega), h.ib.kept kk (fun z => by have := (hF _ z).1; omega), h.rb.kept kk (fun z => by have := (hF _ z).1; omega), h0.new h.rad kk (fun x hx => by have := (hF x hx).1; omega), h.gd, h.hi, h.has, h.above, h.mks.kept kk (fun D hD z => (hF D z).2 hD)⟩
/-- The last row below with an idle page, among the first j. -/
def LastB (L : Lv) (d i : Nat) (r : Rw) (j : Nat) (i' : Nat) (r' : Rw) : Prop :=
  (i' = i ∧ r' = r ∧ ∀ x, x < j → (row L (d + 1) (fan d * i + x) r.rest).t.f ≤ (row L (d + 1) (fan d * i + x) r.rest).t.r) ∨
  ∃ y, y < j ∧ i' = fan d * i + y ∧ r' = row L (d + 1) (fan d * i + y) r.rest ∧ r'.t.r < r'.t.f ∧ ∀ x, y < x → x < j → (row L (d + 1) (fan d * i + x) r.rest).t.f ≤ (row L (d + 1) (fan d * i + x) r.rest).t.r
theorem LastB.zero (L : Lv) (d i : Nat) (r : Rw) : LastB L d i r 0 i r := .inl ⟨rfl, rfl, fun x hx => by omega⟩
theorem LastB.hit {L : Lv} {d i : Nat} {r : Rw} {j i' : Nat} {r' : Rw} (h : LastB L d i r j i' r') (hh : (row L (d + 1) (fan d * i + j) r.rest).t.r < (row L (d + 1) (fan d * i + j) r.rest).t.f) : LastB L d i r (j + 1) (fan d * i + j) (row L (d + 1) (fan d * i + j) r.rest) :=
  .inr ⟨j, by omega, rfl, rfl, hh, fun x h1 h2 => by omega⟩
theorem LastB.miss {L : Lv} {d i : Nat} {r : Rw} {j i' : Nat} {r' : Rw} (h : LastB L d i r j i' r') (hh : ¬ (row L (d + 1) (fan d * i + j) r.rest).t.r < (row L (d + 1) (fan d * i + j) r.rest).t.f) : LastB L d i r (j + 1) i' r' := by
  have step : ∀ x, x < j + 1 → x = j ∨ x < j := fun x hx => by omega
  rcases h with ⟨e1, e2, h1⟩ | ⟨y, y1, e1, e2, h1, h2⟩
  · refine .inl ⟨e1, e2, fun x hx => ?_⟩
    rcases step x hx with rfl | z
    · omega
    · exact h1 x z
  · refine .inr ⟨y, by omega, e1, e2, h1, fun x hx hx2 => ?_⟩
    rcases step x hx2 with rfl | z
    · omega
    · exact h2 x hx z
/-- Looked through to the end: one row further down. -/
theorem LastB.down {L : Lv} {C : Ch} {st : Nat → Nat} {d i : Nat} {r : Rw} {i' : Nat} {r' : Rw} (hd : d < 6) (h4 : Four st) (g : Rx.Good L C st (6 - d) d i r) (hi : (i + 1) * sz d ≤ 34359738368) (has : r.t.r < r.t.f) (above : ∀ q, (i + 1) * sz d ≤ q → st q ≠ 2) (h : LastB L d i r (fan d) i' r') :
    Rx.Good L C st (6 - (d + 1)) (d + 1) i' r' ∧ (i' + 1) * sz (d + 1) ≤ 34359738368 ∧ r'.t.r < r'.t.f ∧ ∀ q, (i' + 1) * sz (d + 1) ≤ q → st q ≠ 2 := by
  have e := sz_fan d hd
  have hp := sz_pos (d + 1)
  have e0 : i * sz d = (fan d * i) * sz (d + 1) := by rw [e, ← Nat.mul_assoc, Nat.mul_comm i]
  have e2 : (i + 1) * sz d = (fan d * i + fan d) * sz (d + 1) := by rw [e, ← Nat.mul_assoc, Nat.mul_comm (i + 1), Nat.mul_succ]
  have gk : ∀ x, x < fan d → Rx.Good L C st (6 - (d + 1)) (d + 1) (fan d * i + x) (row L (d + 1) (fan d * i + x) r.rest) := fun x hx => by
    have g' := g
    rw [show 6 - d = (6 - (d + 1)) + 1 by omega] at g'
    exact g'.kid (by omega) (by rw [Nat.mul_succ]; omega)
  have quiet : ∀ x, x < fan d → (row L (d + 1) (fan d * i + x) r.rest).t.f ≤ (row L (d + 1) (fan d * i + x) r.rest).t.r → ∀ q, (fan d * i + x) * sz (d + 1) ≤ q → q < (fan d * i + x + 1) * sz (d + 1) → st q ≠ 2 := fun x hx hf q q1 q2 => by
    have ht := (gk x hx).fact.1
    rw [ht] at hf
    exact no_idle _ hf q q1 (by rw [Nat.succ_mul] at q2; omega)
  rcases h with ⟨_, _, h1⟩ | ⟨y, y1, rfl, rfl, h1, h2⟩
  · exfalso
    rw [g.fact.1] at has
    obtain ⟨q, q1, q2, q3⟩ := some_idle h4 has
    have b1 : fan d * i ≤ q / sz (d + 1) := by rw [Nat.le_div_iff_mul_le hp]; omega
    have b2 : q / sz (d + 1) < fan d * i + fan d := by
      rw [Nat.div_lt_iff_lt_mul hp, ← e2, Nat.succ_mul]; exact q2
    have b3 := Nat.div_mul_le_self q (sz (d + 1))
    have b4 := Nat.lt_div_mul_add hp (a := q)
    refine quiet (q / sz (d + 1) - fan d * i) (by omega) (h1 _ (by omega)) q ?_ ?_ q3
    · rw [show fan d * i + (q / sz (d + 1) - fan d * i) = q / sz (d + 1) by omega]; exact b3
    · rw [show fan d * i + (q / sz (d + 1) - fan d * i) = q / sz (d + 1) by omega, Nat.succ_mul]; exact b4
  · refine ⟨gk y y1, ?_, h1, fun q hq => ?_⟩
    · have : (fan d * i + y + 1) * sz (d + 1) ≤ (fan d * i + fan d) * sz (d + 1) := Nat.mul_le_mul_right _ (by omega)
      omega
    · rcases Nat.lt_or_ge q ((i + 1) * sz d) with z | z
      · have b2 : q / sz (d + 1) < fan d * i + fan d := by
          rw [Nat.div_lt_iff_lt_mul hp, ← e2]; exact z
        have b1 : fan d * i + y + 1 ≤ q / sz (d + 1) := by rw [Nat.le_div_iff_mul_le hp]; exact hq
        have b3 := Nat.div_mul_le_self q (sz (d + 1))
        have b4 := Nat.lt_div_mul_add hp (a := q)
        refine quiet (q / sz (d + 1) - fan d * i) (by omega) (h2 _ (by omega) (by omega)) q ?_ ?_
        · rw [show fan d * i + (q / sz (d + 1) - fan d * i) = q / sz (d + 1) by omega]; exact b3
        · rw [show fan d * i + (q / sz (d + 1) - fan d * i) = q / sz (d + 1) by omega, Nat.succ_mul]; exact b4
      · exact above q z
/-- Between two rounds of the loop over the rows below one. -/
structure LB (N I G : Nat) (w : World) (T : Tid) (L : Lv) (C : Ch) (st : Nat → Nat) (d i : Nat) (r : Rw) (l : List Nat) (zs : Array Value) (j : Nat) (X : World) : Prop where
  be : Below N w X
  rz : Bk X N 72 zs
  bx : ∃ i' r', LastB L d i r j i' r' ∧ Bk X I 23 #[.int .u64 (i' : Nat)] ∧ Bk X (I + 1) 84 #[.int .u64 (r'.t.p : Nat), .int .u64 (r'.t.f : Nat), .int .u64 (r'.t.r : Nat), .int .i64 (r'.s : Nat), .int .i64 (r'.m : Nat), .int .i64 (r'.e : Nat), .int .i64 (r'.rest : Nat)]
  rd : RdB (G + 1) (G + 2) G (G + 3) d i r.rest T L C X
  mks : Marks (I + 2) l X
theorem LB.kept {F : Nat → Prop} {N I G : Nat} {w : World} {T : Tid} {L : Lv} {C : Ch} {st : Nat → Nat} {d i : Nat} {r : Rw} {l : List Nat} {zs : Array Value} {j : Nat} {X X' : World} (h : LB N I G w T L C st d i r l zs j X) (kk : Kept F X X') (h0 : RadAt w T L C) (hw : w.heap.size = N) (hI : N + 1 ≤ I) (hG : I + 2 ≤ G) (hl : ∀ D, D ∈ l → D < G) (hF : ∀ x, F x → G + 4 ≤ x) : LB N I G w T L C st d i r l zs j X' := by
  obtain ⟨i', r', b1, b2, b3⟩ := h.bx
  exact ⟨below_kept h.be kk (fun x hx => by have := hF x hx; omega) (by have := h.rz.lt; omega), h.rz.kept kk (fun z => by have := hF _ z; omega), ⟨i', r', b1, b2.kept kk (fun z => by have := hF _ z; omega), b3.kept kk (fun z => by have := hF _ z; omega)⟩, h.rd.kept h0 kk (fun x hx => by have := hF x hx; omega), h.mks.kept kk (fun D hD z => by have := hl D hD; have := hF _ z; omega)⟩
end Go.Proofs.YtnclicdnncgdiaaDoor
/- Package radix: lastIdle: its contract. -/
namespace Go.Proofs.YtnclicdnncgdiaaDoor
open Go.ChangeShapes Go.WideShapes Go.ChangeAt Go.RowKit Go.Proofs.Bt Go.Shelf Go.Proofs.Rx Go.Maps Go.Proofs.Pk
set_option linter.unusedVariables false
set_option linter.unusedSimpArgs false

attribute [local go_sem] Oper.semAt_some

/-- A chunk as a value: wherever it is laid, its pages are so. -/
def ChV (vs : Array Value) (c : Nat → Nat) : Prop := ∀ W b, Bk W b 72 vs → ChS W b c
def zs16 : Array Value := #[.int .u64 0, .int .u64 0, .int .u64 0, .int .u64 0, .int .u64 0, .int .u64 0, .int .u64 0, .int .u64 0, .int .u64 0, .int .u64 0, .int .u64 0, .int .u64 0, .int .u64 0, .int .u64 0, .int .u64 0, .int .u64 0]
theorem frozen16 {w : World} {b : Nat} (h : ∀ k, w.frozen? ⟨b, k, none⟩ = false) : w.frozen? ⟨b, 0, none⟩ = false ∧ w.frozen? ⟨b, 1, none⟩ = false ∧ w.frozen? ⟨b, 2, none⟩ = false ∧ w.frozen? ⟨b, 3, none⟩ = false ∧ w.frozen? ⟨b, 4, none⟩ = false ∧ w.frozen? ⟨b, 5, none⟩ = false ∧ w.frozen? ⟨b, 6, none⟩ = false ∧ w.frozen? ⟨b, 7, none⟩ = false ∧ w.frozen? ⟨b, 8, none⟩ = false ∧ w.frozen? ⟨b, 9, none⟩ = false ∧ w.frozen? ⟨b, 10, none⟩ = false ∧ w.frozen? ⟨b, 11, none⟩ = false ∧ w.frozen? ⟨b, 12, none⟩ = false ∧ w.frozen? ⟨b, 13, none⟩ = false ∧ w.frozen? ⟨b, 14, none⟩ = false ∧ w.frozen? ⟨b, 15, none⟩ = false := ⟨h 0, h 1, h 2, h 3, h 4, h 5, h 6, h 7, h 8, h 9, h 10, h 11, h 12, h 13, h 14, h 15⟩
theorem kset16 (w : World) (b : Nat) : Kept (fun x => x = b) w ((((((((((((((((w.setCell ⟨b, 0, none⟩ (.int .u64 0)).setCell ⟨b, 1, none⟩ (.int .u64 0)).setCell ⟨b, 2, none⟩ (.int .u64 0)).setCell ⟨b, 3, none⟩ (.int .u64 0)).setCell ⟨b, 4, none⟩ (.int .u64 0)).setCell ⟨b, 5, none⟩ (.int .u64 0)).setCell ⟨b, 6, none⟩ (.int .u64 0)).setCell ⟨b, 7, none⟩ (.int .u64 0)).setCell ⟨b, 8, none⟩ (.int .u64 0)).setCell ⟨b, 9, none⟩ (.int .u64 0)).setCell ⟨b, 10, none⟩ (.int .u64 0)).setCell ⟨b, 11, none⟩ (.int .u64 0)).setCell ⟨b, 12, none⟩ (.int .u64 0)).setCell ⟨b, 13, none⟩ (.int .u64 0)).setCell ⟨b, 14, none⟩ (.int .u64 0)).setCell ⟨b, 15, none⟩ (.int .u64 0)) := (((((((((((((((kept_set (F := fun x => x = b) w b 0 (.int .u64 0) rfl).trans (kept_set (F := fun x => x = b) _ b 1 (.int .u64 0) rfl) (fun _ _ z => z)).trans (kept_set (F := fun x => x = b) _ b 2 (.int .u64 0) rfl) (fun _ _ z => z)).trans (kept_set (F := fun x => x = b) _ b 3 (.int .u64 0) rfl) (fun _ _ z => z)).trans (kept_set (F := fun x => x = b) _ b 4 (.int .u64 0) rfl) (fun _ _ z => z)).trans (kept_set (F := fun x => x = b) _ b 5 (.int .u64 0) rfl) (fun _ _ z => z)).trans (kept_set (F := fun x => x = b) _ b 6 (.int .u64 0) rfl) (fun _ _ z => z)).trans (kept_set (F := fun x => x = b) _ b 7 (.int .u64 0) rfl) (fun _ _ z => z)).trans (kept_set (F := fun x => x = b) _ b 8 (.int .u64 0) rfl) (fun _ _ z => z)).trans (kept_set (F := fun x => x = b) _ b 9 (.int .u64 0) rfl) (fun _ _ z => z)).trans (kept_set (F := fun x => x = b) _ b 10 (.int .u64 0) rfl) (fun _ _ z => z)).trans (kept_set (F := fun x => x = b) _ b 11 (.int .u64 0) rfl) (fun _ _ z => z)).trans (kept_set (F := fun x => x = b) _ b 12 (.int .u64 0) rfl) (fun _ _ z => z)).trans (kept_set (F := fun x => x = b) _ b 13 (.int .u64 0) rfl) (fun _ _ z => z)).trans (kept_set (F := fun x => x = b) _ b 14 (.int .u64 0) rfl) (fun _ _ z => z)).trans (kept_set (F := fun x => x = b) _ b 15 (.int .u64 0) rfl) (fun _ _ z => z)
theorem kset16v (w : World) (b : Nat) (v0 v1 v2 v3 v4 v5 v6 v7 v8 v9 v10 v11 v12 v13 v14 v15 : Value) : Kept (fun x => x = b) w ((((((((((((((((w.setCell ⟨b, 0, none⟩ v0).setCell ⟨b, 1, none⟩ v1).setCell ⟨b, 2, none⟩ v2).setCell ⟨b, 3, none⟩ v3).setCell ⟨b, 4, none⟩ v4).setCell ⟨b, 5, none⟩ v5).setCell ⟨b, 6, none⟩ v6).setCell ⟨b, 7, none⟩ v7).setCell ⟨b, 8, none⟩ v8).setCell ⟨b, 9, none⟩ v9).setCell ⟨b, 10, none⟩ v10).setCell ⟨b, 11, none⟩ v11).setCell ⟨b, 12, none⟩ v12).setCell ⟨b, 13, none⟩ v13).setCell ⟨b, 14, none⟩ v14).setCell ⟨b, 15, none⟩ v15) := (((((((((((((((kept_set (F := fun x => x = b) w b 0 v0 rfl).trans (kept_set (F := fun x => x = b) _ b 1 v1 rfl) (fun _ _ z => z)).trans (kept_set (F := fun x => x = b) _ b 2 v2 rfl) (fun _ _ z => z)).trans (kept_set (F := fun x => x = b) _ b 3 v3 rfl) (fun _ _ z => z)).trans (kept_set (F := fun x => x = b) _ b 4 v4 rfl) (fun _ _ z => z)).trans (kept_set (F := fun x => x = b) _ b 5 v5 rfl) (fun _ _ z => z)).trans (kept_set (F := fun x => x = b) _ b 6 v6 rfl) (fun _ _ z => z)).trans (kept_set (F := fun x => x = b) _ b 7 v7 rfl) (fun _ _ z => z)).trans (kept_set (F := fun x => x = b) _ b 8 v8 rfl) (fun _ _ z => z)).trans (kept_set (F := fun x => x = b) _ b 9 v9 rfl) (fun _ _ z => z)).trans (kept_set (F := fun x => x = b) _ b 10 v10 rfl) (fun _ _ z => z)).trans (kept_set (F := fun x => x = b) _ b 11 v11 rfl) (fun _ _ z => z)).trans (kept_set (F := fun x => x = b) _ b 12 v12 rfl) (fun _ _ z => z)).trans (kept_set (F := fun x => x = b) _ b 13 v13 rfl) (fun _ _ z => z)).trans (kept_set (F := fun x => x = b) _ b 14 v14 rfl) (fun _ _ z => z)).trans (kept_set (F := fun x => x = b) _ b 15 v15 rfl) (fun _ _ z => z)
theorem bk_set16 {w : World} {b : Nat} {a0 a1 a2 a3 a4 a5 a6 a7 a8 a9 a10 a11 a12 a13 a14 a15 : Value} (v0 v1 v2 v3 v4 v5 v6 v7 v8 v9 v10 v11 v12 v13 v14 v15 : Value) (h : Bk w b 72 #[a0, a1, a2, a3, a4, a5, a6, a7, a8, a9, a10, a11, a12, a13, a14, a15]) : Bk ((((((((((((((((w.setCell ⟨b, 0, none⟩ v0).setCell ⟨b, 1, none⟩ v1).setCell ⟨b, 2, none⟩ v2).setCell ⟨b, 3, none⟩ v3).setCell ⟨b, 4, none⟩ v4).setCell ⟨b, 5, none⟩ v5).setCell ⟨b, 6, none⟩ v6).setCell ⟨b, 7, none⟩ v7).setCell ⟨b, 8, none⟩ v8).setCell ⟨b, 9, none⟩ v9).setCell ⟨b, 10, none⟩ v10).setCell ⟨b, 11, none⟩ v11).setCell ⟨b, 12, none⟩ v12).setCell ⟨b, 13, none⟩ v13).setCell ⟨b, 14, none⟩ v14).setCell ⟨b, 15, none⟩ v15) b 72 #[v0, v1, v2, v3, v4, v5, v6, v7, v8, v9, v10, v11, v12, v13, v14, v15] := by
  have h0 : Bk (w.setCell ⟨b, 0, none⟩ v0) b 72 #[v0, a1, a2, a3, a4, a5, a6, a7, a8, a9, a10, a11, a12, a13, a14, a15] := h.set 0 v0
  have h1 : Bk _ b 72 #[v0, v1, a2, a3, a4, a5, a6, a7, a8, a9, a10, a11, a12, a13, a14, a15] := h0.set 1 v1
  have h2 : Bk _ b 72 #[v0, v1, v2, a3, a4, a5, a6, a7, a8, a9, a10, a11, a12, a13, a14, a15] := h1.set 2 v2
  have h3 : Bk _ b 72 #[v0, v1, v2, v3, a4, a5, a6, a7, a8, a9, a10, a11, a12, a13, a14, a15] := h2.set 3 v3
  have h4 : Bk _ b 72 #[v0, v1, v2, v3, v4, a5, a6, a7, a8, a9, a10, a11, a12, a13, a14, a15] := h3.set 4 v4
  have h5 : Bk _ b 72 #[v0, v1, v2, v3, v4, v5, a6, a7, a8, a9, a10, a11, a12, a13, a14, a15] := h4.set 5 v5
  have h6 : Bk _ b 72 #[v0, v1, v2, v3, v4, v5, v6, a7, a8, a9, a10, a11, a12, a13, a14, a15] := h5.set 6 v6
  have h7 : Bk _ b 72 #[v0, v1, v2, v3, v4, v5, v6, v7, a8, a9, a10, a11, a12, a13, a14, a15] := h6.set 7 v7
  have h8 : Bk _ b 72 #[v0, v1, v2, v3, v4, v5, v6, v7, v8, a9, a10, a11, a12, a13, a14, a15] := h7.set 8 v8
  have h9 : Bk _ b 72 #[v0, v1, v2, v3, v4, v5, v6, v7, v8, v9, a10, a11, a12, a13, a14, a15] := h8.set 9 v9
  have h10 : Bk _ b 72 #[v0, v1, v2, v3, v4, v5, v6, v7, v8, v9, v10, a11, a12, a13, a14, a15] := h9.set 10 v10
  have h11 : Bk _ b 72 #[v0, v1, v2, v3, v4, v5, v6, v7, v8, v9, v10, v11, a12, a13, a14, a15] := h10.set 11 v11
  have h12 : Bk _ b 72 #[v0, v1, v2, v3, v4, v5, v6, v7, v8, v9, v10, v11, v12, a13, a14, a15] := h11.set 12 v12
  have h13 : Bk _ b 72 #[v0, v1, v2, v3, v4, v5, v6, v7, v8, v9, v10, v11, v12, v13, a14, a15] := h12.set 13 v13
  have h14 : Bk _ b 72 #[v0, v1, v2, v3, v4, v5, v6, v7, v8, v9, v10, v11, v12, v13, v14, a15] := h13.set 14 v14
  have h15 : Bk _ b 72 #[v0, v1, v2, v3, v4, v5, v6, v7, v8, v9, v10, v11, v12, v13, v14, v15] := h14.set 15 v15
  exact h15
theorem load16 {W : World} {b : Nat} {v0 v1 v2 v3 v4 v5 v6 v7 v8 v9 v10 v11 v12 v13 v14 v15 : Value} (h : Bk W b 72 #[v0, v1, v2, v3, v4, v5, v6, v7, v8, v9, v10, v11, v12, v13, v14, v15]) : (loadVar 72 ⟨b, 0, none⟩).run Tryd.prog W = .ok (.agg #[v0, v1, v2, v3, v4, v5, v6, v7, v8, v9, v10, v11, v12, v13, v14, v15]) W := by
  have c0 := h.cell 0 _ rfl
  have c1 := h.cell 1 _ rfl
  have c2 := h.cell 2 _ rfl
  have c3 := h.cell 3 _ rfl
  have c4 := h.cell 4 _ rfl
  have c5 := h.cell 5 _ rfl
  have c6 := h.cell 6 _ rfl
  have c7 := h.cell 7 _ rfl
  have c8 := h.cell 8 _ rfl
  have c9 := h.cell 9 _ rfl
  have c10 := h.cell 10 _ rfl
  have c11 := h.cell 11 _ rfl
  have c12 := h.cell 12 _ rfl
  have c13 := h.cell 13 _ rfl
  have c14 := h.cell 14 _ rfl
  have c15 := h.cell 15 _ rfl
  simp [go_sem, c0, c1, c2, c3, c4, c5, c6, c7, c8, c9, c10, c11, c12, c13, c14, c15]
theorem ret_tct {fn : Func} {p q u : Tmp} (hf : fn.results = #[.tmp q, .cell p 72, .tmp u]) {W : World} {Q : Nat} {x y : Value} {v0 v1 v2 v3 v4 v5 v6 v7 v8 v9 v10 v11 v12 v13 v14 v15 : Value} {tmps : Array Value} (hq : tmps.getD q undef = x) (hp : tmps.getD p undef = .pointer (some ⟨Q, 0, none⟩)) (hu : tmps.getD u undef = y) (h : Bk W Q 72 #[v0, v1, v2, v3, v4, v5, v6, v7, v8, v9, v10, v11, v12, v13, v14, v15]) :
    (results fn tmps).run Tryd.prog W = .ok (.tuple #[x, .agg #[v0, v1, v2, v3, v4, v5, v6, v7, v8, v9, v10, v11, v12, v13, v14, v15], y]) W := by
  have hq' : tmps[q]?.getD undef = x := by simpa using hq
  have hp' : tmps[p]?.getD undef = .pointer (some ⟨Q, 0, none⟩) := by simpa using hp
  have hu' : tmps[u]?.getD undef = y := by simpa using hu
  have := load16 h
  simp [results, hf, hq', hp', hu', asAddr, this]
theorem chV_of {w : World} {b : Nat} {c : Nat → Nat} (h : ChS w b c) : ∃ gu gg : Nat → Nat, (∀ k, k < 8 → w.cell? ⟨b, k, none⟩ = some (.int .u64 ((gu k : Nat) : Int))) ∧ (∀ k, k < 8 → w.cell? ⟨b, 8 + k, none⟩ = some (.int .u64 ((gg k : Nat) : Int))) ∧ ChV #[.int .u64 ((gu 0 : Nat) : Int), .int .u64 ((gu 1 : Nat) : Int), .int .u64 ((gu 2 : Nat) : Int), .int .u64 ((gu 3 : Nat) : Int), .int .u64 ((gu 4 : Nat) : Int), .int .u64 ((gu 5 : Nat) : Int), .int .u64 ((gu 6 : Nat) : Int), .int .u64 ((gu 7 : Nat) : Int), .int .u64 ((gg 0 : Nat) : Int), .int .u64 ((gg 1 : Nat) : Int), .int .u64 ((gg 2 : Nat) : Int), .int .u64 ((gg 3 : Nat) : Int), .int .u64 ((gg 4 : Nat) : Int), .int .u64 ((gg 5 : Nat) : Int), .int .u64 ((gg 6 : Nat) : Int), .int .u64 ((gg 7 : Nat) : Int)] c := by
  obtain ⟨gu, h1, h2⟩ := h.row.used
  obtain ⟨gg, h3, h4⟩ := h.row.gone
  refine ⟨gu, gg, fun k hk => by have := h1.cell k hk; rwa [Nat.zero_add] at this, fun k hk => h3.cell k hk, fun W b' hB => ⟨⟨⟨gu, ⟨fun k hk => ?_, fun k hk => hB.fz _, h1.fit⟩, h2⟩, ⟨gg, ⟨fun k hk => ?_, fun k hk => hB.fz _, h3.fit⟩, h4⟩⟩, h.lo, h.hi⟩⟩
  · have q : k = 0 ∨ k = 1 ∨ k = 2 ∨ k = 3 ∨ k = 4 ∨ k = 5 ∨ k = 6 ∨ k = 7 := by omega
    rcases q with rfl | rfl | rfl | rfl | rfl | rfl | rfl | rfl <;> exact hB.cell _ _ rfl
  · have q : k = 0 ∨ k = 1 ∨ k = 2 ∨ k = 3 ∨ k = 4 ∨ k = 5 ∨ k = 6 ∨ k = 7 := by omega
    rcases q with rfl | rfl | rfl | rfl | rfl | rfl | rfl | rfl <;> exact hB.cell _ _ rfl
/-- What lastIdle answers. -/
def LastT (st : Nat → Nat) (w : World) (e : Ending) (w' : World) : Prop :=
  (((∀ q, st q ≠ 2) ∧ e = .returned (.tuple #[.int .u64 0, .agg zs16, .bool false])) ∨
   ∃ (i : Nat) (gu gg c : Nat → Nat), (i + 1) * 512 ≤ 34359738368 ∧ ChV #[.int .u64 ((gu 0 : Nat) : Int), .int .u64 ((gu 1 : Nat) : Int), .int .u64 ((gu 2 : Nat) : Int), .int .u64 ((gu 3 : Nat) : Int), .int .u64 ((gu 4 : Nat) : Int), .int .u64 ((gu 5 : Nat) : Int), .int .u64 ((gu 6 : Nat) : Int), .int .u64 ((gu 7 : Nat) : Int), .int .u64 ((gg 0 : Nat) : Int), .int .u64 ((gg 1 : Nat) : Int), .int .u64 ((gg 2 : Nat) : Int), .int .u64 ((gg 3 : Nat) : Int), .int .u64 ((gg 4 : Nat) : Int), .int .u64 ((gg 5 : Nat) : Int), .int .u64 ((gg 6 : Nat) : Int), .int .u64 ((gg 7 : Nat) : Int)] c ∧ (∀ k, k < 512 → c k = st (512 * i + k)) ∧ (∃ k, k < 512 ∧ c k = 2) ∧ (∀ q, (i + 1) * 512 ≤ q → st q ≠ 2) ∧ e = .returned (.tuple #[.int .u64 (i : Nat), .agg #[.int .u64 ((gu 0 : Nat) : Int), .int .u64 ((gu 1 : Nat) : Int), .int .u64 ((gu 2 : Nat) : Int), .int .u64 ((gu 3 : Nat) : Int), .int .u64 ((gu 4 : Nat) : Int), .int .u64 ((gu 5 : Nat) : Int), .int .u64 ((gu 6 : Nat) : Int), .int .u64 ((gu 7 : Nat) : Int), .int .u64 ((gg 0 : Nat) : Int), .int .u64 ((gg 1 : Nat) : Int), .int .u64 ((gg 2 : Nat) : Int), .int .u64 ((gg 3 : Nat) : Int), .int .u64 ((gg 4 : Nat) : Int), .int .u64 ((gg 5 : Nat) : Int), .int .u64 ((gg 6 : Nat) : Int), .int .u64 ((gg 7 : Nat) : Int)], .bool true])) ∧ Below w.heap.size w w'
set_option maxRecDepth 100000 in
set_option maxHeartbeats 8000000 in
theorem lastIdle_core {w : World} {T : Tid} {L : Lv} {C : Ch} {st : Nat → Nat} (h : Tree w T L C st) :
    Calls Tryd.prog 25 #[tp T] w (LastT st w) := by
  obtain ⟨R, hR⟩ : ∃ R, R = LastT st w := ⟨_, rfl⟩
  rw [← hR]
  have HR := hide hR
  obtain ⟨N, hN⟩ : ∃ N, w.heap.size = N := ⟨_, rfl⟩
  have HN := hide hN
  have HH := hide h
  obtain ⟨V, hV⟩ : ∃ V, w.alloc (.cells zs16 72) = V := ⟨_, rfl⟩
  have bV : Below N w V := by rw [← hV, ← hN]; exact grown1 w _
  have k0 : Bk V N 72 zs16 := by rw [← hV, ← hN]; exact World.alloc_heap_new w _
  have BV := hide bV
  have K0 := hide k0
  have RV := hide (h.rad.below (show Below w.heap.size w V from by rw [hN]; exact bV))
  have CT := hide (top_any RV.out)
  obtain ⟨r0, hr0⟩ : ∃ r0, row L 0 0 0 = r0 := ⟨_, rfl⟩
  rw [hr0] at CT
  have G0 := hide (show Rx.Good L C st (6 - 0) 0 0 r0 from by rw [← hr0]; exact h.good)
  unfold tp at CT ⊢
  unfold rwV at CT
  unfold zs16 at hV
  clear hR h bV k0 hr0
  refine (callsIn_wide (n := 3)).1 ?_
  refine callsIn_of_wp_marks Tryd.func25 rfl trivial ?_ rfl
  simp only [Tryd.ntmps25, List.size_toArray, List.length_cons, List.length_nil, Nat.reduceAdd, Nat.reduceSub, Array.replicate_succ, Array.replicate_zero, List.push_toArray, List.append_toArray, List.nil_append, List.cons_append]
  gi_wp2_with fail
  refine wcall2 CT.out ?_
  rintro e w1 ⟨rfl, b1⟩
  obtain ⟨I, hI⟩ : ∃ I, w1.heap.size = I := ⟨_, rfl⟩
  obtain ⟨X0, hX0⟩ : ∃ X0, (w1.alloc (.cells #[.int .u64 0] 23)).alloc (.cells #[.int .u64 (r0.t.p : Nat), .int .u64 (r0.t.f : Nat), .int .u64 (r0.t.r : Nat), .int .i64 (r0.s : Nat), .int .i64 (r0.m : Nat), .int .i64 (r0.e : Nat), .int .i64 (r0.rest : Nat)] 84) = X0 := ⟨_, rfl⟩
  have bX : Below w1.heap.size w1 X0 := by rw [← hX0]; exact ((Below.refl _ w1).alloc (Nat.le_refl _) _).alloc (by simp) _
  have nI : N + 1 ≤ I := by have := K0.out.lt; have := b1.size; omega
  have b2 : Below V.heap.size V X0 := b1.trans (bX.mono b1.size)
  have rzX := K0.out.below b2
  have beX := BV.out.trans (b2.mono (by have := K0.out.lt; omega))
  have ibX : Bk X0 I 23 #[.int .u64 ((0 : Nat) : Int)] := by unfold Bk; rw [← hX0, alloc_at, if_neg (by simp; omega), alloc_at, if_pos hI.symm]; rfl
  have rbX : Bk X0 (I + 1) 84 #[.int .u64 (r0.t.p : Nat), .int .u64 (r0.t.f : Nat), .int .u64 (r0.t.r : Nat), .int .i64 (r0.s : Nat), .int .i64 (r0.m : Nat), .int .i64 (r0.e : Nat), .int .i64 (r0.rest : Nat)] := by unfold Bk; rw [← hX0, alloc_at, if_pos (by simp; omega)]
  have e0 : sz 0 = 34359738368 := rfl
  have tf : r0.t = tl st 0 34359738368 := by have h := G0.out.fact.1; rwa [Nat.zero_mul, e0] at h
  have c1 := rbX.cell 1 _ rfl
  have c2 := rbX.cell 2 _ rfl
  have l1 := rbX.lt
  have RX := hide (RV.out.below b2)
  have RZ := hide rzX
  have BE := hide beX
  have IB := hide ibX
  have RB := hide rbX
  have TF := hide tf
  clear bX b1 b2 CT rzX beX ibX rbX tf K0 BV RV
  by_cases hfr : r0.t.f = r0.t.r
  · have d1 : ((r0.t.f : Int) == (r0.t.r : Int)) = true := beq_iff_eq.2 (by omega)
    have NO := hide (show ∀ q, st q ≠ 2 from fun q => by
      rcases Nat.lt_or_ge q 34359738368 with y | y
      · exact no_idle 34359738368 (a := 0) (by rw [← TF.out]; omega) q (by omega) (by omega)
      · rw [HH.out.out q y]; decide)
    have zf := frozen16 RZ.out.fz
    obtain ⟨z0, z1, z2, z3, z4, z5, z6, z7, z8, z9, z10, z11, z12, z13, z14, z15⟩ := zf
    have kz : Bk X0 N 72 #[.int .u64 0, .int .u64 0, .int .u64 0, .int .u64 0, .int .u64 0, .int .u64 0, .int .u64 0, .int .u64 0, .int .u64 0, .int .u64 0, .int .u64 0, .int .u64 0, .int .u64 0, .int .u64 0, .int .u64 0, .int .u64 0] := RZ.out
    have y0 := kz.cell 0 _ rfl
    have y1 := kz.cell 1 _ rfl
    have y2 := kz.cell 2 _ rfl
    have y3 := kz.cell 3 _ rfl
    have y4 := kz.cell 4 _ rfl
    have y5 := kz.cell 5 _ rfl
    have y6 := kz.cell 6 _ rfl
    have y7 := kz.cell 7 _ rfl
    have y8 := kz.cell 8 _ rfl
    have y9 := kz.cell 9 _ rfl
    have y10 := kz.cell 10 _ rfl
    have y11 := kz.cell 11 _ rfl
    have y12 := kz.cell 12 _ rfl
    have y13 := kz.cell 13 _ rfl
    have y14 := kz.cell 14 _ rfl
    have y15 := kz.cell 15 _ rfl
    have lz := kz.lt
    have KZ := hide kz
    have D1 := hide d1
    clear hfr kz d1
    gi_wp2_with fail
    try rw [hX0]
    have d1 := D1.out
    gi_wp2_with fail
    have fin := bk_set16 (.int .u64 0) (.int .u64 0) (.int .u64 0) (.int .u64 0) (.int .u64 0) (.int .u64 0) (.int .u64 0) (.int .u64 0) (.int .u64 0) (.int .u64 0) (.int .u64 0) (.int .u64 0) (.int .u64 0) (.int .u64 0) (.int .u64 0) (.int .u64 0) KZ.out
    have kk := kset16 X0 N
    exact ⟨_, ret_tct Tryd.results25 rfl rfl rfl fin, by
      rw [HR.out]
      exact ⟨.inl ⟨NO.out, rfl⟩, by rw [HN.out]; exact below_kept BE.out kk (fun x hx => by omega) (by omega)⟩⟩
    have hx : ((r0.t.f : Int) == (r0.t.r : Int)) = false := by assumption
    rw [D1.out] at hx
    cases hx
  · have d1 : ((r0.t.f : Int) == (r0.t.r : Int)) = false := beq_eq_false_iff_ne.2 (by omega)
    have has : r0.t.r < r0.t.f := by
      have h := (tl_order st 0 34359738368).1
      rw [← TF.out] at h
      omega
    have I0 := hide (show LD N I w T L C st 0 0 r0 [] zs16 X0 from ⟨BE.out, RZ.out, IB.out, RB.out, RX.out, G0.out, by rw [e0]; decide, has, fun q hq => by rw [e0] at hq; rw [HH.out.out q (by omega)]; decide, Marks.nil _ _⟩)
    clear has hfr
    gi_wp2_with fail
    refine wpIn_loop (fun a' w' => ∃ (k i : Nat) (r : Rw) (l : List Nat) (u7 u21 u22 u23 u24 u25 u26 u27 u28 u40 : Value), k ≤ 6 ∧ Hid (LD N I w T L C st k i r l zs16 w') ∧ a' = { tmps := #[.pointer (some ⟨T.tb, 0, none⟩), undef, .int .u64 0, .pointer (some ⟨N, 0, none⟩), .bool false, .pointer (some ⟨I, 0, none⟩), .pointer (some ⟨I + 1, 0, none⟩), u7, undef, undef, .pointer (some ⟨T.tb, 0, none⟩), .agg #[.int .u64 (r0.t.p : Nat), .int .u64 (r0.t.f : Nat), .int .u64 (r0.t.r : Nat), .int .i64 (r0.s : Nat), .int .i64 (r0.m : Nat), .int .i64 (r0.e : Nat), .int .i64 (r0.rest : Nat)], .pointer (some ⟨I + 1, 0, none⟩), .pointer (some ⟨I + 1, 1, none⟩), .int .u64 (r0.t.f : Nat), .pointer (some ⟨I + 1, 0, none⟩), .pointer (some ⟨I + 1, 2, none⟩), .int .u64 (r0.t.r : Nat), .bool false, undef, .int .i64 (k : Int), u21, u22, u23, u24, u25, u26, u27, u28, undef, undef, undef, undef, undef, undef, undef, undef, undef, undef, undef, u40, undef, undef, undef, undef, undef, undef, undef, undef], defers := marks l }) (fun a' _ => 6 - (intOf (a'.tmps.getD 20 undef)).toNat) ⟨0, 0, r0, [], undef, undef, undef, undef, undef, undef, undef, undef, undef, undef, by omega, I0, rfl⟩ ?_
    rintro a' X ⟨k, i, r, l, u7, u21, u22, u23, u24, u25, u26, u27, u28, u40, hk, HF, rfl⟩
    clear I0 hX0 c1 c2 l1 RX RZ BE IB RB TF
    by_cases k6 : k = 6
    · subst k6
      have d6 : decide ((6 : Int) < 6) = false := by decide
      simp only [Int.cast_ofNat_Int]
      have e6 : sz 6 = 512 := rfl
      have ib6 : i < 67108864 := by have := HF.out.hi; rw [e6] at this; omega
      have CHK := hide (show ∀ Y, Below X.heap.size X Y → Calls Tryd.prog 42 #[.pointer (some ⟨T.tb, 0, none⟩), .int .u64 (i : Nat), .int .i64 (r.rest : Nat)] Y fun e W' => ∃ blk c, e = .returned (.pointer (some ⟨blk, 0, none⟩)) ∧ ChS W' blk c ∧ (∀ k, k < 512 → c k = st (512 * i + k)) ∧ Below Y.heap.size Y W' from fun Y hY => by
        have rY := HF.out.rad.below hY
        have g6 : Rx.Good L C st 0 6 i r := HF.out.gd
        cases ha : al r.t (sz 6) with
        | none =>
          obtain ⟨blk, c, hc, hcs⟩ := g6.chunk ha
          refine (chunk_kept rY i r.rest (by omega) hc).mono ?_
          rintro e W' ⟨he, hw⟩
          exact ⟨blk, c, he, by rw [hw]; exact rY.ch i blk c hc, hcs, by rw [hw]; exact Below.refl _ _⟩
        | some s =>
          have hev := g6.even ha
          have hall := g6.all HH.out.four ha
          have hcn := (g6.2.1 s ha).2
          have hs2 : s = 2 := by
            have h1 := HF.out.has
            have h3 := (al_some ha).1
            rw [hev] at h1
            unfold Rx.even tlOf at h1
            dsimp only at h1
            by_cases z : 2 ≤ s
            · by_cases y : s = 3
              · rw [if_pos z, if_pos y] at h1; omega
              · omega
            · rw [if_neg z] at h1; omega
          subst hs2
          have hrest : r.rest = 2 := by rw [hev]; rfl
          rw [hrest]
          refine (chunk_new rY i 2 (by omega) (by omega) hcn).mono ?_
          rintro e W' ⟨he, hch, hb⟩
          exact ⟨Y.heap.size, _, he, hch, fun k hk => (hall _ (by rw [e6]; omega) (by rw [e6]; omega)).symm, hb⟩)
      have HSO := hide (show ∃ k, k < 512 ∧ st (512 * i + k) = 2 from by
        have h1 := HF.out.has
        rw [HF.out.gd.fact.1] at h1
        obtain ⟨q, q1, q2, q3⟩ := some_idle HH.out.four h1
        rw [e6] at q1 q2
        exact ⟨q - 512 * i, by omega, by rw [show 512 * i + (q - 512 * i) = q by omega]; exact q3⟩)
      have lN := HF.out.rz.lt
      gi_wp2_with fail
      refine norm_only ?_
      refine region_held (ro := none) (S := fun Y => Kept (fun x => x = N) X Y) (by kernel_rfl) (by kernel_rfl) ?_
      have hHeld : Kept (fun x => x = N) X X.drew := Kept.of_below (drew_below _)
      refine wpAnyH_take (i := 0) (oi := _) (v := ?_) rfl (by kernel_rfl) (by kernel_rfl) (by kernel_rfl) (fun _ _ _ h => by cases h.2.1) (Or.inl ⟨by rfl, ?_⟩) (by assumption) ?_
      rotate_left
      · (intro Y hSw; have s0 := (HF.out.ib.kept hSw (by omega)).cell 0 _ rfl; go_simp; try with_reducible rfl)
      try simp only [Act.put, List.setIfInBounds_toArray, List.set_cons_zero, List.set_cons_succ]
      refine wpAnyH_take (i := 1) (oi := _) (v := ?_) rfl (by kernel_rfl) (by kernel_rfl) (by kernel_rfl) (fun _ _ _ h => by cases h.2.1) (Or.inl ⟨by rfl, ?_⟩) (by assumption) ?_
      rotate_left
      · (intro Y hSw; go_simp; try with_reducible rfl)
      try simp only [Act.put, List.setIfInBounds_toArray, List.set_cons_zero, List.set_cons_succ]
      refine wpAnyH_take (i := 2) (oi := _) (v := ?_) rfl (by kernel_rfl) (by kernel_rfl) (by kernel_rfl) (fun _ _ _ h => by cases h.2.1) (Or.inl ⟨by rfl, ?_⟩) (by assumption) ?_
      rotate_left
      · (intro Y hSw; have s0 := (HF.out.ib.kept hSw (by omega)).cell 0 _ rfl; go_simp; try with_reducible rfl)
      try simp only [Act.put, List.setIfInBounds_toArray, List.set_cons_zero, List.set_cons_succ]
      refine wpAnyH_take (i := 3) (oi := _) (v := ?_) rfl (by kernel_rfl) (by kernel_rfl) (by kernel_rfl) (fun _ _ _ h => by cases h.2.1) (Or.inl ⟨by rfl, ?_⟩) (by assumption) ?_
      rotate_left
      · (intro Y hSw; go_simp; try with_reducible rfl)
      try simp only [Act.put, List.setIfInBounds_toArray, List.set_cons_zero, List.set_cons_succ]
      refine wpAnyH_take (i := 4) (oi := _) (v := ?_) rfl (by kernel_rfl) (by kernel_rfl) (by kernel_rfl) (fun _ _ _ h => by cases h.2.1) (Or.inl ⟨by rfl, ?_⟩) (by assumption) ?_
      rotate_left
      · (intro Y hSw; have s0 := (HF.out.rb.kept hSw (by omega)).cell 6 _ rfl; go_simp; try with_reducible rfl)
      try simp only [Act.put, List.setIfInBounds_toArray, List.set_cons_zero, List.set_cons_succ]
      refine wpAnyH_ready (rs := [5]) (by kernel_rfl) (by simp) ?_
      refine AllReadyH.cons (o := ⟨some 46, _, _, _, _, _⟩) rfl (fun K hK => ?_) AllReadyH.nil
      go_simp
      refine (CHK.out X.drew (drew_below _)).mono ?_
      rintro e W' ⟨blk, c, rfl, hch, hcs, bW⟩
      have BW := hide bW
      have HCS := hide hcs
      obtain ⟨gu, gg, cu, cg, hCV⟩ := chV_of hch
      have HCV := hide hCV
      have lb := hch.lt
      have a0 := cu 0 (by omega)
      have a1 := cu 1 (by omega)
      have a2 := cu 2 (by omega)
      have a3 := cu 3 (by omega)
      have a4 := cu 4 (by omega)
      have a5 := cu 5 (by omega)
      have a6 := cu 6 (by omega)
      have a7 := cu 7 (by omega)
      have a8 := cg 0 (by omega)
      have a9 := cg 1 (by omega)
      have a10 := cg 2 (by omega)
      have a11 := cg 3 (by omega)
      have a12 := cg 4 (by omega)
      have a13 := cg 5 (by omega)
      have a14 := cg 6 (by omega)
      have a15 := cg 7 (by omega)
      simp only [Nat.reduceAdd] at a8 a9 a10 a11 a12 a13 a14 a15
      have bX' : Below X.heap.size X W' := (drew_below X).trans (bW.mono (drew_below X).size)
      have L7 := hide (HF.out.kept (F := fun _ => False) (Kept.of_below bX') HH.out.rad HN.out nI (fun _ z => z.elim))
      refine hK.out _ _ (hHeld.trans (Kept.of_below (F := fun x => x = N) bW) (fun _ _ z => z)) (fun hHeld => ?_)
      clear hK K bW hcs hCV hch cu cg bX'
      try simp only [Act.put, List.setIfInBounds_toArray, List.set_cons_zero, List.set_cons_succ]
      refine wpAnyH_take (i := 8) (oi := ⟨some 2, _, _, _, _, _⟩) (v := ?_) rfl (by kernel_rfl) (by kernel_rfl) (by kernel_rfl) (fun _ _ _ h => by cases h.2.1) (Or.inl ⟨by rfl, ?_⟩) (by assumption) ?_
      rotate_left
      · (intro Y hSw; go_simp; try with_reducible rfl)
      try simp only [Act.put, List.setIfInBounds_toArray, List.set_cons_zero, List.set_cons_succ]
      refine wpAnyH_take (i := 6) (oi := ⟨some 47, _, _, _, _, _⟩) (v := ?_) rfl (by kernel_rfl) (by kernel_rfl) (by kernel_rfl) (fun _ _ _ h => by cases h.2.1) (Or.inl ⟨by rfl, ?_⟩) (by assumption) ?_
      rotate_left
      · (intro Y hSw; go_simp; try with_reducible rfl)
      try simp only [Act.put, List.setIfInBounds_toArray, List.set_cons_zero, List.set_cons_succ]
      refine wpAnyH_ready (rs := [7]) (by kernel_rfl) (by simp) ?_
      refine AllReadyH.cons (o := ⟨some 48, _, _, _, _, _⟩) rfl (fun K hK => ?_) AllReadyH.nil
      go_simp
      refine hK.out _ _ hHeld (fun hHeld => ?_)
      clear hK K
      try simp only [Act.put, List.setIfInBounds_toArray, List.set_cons_zero, List.set_cons_succ]
      have kz : Bk W' N 72 #[.int .u64 0, .int .u64 0, .int .u64 0, .int .u64 0, .int .u64 0, .int .u64 0, .int .u64 0, .int .u64 0, .int .u64 0, .int .u64 0, .int .u64 0, .int .u64 0, .int .u64 0, .int .u64 0, .int .u64 0, .int .u64 0] := L7.out.rz
      clear a0 a1 a2 a3 a4 a5 a6 a7 a8 a9 a10 a11 a12 a13 a14 a15
      obtain ⟨z0, z1, z2, z3, z4, z5, z6, z7, z8, z9, z10, z11, z12, z13, z14, z15⟩ := frozen16 kz.fz
      have y0 := kz.cell 0 _ rfl
      have y1 := kz.cell 1 _ rfl
      have y2 := kz.cell 2 _ rfl
      have y3 := kz.cell 3 _ rfl
      have y4 := kz.cell 4 _ rfl
      have y5 := kz.cell 5 _ rfl
      have y6 := kz.cell 6 _ rfl
      have y7 := kz.cell 7 _ rfl
      have y8 := kz.cell 8 _ rfl
      have y9 := kz.cell 9 _ rfl
      have y10 := kz.cell 10 _ rfl
      have y11 := kz.cell 11 _ rfl
      have y12 := kz.cell 12 _ rfl
      have y13 := kz.cell 13 _ rfl
      have y14 := kz.cell 14 _ rfl
      have y15 := kz.cell 15 _ rfl
      have lz := kz.lt
      have KZ := hide kz
      have kk := kset16v W' N (.int .u64 ((gu 0 : Nat) : Int)) (.int .u64 ((gu 1 : Nat) : Int)) (.int .u64 ((gu 2 : Nat) : Int)) (.int .u64 ((gu 3 : Nat) : Int)) (.int .u64 ((gu 4 : Nat) : Int)) (.int .u64 ((gu 5 : Nat) : Int)) (.int .u64 ((gu 6 : Nat) : Int)) (.int .u64 ((gu 7 : Nat) : Int)) (.int .u64 ((gg 0 : Nat) : Int)) (.int .u64 ((gg 1 : Nat) : Int)) (.int .u64 ((gg 2 : Nat) : Int)) (.int .u64 ((gg 3 : Nat) : Int)) (.int .u64 ((gg 4 : Nat) : Int)) (.int .u64 ((gg 5 : Nat) : Int)) (.int .u64 ((gg 6 : Nat) : Int)) (.int .u64 ((gg 7 : Nat) : Int))
      have KK := hide kk
      clear kz
      refine wpAnyH_ready (rs := [9]) (by kernel_rfl) (by simp) ?_
      refine AllReadyH.cons (o := ⟨none, _, _, _, _, _⟩) rfl (fun K hK => ?_) AllReadyH.nil
      go_simp
      refine hK.out _ _ (hHeld.trans kk (fun _ _ z => z)) (fun hHeld => ?_)
      clear hK K
      try simp only [Act.put, List.setIfInBounds_toArray, List.set_cons_zero, List.set_cons_succ]
      refine wpAnyH_take (i := 10) (oi := ⟨some 4, _, _, _, _, _⟩) (v := ?_) rfl (by kernel_rfl) (by kernel_rfl) (by kernel_rfl) (fun _ _ _ h => by cases h.2.1) (Or.inl ⟨by rfl, ?_⟩) (by assumption) ?_
      rotate_left
      · (intro Y hSw; go_simp; try with_reducible rfl)
      try simp only [Act.put, List.setIfInBounds_toArray, List.set_cons_zero, List.set_cons_succ]
      refine wpAnyH_done (by kernel_rfl) ⟨(fun z => by cases z), rfl, ?_⟩ _
      have fin := bk_set16 (.int .u64 ((gu 0 : Nat) : Int)) (.int .u64 ((gu 1 : Nat) : Int)) (.int .u64 ((gu 2 : Nat) : Int)) (.int .u64 ((gu 3 : Nat) : Int)) (.int .u64 ((gu 4 : Nat) : Int)) (.int .u64 ((gu 5 : Nat) : Int)) (.int .u64 ((gu 6 : Nat) : Int)) (.int .u64 ((gu 7 : Nat) : Int)) (.int .u64 ((gg 0 : Nat) : Int)) (.int .u64 ((gg 1 : Nat) : Int)) (.int .u64 ((gg 2 : Nat) : Int)) (.int .u64 ((gg 3 : Nat) : Int)) (.int .u64 ((gg 4 : Nat) : Int)) (.int .u64 ((gg 5 : Nat) : Int)) (.int .u64 ((gg 6 : Nat) : Int)) (.int .u64 ((gg 7 : Nat) : Int)) KZ.out
      clear y0 z0 y1 z1 y2 z2 y3 z3 y4 z4 y5 z5 y6 z6 y7 z7 y8 z8 y9 z9 y10 z10 y11 z11 y12 z12 y13 z13 y14 z14 y15 z15 hHeld
      have FINB := hide fin
      clear fin kk
      generalize ((((((((((((((((W'.setCell ⟨N, 0, none⟩ (.int .u64 ((gu 0 : Nat) : Int))).setCell ⟨N, 1, none⟩ (.int .u64 ((gu 1 : Nat) : Int))).setCell ⟨N, 2, none⟩ (.int .u64 ((gu 2 : Nat) : Int))).setCell ⟨N, 3, none⟩ (.int .u64 ((gu 3 : Nat) : Int))).setCell ⟨N, 4, none⟩ (.int .u64 ((gu 4 : Nat) : Int))).setCell ⟨N, 5, none⟩ (.int .u64 ((gu 5 : Nat) : Int))).setCell ⟨N, 6, none⟩ (.int .u64 ((gu 6 : Nat) : Int))).setCell ⟨N, 7, none⟩ (.int .u64 ((gu 7 : Nat) : Int))).setCell ⟨N, 8, none⟩ (.int .u64 ((gg 0 : Nat) : Int))).setCell ⟨N, 9, none⟩ (.int .u64 ((gg 1 : Nat) : Int))).setCell ⟨N, 10, none⟩ (.int .u64 ((gg 2 : Nat) : Int))).setCell ⟨N, 11, none⟩ (.int .u64 ((gg 3 : Nat) : Int))).setCell ⟨N, 12, none⟩ (.int .u64 ((gg 4 : Nat) : Int))).setCell ⟨N, 13, none⟩ (.int .u64 ((gg 5 : Nat) : Int))).setCell ⟨N, 14, none⟩ (.int .u64 ((gg 6 : Nat) : Int))).setCell ⟨N, 15, none⟩ (.int .u64 ((gg 7 : Nat) : Int))) = Y7 at *
      gi_wp2_with fail
      try simp only [Act.put, List.setIfInBounds_toArray, List.set_cons_zero, List.set_cons_succ]
      have fin := FINB.out
      have mk := L7.out.mks.kept KK.out (fun D hD z => by have := (L7.out.mks.at' D hD).2; omega)
      have bz := below_kept L7.out.be KK.out (fun x hx => by omega) (by omega)
      refine leaves_marks l _ mk (fun X' kx => ?_)
      have fin2 := fin.kept kx (fun z => by have := (mk.at' _ z).2; omega)
      refine ⟨_, ret_tct (x := .int .u64 (i : Nat)) (y := .bool true) Tryd.results25 (by rfl) (by rfl) (by rfl) fin2, ?_⟩
      rw [HR.out]
      obtain ⟨k, hk1, hk2⟩ := HSO.out
      exact ⟨.inr ⟨i, gu, gg, c, by omega, HCV.out, HCS.out, ⟨k, hk1, by rw [HCS.out k hk1]; exact hk2⟩, fun q hq => HF.out.above q (by rw [e6]; exact hq), rfl⟩, by rw [HN.out]; exact below_kept bz kx (fun x hx => by have := (mk.at' x hx).2; omega) (by have := fin.lt; omega)⟩
    · have k6' : k < 6 := by omega
      have d6 : decide (k < 6) = true := decide_eq_true k6'
      have kz : (k : Int) < 6 := by omega
      have kz0 : (0 : Int) ≤ (k : Int) := by omega
      obtain ⟨G, hG⟩ : ∃ G, X.heap.size = G := ⟨_, rfl⟩
      have LQ := hide (show ∀ D, D ∈ l → D < G from fun D hD => by have := HF.out.mks.lt hD; omega)
      have iG : I + 2 ≤ G := by have := HF.out.rb.lt; omega
      obtain ⟨Z, hZ⟩ : ∃ Z, (((X.alloc (.cells #[tp T] 24)).alloc (.cells #[.int .i64 (k : Nat)] 3)).alloc (.cells #[.int .u64 (i : Nat)] 23)).alloc (.cells #[.int .i64 (r.rest : Nat)] 63) = Z := ⟨_, rfl⟩
      have sZ : Z.heap.size = G + 4 := by rw [← hZ]; simp; omega
      have bZ : Below X.heap.size X Z := by rw [← hZ]; exact ((((Below.refl _ X).alloc (Nat.le_refl _) _).alloc (by simp) _).alloc (by simp; omega) _).alloc (by simp; omega) _
      have p1 : Z.heap[G]? = some (.cells #[tp T] 24 (0, 0)) := by rw [← hZ, alloc_at, if_neg (by simp; omega), alloc_at, if_neg (by simp; omega), alloc_at, if_neg (by simp; omega), alloc_at, if_pos (by omega)]
      have p2 : Z.heap[G + 1]? = some (.cells #[.int .i64 (k : Nat)] 3 (0, 0)) := by rw [← hZ, alloc_at, if_neg (by simp; omega), alloc_at, if_neg (by simp; omega), alloc_at, if_pos (by simp; omega)]
      have p3 : Z.heap[G + 2]? = some (.cells #[.int .u64 (i : Nat)] 23 (0, 0)) := by rw [← hZ, alloc_at, if_neg (by simp; omega), alloc_at, if_pos (by simp; omega)]
      have p4 : Z.heap[G + 3]? = some (.cells #[.int .i64 (r.rest : Nat)] 63 (0, 0)) := by rw [← hZ, alloc_at, if_pos (by simp; omega)]
      have hr := HF.out.gd.fact.2.2
      have I1 := hide (show LB N I G w T L C st k i r l zs16 0 Z from by
        have fz := HF.out.kept (F := fun _ => False) (Kept.of_below bZ) HH.out.rad HN.out nI (fun _ z => z.elim)
        exact ⟨fz.be, fz.rz, ⟨i, r, LastB.zero _ _ _ _, fz.ib, fz.rb⟩, ⟨p2, p3, p1, p4, fz.rad⟩, fz.mks⟩)
      have CB := hide (below_any T k i r.rest X)
      rw [hG] at CB
      have SEQ := hide (below_seq (G + 1) (G + 2) G (G + 3) k i r.rest T L C k6' HF.out.hi hr (3 - 1))
      have HZ := hide hZ
      have c4 := HF.out.ib.cell 0 _ rfl
      have c5 := HF.out.rb.cell 6 _ rfl
      have l4 := HF.out.ib.lt
      have l5 := HF.out.rb.lt
      unfold tp at CB HZ
      clear bZ p1 p2 p3 p4 hZ k6
      gi_wp2_with fail
      refine wcall2 CB.out ?_
      rintro e w8 ⟨rfl, hw8⟩
      rw [HZ.out] at hw8
      rw [hw8]
      simp only [Nat.add_assoc, Nat.reduceAdd]
      clear hw8 w8 CB HZ c4 c5 l4 l5
      gi_wp2_with fail
      refine range_K (w := Z) rfl (enters_of Tryd.func62 (by kernel_rfl) rfl) SEQ.out (fun _ => rfl) (LB N I G w T L C st k i r l zs16) (fun c j Y => False) (fun s Y h => h.rd) ?hI ?hIx I1.out ?round ?done ?stop
      case hI =>
        intro s Y Y' h kk
        exact h.kept kk HH.out.rad HN.out nI iG LQ.out (fun x hx => by rw [sZ] at hx; omega)
      case hIx => rintro c s Y Y' h kk; exact h
      case stop => rintro c j Y hj h; exact h.elim
      case round =>
        rintro j Y ⟨r1, hr1⟩ hdf hsz h hk
        rw [sZ] at hr1 hdf hsz ⊢
        have HI := hide h
        clear h hr1 hdf
        unfold encsB rwV
        obtain ⟨q, hq⟩ : ∃ q, row L (k + 1) (fan k * i + j) r.rest = q := ⟨_, rfl⟩
        rw [hq]
        have HQQ := hide hq
        obtain ⟨J, hJ⟩ : ∃ J : Nat, fan k * i + j = J := ⟨_, rfl⟩
        rw [hJ]
        have HJ := hide hJ
        clear hq hJ
        obtain ⟨B1, hB1⟩ : ∃ B1, Y.heap.size = B1 := ⟨_, rfl⟩
        obtain ⟨Y1, hY1⟩ : ∃ Y1, Y.alloc (.cells #[.int .u64 (q.t.p : Nat), .int .u64 (q.t.f : Nat), .int .u64 (q.t.r : Nat), .int .i64 (q.s : Nat), .int .i64 (q.m : Nat), .int .i64 (q.e : Nat), .int .i64 (q.rest : Nat)] 84) = Y1 := ⟨_, rfl⟩
        have b1 : Below Y.heap.size Y Y1 := by rw [← hY1]; exact grown1 Y _
        have f1 : Bk Y1 B1 84 #[.int .u64 (q.t.p : Nat), .int .u64 (q.t.f : Nat), .int .u64 (q.t.r : Nat), .int .i64 (q.s : Nat), .int .i64 (q.m : Nat), .int .i64 (q.e : Nat), .int .i64 (q.rest : Nat)] := by rw [← hY1, ← hB1]; exact World.alloc_heap_new Y _
        have BB1 := hide b1
        have F1 := hide f1
        clear b1 f1
        gi_wp2_with fail
        clear hY1
        refine ⟨Kept.of_below BB1.out, fun r2 => ?_⟩
        have kp := Kept.put (F := fun b => b = G + 5) Y1 (G + 4 + 1) (.loop r2) rfl
        obtain ⟨Y3, hY2⟩ : ∃ Y2, Y1.putObj (G + 4 + 1) (.loop r2) = Y2 := ⟨_, rfl⟩
        rw [hY2] at kp ⊢
        have I4 := hide ((HI.out.kept (F := fun _ => False) (Kept.of_below BB1.out) HH.out.rad HN.out nI iG LQ.out (fun x z => z.elim)).kept kp HH.out.rad HN.out nI iG LQ.out (fun x hx => by omega))
        have F4 := hide (F1.out.kept kp (by omega))
        have x1 := F4.out.cell 1 _ rfl
        have x2 := F4.out.cell 2 _ rfl
        have l1 := F4.out.lt
        clear kp hY2 HI BB1 F1
        obtain ⟨i', r', lb, ib, rb⟩ := I4.out.bx
        have LBH := hide lb
        have IB := hide ib
        have RB := hide rb
        have lI := ib.lt
        have lR := rb.lt
        clear lb ib rb
        by_cases t1 : q.t.r < q.t.f
        · have d1 : decide (q.t.r < q.t.f) = true := decide_eq_true t1
          have NX := hide (show LastB L k i r (j + 1) J q from by
            have h := LBH.out.hit (by rw [HQQ.out]; exact t1)
            rwa [HQQ.out, HJ.out] at h)
          clear t1
          gi_wp2_with fail
          refine norm_only ?_
          refine held_r (fun Y => Kept (fun x => x = I ∨ x = I + 1) Y3 Y) (by kernel_rfl) (by kernel_rfl) (Kept.of_below (drew_below _)) (fun hHeld => ?_)
          refine wpAnyH_take (i := 0) (oi := _) (v := ?_) rfl (by kernel_rfl) (by kernel_rfl) (by kernel_rfl) (fun _ _ _ h => by cases h.2.1) (Or.inl ⟨by rfl, ?_⟩) (by assumption) ?_
          rotate_left
          · (intro Y hSw; go_simp; try with_reducible rfl)
          try simp only [Act.put, List.setIfInBounds_toArray, List.set_cons_zero, List.set_cons_succ]
          refine wpAnyH_take (i := 1) (oi := _) (v := ?_) rfl (by kernel_rfl) (by kernel_rfl) (by kernel_rfl) (fun _ _ _ h => by cases h.2.1) (Or.inl ⟨by rfl, ?_⟩) (by assumption) ?_
          rotate_left
          · (intro Y hSw; have e0 := (F4.out.kept hSw (by omega)).cell 0 _ rfl; have e1 := (F4.out.kept hSw (by omega)).cell 1 _ rfl; have e2 := (F4.out.kept hSw (by omega)).cell 2 _ rfl; have e3 := (F4.out.kept hSw (by omega)).cell 3 _ rfl; have e4 := (F4.out.kept hSw (by omega)).cell 4 _ rfl; have e5 := (F4.out.kept hSw (by omega)).cell 5 _ rfl; have e6 := (F4.out.kept hSw (by omega)).cell 6 _ rfl; go_simp; try with_reducible rfl)
          try simp only [Act.put, List.setIfInBounds_toArray, List.set_cons_zero, List.set_cons_succ]
          have I5 := hide (I4.out.kept (F := fun _ => False) (Kept.of_below (drew_below Y3)) HH.out.rad HN.out nI iG LQ.out (fun x z => z.elim))
          have K5 := hide (show Kept (fun b => b < G + 4) Y3 Y3.drew from Kept.of_below (drew_below Y3))
          have IB5 := hide (IB.out.below (drew_below Y3))
          have RB5 := hide (RB.out.below (drew_below Y3))
          generalize Y3.drew = Y5 at *
          clear x1 x2
          have kz1 := kept_set (F := fun x => x = I) Y5 I 0 (.int .u64 (J : Nat)) rfl
          have w7 := IB5.out.cell 0 _ rfl
          have z7 := IB5.out.fz 0
          have l8 := IB5.out.lt
          refine wpAnyH_ready (rs := [2]) (by kernel_rfl) (by simp) ?_
          refine AllReadyH.cons (o := ⟨none, _, _, _, _, _⟩) rfl (fun K hK => ?_) AllReadyH.nil
          go_simp
          refine hK.out _ _ (hHeld.trans (kz1.mono (G := fun x => x = I ∨ x = I + 1) (fun x hx => .inl hx)) (fun _ _ z => z)) (fun hHeld => ?_)
          clear hK K
          try simp only [Act.put, List.setIfInBounds_toArray, List.set_cons_zero, List.set_cons_succ]
          have g0 := RB5.out.kept kz1 (by omega)
          have gi := IB5.out.set 0 (.int .u64 (J : Nat))
          have G0' := hide g0
          have GI := hide gi
          have KZ1 := hide kz1
          generalize Y5.setCell ⟨I, 0, none⟩ (.int .u64 (J : Nat)) = Y6 at *
          have w0 := g0.cell 0 _ rfl
          have w1 := g0.cell 1 _ rfl
          have w2 := g0.cell 2 _ rfl
          have w3 := g0.cell 3 _ rfl
          have w4 := g0.cell 4 _ rfl
          have w5 := g0.cell 5 _ rfl
          have w6 := g0.cell 6 _ rfl
          obtain ⟨z0, z1, z2, z3, z4, z5, z6⟩ := frozen7 g0.fz
          have l7 := g0.lt
          clear g0 gi kz1 w7 z7
          have kz2 := kset7 Y6 (I + 1) (.int .u64 (q.t.p : Nat)) (.int .u64 (q.t.f : Nat)) (.int .u64 (q.t.r : Nat)) (.int .i64 (q.s : Nat)) (.int .i64 (q.m : Nat)) (.int .i64 (q.e : Nat)) (.int .i64 (q.rest : Nat))
          refine wpAnyH_ready (rs := [3]) (by kernel_rfl) (by simp) ?_
          refine AllReadyH.cons (o := ⟨none, _, _, _, _, _⟩) rfl (fun K hK => ?_) AllReadyH.nil
          go_simp
          refine hK.out _ _ (hHeld.trans (kz2.mono (G := fun x => x = I ∨ x = I + 1) (fun x hx => .inr hx)) (fun _ _ z => z)) (fun hHeld => ?_)
          clear hK K
          try simp only [Act.put, List.setIfInBounds_toArray, List.set_cons_zero, List.set_cons_succ]
          refine wpAnyH_done (by kernel_rfl) ⟨(fun z => by cases z), rfl, ?_⟩ _
          have gr := (((((((G0'.out).set 0 (.int .u64 (q.t.p : Nat))).set 1 (.int .u64 (q.t.f : Nat))).set 2 (.int .u64 (q.t.r : Nat))).set 3 (.int .i64 (q.s : Nat))).set 4 (.int .i64 (q.m : Nat))).set 5 (.int .i64 (q.e : Nat))).set 6 (.int .i64 (q.rest : Nat))
          have kz := (KZ1.out.mono (G := fun x => x = I ∨ x = I + 1) (fun x hx => .inl hx)).trans (kz2.mono (G := fun x => x = I ∨ x = I + 1) (fun x hx => .inr hx)) (fun _ _ z => z)
          have GR := hide gr
          have KZ := hide kz
          have KZ2 := hide kz2
          clear gr kz kz2 hHeld w0 w1 w2 w3 w4 w5 w6 z0 z1 z2 z3 z4 z5 z6
          generalize (((((((Y6.setCell ⟨I + 1, 0, none⟩ (.int .u64 (q.t.p : Nat))).setCell ⟨I + 1, 1, none⟩ (.int .u64 (q.t.f : Nat))).setCell ⟨I + 1, 2, none⟩ (.int .u64 (q.t.r : Nat))).setCell ⟨I + 1, 3, none⟩ (.int .i64 (q.s : Nat))).setCell ⟨I + 1, 4, none⟩ (.int .i64 (q.m : Nat))).setCell ⟨I + 1, 5, none⟩ (.int .i64 (q.e : Nat))).setCell ⟨I + 1, 6, none⟩ (.int .i64 (q.rest : Nat))) = Y7 at *
          gi_wp2_with fail
          have kz := KZ.out
          exact ⟨K5.out.trans (kz.mono (G := fun b => b < G + 4) (fun x hx => by omega)) (fun _ _ z => z), below_kept I5.out.be kz (fun x hx => by omega) (by have := I5.out.rz.lt; omega), I5.out.rz.kept kz (by omega), ⟨J, q, NX.out, GI.out.kept KZ2.out (by omega), GR.out⟩, I5.out.rd.kept HH.out.rad kz (fun x hx => by rw [HN.out]; omega), I5.out.mks.kept kz (fun D hD y => by have := (I5.out.mks.at' D hD).2; omega)⟩
        · have d1 : decide (q.t.r < q.t.f) = false := decide_eq_false t1
          have NX := hide (show LastB L k i r (j + 1) i' r' from LBH.out.miss (by rw [HQQ.out]; exact t1))
          clear t1
          gi_wp2_with fail
          exact ⟨Kept.refl _ _, I4.out.be, I4.out.rz, ⟨i', r', NX.out, IB.out, RB.out⟩, I4.out.rd, I4.out.mks⟩
      case done =>
        rintro Y h hdf
        rw [sZ] at hdf ⊢
        obtain ⟨i', r', lb, ib, rb⟩ := h.bx
        obtain ⟨n1, n2, n3, n4⟩ := LastB.down k6' HH.out.four HF.out.gd HF.out.hi HF.out.has HF.out.above lb
        have NX := hide (show LD N I w T L C st (k + 1) i' r' ((G + 4) :: l) zs16 Y from ⟨h.be, h.rz, ib, rb, h.rd.rad, n1, n2, n3, n4, h.mks.cons hdf (by omega) (fun y => by have := LQ.out _ y; omega)⟩)
        clear h hdf lb ib rb n1 n2 n3 n4
        gi_wp2_with fail
        refine ⟨⟨k + 1, i', r', (G + 4) :: l, _, _, _, _, _, _, _, _, _, _, by omega, NX, rfl⟩, ?_⟩
        simp [intOf]
        omega
end Go.Proofs.YtnclicdnncgdiaaDoor
/- Package radix: Scavenge: its contract. -/
namespace Go.Proofs.YtnclicdnncgdiaaDoor
open Go.ChangeShapes Go.WideShapes Go.ChangeAt Go.RowKit Go.Proofs.Bt Go.Shelf Go.Proofs.Rx Go.Maps Go.Proofs.Pk
set_option linter.unusedVariables false
set_option linter.unusedSimpArgs false

/-- The pages of a chunk that are not idle. -/
def bsyC (c : Nat → Nat) : Nat → Bool := busy (fun k => decide (c k = 1)) (fun k => decide (c k = 3))
theorem bsyC_free {c : Nat → Nat} {k : Nat} (h1 : 1 ≤ c k) (h3 : c k ≤ 3) : bsyC c k = false ↔ c k = 2 := by
  unfold bsyC busy
  simp only [Bool.or_eq_false_iff, decide_eq_false_iff_not]
  omega
/-- What Scavenge answers and leaves. -/
def ScavT (B : Nat) (O : Nat → Prop) (w : World) (tb : Nat) (st : Nat → Nat) (most : Nat) (e : Ending) (w' : World) : Prop :=
  ((most = 0 ∨ ∀ q, st q ≠ 2) ∧ e = .returned (.tuple #[.int .u64 0, .int .u64 0]) ∧ Chg B O w tb st w') ∨
  (1 ≤ most ∧ ∃ (i a m : Nat) (c : Nat → Nat), (i + 1) * 512 ≤ 34359738368 ∧ (∀ k, k < 512 → c k = st (512 * i + k)) ∧ (∀ q, (i + 1) * 512 ≤ q → st q ≠ 2) ∧ 1 ≤ m ∧ m ≤ most ∧ a + m ≤ 512 ∧ LastP (bsyC c) (min most 512 : Nat) 512 (a : Nat) (m : Nat) ∧ (∀ q, 512 * i + a ≤ q → q < 512 * i + a + m → st q = 2) ∧ e = .returned (.tuple #[.int .u64 ((512 * i + a : Nat) : Int), .int .u64 (m : Nat)]) ∧ Chg B O w tb (setSt st (512 * i + a) (512 * i + a + m) 3) w')
theorem TreeE.last {B : Nat} {O : Nat → Prop} {w : World} {tb : Nat} {st : Nat → Nat} (h : TreeE B O w tb st) :
    Calls Tryd.prog 25 #[.pointer (some ⟨tb, 0, none⟩)] w (LastT st w) := by
  obtain ⟨T, L, C, rfl, rfl, h1, h2⟩ := h
  exact lastIdle_core h1
set_option maxRecDepth 100000 in
set_option maxHeartbeats 2000000 in
theorem scav9_any {B : Nat} {O : Nat → Prop} {w : World} {tb : Nat} {st : Nat → Nat} (h : TreeE B O w tb st) (most : Nat) (hm : most < 18446744073709551616) :
    Calls Tryd.prog 11 #[.pointer (some ⟨tb, 0, none⟩), .int .u64 (most : Nat)] w (ScavT B O w tb st most) := by
  obtain ⟨R, hR⟩ : ∃ R, R = ScavT B O w tb st most := ⟨_, rfl⟩
  rw [← hR]
  have HR := hide hR
  have HH := hide h
  have CL := hide h.last
  obtain ⟨M, hM⟩ : ∃ M : Int, (most : Int) = M := ⟨_, rfl⟩
  rw [hM]
  have HM := hide hM
  have m0 : 0 ≤ M := by omega
  have m9 : M < 18446744073709551616 := by omega
  clear hR h hM
  go_enter Tryd.func11, Tryd.ntmps11
  go_wp2_with fail
  refine CL.out.mono ?_
  rintro e w1 ⟨(⟨hno, rfl⟩ | ⟨i, gu, gg, c, hi, hV, hcs, hso, habv, rfl⟩), b1⟩
  · unfold zs16
    have F := hide (show ∀ W, Below w1.heap.size w1 W → R (.returned (.tuple #[.int .u64 0, .int .u64 0])) W from fun W hW => by
      rw [HR.out]; exact .inl ⟨.inr hno, rfl, Chg.same HH.out (b1.trans (hW.mono b1.size))⟩)
    clear CL hno b1
    go_wp2_with fail
    exact F.out _ (grown1 w1 _)
  · obtain ⟨II, hII⟩ : ∃ II : Int, (i : Int) = II := ⟨_, rfl⟩
    rw [hII]
    have HII := hide hII
    have i0 : 0 ≤ II := by omega
    have i9 : II < 67108864 := by omega
    clear hII
    obtain ⟨b, hb⟩ : ∃ b, w1.heap.size = b := ⟨_, rfl⟩
    obtain ⟨W, hW⟩ : ∃ W, w1.alloc (.cells #[.int .u64 ((gu 0 : Nat) : Int), .int .u64 ((gu 1 : Nat) : Int), .int .u64 ((gu 2 : Nat) : Int), .int .u64 ((gu 3 : Nat) : Int), .int .u64 ((gu 4 : Nat) : Int), .int .u64 ((gu 5 : Nat) : Int), .int .u64 ((gu 6 : Nat) : Int), .int .u64 ((gu 7 : Nat) : Int), .int .u64 ((gg 0 : Nat) : Int), .int .u64 ((gg 1 : Nat) : Int), .int .u64 ((gg 2 : Nat) : Int), .int .u64 ((gg 3 : Nat) : Int), .int .u64 ((gg 4 : Nat) : Int), .int .u64 ((gg 5 : Nat) : Int), .int .u64 ((gg 6 : Nat) : Int), .int .u64 ((gg 7 : Nat) : Int)] 72) = W := ⟨_, rfl⟩
    have kb : Bk W b 72 #[.int .u64 ((gu 0 : Nat) : Int), .int .u64 ((gu 1 : Nat) : Int), .int .u64 ((gu 2 : Nat) : Int), .int .u64 ((gu 3 : Nat) : Int), .int .u64 ((gu 4 : Nat) : Int), .int .u64 ((gu 5 : Nat) : Int), .int .u64 ((gu 6 : Nat) : Int), .int .u64 ((gu 7 : Nat) : Int), .int .u64 ((gg 0 : Nat) : Int), .int .u64 ((gg 1 : Nat) : Int), .int .u64 ((gg 2 : Nat) : Int), .int .u64 ((gg 3 : Nat) : Int), .int .u64 ((gg 4 : Nat) : Int), .int .u64 ((gg 5 : Nat) : Int), .int .u64 ((gg 6 : Nat) : Int), .int .u64 ((gg 7 : Nat) : Int)] := by rw [← hW, ← hb]; exact World.alloc_heap_new w1 _
    have bW : Below w.heap.size w W := by rw [← hW]; exact b1.alloc b1.size _
    have sb : w.heap.size ≤ b := by rw [← hb]; exact b1.size
    have TW := hide (show TreeE B (fun x => O x ∨ x = b) W tb st from HH.out.more bW (fun x hx => hx.imp id (fun e => by
      have h1 := kb.lt
      subst e
      exact ⟨sb, h1⟩)))
    have chS := hV W b kb
    have BW := hide bW
    have HI := hide hi
    have HCS := hide hcs
    have HSO := hide hso
    have HAB := hide habv
    by_cases z0 : most = 0
    · have d0 : (M == 0) = true := beq_iff_eq.2 (by have := HM.out; omega)
      have F := hide (show R (.returned (.tuple #[.int .u64 0, .int .u64 0])) W from by
        rw [HR.out]; exact .inl ⟨.inl z0, rfl, Chg.same HH.out BW.out⟩)
      clear CL b1 z0 kb bW sb chS hi hcs hso habv hV
      go_wp2_with fail
      first | exact F.out | (refine bodyPost_ret (results_tmp2 Tryd.results11 _ _ _) rfl ?_; exact F.out)
    · have d0 : (M == 0) = false := beq_eq_false_iff_ne.2 (by have := HM.out; omega)
      obtain ⟨mn, hmn⟩ : ∃ mn : Nat, min most 512 = mn := ⟨_, rfl⟩
      have hmin : min M 512 = (mn : Int) := by have := HM.out; omega
      have mn1 : 1 ≤ mn ∧ mn ≤ 512 ∧ mn ≤ most := by omega
      have lo := chS.lo
      have hi3 := chS.hi
      have CSv := hide (scav_any b _ _ W chS.row TW.out.tab (by have := TW.out.lt; have := (tab_two TW.out.tab); have := HH.out.lt; have := tab_two HH.out.tab; omega) (mn : Int) (by omega))
      have HMN := hide hmn
      have HZ := hide z0
      have mnI : (1 : Int) ≤ (mn : Int) := by omega
      have mnI2 : (mn : Int) ≤ 512 := by omega
      have LO := hide (And.intro lo hi3)
      have HM1 := hide mn1
      clear CL b1 z0 kb bW chS hi hcs hso habv hV hmn lo hi3 mn1
      by_cases zm : 512 < M
      · have emn : (mn : Int) = 512 := by omega
        rw [emn] at CSv
        clear hmin
        have EMN := hide emn
        clear emn mnI mnI2
        go_wp2_with fail
        refine CSv.out.mono ?_
        rintro e W2 ⟨ii, kk, rfl, hl, -, k2⟩
        have HL := hide hl
        obtain ⟨a, m, rfl, rfl, m1, m2, m3, m4⟩ : ∃ a m : Nat, ii = a ∧ kk = m ∧ 1 ≤ m ∧ m ≤ mn ∧ a + m ≤ 512 ∧ Clr (bsyC c) a m := by
          rcases hl with ⟨_, _, h1⟩ | ⟨h1, a, m, e1, e2, m1, m2, m3, m4, m5, m6⟩
          · exfalso
            have h2 := HM1.out
            have h3 := EMN.out
            rcases h1 with h1 | h1
            · omega
            · obtain ⟨k, k1, k2⟩ := HSO.out
              have h4 := h1 k (by have e : (512 : Int).toNat = 512 := rfl; rw [e]; omega)
              have h5 := (bsyC_free (LO.out.1 k k1) (LO.out.2 k k1)).2 k2
              have h6 : bsyC c k = true := h4
              rw [h5] at h6
              cases h6
          · have e : min (512 : Int).toNat 512 = 512 := rfl
            rw [e] at m3
            exact ⟨a, m, e1, e2, m1, by have h3 := EMN.out; omega, m3, m4⟩
        have idle : ∀ q, 512 * i + a ≤ q → q < 512 * i + a + m → st q = 2 := fun q q1 q2 => by
          have h1 := m4 (q - 512 * i - a) (by omega)
          rw [show a + (q - 512 * i - a) = q - 512 * i by omega] at h1
          have h2 := (bsyC_free (LO.out.1 _ (by omega)) (LO.out.2 _ (by omega))).1 h1
          rw [HCS.out _ (by omega), show 512 * i + (q - 512 * i) = q by omega] at h2
          exact h2
        have T2 := hide (TW.out.kept k2 (fun x hx => .inr hx))
        have CS := hide (T2.out.set (512 * i + a) m 3 m1 (by have := HI.out; omega) ⟨by omega, by omega⟩ (.inr (.inl (fun q q1 q2 => by rw [idle q q1 q2]; omega))))
        rw [show ((512 * i + a : Nat) : Int) = II * 512 + (a : Int) by have := HII.out; omega] at CS
        simp only [Int.cast_ofNat_Int] at CS
        have F := hide (show ∀ W', Chg B (fun x => O x ∨ x = b) W2 tb (setSt st (512 * i + a) (512 * i + a + m) 3) W' → R (.returned (.tuple #[.int .u64 (II * 512 + (a : Int)), .int .u64 (m : Nat)])) W' from fun W' hc => by
          rw [HR.out]
          have hz := HZ.out
          have hm1 := HM1.out
          refine .inr ⟨by omega, i, a, m, c, HI.out, HCS.out, HAB.out, m1, by omega, m3, ?_, idle, ?_, ?_⟩
          · rw [HMN.out, EMN.out]; exact HL.out
          · rw [show ((512 * i + a : Nat) : Int) = II * 512 + (a : Int) by have := HII.out; omega]
          · have nOb : ¬ O b := fun z => by
              obtain ⟨T, L, C, _, _, _, h2⟩ := HH.out
              have := (h2 b z).2.2
              omega
            have hB := HH.out.lt.2.2
            refine ⟨hc.fewer.1, ((Kept.of_below (F := fun x => B ≤ x ∧ ¬ O x) BW.out).trans (k2.mono (G := fun x => B ≤ x ∧ ¬ O x) (fun x hx => ⟨by omega, fun z => nOb (by rw [← hx]; exact z)⟩)) (fun _ _ z => z)).trans (hc.2.mono (G := fun x => B ≤ x ∧ ¬ O x) (fun x hx => ⟨hx.1, fun z => hx.2 (.inl z)⟩)) (fun _ _ z => z)⟩)
        have aI : (a : Int) ≤ 512 := by omega
        have mI : (m : Int) ≤ 512 := by omega
        clear CSv hl m4 idle k2 HL
        go_wp2_with fail
        refine CS.out.mono ?_
        rintro e W3 ⟨rfl, hc⟩
        have HC := hide hc
        clear hc CS
        go_wp2_with fail
        first | exact F.out _ HC.out | (refine bodyPost_ret (results_tmp2 Tryd.results11 _ _ _) rfl ?_; exact F.out _ HC.out)
      · have emn : (mn : Int) = M := by omega
        rw [emn] at CSv
        clear hmin
        have EMN := hide emn
        clear emn mnI mnI2
        go_wp2_with fail
        refine CSv.out.mono ?_
        rintro e W2 ⟨ii, kk, rfl, hl, -, k2⟩
        have HL := hide hl
        obtain ⟨a, m, rfl, rfl, m1, m2, m3, m4⟩ : ∃ a m : Nat, ii = a ∧ kk = m ∧ 1 ≤ m ∧ m ≤ mn ∧ a + m ≤ 512 ∧ Clr (bsyC c) a m := by
          rcases hl with ⟨_, _, h1⟩ | ⟨h1, a, m, e1, e2, m1, m2, m3, m4, m5, m6⟩
          · exfalso
            have h2 := HM1.out
            have h3 := EMN.out
            rcases h1 with h1 | h1
            · omega
            · obtain ⟨k, k1, k2⟩ := HSO.out
              have h4 := h1 k (by have e : (512 : Int).toNat = 512 := rfl; rw [e]; omega)
              have h5 := (bsyC_free (LO.out.1 k k1) (LO.out.2 k k1)).2 k2
              have h6 : bsyC c k = true := h4
              rw [h5] at h6
              cases h6
          · have e : min (512 : Int).toNat 512 = 512 := rfl
            rw [e] at m3
            exact ⟨a, m, e1, e2, m1, by have h3 := EMN.out; omega, m3, m4⟩
        have idle : ∀ q, 512 * i + a ≤ q → q < 512 * i + a + m → st q = 2 := fun q q1 q2 => by
          have h1 := m4 (q - 512 * i - a) (by omega)
          rw [show a + (q - 512 * i - a) = q - 512 * i by omega] at h1
          have h2 := (bsyC_free (LO.out.1 _ (by omega)) (LO.out.2 _ (by omega))).1 h1
          rw [HCS.out _ (by omega), show 512 * i + (q - 512 * i) = q by omega] at h2
          exact h2
        have T2 := hide (TW.out.kept k2 (fun x hx => .inr hx))
        have CS := hide (T2.out.set (512 * i + a) m 3 m1 (by have := HI.out; omega) ⟨by omega, by omega⟩ (.inr (.inl (fun q q1 q2 => by rw [idle q q1 q2]; omega))))
        rw [show ((512 * i + a : Nat) : Int) = II * 512 + (a : Int) by have := HII.out; omega] at CS
        simp only [Int.cast_ofNat_Int] at CS
        have F := hide (show ∀ W', Chg B (fun x => O x ∨ x = b) W2 tb (setSt st (512 * i + a) (512 * i + a + m) 3) W' → R (.returned (.tuple #[.int .u64 (II * 512 + (a : Int)), .int .u64 (m : Nat)])) W' from fun W' hc => by
          rw [HR.out]
          have hz := HZ.out
          have hm1 := HM1.out
          refine .inr ⟨by omega, i, a, m, c, HI.out, HCS.out, HAB.out, m1, by omega, m3, ?_, idle, ?_, ?_⟩
          · rw [HMN.out, EMN.out]; exact HL.out
          · rw [show ((512 * i + a : Nat) : Int) = II * 512 + (a : Int) by have := HII.out; omega]
          · have nOb : ¬ O b := fun z => by
              obtain ⟨T, L, C, _, _, _, h2⟩ := HH.out
              have := (h2 b z).2.2
              omega
            have hB := HH.out.lt.2.2
            refine ⟨hc.fewer.1, ((Kept.of_below (F := fun x => B ≤ x ∧ ¬ O x) BW.out).trans (k2.mono (G := fun x => B ≤ x ∧ ¬ O x) (fun x hx => ⟨by omega, fun z => nOb (by rw [← hx]; exact z)⟩)) (fun _ _ z => z)).trans (hc.2.mono (G := fun x => B ≤ x ∧ ¬ O x) (fun x hx => ⟨hx.1, fun z => hx.2 (.inl z)⟩)) (fun _ _ z => z)⟩)
        have aI : (a : Int) ≤ 512 := by omega
        have mI : (m : Int) ≤ 512 := by omega
        clear CSv hl m4 idle k2 HL
        go_wp2_with fail
        refine CS.out.mono ?_
        rintro e W3 ⟨rfl, hc⟩
        have HC := hide hc
        clear hc CS
        go_wp2_with fail
        first | exact F.out _ HC.out | (refine bodyPost_ret (results_tmp2 Tryd.results11 _ _ _) rfl ?_; exact F.out _ HC.out)
end Go.Proofs.YtnclicdnncgdiaaDoor
