/- The landed package's rows in memory: the search for a page's row, a row's end, a page's state. -/
import Derived.Test.YtpceigglilgelaaHelp
import Derived.Test.YtpceigglilgelaaPg
namespace Go.Proofs.Ytpceigglilgelaa
open Go.ChangeShapes Go.WideShapes Go.ChangeAt Go.RowKit Go.Proofs.Sp
set_option linter.unusedVariables false
set_option linter.unusedSimpArgs false

theorem hide {p : Prop} (h : p) : Hid p := h
theorem bcell {W w1 : World} (hb : Below W.heap.size W w1) : (∀ b o, b < W.heap.size → w1.cell? ⟨b, o, none⟩ = W.cell? ⟨b, o, none⟩) ∧ (∀ b o, b < W.heap.size → w1.frozen? ⟨b, o, none⟩ = W.frozen? ⟨b, o, none⟩) :=
  ⟨fun b o h => hb.cell (p := ⟨b, o, none⟩) h, fun b o h => hb.frozen (p := ⟨b, o, none⟩) h⟩
theorem cell_lt {w : World} {b o : Nat} {v : Value} (h : w.cell? ⟨b, o, none⟩ = some v) : b < w.heap.size := World.block_lt_of_cell? w ⟨b, o, none⟩ h
theorem below_drewN {B : Nat} {w0 w : World} (h : Below B w0 w) (k : Nat) : Below B w0 (w.drewN k) := ⟨h.os, h.tape, h.output, h.size, h.block⟩

/-! ### A region that draws its order, whose callees may make memory, and turn nothing that is old -/
structure Ext (w : World) where
  v : World
  h : Below w.heap.size w v
theorem ext_ne (w : World) : Nonempty (Ext w) := ⟨⟨w, Below.refl _ _⟩⟩
theorem ext_cell {w : World} (n : Ext w) (b o : Nat) (h : b < w.heap.size) : n.v.cell? ⟨b, o, none⟩ = w.cell? ⟨b, o, none⟩ := n.h.cell (p := ⟨b, o, none⟩) h
theorem ext_frozen {w : World} (n : Ext w) (b o : Nat) (h : b < w.heap.size) : n.v.frozen? ⟨b, o, none⟩ = w.frozen? ⟨b, o, none⟩ := n.h.frozen (p := ⟨b, o, none⟩) h
theorem wp_region_calm {P : Program} {id : Nat} {Q : Exit → Act → World → Prop} {a : Act} {w : World} {l : List Oper} (hm : P.follows .mixedOrders = true) (hB : Region.lexB .any l.toArray = true)
    (h : wpQuiet P l.toArray (fun w' => ∃ n : Ext w, w' = n.v) (fun a' => ∀ w', (∃ n : Ext w, w' = n.v) → Q .normal a' w') l a) : (Code.region id l.toArray true).wp P Q a w :=
  wp_region_quiet (C := fun w' => ∃ n : Ext w, w' = n.v) hm hB ⟨⟨{ w with drawn := w.drawn + 1 }, ⟨rfl, rfl, rfl, Nat.le_refl _, fun _ _ => rfl⟩⟩, rfl⟩ (by simpa using h)
theorem calm_of {P : Program} {f : FuncId} {args : Array Value} {w : World} {n : Ext w} {v : Value} (h : Calls P f args n.v fun e w' => e = .returned v ∧ Below n.v.heap.size n.v w') : Calls P f args n.v fun e w'' => e = .returned v ∧ ∃ m : Ext w, w'' = m.v :=
  h.mono fun _ w' ⟨he, hm⟩ => ⟨he, ⟨w', n.h.trans (hm.mono n.h.size)⟩, rfl⟩
theorem calm_of_same {P : Program} {f : FuncId} {args : Array Value} {w : World} {n : Ext w} {v : Value} (h : Calls P f args n.v fun e w' => e = .returned v ∧ w' = n.v) : Calls P f args n.v fun e w'' => e = .returned v ∧ ∃ m : Ext w, w'' = m.v :=
  h.mono fun _ w' ⟨he, hm⟩ => ⟨he, n, hm⟩

/-- The rows' list, as its cells hold it: the list's own cell at ⟨b, o⟩. -/
structure ListAt (w : World) (b o g cap : Nat) (R : List (Nat × Nat)) : Prop where
  list : w.cell? ⟨b, o, none⟩ = some (.slice (some ⟨g, 0, none⟩) R.length cap)
  first : ∀ i (h : i < R.length), w.cell? ⟨g, i * 2, none⟩ = some (.int .u64 (R[i].1 : Int))
  state : ∀ i (h : i < R.length), w.cell? ⟨g, i * 2 + 1, none⟩ = some (.int .i64 (R[i].2 : Int))
theorem ListAt.below {w w' : World} {b o g cap : Nat} {R : List (Nat × Nat)} (h : ListAt w b o g cap R) (hb : Below w.heap.size w w') : ListAt w' b o g cap R :=
  ⟨by rw [hb.cell (p := ⟨b, o, none⟩) (cell_lt h.list)]; exact h.list, fun i hi => by rw [hb.cell (p := ⟨g, i * 2, none⟩) (cell_lt (h.first i hi))]; exact h.first i hi, fun i hi => by rw [hb.cell (p := ⟨g, i * 2 + 1, none⟩) (cell_lt (h.state i hi))]; exact h.state i hi⟩

theorem ListAt.drewN {w : World} {b o g cap : Nat} {R : List (Nat × Nat)} (h : ListAt w b o g cap R) (n : Nat) : ListAt (w.drewN n) b o g cap R := ⟨h.list, h.first, h.state⟩
theorem drewN_two (w : World) (a b : Nat) : (w.drewN a).drewN b = w.drewN (a + b) := by unfold World.drewN; simp [Nat.add_assoc]
/-- Is row i's first page above a page? -/
theorem above_core (x y b o g cap : Nat) (R : List (Nat × Nat)) (p : Int) (i : Nat) (hi : i < R.length) (hn : R.length ≤ 70368744177664) (w : World)
    (hx : w.cell? ⟨x, 0, none⟩ = some (.pointer (some ⟨b, o, none⟩))) (hy : w.cell? ⟨y, 0, none⟩ = some (.int .u64 p)) (hL : ListAt w b o g cap R) :
    Calls Try.prog 81 #[.int .i64 (i : Int), .pointer (some ⟨x, 0, none⟩), .pointer (some ⟨y, 0, none⟩)] w fun e w' => e = .returned (.bool (decide (p < (R[i].1 : Int)))) ∧ ∃ k, w' = w.drewN k := by
  have h1 := hL.list
  have h2 := hL.first i hi
  obtain ⟨n, hln⟩ : ∃ n, n = R.length := ⟨_, rfl⟩
  rw [← hln] at h1 hi hn
  obtain ⟨a, ha⟩ : ∃ a, a = R[i].1 := ⟨_, rfl⟩
  rw [← ha] at h2 ⊢
  clear hln ha hL
  go_enter Try.func81, Try.ntmps81
  go_wp2
  go_quiet (fail)
  go_wp2
  go_ret
  exact ⟨rfl, _, rfl⟩
theorem ret_int {k : IntKind} {a b : Int} (h : a = b) : Ending.returned (.int k a) = .returned (.int k b) := by rw [h]
theorem at_row {f : Nat → Nat} {R : List (Nat × Nat)} {p : Int} {k : Nat} (h : Seg f 0 R 34359738368) (hp : 0 ≤ p) (hp' : p < 34359738368) (hk : k ≤ R.length ∧ (∀ i (h : i < R.length), i < k → (R[i].1 : Int) ≤ p) ∧ ∀ i (h : i < R.length), k ≤ i → p < (R[i].1 : Int)) :
    ∃ j, k = j + 1 ∧ ∃ hj : j < R.length, R[j].1 ≤ p.toNat ∧ p.toNat < startR R 34359738368 (j + 1) := by
  obtain ⟨h1, h2, h3⟩ := hk
  obtain ⟨i, hi, q1, q2⟩ := h.at p.toNat (by omega) (by omega)
  have : i < k := by
    by_cases c : i < k
    · exact c
    · have := h3 i hi (by omega); omega
  refine ⟨i, ?_, hi, q1, q2⟩
  by_cases c : k = i + 1
  · exact c
  · exfalso
    have hk : i + 1 < R.length := by omega
    have := h2 (i + 1) hk (by omega)
    rw [startR_lt hk] at q2
    omega
/-- How many rows begin at or ahead of a page. -/
theorem search_core (x y b o g cap : Nat) (R : List (Nat × Nat)) (p : Int) (hp : 0 ≤ p) (hn : R.length ≤ 70368744177664) (w : World)
    (hx : w.cell? ⟨x, 0, none⟩ = some (.pointer (some ⟨b, o, none⟩))) (hy : w.cell? ⟨y, 0, none⟩ = some (.int .u64 p)) (hL : ListAt w b o g cap R) (hs : (R.map (·.1)).Pairwise (· < ·)) :
    Calls Try.prog 80 #[.int .i64 (R.length : Int), .func (.func 81) #[] #[.pointer (some ⟨x, 0, none⟩), .pointer (some ⟨y, 0, none⟩)]] w fun e w' =>
      ∃ k : Nat, e = .returned (.int .i64 (k : Int)) ∧ (k ≤ R.length ∧ (∀ i (h : i < R.length), i < k → (R[i].1 : Int) ≤ p) ∧ ∀ i (h : i < R.length), k ≤ i → p < (R[i].1 : Int)) ∧ ∃ n, w' = w.drewN n := by
  have hs' : ∀ i j (hi : i < R.length) (hj : j < R.length), i < j → R[i].1 < R[j].1 := fun i j hi hj hij => by
    have := List.pairwise_iff_getElem.1 hs i j (by simpa using hi) (by simpa using hj) hij
    simpa using this
  have HS := hide hs'
  have HX := hide hx
  have HY := hide hy
  have HL := hide hL
  clear hs hs' hx hy hL
  go_enter Try.func80, Try.ntmps80
  go_wp2_with fail
  go_loopw [5, 6] (fun lo hi wr => ∃ (a c n : Nat), a ≤ c ∧ c ≤ R.length ∧ lo = .int .i64 (a : Int) ∧ hi = .int .i64 (c : Int) ∧ wr = w.drewN n ∧ Hid ((∀ i (h : i < R.length), i < a → (R[i].1 : Int) ≤ p) ∧ (∀ i (h : i < R.length), c ≤ i → p < (R[i].1 : Int)))) (fun lo hi _ => (intOf hi - intOf lo).toNat)
  case atStart => exact ⟨0, R.length, 0, by omega, by omega, rfl, rfl, rfl, fun i h hi => absurd hi (by omega), fun i h hi => absurd h (by omega)⟩
  case round =>
    obtain ⟨a, c, n, hac, hcn, rfl, rfl, rfl, hrs⟩ := hrel
    by_cases hlt : a < c
    · have hm : (a + c) / 2 < R.length := by omega
      obtain ⟨q, hq⟩ : ∃ q, q = R[(a + c) / 2].1 := ⟨_, rfl⟩
      have HQ := hide hq
      have ab := above_core x y b o g cap R p ((a + c) / 2) hm hn (w.drewN n) HX.out HY.out (HL.out.drewN n)
      rw [← hq] at ab
      have AB := hide ab
      clear hq ab
      by_cases ht : p < (q : Int)
      · have ht' : decide (p < (q : Int)) = true := by simpa using ht
        have AB2 : Hid (Calls Try.prog 81 #[.int .i64 (((a + c) / 2 : Nat) : Int), .pointer (some ⟨x, 0, none⟩), .pointer (some ⟨y, 0, none⟩)] (w.drewN n) fun e w' => e = .returned (.bool true) ∧ ∃ k, w' = (w.drewN n).drewN k) := by rw [← ht']; exact AB.out
        clear AB ht'
        go_wp2_with fail
        rw [show ((a : Int) + (c : Int)) / 2 = (((a + c) / 2 : Nat) : Int) by omega]
        refine AB2.out.mono ?_
        rintro e w1 ⟨rfl, k, rfl⟩
        clear AB2
        go_wp2_with fail
        go_roundw
        case rel => exact ⟨a, (a + c) / 2, n + k, by omega, by omega, rfl, by go_num, rfl, hrs.out.1, fun i h hi => by
            by_cases e : i = (a + c) / 2
            · subst e; rw [← HQ.out]; exact ht
            · have := HS.out ((a + c) / 2) i hm h (by omega)
              have := HQ.out
              omega⟩
        case measure => simp [intOf]; omega
      · have ht' : decide (p < (q : Int)) = false := by simpa using ht
        have AB2 : Hid (Calls Try.prog 81 #[.int .i64 (((a + c) / 2 : Nat) : Int), .pointer (some ⟨x, 0, none⟩), .pointer (some ⟨y, 0, none⟩)] (w.drewN n) fun e w' => e = .returned (.bool false) ∧ ∃ k, w' = (w.drewN n).drewN k) := by rw [← ht']; exact AB.out
        clear AB ht'
        go_wp2_with fail
        rw [show ((a : Int) + (c : Int)) / 2 = (((a + c) / 2 : Nat) : Int) by omega]
        refine AB2.out.mono ?_
        rintro e w1 ⟨rfl, k, rfl⟩
        clear AB2
        go_wp2_with fail
        go_roundw
        case rel => exact ⟨(a + c) / 2 + 1, c, n + k, by omega, hcn, by go_num, rfl, rfl, fun i h hi => by
            by_cases e : i = (a + c) / 2
            · subst e; rw [← HQ.out]; omega
            · have := HS.out i ((a + c) / 2) h hm (by omega)
              have := HQ.out
              omega, hrs.out.2⟩
        case measure => simp [intOf]; omega
    · have e : c = a := by omega
      subst e
      go_wp2_with fail
      go_ret
      exact ⟨c, rfl, ⟨hcn, hrs.out⟩, n, rfl⟩
/-- The row of a page. -/
theorem at_core (b o g cap : Nat) (R : List (Nat × Nat)) (f : Nat → Nat) (p : Int) (hp : 0 ≤ p) (hp' : p < 34359738368) (hn : R.length ≤ 70368744177664) (w : World) (hL : ListAt w b o g cap R) (hs : Seg f 0 R 34359738368)
    (i : Nat) (hi : i < R.length) (h1 : R[i].1 ≤ p.toNat) (h2 : p.toNat < startR R 34359738368 (i + 1)) :
    Calls Try.prog 58 #[.pointer (some ⟨b, o, none⟩), .int .u64 p] w fun e w' => e = .returned (.int .i64 (i : Int)) ∧ Below w.heap.size w w' := by
  have hmf : ∀ (fn : Fn) (first cap : Array Value) (w : World), (Instr.makeFunc fn first cap).run Try.prog w = .ok (.func fn first cap) w := fun _ _ _ _ => rfl
  have hl := hL.list
  have hlt := cell_lt hl
  have HL := hide hL
  have HS := hide hs
  have H12 := hide (And.intro h1 h2)
  clear hL hs h1 h2
  go_enter Try.func58, Try.ntmps58
  go_wp2_with fail
  refine (search_core w.heap.size (w.heap.size + 1) b o g cap R p hp hn _ (by simp [go_sem]) (by simp [go_sem]) (HL.out.below (((Below.refl _ _).alloc (Nat.le_refl _) _).alloc (by simp) _)) HS.out.pair).mono ?_
  rintro e w1 ⟨k, rfl, hk, n, rfl⟩
  obtain ⟨j, hj, hjl, hj1, hj2⟩ := at_row HS.out hp hp' hk
  have e : j = i := HS.out.at_one hjl hi hj1 hj2 H12.out.1 H12.out.2
  subst e hj
  clear hk hj1 hj2 H12
  go_wp2_with fail
  go_ret
  exact ⟨ret_int (by omega), below_drewN (((Below.refl _ _).alloc (Nat.le_refl _) _).alloc (by simp) _) n⟩
/-- Where a row ends. -/
theorem end_core (b o g cap : Nat) (R : List (Nat × Nat)) (i : Int) (hi0 : 0 ≤ i) (hi : i < R.length) (hn : R.length ≤ 70368744177664) (w : World) (hL : ListAt w b o g cap R) :
    Calls Try.prog 59 #[.pointer (some ⟨b, o, none⟩), .int .i64 i] w fun e w' => e = .returned (.int .u64 (startR R 34359738368 (i.toNat + 1) : Nat)) ∧ w' = w := by
  have hl := hL.list
  by_cases c : i.toNat + 1 < R.length
  · have h2 := hL.first (i.toNat + 1) c
    rw [startR_lt c]
    obtain ⟨x, hx⟩ : ∃ x, x = R[i.toNat + 1].1 := ⟨_, rfl⟩
    rw [← hx] at h2 ⊢
    have hd : i + 1 < R.length := by omega
    rw [show i.toNat + 1 = (i + 1).toNat by omega] at h2
    clear hx c hL
    go_enter Try.func59, Try.ntmps59
    go_wp2_with fail
    go_ret
    exact ⟨rfl, rfl⟩
  · rw [startR_ge (by omega)]
    have hd : ¬ i + 1 < R.length := by omega
    clear c hL
    go_enter Try.func59, Try.ntmps59
    go_wp2_with fail
    go_ret
    exact ⟨rfl, rfl⟩
/-- A page's state. -/
theorem state_core (b o g cap : Nat) (R : List (Nat × Nat)) (f : Nat → Nat) (p : Int) (hp : 0 ≤ p) (hn : R.length ≤ 70368744177664) (w : World) (hL : ListAt w b o g cap R) (hs : Seg f 0 R 34359738368) (hz : ∀ p, 34359738368 ≤ p → f p = 0) :
    Calls Try.prog 54 #[.pointer (some ⟨b, o, none⟩), .int .u64 p] w fun e w' => e = .returned (.int .i64 (f p.toNat : Nat)) ∧ Below w.heap.size w w' := by
  have hl := hL.list
  have hlt := cell_lt hl
  by_cases c : 34359738368 ≤ p
  · rw [hz p.toNat (by omega)]
    clear hL hs hz
    go_enter Try.func54, Try.ntmps54
    go_wp2_with fail
    go_ret
    exact ⟨rfl, Below.refl _ _⟩
  · obtain ⟨i, hi, h1, h2⟩ := hs.at p.toNat (by omega) (by omega)
    have hst := hL.state i hi
    have hsl := cell_lt hst
    rw [(hs.row i hi).2.2.2 p.toNat h1 h2]
    obtain ⟨s, hs'⟩ : ∃ s, s = R[i].2 := ⟨_, rfl⟩
    rw [← hs'] at hst ⊢
    have HL := hide hL
    have HS := hide hs
    have H12 := hide (And.intro h1 h2)
    have hx := @ext_cell w
    clear hL hs hz h1 h2 hs'
    go_enter Try.func54, Try.ntmps54
    go_wp2_with fail
    have hne := ext_ne w
    refine wp_region_calm (by kernel_rfl) (by kernel_rfl) ?_
    repeat (go_big_quiet_step ((go_at_call 58; exact calm_of (at_core b o g cap R f p hp c hn _ (HL.out.below (Ext.h _)) HS.out i hi H12.out.1 H12.out.2))))
    refine wpQuiet_nil ?_
    rintro _ ⟨n, rfl⟩
    go_wp2_with fail
    go_ret
    exact ⟨rfl, n.h⟩
end Go.Proofs.Ytpceigglilgelaa
