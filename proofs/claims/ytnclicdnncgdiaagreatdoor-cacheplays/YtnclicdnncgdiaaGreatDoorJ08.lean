/- J08 of the proof of both laws: texts Ce, Tr, Ts, one behind the other. -/
import Derived.Test.YtnclicdnncgdiaaGreatDoorJ07
/- The reference's chunk: Give, New, Free, Released, Scavenge: contracts. -/
namespace Go.Proofs.YtnclicdnncgdiaaGreatDoor
open Go.ChangeShapes Go.WideShapes Go.ChangeAt Go.RowKit Go.Proofs.Bt Go.Shelf
set_option linter.unusedVariables false
set_option linter.unusedSimpArgs false

/-- No page is used and released: 8.4. -/
def Apart (u g : Nat → Bool) : Prop := ∀ k, k < 512 → u k = true → g k = false
theorem apart_new : Apart (fun _ => false) (setF (fun _ => false) 0 512) := fun k _ h => by cases h
theorem apart_take {u g : Nat → Bool} (h : Apart u g) (i n : Int) : Apart (takeS u g i n).2.2.1 (takeS u g i n).2.2.2 := by
  unfold takeS
  split
  · split
    · intro k hk hu
      simp only [setF, clrF] at *
      by_cases e : i.toNat ≤ k ∧ k < i.toNat + n.toNat
      · rw [decide_eq_true e]; simp
      · rw [decide_eq_false e] at *; simp only [Bool.or_false, Bool.not_false, Bool.and_true] at *; exact h k hk hu
    · exact h
  · exact h
theorem apart_give {u g : Nat → Bool} (h : Apart u g) (i n : Int) (x : Bool) : Apart (giveS u g i n x).2.1 (giveS u g i n x).2.2 := by
  unfold giveS
  split
  · split
    · intro k hk hu
      simp only [clrF] at hu
      by_cases e : i.toNat ≤ k ∧ k < i.toNat + n.toNat
      · rw [decide_eq_true e] at hu; simp at hu
      · rw [decide_eq_false e] at hu; simp only [Bool.not_false, Bool.and_true] at hu
        cases x
        · exact h k hk hu
        · show setF g _ _ k = false
          unfold setF; rw [decide_eq_false e, Bool.or_false]; exact h k hk hu
    · exact h
  · exact h
theorem apart_scav {u g : Nat → Bool} (h : Apart u g) {most i k : Int} (p : LastP (busy u g) most 512 i k) : Apart u (setF g i.toNat k.toNat) := by
  intro j hj hu
  unfold setF
  rw [h j hj hu, Bool.false_or]
  refine decide_eq_false (fun e => ?_)
  rcases p with ⟨rfl, rfl, h1⟩ | ⟨h1, a, m, rfl, rfl, h2, h3, h4, h5, h6, h7⟩
  · simp at e
  · have := h5 (j - a) (by simp at e; omega)
    rw [show a + (j - a) = j by simp at e; omega] at this
    unfold busy at this
    rw [hu] at this
    cases this

theorem freeR_any (b : Nat) (u g : Nat → Bool) (w : World) (h : RcF w b u g) :
    Calls Tryz.prog 63 #[.pointer (some ⟨b, 0, none⟩)] w fun e w' => e = .returned (.int .i64 (512 - (cnt u 0 512 : Nat))) ∧ w' = w := by
  have cC := countR_int b 0 u w h.used 0 512 (by omega) (by omega) (by omega)
  have hl := cnt_le u 0 512
  obtain ⟨C, hC⟩ : ∃ C : Int, ((cnt u 0 512 : Nat) : Int) = C := ⟨_, rfl⟩
  rw [show ((0 : Int).toNat) = 0 from rfl, show ((512 : Int).toNat) = 512 from rfl] at cC
  rw [hC] at cC ⊢
  have c0 : 0 ≤ C := by omega
  have c1 : C ≤ 512 := by omega
  clear hC hl h
  go_enter Tryz.func63, Tryz.ntmps63
  go_wp2_with fail
  go_at_call 91
  refine cC.mono ?_
  rintro e w' ⟨rfl, hw'⟩; rw [hw']; clear hw' w'
  go_wp2_with fail
  go_ret
  exact ⟨rfl, rfl⟩
theorem releasedR_any (b : Nat) (u g : Nat → Bool) (w : World) (h : RcF w b u g) :
    Calls Tryz.prog 64 #[.pointer (some ⟨b, 0, none⟩)] w fun e w' => e = .returned (.int .i64 (cnt g 0 512 : Nat)) ∧ w' = w := by
  have cC := countR_int b 512 g w h.gone 0 512 (by omega) (by omega) (by omega)
  rw [show ((0 : Int).toNat) = 0 from rfl, show ((512 : Int).toNat) = 512 from rfl] at cC
  clear h
  go_enter Tryz.func64, Tryz.ntmps64
  go_wp2_with fail
  go_at_call 91
  refine cC.mono ?_
  rintro e w' ⟨rfl, hw'⟩; rw [hw']; clear hw' w'
  go_wp2_with fail
  go_ret
  exact ⟨rfl, rfl⟩

/-! ### New, Scavenge -/
def zs512 : Array Value := Array.replicate 512 (.bool false)
theorem zs_run (w : World) : (zeroValue 82).run Tryz.prog w = .ok (.agg zs512) w := by kernel_rfl
theorem zs_size : zs512.size = 512 := by kernel_rfl
theorem zs_ne : zs512 ≠ #[] := fun h => by have := congrArg Array.size h; rw [zs_size] at this; cases this
def zs1024 : Array Value := Array.replicate 1024 (.bool false)
theorem zt_run (w : World) : (zeroValue 84).run Tryz.prog w = .ok (.agg zs1024) w := by kernel_rfl
theorem zt_size : zs1024.size = 1024 := by kernel_rfl
theorem zt_ne : zs1024 ≠ #[] := fun h => by have := congrArg Array.size h; rw [zt_size] at this; cases this
theorem bool_of {w : World} {b ro : Nat} {t : TypeId} {cs : Array Value} {f : Nat → Bool} (h : w.heap[b]? = some (.cells cs t (0, 0))) (hc : ∀ k, k < 512 → cs[ro + k]? = some (.bool (f k))) : BoolAt w b ro f :=
  ⟨fun k hk => by simp [World.cell?, h, hc k hk], fun k hk => by simp [World.frozen?, h]⟩
set_option maxRecDepth 100000 in
set_option maxHeartbeats 4000000 in
theorem newR_any (w : World) : Calls Tryz.prog 17 #[] w fun e w' => e = .returned (.pointer (some ⟨w.heap.size, 0, none⟩)) ∧ RcF w' w.heap.size (fun _ => false) (setF (fun _ => false) 0 512) ∧ Below w.heap.size w w' := by
  obtain ⟨N, hN⟩ : ∃ N, w.heap.size = N := ⟨_, rfl⟩
  obtain ⟨w0, hw0⟩ : ∃ w0, w0 = w.alloc (.cells zs1024 84) := ⟨_, rfl⟩
  have k0 : Below N w w0 := by rw [hw0, ← hN]; exact (Below.refl _ w).alloc (Nat.le_refl _) _
  have hz : w0.heap[N]? = some (.cells zs1024 84 (0, 0)) := by rw [hw0, ← hN, alloc_at, if_pos rfl]
  have h0 : RcF w0 N (fun _ => false) (fun _ => false) := ⟨bool_of hz (fun k hk => by unfold zs1024; rw [Array.getElem?_replicate, if_pos (by omega)]), bool_of hz (fun k hk => by unfold zs1024; rw [Array.getElem?_replicate, if_pos (by omega)])⟩
  have H0 := hide h0
  have K0 := hide k0
  have W0 := hide hw0
  rw [hN]
  clear hw0 k0 hz h0
  have zr := zt_run
  have zz := zt_size
  have zn := zt_ne
  go_enter Tryz.func17, Tryz.ntmps17
  go_wp2_with fail
  go_at_call 43
  rw [← W0.out]
  clear W0 zr zz zn
  refine (put_int N 512 (fun _ => false) true w0 H0.out.gone 0 512 (by omega) (by omega) (by omega)).mono ?_
  rintro e w1 ⟨rfl, r1, k1⟩
  have HC := hide (H0.out.setG k1 r1)
  have KK := hide (K0.out.trans (k1.kept.below (by have := K0.out.size; omega) (fun x hx => by omega)))
  clear r1 k1
  go_wp2_with fail
  go_ret
  exact ⟨rfl, HC.out, KK.out⟩
set_option maxRecDepth 100000 in
set_option maxHeartbeats 4000000 in
theorem scavR_any (b : Nat) (u g : Nat → Bool) (w : World) (h : RcF w b u g) (most : Int) (hm : most ≤ 9223372036854775807) :
    Calls Tryz.prog 62 #[.pointer (some ⟨b, 0, none⟩), .int .i64 most] w fun e w' =>
      ∃ i k, e = .returned (.tuple #[.int .i64 i, .int .i64 k]) ∧ LastP (busy u g) most 512 i k ∧ RcF w' b u (setF g i.toNat k.toNat) ∧ Kept (fun x => x = b) w w' := by
  have hb := h.lt
  obtain ⟨w0, hw0⟩ : ∃ w0, w0 = w.alloc (.cells zs512 82) := ⟨_, rfl⟩
  have k0 : Below w.heap.size w w0 := by rw [hw0]; exact (Below.refl _ w).alloc (Nat.le_refl _) _
  have hz : w0.heap[w.heap.size]? = some (.cells zs512 82 (0, 0)) := by rw [hw0, alloc_at, if_pos rfl]
  have z0 : BoolAt w0 w.heap.size 0 (fun _ => false) := bool_of hz (fun k hk => by unfold zs512; rw [Array.getElem?_replicate, if_pos (by omega)])
  have HC := hide (h.below k0)
  have Z0 := hide z0
  have K0 := hide k0
  have W0 := hide hw0
  clear hw0 k0 hz z0 h
  have zr := zs_run
  have zz := zs_size
  have zn := zs_ne
  go_enter Tryz.func62, Tryz.ntmps62
  go_wp2_with fail
  rw [← W0.out]
  obtain ⟨N, hN⟩ : ∃ N, w.heap.size = N := ⟨_, rfl⟩
  simp only [hN] at Z0 hb ⊢
  have HN := hide hN
  clear hN W0 zr zz zn
  go_loopw [7] (fun v wr => ∃ I : Int, v = .int .i64 I ∧ 0 ≤ I ∧ I ≤ 512 ∧ Hid (BoolAt wr N 0 (fun j => decide (j < I.toNat) && busy u g j) ∧ RcF wr b u g ∧ Below w.heap.size w wr)) (fun v _ => (512 - intOf v).toNat)
  case atStart => exact ⟨0, rfl, by omega, by omega, hide ⟨Z0.out.congr (fun k hk => by simp), HC.out, K0.out⟩⟩
  case round =>
    obtain ⟨I, rfl, I0, I1, HS⟩ := hrel
    by_cases hlt : I < 512
    · have c1 := HS.out.1.cell I.toNat (by omega)
      have f1 := HS.out.1.fz I.toNat (by omega)
      have c2 := HS.out.2.1.used.cell I.toNat (by omega)
      have c3 := HS.out.2.1.gone.cell I.toNat (by omega)
      rw [Nat.zero_add] at c1 f1 c2
      have fin : ∀ (x : Bool) W, x = busy u g I.toNat → W = wr.setCell ⟨N, I.toNat, none⟩ (.bool x) → Hid (BoolAt W N 0 (fun j => decide (j < (I + 1).toNat) && busy u g j) ∧ RcF W b u g ∧ Below w.heap.size w W) := fun x W hx hW => by
        have s1 := HS.out.1.set I.toNat (by omega) x
        rw [Nat.zero_add, ← hW] at s1
        have k1 : Kept (fun x => x = N) wr W := by rw [hW]; exact kept_set wr N I.toNat _ rfl
        refine hide ⟨s1.congr (fun j hj => ?_), HS.out.2.1.kept k1 (by omega), below_kept HS.out.2.2 k1 (fun x hx => by have := HN.out; omega) HS.out.2.2.size⟩
        by_cases e : j = I.toNat
        · rw [if_pos e, decide_eq_true (by omega), hx, e]; rfl
        · rw [if_neg e]
          congr 1
          rw [Bool.eq_iff_iff]; simp only [decide_eq_true_eq]; omega
      have FIN := hide fin
      clear fin
      cases hu : u I.toNat with
      | true =>
        rw [hu] at c2
        have hB := hide (show true = busy u g I.toNat by unfold busy; rw [hu]; rfl)
        clear hu
        go_wp2_with fail
        refine ⟨⟨I + 1, rfl, by omega, by omega, FIN.out true _ hB.out rfl⟩, ?_⟩
        simp [intOf]; omega
      | false =>
        rw [hu] at c2
        have hB := hide (show g I.toNat = busy u g I.toNat by unfold busy; rw [hu]; rfl)
        clear hu
        go_wp2_with fail
        refine ⟨⟨I + 1, rfl, by omega, by omega, FIN.out (g I.toNat) _ hB.out rfl⟩, ?_⟩
        simp [intOf]; omega
    · have hge : 512 ≤ I := by omega
      have HB := hide (HS.out.1.congr (f' := busy u g) (fun j hj => by rw [decide_eq_true (by omega)]; rfl))
      have H1 := hide HS.out.2.1
      have H2 := hide HS.out.2.2
      clear hlt HS
      go_wp2_with fail
      go_at_call 90
      refine (lastRef_any N 0 (busy u g) wr HB.out most 512 hm).mono ?_
      rintro e w' ⟨i, k, rfl, p3, hw'⟩; rw [hw']; clear hw' w'
      have P3 := hide p3
      obtain ⟨i0, i1, i2⟩ := last_bounds p3
      have R := hide (And.intro i0 (And.intro i1 i2))
      clear p3 i0 i1 i2
      go_wp2_with fail
      go_at_call 43
      refine (put_int b 512 g true wr H1.out.gone i k R.out.1 R.out.2.1 R.out.2.2).mono ?_
      rintro e w4 ⟨rfl, r4, k4⟩
      have HC4 := hide (H1.out.setG k4 r4)
      have K4 := hide ((Kept.of_below (F := fun x => x = b) H2.out).trans k4.kept (fun _ _ f => f))
      clear r4 k4
      go_wp2_with fail
      go_ret2
      exact ⟨i, k, rfl, P3.out, HC4.out, K4.out⟩
end Go.Proofs.YtnclicdnncgdiaaGreatDoor

/- The reference's tree: how it lies; find: its contract. -/
namespace Go.Proofs.YtnclicdnncgdiaaGreatDoor
open Go.ChangeShapes Go.WideShapes Go.ChangeAt Go.RowKit Go.Proofs.Bt Go.Shelf
set_option linter.unusedVariables false
set_option linter.unusedSimpArgs false

/-- A chunk in use: its number, the block in which it lies, its pages. -/
structure Pt where
  n : Nat
  blk : Nat
  u : Nat → Bool
  g : Nat → Bool
def ptcell (p : Pt) : List Value := [.int .u64 (p.n : Int), .pointer (some ⟨p.blk, 0, none⟩)]
def ptcells (P : List Pt) : List Value := P.flatMap ptcell
/-- A tree in a block: its chunks in use, rising. -/
structure TrAt (W : World) (tb : Nat) (P : List Pt) (o : Option Addr) (c : Nat) : Prop where
  cell : W.cell? ⟨tb, 0, none⟩ = some (.slice o P.length c)
  fz : W.frozen? ⟨tb, 0, none⟩ = false
  own : W.ownsRow 0 64 2 (.slice o P.length c) P.length (ptcells P)
  part : ∀ i (hi : i < P.length), RcF W P[i].blk P[i].u P[i].g
  rising : (P.map (·.n)).Pairwise (· < ·)
  below : ∀ p ∈ P, p.n < 67108864
theorem flat_get {α : Type} (n : Nat) (f : α → List Value) (hf : ∀ a, (f a).length = n) (l : List α) (i r : Nat) (hi : i < l.length) (hr : r < n) : (l.flatMap f)[i * n + r]? = (f l[i])[r]? := by
  induction l generalizing i with
  | nil => simp at hi
  | cons a l ih =>
    rw [List.flatMap_cons]
    cases i with
    | zero => rw [List.getElem?_append_left (by rw [hf]; omega)]; simp
    | succ i =>
      rw [List.getElem?_append_right (by rw [hf, Nat.add_mul]; omega), hf, show (i + 1) * n + r - n = i * n + r by rw [Nat.add_mul]; omega, ih i (by simpa using hi)]
      rfl
theorem TrAt.at {W : World} {tb : Nat} {P : List Pt} {o : Option Addr} {c : Nat} (h : TrAt W tb P o c) (h0 : 0 < P.length) : ∃ b, o = some ⟨b, 0, none⟩ ∧ ∀ i (hi : i < P.length), W.cell? ⟨b, i * 2, none⟩ = some (.int .u64 (P[i].n : Int)) ∧ W.cell? ⟨b, i * 2 + 1, none⟩ = some (.pointer (some ⟨P[i].blk, 0, none⟩)) := by
  have own := h.own
  obtain ⟨hl, hh | ⟨g, cap, cur, hv, _⟩⟩ := h.own
  · omega
  · have ho : o = some ⟨g, 0, none⟩ := by injection hv
    subst ho
    refine ⟨g, rfl, fun i hi => ?_⟩
    have get := fun r (hr : r < 2) => flat_get 2 ptcell (fun _ => rfl) P i r hi hr
    have at0 := fun r (hr : r < 2) => own.cellAt (i * 2 + r) (by omega)
    exact ⟨(at0 0 (by decide)).trans (get 0 (by decide)), (at0 1 (by decide)).trans (get 1 (by decide))⟩
theorem TrAt.drewN {W : World} {tb : Nat} {P : List Pt} {o : Option Addr} {c : Nat} (h : TrAt W tb P o c) (k : Nat) : TrAt (W.drewN k) tb P o c :=
  ⟨h.cell, h.fz, h.own, fun i hi => ⟨⟨(h.part i hi).used.cell, (h.part i hi).used.fz⟩, ⟨(h.part i hi).gone.cell, (h.part i hi).gone.fz⟩⟩, h.rising, h.below⟩
/-- Where a chunk is, or would be. -/
def pos9 (n : Nat) : List Pt → Nat
  | [] => 0
  | p :: t => if p.n < n then pos9 n t + 1 else 0
theorem pos9_le (n : Nat) : ∀ P : List Pt, pos9 n P ≤ P.length
  | [] => Nat.le_refl _
  | p :: t => by
    unfold pos9
    split
    · have := pos9_le n t; simp; omega
    · exact Nat.zero_le _
theorem pos9_lt (n : Nat) : ∀ (P : List Pt) (i : Nat) (hi : i < P.length), i < pos9 n P → P[i].n < n
  | [], _, hi, _ => by cases hi
  | p :: t, i, hi, h => by
    unfold pos9 at h
    by_cases hp : p.n < n
    · rw [if_pos hp] at h
      cases i with
      | zero => exact hp
      | succ i => exact pos9_lt n t i (by simpa using hi) (by omega)
    · rw [if_neg hp] at h; omega
theorem pos9_ge (n : Nat) : ∀ (P : List Pt) (hi : pos9 n P < P.length), n ≤ P[pos9 n P].n
  | [], hi => by cases hi
  | p :: t, hi => by
    by_cases hp : p.n < n
    · have e : pos9 n (p :: t) = pos9 n t + 1 := by rw [pos9, if_pos hp]
      have hi' : pos9 n t < t.length := by rw [e] at hi; simpa using hi
      have := pos9_ge n t hi'
      simp only [e, List.getElem_cons_succ]
      exact this
    · have e : pos9 n (p :: t) = 0 := by rw [pos9, if_neg hp]
      simp only [e, List.getElem_cons_zero]
      omega
theorem pos9_at {n : Nat} {P : List Pt} {k : Nat} (hk : k ≤ P.length) (h1 : ∀ i (hi : i < P.length), i < k → P[i].n < n) (h2 : ∀ hi : k < P.length, n ≤ P[k].n) : pos9 n P = k := by
  rcases Nat.lt_trichotomy (pos9 n P) k with l | l | l
  · have a := pos9_ge n P (by omega)
    have b := h1 (pos9 n P) (by omega) l
    omega
  · exact l
  · have hl := pos9_le n P
    have a := pos9_lt n P k (by omega) l
    have b := h2 (by omega)
    omega
def has9 (n : Nat) (P : List Pt) : Bool := decide (∃ hi : pos9 n P < P.length, P[pos9 n P].n = n)
set_option maxRecDepth 100000 in
set_option maxHeartbeats 2000000 in
theorem find9 {W : World} {tb : Nat} {P : List Pt} {o : Option Addr} {c : Nat} (h : TrAt W tb P o c) (hl : P.length ≤ 1000000) (n : Int) (h0 : 0 ≤ n) :
    Calls Tryz.prog 16 #[.pointer (some ⟨tb, 0, none⟩), .int .u64 n] W fun e w' => e = .returned (.tuple #[.int .i64 (pos9 n.toNat P : Nat), .bool (has9 n.toNat P)]) ∧ ∃ k, w' = W.drewN k := by
  obtain ⟨R, hR⟩ : ∃ R : Ending → World → Prop, R = fun e w' => e = .returned (.tuple #[.int .i64 (pos9 n.toNat P : Nat), .bool (has9 n.toNat P)]) ∧ ∃ k, w' = W.drewN k := ⟨_, rfl⟩
  rw [← hR]
  have FIN := hide (show ∀ (k : Int) (x : Bool) (j : Nat), 0 ≤ k → pos9 n.toNat P = k.toNat → has9 n.toNat P = x → R (.returned (.tuple #[.int .i64 k, .bool x])) (W.drewN j) from fun k x j h0 h1 h2 => by
    rw [hR]
    exact ⟨by rw [h1, h2, show ((k.toNat : Nat) : Int) = k by omega], j, rfl⟩)
  clear hR
  have HH := hide h
  have c0 := h.cell
  obtain ⟨L, hL⟩ : ∃ L : Nat, P.length = L := ⟨_, rfl⟩
  rw [hL] at c0
  have HL := hide hL
  have l0 : 0 ≤ (L : Int) := by omega
  have l1 : (L : Int) ≤ 1000000 := by omega
  clear h hL
  go_enter Tryz.func16, Tryz.ntmps16
  go_wp2_with fail
  go_loop [6] (fun v => ∃ k : Int, v = .int .i64 k ∧ 0 ≤ k ∧ k ≤ L ∧ Hid (∀ i (hi : i < P.length), i < k.toNat → P[i].n < n.toNat)) (fun v => (L - intOf v).toNat)
  case atStart => exact ⟨0, rfl, by omega, by omega, hide (fun i hi h => by simp at h)⟩
  case round =>
    obtain ⟨k, rfl, k0, k1, HI⟩ := hrel
    by_cases hk : k < L
    · obtain ⟨b, rfl, hc⟩ := HH.out.at (by have := HL.out; omega)
      obtain ⟨d0, d1⟩ := hc k.toNat (by have := HL.out; omega)
      obtain ⟨N, hN⟩ : ∃ N : Nat, (P[k.toNat]'(by have := HL.out; omega)).n = N := ⟨_, rfl⟩
      rw [hN] at d0
      have HN := hide hN
      obtain ⟨NI, hNI⟩ : ∃ NI : Int, (N : Int) = NI := ⟨_, rfl⟩
      rw [hNI] at d0
      have HNI := hide hNI
      clear hc d1 hN hNI
      by_cases hn : NI < n
      · have HI2 := hide (show ∀ i (hi : i < P.length), i < (k + 1).toNat → P[i].n < n.toNat from fun i hi h => by
          by_cases e : i = k.toNat
          · subst e; have := HN.out; have := HNI.out; omega
          · exact HI.out i hi (by omega))
        clear HI
        go_wp2_with fail
        refine ⟨⟨k + 1, rfl, by omega, by omega, HI2⟩, ?_⟩
        simp [intOf]; omega
      · have hn' : n ≤ NI := by omega
        have hp : pos9 n.toNat P = k.toNat := pos9_at (by have := HL.out; omega) HI.out (fun hi => by have := HN.out; have := HNI.out; omega)
        have hv : has9 n.toNat P = decide (NI = n) := by
          unfold has9
          rw [Bool.eq_iff_iff]
          simp only [decide_eq_true_eq]
          constructor
          · rintro ⟨hi, e⟩
            have e2 : (P[k.toNat]'(by have := HL.out; omega)).n = n.toNat := by simpa only [hp] using e
            have := HN.out; have := HNI.out; omega
          · intro e
            refine ⟨by have := HL.out; omega, ?_⟩
            have e2 : (P[k.toNat]'(by have := HL.out; omega)).n = n.toNat := by have := HN.out; have := HNI.out; omega
            simpa only [hp] using e2
        have hq : (NI == n) = decide (NI = n) := rfl
        have F := hide (fun j => FIN.out k _ j k0 hp hv)
        clear hn hp hv
        go_wp2_with fail
        go_quiet (fail)
        go_wp2_with fail
        exact F.out _
    · have hk' : (L : Int) ≤ k := by omega
      have hp : pos9 n.toNat P = k.toNat := pos9_at (by have := HL.out; omega) HI.out (fun hi => by have := HL.out; omega)
      have hv : has9 n.toNat P = false := decide_eq_false (fun ⟨hi, _⟩ => by have := HL.out; omega)
      have F := hide (fun j => FIN.out k _ j k0 hp hv)
      have hd : decide (k < (L : Int)) = false := decide_eq_false (by omega)
      clear hk hp hv
      go_wp2_with fail
      go_quiet (fail)
      go_wp2_with fail
      exact F.out _
end Go.Proofs.YtnclicdnncgdiaaGreatDoor

/- The reference's tree: State: its contract. -/
namespace Go.Proofs.YtnclicdnncgdiaaGreatDoor
open Go.ChangeShapes Go.WideShapes Go.ChangeAt Go.RowKit Go.Proofs.Bt Go.Shelf
set_option linter.unusedVariables false
set_option linter.unusedSimpArgs false

theorem drewN_add (w : World) (a b : Nat) : (w.drewN a).drewN b = w.drewN (a + b) := by
  unfold World.drewN; simp [Nat.add_assoc]
/-- What a page is: 9.4. -/
def state9 (P : List Pt) (p : Nat) : Bool × Bool × Bool :=
  if h : ∃ hi : pos9 (p / 512) P < P.length, P[pos9 (p / 512) P].n = p / 512 then (true, !(P[pos9 (p / 512) P]'h.1).u (p % 512), (P[pos9 (p / 512) P]'h.1).g (p % 512)) else (false, false, false)
/-- What State answers, and what it leaves. -/
def StP (W : World) (a b c : Bool) (e : Ending) (w' : World) : Prop := e = .returned (.tuple #[.bool a, .bool b, .bool c]) ∧ ∃ k, w' = W.drewN k
set_option maxRecDepth 100000 in
set_option maxHeartbeats 400000 in
theorem st9_no {W : World} {tb Z : Nat} (p : Int) (h0 : 0 ≤ p) (h1 : p < 18446744073709551616)
    (cF : Calls Tryz.prog 16 #[.pointer (some ⟨tb, 0, none⟩), .int .u64 (p / 512)] W fun e w' => e = .returned (.tuple #[.int .i64 (Z : Nat), .bool false]) ∧ ∃ k, w' = W.drewN k) :
    Calls Tryz.prog 12 #[.pointer (some ⟨tb, 0, none⟩), .int .u64 p] W (StP W false false false) := by
  have e1 : IntKind.u64.wrap (p.tdiv 512) = p / 512 := by rw [IntKind.wrap_u64, Int.tdiv_eq_ediv_of_nonneg h0]; omega
  have FF := hide (show ∀ j, StP W false false false (.returned (.tuple #[.bool false, .bool false, .bool false])) (W.drewN j) from fun j => ⟨rfl, j, rfl⟩)
  obtain ⟨PO, hPO⟩ : ∃ PO, PO = StP W false false false := ⟨_, rfl⟩
  rw [← hPO] at FF ⊢
  clear hPO
  go_enter Tryz.func12, Tryz.ntmps12
  go_wp2_with fail
  refine cF.mono ?_
  rintro e w1 ⟨rfl, j, hw⟩
  have F2 := hide (FF.out j)
  rw [← hw] at F2
  clear cF hw FF e1 h0 h1
  go_wp2_with fail
  refine bodyPost_ret (results_tmp3 Tryz.results12 _ _ _) rfl ?_
  exact F2.out
set_option maxRecDepth 100000 in
set_option maxHeartbeats 800000 in
theorem st9_yes {W : World} {tb b : Nat} {K L c blk : Nat} {u g : Nat → Bool} (p : Int) (h0 : 0 ≤ p) (h1 : p < 18446744073709551616)
    (c0 : W.cell? ⟨tb, 0, none⟩ = some (.slice (some ⟨b, 0, none⟩) L c)) (hK : K < L) (hL : L ≤ 1000000)
    (d1 : W.cell? ⟨b, K * 2 + 1, none⟩ = some (.pointer (some ⟨blk, 0, none⟩)))
    (pr : RcF W blk u g)
    (cF : Calls Tryz.prog 16 #[.pointer (some ⟨tb, 0, none⟩), .int .u64 (p / 512)] W fun e w' => e = .returned (.tuple #[.int .i64 (K : Nat), .bool true]) ∧ ∃ k, w' = W.drewN k) :
    Calls Tryz.prog 12 #[.pointer (some ⟨tb, 0, none⟩), .int .u64 p] W (StP W true (!u (p % 512).toNat) (g (p % 512).toNat)) := by
  have cu := pr.used.cell (p % 512).toNat (by omega)
  have cg := pr.gone.cell (p % 512).toNat (by omega)
  rw [Nat.zero_add] at cu
  clear pr
  obtain ⟨x, hx⟩ : ∃ x, u (p % 512).toNat = x := ⟨_, rfl⟩
  obtain ⟨y, hy⟩ : ∃ y, g (p % 512).toNat = y := ⟨_, rfl⟩
  rw [hx] at cu
  rw [hy] at cg
  rw [hx, hy]
  clear hx hy
  have FF := hide (show ∀ j, StP W true (!x) y (.returned (.tuple #[.bool true, .bool (!x), .bool y])) (W.drewN j) from fun j => ⟨rfl, j, rfl⟩)
  obtain ⟨PO, hPO⟩ : ∃ PO, PO = StP W true (!x) y := ⟨_, rfl⟩
  rw [← hPO] at FF ⊢
  clear hPO
  obtain ⟨KI, hKI⟩ : ∃ KI : Int, (K : Int) = KI := ⟨_, rfl⟩
  have k0 : 0 ≤ KI := by omega
  have k1 : KI < (L : Int) := by omega
  have k2 : (L : Int) ≤ 1000000 := by omega
  rw [hKI] at cF
  rw [show K = KI.toNat by omega] at d1
  clear hKI hK hL
  have m0 : 0 ≤ p % 512 := by omega
  have m1 : p % 512 < 512 := by omega
  have em : p.tmod 512 = p % 512 := Int.tmod_eq_emod_of_nonneg h0
  have CC := hide (show ∀ j, (W.drewN j).cell? ⟨tb, 0, none⟩ = some (.slice (some ⟨b, 0, none⟩) L c) ∧ (W.drewN j).cell? ⟨b, KI.toNat * 2 + 1, none⟩ = some (.pointer (some ⟨blk, 0, none⟩)) ∧ (W.drewN j).cell? ⟨blk, (p % 512).toNat, none⟩ = some (.bool x) ∧ (W.drewN j).cell? ⟨blk, 512 + (p % 512).toNat, none⟩ = some (.bool y) from fun j => ⟨c0, d1, cu, cg⟩)
  clear c0 d1 cu cg
  go_enter Tryz.func12, Tryz.ntmps12
  go_wp2_with fail
  refine cF.mono ?_
  rintro e w1 ⟨rfl, j, hw⟩
  have F2 := hide (show ∀ q, PO (.returned (.tuple #[.bool true, .bool (!x), .bool y])) ((W.drewN j).drewN q) from fun q => by rw [drewN_add]; exact FF.out (j + q))
  obtain ⟨c0, d1, cu, cg⟩ := CC.out j
  rw [← hw] at F2 c0 d1 cu cg
  clear cF hw FF CC
  go_wp2_with fail
  go_quiet (fail)
  go_wp2_with fail
  refine bodyPost_ret (results_tmp3 Tryz.results12 _ _ _) rfl ?_
  exact F2.out _
/-- State (9.4). -/
theorem st9 {W : World} {tb : Nat} {P : List Pt} {o : Option Addr} {c : Nat} (h : TrAt W tb P o c) (hl : P.length ≤ 1000000) (p : Int) (h0 : 0 ≤ p) (h1 : p < 18446744073709551616) :
    Calls Tryz.prog 12 #[.pointer (some ⟨tb, 0, none⟩), .int .u64 p] W (StP W (state9 P p.toNat).1 (state9 P p.toNat).2.1 (state9 P p.toNat).2.2) := by
  have cF := find9 h hl (p / 512) (by omega)
  rw [show (p / 512).toNat = p.toNat / 512 by omega] at cF
  by_cases hx : ∃ hi : pos9 (p.toNat / 512) P < P.length, P[pos9 (p.toNat / 512) P].n = p.toNat / 512
  · rw [show has9 (p.toNat / 512) P = true from decide_eq_true hx] at cF
    have es : state9 P p.toNat = (true, !(P[pos9 (p.toNat / 512) P]'hx.1).u (p.toNat % 512), (P[pos9 (p.toNat / 512) P]'hx.1).g (p.toNat % 512)) := by unfold state9; rw [dif_pos hx]
    rw [es, show p.toNat % 512 = (p % 512).toNat by omega]
    obtain ⟨b, ho, hc⟩ := h.at (by have := hx.1; omega)
    subst ho
    exact st9_yes p h0 h1 h.cell hx.1 hl (hc _ hx.1).2 (h.part _ hx.1) cF
  · rw [show has9 (p.toNat / 512) P = false from decide_eq_false hx] at cF
    have es : state9 P p.toNat = (false, false, false) := by unfold state9; rw [dif_neg hx]
    rw [es]
    exact st9_no p h0 h1 cF
end Go.Proofs.YtnclicdnncgdiaaGreatDoor
