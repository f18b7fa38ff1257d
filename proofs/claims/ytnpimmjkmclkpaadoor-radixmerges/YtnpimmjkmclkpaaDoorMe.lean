/- RadixMerges: a summary of a level is the merge of the eight below it. -/
import Derived.Test.YtnpimmjkmclkpaaDoorLw
namespace Go.Proofs.YtnpimmjkmclkpaaDoor
open Go.ChangeShapes Go.WideShapes Go.ChangeAt Go.RowKit Go.Proofs.Bt Go.Shelf Go.Proofs.Rx Go.Maps Go.Proofs.Pk
set_option linter.unusedVariables false
set_option linter.unusedSimpArgs false

theorem t9_grow_ex {N : Nat} {O : Nat → Prop} {w W : World} {tb : Nat} {st : Nat → Nat} (h : T9 N O w W tb st) (c n : Nat) (hc : c < 18446744073709551616) (hn : n < 18446744073709551616) :
    Calls Tryd.prog 8 #[.pointer (some ⟨tb, 0, none⟩), .int .u64 (c : Nat), .int .u64 (n : Nat)] W fun e W' => (∃ x : Int, e = .returned (.int .i64 x)) ∧ ∃ st', T9 N O w W' tb st' := by
  refine (grow_any h.tr c n hc hn).mono ?_
  rintro e W' ⟨h1, h2, h3⟩
  by_cases z : GrowBad c n
  · exact ⟨⟨_, (h1 z).1⟩, _, (h.chg (h1 z).2).1⟩
  · by_cases y : 0 < (tl st (c * 512) (n * 512)).p
    · exact ⟨⟨_, (h2 z y).1⟩, _, (h.chg (h2 z y).2).1⟩
    · exact ⟨⟨_, (h3 z y).1⟩, _, (h.chg (h3 z y).2).1⟩
theorem t9_alloc_ex {N : Nat} {O : Nat → Prop} {w W : World} {tb : Nat} {st : Nat → Nat} (h : T9 N O w W tb st) (n : Nat) (hn : n < 18446744073709551616) :
    Calls Tryd.prog 10 #[.pointer (some ⟨tb, 0, none⟩), .int .u64 (n : Nat)] W fun e W' => (∃ x y z : Int, e = .returned (.tuple #[.int .u64 x, .int .u64 y, .int .i64 z])) ∧ ∃ st', T9 N O w W' tb st' := by
  refine (alloc_any h.tr n hn).mono ?_
  rintro e W' (⟨_, he, hc⟩ | ⟨_, _, he, hc⟩ | ⟨_, q, hq, hqf, he, hc⟩)
  · exact ⟨⟨_, _, _, he⟩, _, (h.chg hc).1⟩
  · exact ⟨⟨_, _, _, he⟩, _, (h.chg hc).1⟩
  · exact ⟨⟨_, _, _, he⟩, _, (h.chg hc).1⟩
/-- Every row has its summary. -/
theorem sum_total (st : Nat → Nat) (a n : Nat) : ∃ r : Rw, Su st a n r := by
  obtain ⟨s, m, e, _, h⟩ := mg_rows (st := st) (a := a) (P := 1) (by omega) (X := fun j => if fre st (a + 1 * j) = true then ⟨⟨0, 0, 0⟩, 1, 1, 1, 0⟩ else ⟨⟨0, 0, 0⟩, 0, 0, 0, 0⟩) n (fun j hj => by
    unfold Su
    by_cases z : fre st (a + 1 * j) = true
    · rw [if_pos z]
      exact sumN_full _ _ fun k hk => by
        have e : k = 0 := by omega
        subst e
        unfold bsy
        rw [Nat.add_zero, z]; rfl
    · rw [if_neg z]
      exact sumN_none _ _ fun k hk => by
        have e : k = 0 := by omega
        subst e
        unfold bsy
        rw [Nat.add_zero]
        simpa using z)
  rw [Nat.one_mul] at h
  exact ⟨⟨⟨0, 0, 0⟩, s, m, e, 0⟩, h⟩
/-- The summaries of the first k rows. -/
def tX (X : Nat → Rw) (k : Nat) : List Sm := (List.range k).map fun j => sm (X j)
theorem tX_len (X : Nat → Rw) (k : Nat) : (tX X k).length = k := by simp [tX]
theorem tX_succ (X : Nat → Rw) (k : Nat) : tX X (k + 1) = tX X k ++ [sm (X k)] := by simp [tX, List.range_succ]
theorem tX_at (X : Nat → Rw) (k : Nat) {j : Nat} (hj : j < k) : Mg.nth (tX X k) j = sm (X j) := by
  unfold Mg.nth tX
  simp [hj]
/-- What the merge of the eight is. -/
theorem merged {st : Nat → Nat} {a P s m e : Nat} (hP : 1 ≤ P) (hP2 : P ≤ 2097152) {X : Nat → Rw} (hX : ∀ j, j < 8 → Su st (a + P * j) P (X j)) (hs : SumN (bsy st a) (P * 8) s m e) :
    Mg.RR (tX X 8) (P : Nat) ∧ mg ((P : Nat) : Int) (Mg.nth (tX X 8)) 8 = ⟨(s : Nat), (m : Nat), (e : Nat)⟩ := by
  obtain ⟨s', m', e', h1, h2⟩ := mg_rows (st := st) (a := a) (by omega) (X := X) 8 hX
  obtain ⟨rfl, rfl, rfl⟩ := h2.one hs
  refine ⟨⟨by omega, by omega, by rw [tX_len]; omega, fun j hj => ?_⟩, ?_⟩
  · rw [tX_len] at hj
    rw [tX_at X 8 hj]
    exact su_rgt hP (hX j hj)
  · rw [← h1]; exact mg_congr _ (fun j hj => tX_at X 8 hj)
/-- Between two rounds of the loop over the eight. -/
structure MgI (N B tb : Nat) (w : World) (st : Nat → Nat) (s m e : Nat) (X : Nat → Rw) (k : Nat) (v : Value) (W : World) : Prop where
  t : T9 N (fun x => x = B ∨ v.ownBlock = some x) w W tb st
  b : Bk W B 38 #[.int .i64 (s : Nat), .int .i64 (m : Nat), .int .i64 (e : Nat)]
  o : W.ownsRow (B + 1) 38 3 v k (Mg.flat (tX X k))
  nb : N ≤ B
theorem MgI.next {N B tb : Nat} {w W W1 W3 : World} {st : Nat → Nat} {s m e : Nat} {X : Nat → Rw} {k : Nat} {v : Value} (h : MgI N B tb w st s m e X k v W) (t1 : T9 N (fun x => x = B ∨ v.ownBlock = some x) w W1 tb st) (l1 : Left9 N (fun x => x = B ∨ v.ownBlock = some x) W W1) (hk : k < 1000) (hW3 : W3 = (W1.alloc (.cells #[.int .i64 ((X k).s : Nat), .int .i64 ((X k).m : Nat), .int .i64 ((X k).e : Nat)] 38)).alloc (.cells #[.int .i64 ((X k).s : Nat), .int .i64 ((X k).m : Nat), .int .i64 ((X k).e : Nat)] 38)) (ty : TypeId) :
    ∃ g cap Y, (Builtin.append_ #[45, 45] ty #[v, .slice (some ⟨W1.heap.size + 1, 0, none⟩) 1 1]).run Tryd.prog W3 = .ok (.slice (some ⟨g, 0, none⟩) (k + 1) cap) Y ∧ MgI N B tb w st s m e X (k + 1) (.slice (some ⟨g, 0, none⟩) (k + 1) cap) Y := by
  have b1 := h.b.kept l1 (fun z => z.2 (.inl rfl))
  have o1 : W1.ownsRow (B + 1) 38 3 v k (Mg.flat (tX X k)) := owns_kept h.o (fun x hx => l1.block x (h.o.lt x hx).2 (fun z => z.2 (.inr hx)))
  have bW : Below W1.heap.size W1 W3 := by rw [hW3]; exact ((Below.refl _ W1).alloc (Nat.le_refl _) _).alloc (by simp) _
  have s3 : W3.heap.size = W1.heap.size + 2 := by rw [hW3]; simp
  have o3 : W3.ownsRow (B + 1) 38 3 v k (Mg.flat (tX X k)) := owns_kept o1 (fun x hx => bW.block x (o1.lt x hx).2)
  have n3 : W3.heap[W1.heap.size + 1]? = some (.cells #[.int .i64 (sm (X k)).s, .int .i64 (sm (X k)).m, .int .i64 (sm (X k)).e] 38 (0, 0)) := by
    rw [hW3, alloc_at, if_pos (by simp)]; rfl
  have lB := b1.lt
  obtain ⟨g, cap, Y, r1, r2, r3, r4, r5⟩ := sums_more o3 hk (W1.heap.size + 1) (sm (X k)) n3 (by omega) (fun z => by have := (o1.lt _ z).2; omega) ty
  refine ⟨g, cap, Y, r1, ⟨?_, ?_, by rw [tX_succ]; exact r2, h.nb⟩⟩
  · have t3 : T9 N (fun x => x = B ∨ v.ownBlock = some x) w W3 tb st := (t1.read bW).1
    refine t3.grow r3 (fun x hx => ⟨.inr hx, by have := (o3.lt x hx).1; have := h.nb; omega⟩) (fun x hx => ?_)
    rcases hx with e | e
    · exact .inl (.inl e)
    · have e : g = x := by simpa [Value.ownBlock] using e
      subst e
      rcases r4 with r | r
      · exact .inl (.inr r)
      · exact .inr ⟨r, r5⟩
  · exact (b1.below bW).kept r3 (fun z => by have := (o3.lt B z).1; omega)
set_option maxRecDepth 100000 in
set_option maxHeartbeats 2000000 in
theorem merges_0 (w : World) (ht : TabW w) (o0 : Option Addr) (l0 c0 : Nat) (hA0 : l0 ≤ maxLen ∧ l0 ≤ c0 ∧ ∃ X, U64At w o0 l0 c0 X) (o1 : Option Addr) (l1 c1 : Nat) (hA1 : l1 ≤ maxLen ∧ l1 ≤ c1 ∧ ∃ X, U64At w o1 l1 c1 X) (hl0 : l0 ≤ 8) (hl1 : l1 ≤ 40) :
    Calls Tryd.prog 6 #[.slice o0 l0 c0, .slice o1 l1 c1, .int .i64 0] w fun e w' => e = .returned (.bool true) ∧ Below w.heap.size w w' := by
  obtain ⟨_, hc0, X, hX⟩ := hA0
  obtain ⟨_, hc1, Y, hY⟩ := hA1
  obtain ⟨N, hN⟩ : ∃ N, w.heap.size = N := ⟨_, rfl⟩
  have CN := hide (t9_new ht hN)
  obtain ⟨R, hR⟩ : ∃ R : Ending → World → Prop, R = fun e w' => e = .returned (.bool true) ∧ Below w.heap.size w w' := ⟨_, rfl⟩
  rw [← hR]
  have FIN := hide (show ∀ W, Below N w W → R (.returned (.bool true)) W from fun W hW => by rw [hR]; exact ⟨rfl, by rw [hN]; exact hW⟩)
  have HX := hide hX
  have HY := hide hY
  have HN := hide hN
  have e0 : (l0 : Int) ≤ 8 := by omega
  have e1 : (l1 : Int) ≤ 40 := by omega
  have e2 : (0 : Int) ≤ l0 := by omega
  have e3 : (0 : Int) ≤ l1 := by omega
  clear hX hY hN hR ht hc0 hc1 hl0 hl1
  go_enter Tryd.func6, Tryd.ntmps6
  go_wp2_with fail
  refine CN.out.mono ?_
  rintro e w1 ⟨tb, rfl, t1⟩
  have I0 := hide (show ∃ st, T9 N (fun _ => False) w w1 tb st from ⟨_, t1⟩)
  clear CN t1
  go_wp2_with fail
  go_loopw [8] (fun iv wr => ∃ k : Int, iv = .int .i64 k ∧ 0 ≤ k ∧ k ≤ l0 ∧ Hid (∃ st, T9 N (fun _ => False) w wr tb st)) (fun iv _ => ((l0 : Int) - intOf iv).toNat)
  case atStart => exact ⟨0, rfl, by omega, by omega, I0⟩
  case round =>
    clear I0
    obtain ⟨k, rfl, k0, k1, HI⟩ := hrel
    obtain ⟨st, hT⟩ := HI.out
    have TT := hide hT
    clear HI hT
    by_cases hk : k < l0
    · obtain ⟨b0, off0, rfl, hb0, hcl0⟩ := HX.out.at (i := k.toNat) (by omega)
      have x0 := (cell_block (TT.out.be.block b0 (by rw [← HN.out]; exact hb0)) _).trans (hcl0 k.toNat (by omega))
      have y0 := HX.out.lo k.toNat
      have y1 := HX.out.hi k.toNat
      obtain ⟨A, hA⟩ : ∃ A : Nat, X k.toNat = A := ⟨(X k.toNat).toNat, by omega⟩
      rw [hA] at x0 y0 y1
      clear hcl0 hA
      have CG := hide (t9_grow_ex TT.out A 2 (by omega) (by omega))
      simp only [Int.cast_ofNat_Int] at CG
      go_wp2_with fail
      refine CG.out.mono ?_
      rintro e w3 ⟨⟨x, rfl⟩, h3⟩
      have I3 := hide h3
      clear CG h3
      go_wp2_with fail
      refine ⟨⟨k + 1, rfl, by omega, by omega, I3⟩, ?_⟩
      simp [intOf]; omega
    have hk' : (l0 : Int) ≤ k := by omega
    have I1 := hide (show ∃ st, T9 N (fun _ => False) w wr tb st from ⟨_, TT.out⟩)
    clear hk TT
    go_wp2_with fail
    clear hk' k0 k1
    go_loopw [9] (fun iv wr => ∃ k : Int, iv = .int .i64 k ∧ 0 ≤ k ∧ k ≤ l1 ∧ Hid (∃ st, T9 N (fun _ => False) w wr tb st)) (fun iv _ => ((l1 : Int) - intOf iv).toNat)
    case atStart => exact ⟨0, rfl, by omega, by omega, I1⟩
    case round =>
      clear I1
      obtain ⟨k, rfl, k0, k1, HI⟩ := hrel
      obtain ⟨st, hT⟩ := HI.out
      have TT := hide hT
      clear HI hT
      by_cases hk : k < l1
      · obtain ⟨b0, off0, rfl, hb0, hcl0⟩ := HY.out.at (i := k.toNat) (by omega)
        have x0 := (cell_block (TT.out.be.block b0 (by rw [← HN.out]; exact hb0)) _).trans (hcl0 k.toNat (by omega))
        have y0 := HY.out.lo k.toNat
        have y1 := HY.out.hi k.toNat
        obtain ⟨A, hA⟩ : ∃ A : Nat, Y k.toNat = A := ⟨(Y k.toNat).toNat, by omega⟩
        rw [hA] at x0 y0 y1
        clear hcl0 hA
        by_cases a1 : (A : Int) < 1
        · have F := hide (FIN.out wr TT.out.be)
          go_wp2_with fail
          try go_ret
          exact F.out
        have a1' : 1 ≤ (A : Int) := by omega
        by_cases a2 : 2000 < (A : Int)
        · have F := hide (FIN.out wr TT.out.be)
          clear a1
          go_wp2_with fail
          try go_ret
          exact F.out
        have a2' : (A : Int) ≤ 2000 := by omega
        clear a1 a2
        have CA := hide (t9_alloc_ex TT.out A (by omega))
        go_wp2_with fail
        refine CA.out.mono ?_
        rintro e w3 ⟨⟨x, y, z, rfl⟩, h3⟩
        have I3 := hide h3
        clear CA h3
        go_wp2_with fail
        refine ⟨⟨k + 1, rfl, by omega, by omega, I3⟩, ?_⟩
        simp [intOf]; omega
      have hk' : (l1 : Int) ≤ k := by omega
      clear hk
      go_wp2_with fail
      go_loopw [10, 11] (fun pv iv wr2 => ∃ (i p : Int), pv = .int .i64 p ∧ iv = .int .i64 i ∧ 1 ≤ i ∧ i ≤ 3 ∧ 512 ≤ p ∧ p ≤ 32768 ∧ (i = 3 → p = 512) ∧ (i = 2 → p = 4096) ∧ (i = 1 → p = 32768) ∧ Hid (T9 N (fun _ => False) w wr2 tb st)) (fun _ iv _ => (intOf iv).toNat)
      case atStart => exact ⟨3, 512, rfl, rfl, by omega, by omega, by omega, by omega, fun _ => rfl, fun z => (by omega), fun z => (by omega), TT⟩
      case round =>
        clear TT
        obtain ⟨i, p, rfl, rfl, i0, i1, p0, p1, q3, q2, q1, TT⟩ := hrel
        by_cases hi : 1 < i
        · have d9 : i = 2 ∨ i = 3 := by omega
          rcases d9 with rfl | rfl
          · obtain rfl : p = 4096 := q2 rfl
            go_wp2_with fail
            refine ⟨⟨1, 32768, rfl, rfl, by omega, by omega, by omega, by omega, fun z => (by omega), fun z => (by omega), fun _ => rfl, TT⟩, ?_⟩
            simp [intOf]
          · obtain rfl : p = 512 := q3 rfl
            go_wp2_with fail
            refine ⟨⟨2, 4096, rfl, rfl, by omega, by omega, by omega, by omega, fun z => (by omega), fun _ => rfl, fun z => (by omega), TT⟩, ?_⟩
            simp [intOf]
        obtain rfl : i = 1 := by omega
        obtain rfl : p = 32768 := by omega
        clear hi q1 q2 q3 i0 i1 p0 p1
        go_wp2_with fail
        clear hk' k0 k1
        go_loopw [12] (fun iv wr => ∃ k : Int, iv = .int .i64 k ∧ 0 ≤ k ∧ k ≤ l0 ∧ Hid (T9 N (fun _ => False) w wr tb st)) (fun iv _ => ((l0 : Int) - intOf iv).toNat)
        case atStart => exact ⟨0, rfl, by omega, by omega, TT⟩
        case round =>
          clear TT
          obtain ⟨k, rfl, k0, k1, TT⟩ := hrel
          by_cases hk : k < l0
          · obtain ⟨b0, off0, rfl, hb0, hcl0⟩ := HX.out.at (i := k.toNat) (by omega)
            have x0 := (cell_block (TT.out.be.block b0 (by rw [← HN.out]; exact hb0)) _).trans (hcl0 k.toNat (by omega))
            have y0 := HX.out.lo k.toNat
            have y1 := HX.out.hi k.toNat
            obtain ⟨A, hA⟩ : ∃ A : Nat, X k.toNat = A := ⟨(X k.toNat).toNat, by omega⟩
            rw [hA] at x0 y0 y1
            clear hcl0 hA
            obtain ⟨AI, hAI⟩ : ∃ AI : Int, (A : Int) = AI := ⟨_, rfl⟩
            rw [hAI] at x0 y0 y1
            have HAI := hide hAI
            clear hAI
            by_cases a1 : 67108864 ≤ AI
            · go_wp2_with fail
              refine ⟨⟨k + 1, rfl, by omega, by omega, TT⟩, ?_⟩
              simp [intOf]; omega
            have a1' : AI < 67108864 := by omega
            clear a1
            obtain ⟨n, hn⟩ : ∃ n : Nat, A / 512 = n := ⟨_, rfl⟩
            have n9 : n < 131072 := by have := HAI.out; omega
            obtain ⟨NI, hNI⟩ : ∃ NI : Int, (n : Int) = NI := ⟨_, rfl⟩
            have hdv : AI / 512 = NI := by have := HAI.out; omega
            have HNI := hide hNI
            have e8 : sz (3 + 0) = 262144 := rfl
            have e9 : sz (3 + 1) = 32768 := rfl
            have CS := hide (t9_sum_some TT.out 0 n (by omega) (by rw [e8]; omega))
            rw [e8, hNI] at CS
            simp only [Int.cast_ofNat_Int] at CS
            have nI : NI < 131072 := by omega
            have nI0 : 0 ≤ NI := by omega
            have HN9 := hide n9
            clear hn hNI n9
            go_wp2_with fail
            refine CS.out.mono ?_
            rintro en w3 ⟨⟨s, m, e, hsum, rfl⟩, t3, -⟩
            obtain ⟨B, hB⟩ : ∃ B, w3.heap.size = B := ⟨_, rfl⟩
            obtain ⟨V, hV⟩ : ∃ V, w3.alloc (.cells #[.int .i64 (s : Nat), .int .i64 (m : Nat), .int .i64 (e : Nat)] 38) = V := ⟨_, rfl⟩
            have bV : Below w3.heap.size w3 V := by rw [← hV]; exact grown1 w3 _
            have K1 := hide (show Bk V B 38 #[.int .i64 (s : Nat), .int .i64 (m : Nat), .int .i64 (e : Nat)] from by rw [← hV, ← hB]; exact World.alloc_heap_new w3 _)
            obtain ⟨Q, hQ⟩ : ∃ Q : Nat → Rw, ∀ j, Su st (n * 262144 + 32768 * j) 32768 (Q j) := ⟨fun j => Classical.choose (sum_total st (n * 262144 + 32768 * j) 32768), fun j => Classical.choose_spec (sum_total st (n * 262144 + 32768 * j) 32768)⟩
            have HQ := hide hQ
            have HS := hide hsum
            have I5 := hide (show MgI N B tb w st s m e Q 0 (.slice none 0 0) V from ⟨t3.more bV (fun x hx => by
              rcases hx with z | z
              · exact .inr ⟨by omega, by have := K1.out.lt; omega⟩
              · cases z), K1.out, World.ownsRow_nil _ _ _ _, by have := t3.tr.lt.2.2; omega⟩)
            clear CS t3 bV hQ hsum
            go_wp2_with fail
            clear x0
            go_loopw [16, 17] (fun vv kv wr => ∃ (j : Int) (v : Value), v = vv ∧ kv = .int .u64 j ∧ 0 ≤ j ∧ j ≤ 8 ∧ Hid (MgI N B tb w st s m e Q j.toNat v wr)) (fun _ kv _ => (8 - intOf kv).toNat)
            case atStart => exact ⟨0, .slice none 0 0, rfl, rfl, by omega, by omega, I5⟩
            case round =>
              clear I5 K1
              obtain ⟨j, v, rfl, rfl, j0, j1, HJ⟩ := hrel
              by_cases hj : j < 8
              · have CS := hide (t9_sum HJ.out.t 1 (8 * n + j.toNat) (by omega) (by rw [e9]; have := HN9.out; omega) (Q j.toNat).s (Q j.toNat).m (Q j.toNat).e (by
                  have h := HQ.out j.toNat
                  rw [e9, show (8 * n + j.toNat) * 32768 = n * 262144 + 32768 * j.toNat by omega]
                  exact h))
                rw [show ((8 * n + j.toNat : Nat) : Int) = 8 * NI + j by have := HNI.out; omega] at CS
                simp only [Int.cast_ofNat_Int] at CS
                obtain ⟨q, hq⟩ : ∃ q, Q j.toNat = q := ⟨_, rfl⟩
                rw [hq] at CS
                have HQQ := hide hq
                clear hq
                go_wp2_with fail
                refine CS.out.mono ?_
                rintro en W1 ⟨rfl, t1, l1'⟩
                obtain ⟨W2, hW2⟩ : ∃ W2, W1.alloc (.cells #[.int .i64 (q.s : Nat), .int .i64 (q.m : Nat), .int .i64 (q.e : Nat)] 38) = W2 := ⟨_, rfl⟩
                obtain ⟨W3, hW3⟩ : ∃ W3, W2.alloc (.cells #[.int .i64 (q.s : Nat), .int .i64 (q.m : Nat), .int .i64 (q.e : Nat)] 38) = W3 := ⟨_, rfl⟩
                have sW2 : W2.heap.size = W1.heap.size + 1 := by rw [← hW2]; simp
                have f2 : Bk W2 W1.heap.size 38 #[.int .i64 (q.s : Nat), .int .i64 (q.m : Nat), .int .i64 (q.e : Nat)] := by rw [← hW2]; exact World.alloc_heap_new W1 _
                have z0 := f2.cell 0 _ rfl
                have z1 := f2.cell 1 _ rfl
                have z2 := f2.cell 2 _ rfl
                obtain ⟨g, cap, Y4, hrun, hnext⟩ := HJ.out.next t1 l1' (by omega) (W3 := W3) (by rw [HQQ.out, ← hW3, ← hW2]) 45
                have RUN := hide hrun
                have NX := hide (show MgI N B tb w st s m e Q (j + 1).toNat (.slice (some ⟨g, 0, none⟩) (j.toNat + 1) cap) Y4 from by rw [show (j + 1).toNat = j.toNat + 1 by omega]; exact hnext)
                rw [show (W1.heap.size + 1 : Nat) = W2.heap.size from sW2.symm] at RUN
                have RUN := hide (show _ from RUN.out)
                clear CS t1 l1' hrun hnext f2 HJ sW2
                go_wp2_with (at_builtin; refine list_append_run (by rfl) (.tmp 128) (.tmp 130) 45 (by rfl) (by rfl) (by rfl) RUN.out ?_)
                refine ⟨⟨j + 1, _, rfl, rfl, by omega, by omega, NX⟩, ?_⟩
                simp [intOf]; omega
              have hj' : j = 8 := by omega
              subst hj'
              have h8 := HJ.out
              rw [show ((8 : Int)).toNat = 8 from rfl] at h8
              obtain ⟨rr, hmg⟩ := merged (st := st) (a := n * 262144) (P := 32768) (s := s) (m := m) (e := e) (by omega) (by omega) (X := Q) (fun j _ => HQ.out j) (by have h := HS.out; exact h)
              obtain ⟨sa, o5, c5, hv5⟩ := Mg.sums_of_owns h8.o
              have CM := hide (show Calls Tryd.prog 18 #[v, .int .i64 32768] wr fun e' w' => e' = .returned (.tuple #[.agg #[.int .i64 (s : Nat), .int .i64 (m : Nat), .int .i64 (e : Nat)], .int .i64 0]) ∧ Below wr.heap.size wr w' from by
                refine (Mg.merge_core sa ((32768 : Nat) : Int)).mono ?_
                rintro e' w' ⟨q1, _, q3⟩
                refine ⟨?_, q3⟩
                rw [q1 rr, tX_len, hmg]; rfl)
              have T8 := hide h8.t
              have B8 := hide h8.b
              clear h8 rr hmg sa hv5 HJ hj
              go_wp2_with fail
              refine CM.out.mono ?_
              rintro e' W5 ⟨rfl, b5⟩
              obtain ⟨W6, hW6⟩ : ∃ W6, W5.alloc (.cells #[.int .i64 (s : Nat), .int .i64 (m : Nat), .int .i64 (e : Nat)] 38) = W6 := ⟨_, rfl⟩
              have b6 : Below W5.heap.size W5 W6 := by rw [← hW6]; exact grown1 W5 _
              have f6 : Bk W6 W5.heap.size 38 #[.int .i64 (s : Nat), .int .i64 (m : Nat), .int .i64 (e : Nat)] := by rw [← hW6]; exact World.alloc_heap_new W5 _
              have g6 := (B8.out.below b5).below b6
              have T6 := hide (((T8.out.read b5).1.more b6 (O' := fun _ => False) (fun x hx => hx.elim)))
              have z0 := f6.cell 0 _ rfl
              have z1 := f6.cell 1 _ rfl
              have z2 := f6.cell 2 _ rfl
              have z3 := g6.cell 0 _ rfl
              have z4 := g6.cell 1 _ rfl
              have z5 := g6.cell 2 _ rfl
              clear CM b5 b6 f6 g6 T8 B8
              go_wp2_with fail
              refine ⟨⟨k + 1, rfl, by omega, by omega, T6⟩, ?_⟩
              simp [intOf]; omega
          have hk' : (l0 : Int) ≤ k := by omega
          have CW := hide (awake_any TT.out.tab)
          have B7 := hide TT.out.be
          have L7 := hide TT.out.tr.lt.2.2
          clear TT hk
          go_wp2_with fail
          refine CW.out.mono ?_
          rintro e w9 ⟨rfl, b9⟩
          have F := hide (FIN.out _ (B7.out.trans (b9.mono L7.out)))
          clear CW b9
          go_wp2_with fail
          try go_ret
          exact F.out
set_option maxRecDepth 100000 in
set_option maxHeartbeats 2000000 in
theorem merges_1 (w : World) (ht : TabW w) (o0 : Option Addr) (l0 c0 : Nat) (hA0 : l0 ≤ maxLen ∧ l0 ≤ c0 ∧ ∃ X, U64At w o0 l0 c0 X) (o1 : Option Addr) (l1 c1 : Nat) (hA1 : l1 ≤ maxLen ∧ l1 ≤ c1 ∧ ∃ X, U64At w o1 l1 c1 X) (hl0 : l0 ≤ 8) (hl1 : l1 ≤ 40) :
    Calls Tryd.prog 6 #[.slice o0 l0 c0, .slice o1 l1 c1, .int .i64 1] w fun e w' => e = .returned (.bool true) ∧ Below w.heap.size w w' := by
  obtain ⟨_, hc0, X, hX⟩ := hA0
  obtain ⟨_, hc1, Y, hY⟩ := hA1
  obtain ⟨N, hN⟩ : ∃ N, w.heap.size = N := ⟨_, rfl⟩
  have CN := hide (t9_new ht hN)
  obtain ⟨R, hR⟩ : ∃ R : Ending → World → Prop, R = fun e w' => e = .returned (.bool true) ∧ Below w.heap.size w w' := ⟨_, rfl⟩
  rw [← hR]
  have FIN := hide (show ∀ W, Below N w W → R (.returned (.bool true)) W from fun W hW => by rw [hR]; exact ⟨rfl, by rw [hN]; exact hW⟩)
  have HX := hide hX
  have HY := hide hY
  have HN := hide hN
  have e0 : (l0 : Int) ≤ 8 := by omega
  have e1 : (l1 : Int) ≤ 40 := by omega
  have e2 : (0 : Int) ≤ l0 := by omega
  have e3 : (0 : Int) ≤ l1 := by omega
  clear hX hY hN hR ht hc0 hc1 hl0 hl1
  go_enter Tryd.func6, Tryd.ntmps6
  go_wp2_with fail
  refine CN.out.mono ?_
  rintro e w1 ⟨tb, rfl, t1⟩
  have I0 := hide (show ∃ st, T9 N (fun _ => False) w w1 tb st from ⟨_, t1⟩)
  clear CN t1
  go_wp2_with fail
  go_loopw [8] (fun iv wr => ∃ k : Int, iv = .int .i64 k ∧ 0 ≤ k ∧ k ≤ l0 ∧ Hid (∃ st, T9 N (fun _ => False) w wr tb st)) (fun iv _ => ((l0 : Int) - intOf iv).toNat)
  case atStart => exact ⟨0, rfl, by omega, by omega, I0⟩
  case round =>
    clear I0
    obtain ⟨k, rfl, k0, k1, HI⟩ := hrel
    obtain ⟨st, hT⟩ := HI.out
    have TT := hide hT
    clear HI hT
    by_cases hk : k < l0
    · obtain ⟨b0, off0, rfl, hb0, hcl0⟩ := HX.out.at (i := k.toNat) (by omega)
      have x0 := (cell_block (TT.out.be.block b0 (by rw [← HN.out]; exact hb0)) _).trans (hcl0 k.toNat (by omega))
      have y0 := HX.out.lo k.toNat
      have y1 := HX.out.hi k.toNat
      obtain ⟨A, hA⟩ : ∃ A : Nat, X k.toNat = A := ⟨(X k.toNat).toNat, by omega⟩
      rw [hA] at x0 y0 y1
      clear hcl0 hA
      have CG := hide (t9_grow_ex TT.out A 2 (by omega) (by omega))
      simp only [Int.cast_ofNat_Int] at CG
      go_wp2_with fail
      refine CG.out.mono ?_
      rintro e w3 ⟨⟨x, rfl⟩, h3⟩
      have I3 := hide h3
      clear CG h3
      go_wp2_with fail
      refine ⟨⟨k + 1, rfl, by omega, by omega, I3⟩, ?_⟩
      simp [intOf]; omega
    have hk' : (l0 : Int) ≤ k := by omega
    have I1 := hide (show ∃ st, T9 N (fun _ => False) w wr tb st from ⟨_, TT.out⟩)
    clear hk TT
    go_wp2_with fail
    clear hk' k0 k1
    go_loopw [9] (fun iv wr => ∃ k : Int, iv = .int .i64 k ∧ 0 ≤ k ∧ k ≤ l1 ∧ Hid (∃ st, T9 N (fun _ => False) w wr tb st)) (fun iv _ => ((l1 : Int) - intOf iv).toNat)
    case atStart => exact ⟨0, rfl, by omega, by omega, I1⟩
    case round =>
      clear I1
      obtain ⟨k, rfl, k0, k1, HI⟩ := hrel
      obtain ⟨st, hT⟩ := HI.out
      have TT := hide hT
      clear HI hT
      by_cases hk : k < l1
      · obtain ⟨b0, off0, rfl, hb0, hcl0⟩ := HY.out.at (i := k.toNat) (by omega)
        have x0 := (cell_block (TT.out.be.block b0 (by rw [← HN.out]; exact hb0)) _).trans (hcl0 k.toNat (by omega))
        have y0 := HY.out.lo k.toNat
        have y1 := HY.out.hi k.toNat
        obtain ⟨A, hA⟩ : ∃ A : Nat, Y k.toNat = A := ⟨(Y k.toNat).toNat, by omega⟩
        rw [hA] at x0 y0 y1
        clear hcl0 hA
        by_cases a1 : (A : Int) < 1
        · have F := hide (FIN.out wr TT.out.be)
          go_wp2_with fail
          try go_ret
          exact F.out
        have a1' : 1 ≤ (A : Int) := by omega
        by_cases a2 : 2000 < (A : Int)
        · have F := hide (FIN.out wr TT.out.be)
          clear a1
          go_wp2_with fail
          try go_ret
          exact F.out
        have a2' : (A : Int) ≤ 2000 := by omega
        clear a1 a2
        have CA := hide (t9_alloc_ex TT.out A (by omega))
        go_wp2_with fail
        refine CA.out.mono ?_
        rintro e w3 ⟨⟨x, y, z, rfl⟩, h3⟩
        have I3 := hide h3
        clear CA h3
        go_wp2_with fail
        refine ⟨⟨k + 1, rfl, by omega, by omega, I3⟩, ?_⟩
        simp [intOf]; omega
      have hk' : (l1 : Int) ≤ k := by omega
      clear hk
      go_wp2_with fail
      go_loopw [10, 11] (fun pv iv wr2 => ∃ (i p : Int), pv = .int .i64 p ∧ iv = .int .i64 i ∧ 2 ≤ i ∧ i ≤ 3 ∧ 512 ≤ p ∧ p ≤ 32768 ∧ (i = 3 → p = 512) ∧ (i = 2 → p = 4096) ∧ (i = 1 → p = 32768) ∧ Hid (T9 N (fun _ => False) w wr2 tb st)) (fun _ iv _ => (intOf iv).toNat)
      case atStart => exact ⟨3, 512, rfl, rfl, by omega, by omega, by omega, by omega, fun _ => rfl, fun z => (by omega), fun z => (by omega), TT⟩
      case round =>
        clear TT
        obtain ⟨i, p, rfl, rfl, i0, i1, p0, p1, q3, q2, q1, TT⟩ := hrel
        by_cases hi : 2 < i
        · have d9 : i = 2 ∨ i = 3 := by omega
          rcases d9 with rfl | rfl
          · obtain rfl : p = 4096 := q2 rfl
            go_wp2_with fail
            refine ⟨⟨1, 32768, rfl, rfl, by omega, by omega, by omega, by omega, fun z => (by omega), fun z => (by omega), fun _ => rfl, TT⟩, ?_⟩
            simp [intOf]
          · obtain rfl : p = 512 := q3 rfl
            go_wp2_with fail
            refine ⟨⟨2, 4096, rfl, rfl, by omega, by omega, by omega, by omega, fun z => (by omega), fun _ => rfl, fun z => (by omega), TT⟩, ?_⟩
            simp [intOf]
        obtain rfl : i = 2 := by omega
        obtain rfl : p = 4096 := by omega
        clear hi q1 q2 q3 i0 i1 p0 p1
        go_wp2_with fail
        clear hk' k0 k1
        go_loopw [12] (fun iv wr => ∃ k : Int, iv = .int .i64 k ∧ 0 ≤ k ∧ k ≤ l0 ∧ Hid (T9 N (fun _ => False) w wr tb st)) (fun iv _ => ((l0 : Int) - intOf iv).toNat)
        case atStart => exact ⟨0, rfl, by omega, by omega, TT⟩
        case round =>
          clear TT
          obtain ⟨k, rfl, k0, k1, TT⟩ := hrel
          by_cases hk : k < l0
          · obtain ⟨b0, off0, rfl, hb0, hcl0⟩ := HX.out.at (i := k.toNat) (by omega)
            have x0 := (cell_block (TT.out.be.block b0 (by rw [← HN.out]; exact hb0)) _).trans (hcl0 k.toNat (by omega))
            have y0 := HX.out.lo k.toNat
            have y1 := HX.out.hi k.toNat
            obtain ⟨A, hA⟩ : ∃ A : Nat, X k.toNat = A := ⟨(X k.toNat).toNat, by omega⟩
            rw [hA] at x0 y0 y1
            clear hcl0 hA
            obtain ⟨AI, hAI⟩ : ∃ AI : Int, (A : Int) = AI := ⟨_, rfl⟩
            rw [hAI] at x0 y0 y1
            have HAI := hide hAI
            clear hAI
            by_cases a1 : 67108864 ≤ AI
            · go_wp2_with fail
              refine ⟨⟨k + 1, rfl, by omega, by omega, TT⟩, ?_⟩
              simp [intOf]; omega
            have a1' : AI < 67108864 := by omega
            clear a1
            obtain ⟨n, hn⟩ : ∃ n : Nat, A / 64 = n := ⟨_, rfl⟩
            have n9 : n < 1048576 := by have := HAI.out; omega
            obtain ⟨NI, hNI⟩ : ∃ NI : Int, (n : Int) = NI := ⟨_, rfl⟩
            have hdv : AI / 64 = NI := by have := HAI.out; omega
            have HNI := hide hNI
            have e8 : sz (3 + 1) = 32768 := rfl
            have e9 : sz (3 + 2) = 4096 := rfl
            have CS := hide (t9_sum_some TT.out 1 n (by omega) (by rw [e8]; omega))
            rw [e8, hNI] at CS
            simp only [Int.cast_ofNat_Int] at CS
            have nI : NI < 1048576 := by omega
            have nI0 : 0 ≤ NI := by omega
            have HN9 := hide n9
            clear hn hNI n9
            go_wp2_with fail
            refine CS.out.mono ?_
            rintro en w3 ⟨⟨s, m, e, hsum, rfl⟩, t3, -⟩
            obtain ⟨B, hB⟩ : ∃ B, w3.heap.size = B := ⟨_, rfl⟩
            obtain ⟨V, hV⟩ : ∃ V, w3.alloc (.cells #[.int .i64 (s : Nat), .int .i64 (m : Nat), .int .i64 (e : Nat)] 38) = V := ⟨_, rfl⟩
            have bV : Below w3.heap.size w3 V := by rw [← hV]; exact grown1 w3 _
            have K1 := hide (show Bk V B 38 #[.int .i64 (s : Nat), .int .i64 (m : Nat), .int .i64 (e : Nat)] from by rw [← hV, ← hB]; exact World.alloc_heap_new w3 _)
            obtain ⟨Q, hQ⟩ : ∃ Q : Nat → Rw, ∀ j, Su st (n * 32768 + 4096 * j) 4096 (Q j) := ⟨fun j => Classical.choose (sum_total st (n * 32768 + 4096 * j) 4096), fun j => Classical.choose_spec (sum_total st (n * 32768 + 4096 * j) 4096)⟩
            have HQ := hide hQ
            have HS := hide hsum
            have I5 := hide (show MgI N B tb w st s m e Q 0 (.slice none 0 0) V from ⟨t3.more bV (fun x hx => by
              rcases hx with z | z
              · exact .inr ⟨by omega, by have := K1.out.lt; omega⟩
              · cases z), K1.out, World.ownsRow_nil _ _ _ _, by have := t3.tr.lt.2.2; omega⟩)
            clear CS t3 bV hQ hsum
            go_wp2_with fail
            clear x0
            go_loopw [16, 17] (fun vv kv wr => ∃ (j : Int) (v : Value), v = vv ∧ kv = .int .u64 j ∧ 0 ≤ j ∧ j ≤ 8 ∧ Hid (MgI N B tb w st s m e Q j.toNat v wr)) (fun _ kv _ => (8 - intOf kv).toNat)
            case atStart => exact ⟨0, .slice none 0 0, rfl, rfl, by omega, by omega, I5⟩
            case round =>
              clear I5 K1
              obtain ⟨j, v, rfl, rfl, j0, j1, HJ⟩ := hrel
              by_cases hj : j < 8
              · have CS := hide (t9_sum HJ.out.t 2 (8 * n + j.toNat) (by omega) (by rw [e9]; have := HN9.out; omega) (Q j.toNat).s (Q j.toNat).m (Q j.toNat).e (by
                  have h := HQ.out j.toNat
                  rw [e9, show (8 * n + j.toNat) * 4096 = n * 32768 + 4096 * j.toNat by omega]
                  exact h))
                rw [show ((8 * n + j.toNat : Nat) : Int) = 8 * NI + j by have := HNI.out; omega] at CS
                simp only [Int.cast_ofNat_Int] at CS
                obtain ⟨q, hq⟩ : ∃ q, Q j.toNat = q := ⟨_, rfl⟩
                rw [hq] at CS
                have HQQ := hide hq
                clear hq
                go_wp2_with fail
                refine CS.out.mono ?_
                rintro en W1 ⟨rfl, t1, l1'⟩
                obtain ⟨W2, hW2⟩ : ∃ W2, W1.alloc (.cells #[.int .i64 (q.s : Nat), .int .i64 (q.m : Nat), .int .i64 (q.e : Nat)] 38) = W2 := ⟨_, rfl⟩
                obtain ⟨W3, hW3⟩ : ∃ W3, W2.alloc (.cells #[.int .i64 (q.s : Nat), .int .i64 (q.m : Nat), .int .i64 (q.e : Nat)] 38) = W3 := ⟨_, rfl⟩
                have sW2 : W2.heap.size = W1.heap.size + 1 := by rw [← hW2]; simp
                have f2 : Bk W2 W1.heap.size 38 #[.int .i64 (q.s : Nat), .int .i64 (q.m : Nat), .int .i64 (q.e : Nat)] := by rw [← hW2]; exact World.alloc_heap_new W1 _
                have z0 := f2.cell 0 _ rfl
                have z1 := f2.cell 1 _ rfl
                have z2 := f2.cell 2 _ rfl
                obtain ⟨g, cap, Y4, hrun, hnext⟩ := HJ.out.next t1 l1' (by omega) (W3 := W3) (by rw [HQQ.out, ← hW3, ← hW2]) 45
                have RUN := hide hrun
                have NX := hide (show MgI N B tb w st s m e Q (j + 1).toNat (.slice (some ⟨g, 0, none⟩) (j.toNat + 1) cap) Y4 from by rw [show (j + 1).toNat = j.toNat + 1 by omega]; exact hnext)
                rw [show (W1.heap.size + 1 : Nat) = W2.heap.size from sW2.symm] at RUN
                have RUN := hide (show _ from RUN.out)
                clear CS t1 l1' hrun hnext f2 HJ sW2
                go_wp2_with (at_builtin; refine list_append_run (by rfl) (.tmp 128) (.tmp 130) 45 (by rfl) (by rfl) (by rfl) RUN.out ?_)
                refine ⟨⟨j + 1, _, rfl, rfl, by omega, by omega, NX⟩, ?_⟩
                simp [intOf]; omega
              have hj' : j = 8 := by omega
              subst hj'
              have h8 := HJ.out
              rw [show ((8 : Int)).toNat = 8 from rfl] at h8
              obtain ⟨rr, hmg⟩ := merged (st := st) (a := n * 32768) (P := 4096) (s := s) (m := m) (e := e) (by omega) (by omega) (X := Q) (fun j _ => HQ.out j) (by have h := HS.out; exact h)
              obtain ⟨sa, o5, c5, hv5⟩ := Mg.sums_of_owns h8.o
              have CM := hide (show Calls Tryd.prog 18 #[v, .int .i64 4096] wr fun e' w' => e' = .returned (.tuple #[.agg #[.int .i64 (s : Nat), .int .i64 (m : Nat), .int .i64 (e : Nat)], .int .i64 0]) ∧ Below wr.heap.size wr w' from by
                refine (Mg.merge_core sa ((4096 : Nat) : Int)).mono ?_
                rintro e' w' ⟨q1, _, q3⟩
                refine ⟨?_, q3⟩
                rw [q1 rr, tX_len, hmg]; rfl)
              have T8 := hide h8.t
              have B8 := hide h8.b
              clear h8 rr hmg sa hv5 HJ hj
              go_wp2_with fail
              refine CM.out.mono ?_
              rintro e' W5 ⟨rfl, b5⟩
              obtain ⟨W6, hW6⟩ : ∃ W6, W5.alloc (.cells #[.int .i64 (s : Nat), .int .i64 (m : Nat), .int .i64 (e : Nat)] 38) = W6 := ⟨_, rfl⟩
              have b6 : Below W5.heap.size W5 W6 := by rw [← hW6]; exact grown1 W5 _
              have f6 : Bk W6 W5.heap.size 38 #[.int .i64 (s : Nat), .int .i64 (m : Nat), .int .i64 (e : Nat)] := by rw [← hW6]; exact World.alloc_heap_new W5 _
              have g6 := (B8.out.below b5).below b6
              have T6 := hide (((T8.out.read b5).1.more b6 (O' := fun _ => False) (fun x hx => hx.elim)))
              have z0 := f6.cell 0 _ rfl
              have z1 := f6.cell 1 _ rfl
              have z2 := f6.cell 2 _ rfl
              have z3 := g6.cell 0 _ rfl
              have z4 := g6.cell 1 _ rfl
              have z5 := g6.cell 2 _ rfl
              clear CM b5 b6 f6 g6 T8 B8
              go_wp2_with fail
              refine ⟨⟨k + 1, rfl, by omega, by omega, T6⟩, ?_⟩
              simp [intOf]; omega
          have hk' : (l0 : Int) ≤ k := by omega
          have CW := hide (awake_any TT.out.tab)
          have B7 := hide TT.out.be
          have L7 := hide TT.out.tr.lt.2.2
          clear TT hk
          go_wp2_with fail
          refine CW.out.mono ?_
          rintro e w9 ⟨rfl, b9⟩
          have F := hide (FIN.out _ (B7.out.trans (b9.mono L7.out)))
          clear CW b9
          go_wp2_with fail
          try go_ret
          exact F.out
set_option maxRecDepth 100000 in
set_option maxHeartbeats 2000000 in
theorem merges_2 (w : World) (ht : TabW w) (o0 : Option Addr) (l0 c0 : Nat) (hA0 : l0 ≤ maxLen ∧ l0 ≤ c0 ∧ ∃ X, U64At w o0 l0 c0 X) (o1 : Option Addr) (l1 c1 : Nat) (hA1 : l1 ≤ maxLen ∧ l1 ≤ c1 ∧ ∃ X, U64At w o1 l1 c1 X) (hl0 : l0 ≤ 8) (hl1 : l1 ≤ 40) :
    Calls Tryd.prog 6 #[.slice o0 l0 c0, .slice o1 l1 c1, .int .i64 2] w fun e w' => e = .returned (.bool true) ∧ Below w.heap.size w w' := by
  obtain ⟨_, hc0, X, hX⟩ := hA0
  obtain ⟨_, hc1, Y, hY⟩ := hA1
  obtain ⟨N, hN⟩ : ∃ N, w.heap.size = N := ⟨_, rfl⟩
  have CN := hide (t9_new ht hN)
  obtain ⟨R, hR⟩ : ∃ R : Ending → World → Prop, R = fun e w' => e = .returned (.bool true) ∧ Below w.heap.size w w' := ⟨_, rfl⟩
  rw [← hR]
  have FIN := hide (show ∀ W, Below N w W → R (.returned (.bool true)) W from fun W hW => by rw [hR]; exact ⟨rfl, by rw [hN]; exact hW⟩)
  have HX := hide hX
  have HY := hide hY
  have HN := hide hN
  have e0 : (l0 : Int) ≤ 8 := by omega
  have e1 : (l1 : Int) ≤ 40 := by omega
  have e2 : (0 : Int) ≤ l0 := by omega
  have e3 : (0 : Int) ≤ l1 := by omega
  clear hX hY hN hR ht hc0 hc1 hl0 hl1
  go_enter Tryd.func6, Tryd.ntmps6
  go_wp2_with fail
  refine CN.out.mono ?_
  rintro e w1 ⟨tb, rfl, t1⟩
  have I0 := hide (show ∃ st, T9 N (fun _ => False) w w1 tb st from ⟨_, t1⟩)
  clear CN t1
  go_wp2_with fail
  go_loopw [8] (fun iv wr => ∃ k : Int, iv = .int .i64 k ∧ 0 ≤ k ∧ k ≤ l0 ∧ Hid (∃ st, T9 N (fun _ => False) w wr tb st)) (fun iv _ => ((l0 : Int) - intOf iv).toNat)
  case atStart => exact ⟨0, rfl, by omega, by omega, I0⟩
  case round =>
    clear I0
    obtain ⟨k, rfl, k0, k1, HI⟩ := hrel
    obtain ⟨st, hT⟩ := HI.out
    have TT := hide hT
    clear HI hT
    by_cases hk : k < l0
    · obtain ⟨b0, off0, rfl, hb0, hcl0⟩ := HX.out.at (i := k.toNat) (by omega)
      have x0 := (cell_block (TT.out.be.block b0 (by rw [← HN.out]; exact hb0)) _).trans (hcl0 k.toNat (by omega))
      have y0 := HX.out.lo k.toNat
      have y1 := HX.out.hi k.toNat
      obtain ⟨A, hA⟩ : ∃ A : Nat, X k.toNat = A := ⟨(X k.toNat).toNat, by omega⟩
      rw [hA] at x0 y0 y1
      clear hcl0 hA
      have CG := hide (t9_grow_ex TT.out A 2 (by omega) (by omega))
      simp only [Int.cast_ofNat_Int] at CG
      go_wp2_with fail
      refine CG.out.mono ?_
      rintro e w3 ⟨⟨x, rfl⟩, h3⟩
      have I3 := hide h3
      clear CG h3
      go_wp2_with fail
      refine ⟨⟨k + 1, rfl, by omega, by omega, I3⟩, ?_⟩
      simp [intOf]; omega
    have hk' : (l0 : Int) ≤ k := by omega
    have I1 := hide (show ∃ st, T9 N (fun _ => False) w wr tb st from ⟨_, TT.out⟩)
    clear hk TT
    go_wp2_with fail
    clear hk' k0 k1
    go_loopw [9] (fun iv wr => ∃ k : Int, iv = .int .i64 k ∧ 0 ≤ k ∧ k ≤ l1 ∧ Hid (∃ st, T9 N (fun _ => False) w wr tb st)) (fun iv _ => ((l1 : Int) - intOf iv).toNat)
    case atStart => exact ⟨0, rfl, by omega, by omega, I1⟩
    case round =>
      clear I1
      obtain ⟨k, rfl, k0, k1, HI⟩ := hrel
      obtain ⟨st, hT⟩ := HI.out
      have TT := hide hT
      clear HI hT
      by_cases hk : k < l1
      · obtain ⟨b0, off0, rfl, hb0, hcl0⟩ := HY.out.at (i := k.toNat) (by omega)
        have x0 := (cell_block (TT.out.be.block b0 (by rw [← HN.out]; exact hb0)) _).trans (hcl0 k.toNat (by omega))
        have y0 := HY.out.lo k.toNat
        have y1 := HY.out.hi k.toNat
        obtain ⟨A, hA⟩ : ∃ A : Nat, Y k.toNat = A := ⟨(Y k.toNat).toNat, by omega⟩
        rw [hA] at x0 y0 y1
        clear hcl0 hA
        by_cases a1 : (A : Int) < 1
        · have F := hide (FIN.out wr TT.out.be)
          go_wp2_with fail
          try go_ret
          exact F.out
        have a1' : 1 ≤ (A : Int) := by omega
        by_cases a2 : 2000 < (A : Int)
        · have F := hide (FIN.out wr TT.out.be)
          clear a1
          go_wp2_with fail
          try go_ret
          exact F.out
        have a2' : (A : Int) ≤ 2000 := by omega
        clear a1 a2
        have CA := hide (t9_alloc_ex TT.out A (by omega))
        go_wp2_with fail
        refine CA.out.mono ?_
        rintro e w3 ⟨⟨x, y, z, rfl⟩, h3⟩
        have I3 := hide h3
        clear CA h3
        go_wp2_with fail
        refine ⟨⟨k + 1, rfl, by omega, by omega, I3⟩, ?_⟩
        simp [intOf]; omega
      have hk' : (l1 : Int) ≤ k := by omega
      clear hk
      go_wp2_with fail
      go_loopw [10, 11] (fun pv iv wr2 => ∃ (i p : Int), pv = .int .i64 p ∧ iv = .int .i64 i ∧ 3 ≤ i ∧ i ≤ 3 ∧ 512 ≤ p ∧ p ≤ 32768 ∧ (i = 3 → p = 512) ∧ (i = 2 → p = 4096) ∧ (i = 1 → p = 32768) ∧ Hid (T9 N (fun _ => False) w wr2 tb st)) (fun _ iv _ => (intOf iv).toNat)
      case atStart => exact ⟨3, 512, rfl, rfl, by omega, by omega, by omega, by omega, fun _ => rfl, fun z => (by omega), fun z => (by omega), TT⟩
      case round =>
        clear TT
        obtain ⟨i, p, rfl, rfl, i0, i1, p0, p1, q3, q2, q1, TT⟩ := hrel
        by_cases hi : 3 < i
        · have d9 : i = 2 ∨ i = 3 := by omega
          rcases d9 with rfl | rfl
          · obtain rfl : p = 4096 := q2 rfl
            go_wp2_with fail
            refine ⟨⟨1, 32768, rfl, rfl, by omega, by omega, by omega, by omega, fun z => (by omega), fun z => (by omega), fun _ => rfl, TT⟩, ?_⟩
            simp [intOf]
          · obtain rfl : p = 512 := q3 rfl
            go_wp2_with fail
            refine ⟨⟨2, 4096, rfl, rfl, by omega, by omega, by omega, by omega, fun z => (by omega), fun _ => rfl, fun z => (by omega), TT⟩, ?_⟩
            simp [intOf]
        obtain rfl : i = 3 := by omega
        obtain rfl : p = 512 := by omega
        clear hi q1 q2 q3 i0 i1 p0 p1
        go_wp2_with fail
        clear hk' k0 k1
        go_loopw [12] (fun iv wr => ∃ k : Int, iv = .int .i64 k ∧ 0 ≤ k ∧ k ≤ l0 ∧ Hid (T9 N (fun _ => False) w wr tb st)) (fun iv _ => ((l0 : Int) - intOf iv).toNat)
        case atStart => exact ⟨0, rfl, by omega, by omega, TT⟩
        case round =>
          clear TT
          obtain ⟨k, rfl, k0, k1, TT⟩ := hrel
          by_cases hk : k < l0
          · obtain ⟨b0, off0, rfl, hb0, hcl0⟩ := HX.out.at (i := k.toNat) (by omega)
            have x0 := (cell_block (TT.out.be.block b0 (by rw [← HN.out]; exact hb0)) _).trans (hcl0 k.toNat (by omega))
            have y0 := HX.out.lo k.toNat
            have y1 := HX.out.hi k.toNat
            obtain ⟨A, hA⟩ : ∃ A : Nat, X k.toNat = A := ⟨(X k.toNat).toNat, by omega⟩
            rw [hA] at x0 y0 y1
            clear hcl0 hA
            obtain ⟨AI, hAI⟩ : ∃ AI : Int, (A : Int) = AI := ⟨_, rfl⟩
            rw [hAI] at x0 y0 y1
            have HAI := hide hAI
            clear hAI
            by_cases a1 : 67108864 ≤ AI
            · go_wp2_with fail
              refine ⟨⟨k + 1, rfl, by omega, by omega, TT⟩, ?_⟩
              simp [intOf]; omega
            have a1' : AI < 67108864 := by omega
            clear a1
            obtain ⟨n, hn⟩ : ∃ n : Nat, A / 8 = n := ⟨_, rfl⟩
            have n9 : n < 8388608 := by have := HAI.out; omega
            obtain ⟨NI, hNI⟩ : ∃ NI : Int, (n : Int) = NI := ⟨_, rfl⟩
            have hdv : AI / 8 = NI := by have := HAI.out; omega
            have HNI := hide hNI
            have e8 : sz (3 + 2) = 4096 := rfl
            have e9 : sz (3 + 3) = 512 := rfl
            have CS := hide (t9_sum_some TT.out 2 n (by omega) (by rw [e8]; omega))
            rw [e8, hNI] at CS
            simp only [Int.cast_ofNat_Int] at CS
            have nI : NI < 8388608 := by omega
            have nI0 : 0 ≤ NI := by omega
            have HN9 := hide n9
            clear hn hNI n9
            go_wp2_with fail
            refine CS.out.mono ?_
            rintro en w3 ⟨⟨s, m, e, hsum, rfl⟩, t3, -⟩
            obtain ⟨B, hB⟩ : ∃ B, w3.heap.size = B := ⟨_, rfl⟩
            obtain ⟨V, hV⟩ : ∃ V, w3.alloc (.cells #[.int .i64 (s : Nat), .int .i64 (m : Nat), .int .i64 (e : Nat)] 38) = V := ⟨_, rfl⟩
            have bV : Below w3.heap.size w3 V := by rw [← hV]; exact grown1 w3 _
            have K1 := hide (show Bk V B 38 #[.int .i64 (s : Nat), .int .i64 (m : Nat), .int .i64 (e : Nat)] from by rw [← hV, ← hB]; exact World.alloc_heap_new w3 _)
            obtain ⟨Q, hQ⟩ : ∃ Q : Nat → Rw, ∀ j, Su st (n * 4096 + 512 * j) 512 (Q j) := ⟨fun j => Classical.choose (sum_total st (n * 4096 + 512 * j) 512), fun j => Classical.choose_spec (sum_total st (n * 4096 + 512 * j) 512)⟩
            have HQ := hide hQ
            have HS := hide hsum
            have I5 := hide (show MgI N B tb w st s m e Q 0 (.slice none 0 0) V from ⟨t3.more bV (fun x hx => by
              rcases hx with z | z
              · exact .inr ⟨by omega, by have := K1.out.lt; omega⟩
              · cases z), K1.out, World.ownsRow_nil _ _ _ _, by have := t3.tr.lt.2.2; omega⟩)
            clear CS t3 bV hQ hsum
            go_wp2_with fail
            clear x0
            go_loopw [16, 17] (fun vv kv wr => ∃ (j : Int) (v : Value), v = vv ∧ kv = .int .u64 j ∧ 0 ≤ j ∧ j ≤ 8 ∧ Hid (MgI N B tb w st s m e Q j.toNat v wr)) (fun _ kv _ => (8 - intOf kv).toNat)
            case atStart => exact ⟨0, .slice none 0 0, rfl, rfl, by omega, by omega, I5⟩
            case round =>
              clear I5 K1
              obtain ⟨j, v, rfl, rfl, j0, j1, HJ⟩ := hrel
              by_cases hj : j < 8
              · have CS := hide (t9_sum HJ.out.t 3 (8 * n + j.toNat) (by omega) (by rw [e9]; have := HN9.out; omega) (Q j.toNat).s (Q j.toNat).m (Q j.toNat).e (by
                  have h := HQ.out j.toNat
                  rw [e9, show (8 * n + j.toNat) * 512 = n * 4096 + 512 * j.toNat by omega]
                  exact h))
                rw [show ((8 * n + j.toNat : Nat) : Int) = 8 * NI + j by have := HNI.out; omega] at CS
                simp only [Int.cast_ofNat_Int] at CS
                obtain ⟨q, hq⟩ : ∃ q, Q j.toNat = q := ⟨_, rfl⟩
                rw [hq] at CS
                have HQQ := hide hq
                clear hq
                go_wp2_with fail
                refine CS.out.mono ?_
                rintro en W1 ⟨rfl, t1, l1'⟩
                obtain ⟨W2, hW2⟩ : ∃ W2, W1.alloc (.cells #[.int .i64 (q.s : Nat), .int .i64 (q.m : Nat), .int .i64 (q.e : Nat)] 38) = W2 := ⟨_, rfl⟩
                obtain ⟨W3, hW3⟩ : ∃ W3, W2.alloc (.cells #[.int .i64 (q.s : Nat), .int .i64 (q.m : Nat), .int .i64 (q.e : Nat)] 38) = W3 := ⟨_, rfl⟩
                have sW2 : W2.heap.size = W1.heap.size + 1 := by rw [← hW2]; simp
                have f2 : Bk W2 W1.heap.size 38 #[.int .i64 (q.s : Nat), .int .i64 (q.m : Nat), .int .i64 (q.e : Nat)] := by rw [← hW2]; exact World.alloc_heap_new W1 _
                have z0 := f2.cell 0 _ rfl
                have z1 := f2.cell 1 _ rfl
                have z2 := f2.cell 2 _ rfl
                obtain ⟨g, cap, Y4, hrun, hnext⟩ := HJ.out.next t1 l1' (by omega) (W3 := W3) (by rw [HQQ.out, ← hW3, ← hW2]) 45
                have RUN := hide hrun
                have NX := hide (show MgI N B tb w st s m e Q (j + 1).toNat (.slice (some ⟨g, 0, none⟩) (j.toNat + 1) cap) Y4 from by rw [show (j + 1).toNat = j.toNat + 1 by omega]; exact hnext)
                rw [show (W1.heap.size + 1 : Nat) = W2.heap.size from sW2.symm] at RUN
                have RUN := hide (show _ from RUN.out)
                clear CS t1 l1' hrun hnext f2 HJ sW2
                go_wp2_with (at_builtin; refine list_append_run (by rfl) (.tmp 128) (.tmp 130) 45 (by rfl) (by rfl) (by rfl) RUN.out ?_)
                refine ⟨⟨j + 1, _, rfl, rfl, by omega, by omega, NX⟩, ?_⟩
                simp [intOf]; omega
              have hj' : j = 8 := by omega
              subst hj'
              have h8 := HJ.out
              rw [show ((8 : Int)).toNat = 8 from rfl] at h8
              obtain ⟨rr, hmg⟩ := merged (st := st) (a := n * 4096) (P := 512) (s := s) (m := m) (e := e) (by omega) (by omega) (X := Q) (fun j _ => HQ.out j) (by have h := HS.out; exact h)
              obtain ⟨sa, o5, c5, hv5⟩ := Mg.sums_of_owns h8.o
              have CM := hide (show Calls Tryd.prog 18 #[v, .int .i64 512] wr fun e' w' => e' = .returned (.tuple #[.agg #[.int .i64 (s : Nat), .int .i64 (m : Nat), .int .i64 (e : Nat)], .int .i64 0]) ∧ Below wr.heap.size wr w' from by
                refine (Mg.merge_core sa ((512 : Nat) : Int)).mono ?_
                rintro e' w' ⟨q1, _, q3⟩
                refine ⟨?_, q3⟩
                rw [q1 rr, tX_len, hmg]; rfl)
              have T8 := hide h8.t
              have B8 := hide h8.b
              clear h8 rr hmg sa hv5 HJ hj
              go_wp2_with fail
              refine CM.out.mono ?_
              rintro e' W5 ⟨rfl, b5⟩
              obtain ⟨W6, hW6⟩ : ∃ W6, W5.alloc (.cells #[.int .i64 (s : Nat), .int .i64 (m : Nat), .int .i64 (e : Nat)] 38) = W6 := ⟨_, rfl⟩
              have b6 : Below W5.heap.size W5 W6 := by rw [← hW6]; exact grown1 W5 _
              have f6 : Bk W6 W5.heap.size 38 #[.int .i64 (s : Nat), .int .i64 (m : Nat), .int .i64 (e : Nat)] := by rw [← hW6]; exact World.alloc_heap_new W5 _
              have g6 := (B8.out.below b5).below b6
              have T6 := hide (((T8.out.read b5).1.more b6 (O' := fun _ => False) (fun x hx => hx.elim)))
              have z0 := f6.cell 0 _ rfl
              have z1 := f6.cell 1 _ rfl
              have z2 := f6.cell 2 _ rfl
              have z3 := g6.cell 0 _ rfl
              have z4 := g6.cell 1 _ rfl
              have z5 := g6.cell 2 _ rfl
              clear CM b5 b6 f6 g6 T8 B8
              go_wp2_with fail
              refine ⟨⟨k + 1, rfl, by omega, by omega, T6⟩, ?_⟩
              simp [intOf]; omega
          have hk' : (l0 : Int) ≤ k := by omega
          have CW := hide (awake_any TT.out.tab)
          have B7 := hide TT.out.be
          have L7 := hide TT.out.tr.lt.2.2
          clear TT hk
          go_wp2_with fail
          refine CW.out.mono ?_
          rintro e w9 ⟨rfl, b9⟩
          have F := hide (FIN.out _ (B7.out.trans (b9.mono L7.out)))
          clear CW b9
          go_wp2_with fail
          try go_ret
          exact F.out
theorem merges_any (w : World) (ht : TabW w) (o0 : Option Addr) (l0 c0 : Nat) (hA0 : l0 ≤ maxLen ∧ l0 ≤ c0 ∧ ∃ X, U64At w o0 l0 c0 X) (o1 : Option Addr) (l1 c1 : Nat) (hA1 : l1 ≤ maxLen ∧ l1 ≤ c1 ∧ ∃ X, U64At w o1 l1 c1 X) (a2 : Int) (w2 : (Lit.int .i64 a2).wf = true) :
    Calls Tryd.prog 6 #[.slice o0 l0 c0, .slice o1 l1 c1, .int .i64 a2] w fun e w' => e = .returned (.bool true) ∧ Below w.heap.size w w' := by
  have b2 := bounds_i64 w2
  have F := hide (Below.refl w.heap.size w)
  by_cases z0 : 8 < l0
  · have d0 : (8 : Int) < (l0 : Int) := by omega
    clear hA0 hA1 z0 ht
    go_enter Tryd.func6, Tryd.ntmps6
    go_wp2_with fail
    try go_ret
    exact ⟨rfl, F.out⟩
  have d0 : (l0 : Int) ≤ 8 := by omega
  by_cases z1 : 40 < l1
  · have d1 : (40 : Int) < (l1 : Int) := by omega
    clear hA0 hA1 z0 z1 ht
    go_enter Tryd.func6, Tryd.ntmps6
    go_wp2_with fail
    try go_ret
    exact ⟨rfl, F.out⟩
  have d1 : (l1 : Int) ≤ 40 := by omega
  by_cases z2 : a2 < 0
  · clear hA0 hA1 z0 z1 ht
    go_enter Tryd.func6, Tryd.ntmps6
    go_wp2_with fail
    try go_ret
    exact ⟨rfl, F.out⟩
  by_cases z3 : 2 < a2
  · have z2' : 0 ≤ a2 := by omega
    clear hA0 hA1 z0 z1 z2 ht
    go_enter Tryd.func6, Tryd.ntmps6
    go_wp2_with fail
    try go_ret
    exact ⟨rfl, F.out⟩
  have q : a2 = 0 ∨ a2 = 1 ∨ a2 = 2 := by omega
  rcases q with rfl | rfl | rfl
  · exact merges_0 w ht o0 l0 c0 hA0 o1 l1 c1 hA1 (by omega) (by omega)
  · exact merges_1 w ht o0 l0 c0 hA0 o1 l1 c1 hA1 (by omega) (by omega)
  · exact merges_2 w ht o0 l0 c0 hA0 o1 l1 c1 hA1 (by omega) (by omega)
end Go.Proofs.YtnpimmjkmclkpaaDoor
