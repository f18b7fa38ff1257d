/- alike: its walk, over whatever tells what the reference tells. -/
import Derived.Test.YtlcbegmhmbegjaaAk
import Derived.Test.YtlcbegmhmbegjaaJ
namespace Go.Proofs.Ytlcbegmhmbegjaa
open Go.ChangeShapes Go.WideShapes Go.ChangeAt Go.RowKit Go.Proofs.Sc Go.Maps
set_option linter.unusedVariables false
set_option linter.unusedSimpArgs false

/-- What is asked of the reference. -/
structure RefT (w : World) (rb : Nat) (S : Sc) : Prop where
  en : ∀ W, Below w.heap.size w W → Calls Try.prog 23 #[.pointer (some ⟨rb, 0, none⟩)] W (AblesP S W)
  left : ∀ W, Below w.heap.size w W → ∀ t, i64 t → Calls Try.prog 30 #[.pointer (some ⟨rb, 0, none⟩), .int .i64 t] W fun e w' => e = .returned (.tuple #[.int .i64 ((leftS S t).1 : Nat), .int .i64 ((leftS S t).2 : Nat)]) ∧ Below W.heap.size W w'
  cell : ∀ W, Below w.heap.size w W → ∀ c, i64 c → Calls Try.prog 27 #[.pointer (some ⟨rb, 0, none⟩), .int .i64 c] W fun e w' => e = .returned (.int .i64 (S.cell c)) ∧ w' = W
  hold : ∀ W, Below w.heap.size w W → ∀ c, i64 c → Calls Try.prog 24 #[.pointer (some ⟨rb, 0, none⟩), .int .i64 c] W fun e w' => e = .returned (.tuple #[.int .i64 (((S.hold c).getD 0 : Nat) : Int), .bool (S.hold c).isSome]) ∧ w' = W
  flds : ∃ o cap v4, ∀ W, Below w.heap.size w W → W.cell? ⟨rb, 0, none⟩ = some (.slice o S.ahead.length cap) ∧ W.cell? ⟨rb, 4, none⟩ = some v4 ∧ IntsAt W v4 S.said
theorem list_same {w : World} {v u : Value} {l : List Int} (h : IntsAt w v l) (k : IntsAt w u l) : Calls Try.prog 15 #[v, u] w fun e w' => e = .returned (.bool true) ∧ Below w.heap.size w w' :=
  (list_core h k).mono fun e w' ⟨h1, h2⟩ => ⟨by rw [h1, decide_eq_true rfl], h2⟩
set_option maxRecDepth 100000 in
set_option maxHeartbeats 8000000 in
theorem alike_core {w : World} {m : Addr} {rb : Nat} {S : Sc} {F : Nat → Prop} {nv : Value} {names : List Int} (hS : SI w m S F) (hR : RefT w rb S) (hnm : IntsAt w nv names) :
    Calls Try.prog 12 #[.pointer (some m), .pointer (some ⟨rb, 0, none⟩), nv] w fun e w' => e = .returned (.bool true) ∧ Below w.heap.size w w' := by
  have wf := hS.wf
  have KS : Hid (∀ W, Below w.heap.size w W → SI W m S F) := hide (fun W hW => hS.kept hW.size (fun x hx => hW.block x (hS.lt x hx)))
  have KR := hide hR
  have KN : Hid (∀ W, Below w.heap.size w W → IntsAt W nv names) := hide (fun W hW => hnm.below hW)
  obtain ⟨ro, rcap, v4, hfl⟩ := hR.flds
  have FL := hide hfl
  have AI := hide (able_i64 wf)
  have AL := able_len wf
  have SI64 := hide wf.said
  have SL : S.said.length ≤ 10000 := by have := wf.steps; omega
  have TL := wf.tasks
  obtain ⟨no, ncap, rfl, nlen⟩ := hnm.shape
  obtain ⟨n, hn⟩ : ∃ n, (ableS S).length = n := ⟨_, rfl⟩
  obtain ⟨k, hk⟩ : ∃ k, S.said.length = k := ⟨_, rfl⟩
  obtain ⟨N, hN⟩ : ∃ N, names.length = N := ⟨_, rfl⟩
  obtain ⟨T, hT⟩ : ∃ T, S.ahead.length = T := ⟨_, rfl⟩
  have HN := hide hn
  have HK := hide hk
  have HNN := hide hN
  have HT := hide hT
  rw [hn] at AL
  rw [hk] at SL
  rw [hN] at KN nlen ⊢
  rw [hT] at TL FL
  clear hS hR hnm hfl wf hn hk hN hT
  -- what the two kinds of lists are
  have LA : Hid (∀ (W : World) (base : Nat) (v : Value), W.ownsRow base 3 1 v n (nats (ableS S)) → IntsAt W v ((ableS S).map fun i : Nat => (i : Int))) := hide (fun W base v h => by
    rw [nats_ints] at h
    refine IntsAt.of_owns (base := base) ?_ AI.out
    rw [List.length_map, HN.out]; exact h)
  have LS : Hid (∀ (W : World) (base : Nat) (v : Value), W.ownsRow base 3 1 v k (ints S.said) → IntsAt W v S.said) := hide (fun W base v h => by
    refine IntsAt.of_owns (base := base) ?_ SI64.out
    rw [HK.out]; exact h)
  go_enter Try.func12, Try.ntmps12
  go_wp2_with fail
  refine (KR.out.en w (Below.refl _ _)).mono ?_
  rintro e w1 ⟨vw, rfl, hw1, b1⟩
  rw [HN.out] at hw1
  obtain ⟨ow, cw, rfl, _⟩ := row_shape hw1
  have HW1 := hide hw1
  have B1 := hide b1
  clear hw1 b1
  -- a, b
  have CA : ∀ W, Below w.heap.size w W → Hid (Calls Try.prog 18 #[.pointer (some m)] W (AblesP S W)) := fun W hW => hide (by
    obtain ⟨b, v0, v3, bh, bc, n, vs, T, rfl, rfl, k, wf, _⟩ := KS.out W hW
    exact enabled_core k wf)
  have CA' := hide CA
  clear CA
  go_wp2_with fail
  refine (CA'.out _ B1.out).out.mono ?_
  rintro e w2 ⟨va, rfl, ha, b2⟩
  rw [HN.out] at ha
  obtain ⟨oa, ca, rfl, _⟩ := row_shape ha
  have HA := hide ha
  have B2 := hide (B1.out.trans (b2.mono B1.out.size))
  have HW2 := hide (owns_kept HW1.out (fun x hx => b2.block x (HW1.out.lt x hx).2))
  have G12 := hide b2.size
  clear ha b2 HW1
  go_wp2_with fail
  refine (CA'.out _ B2.out).out.mono ?_
  rintro e w3 ⟨vb, rfl, hb, b3⟩
  rw [HN.out] at hb
  obtain ⟨ob, cb, rfl, _⟩ := row_shape hb
  have HB := hide hb
  have B3 := hide (B2.out.trans (b3.mono B2.out.size))
  have BB3 := hide b3
  clear hb b3
  go_wp2_with fail
  refine (KS.out _ B3.out).said.mono ?_
  rintro e w4 ⟨vc, rfl, hc, b4⟩
  rw [ints_len, HK.out] at hc
  obtain ⟨oc, cc, rfl, _⟩ := row_shape hc
  have HC := hide hc
  have B4 := hide (B3.out.trans (b4.mono B3.out.size))
  have BB4 := hide b4
  clear hc b4
  go_wp2_with fail
  refine (KS.out _ B4.out).said.mono ?_
  rintro e w5 ⟨vd, rfl, hd, b5⟩
  rw [ints_len, HK.out] at hd
  obtain ⟨od, cd, rfl, _⟩ := row_shape hd
  have B5 := hide (B4.out.trans (b5.mono B4.out.size))
  have Q5 : Hid (Q4 w w5 (.slice oa n ca) (.slice ob n cb) (.slice oc k cc) (.slice od k cd) n k (nats (ableS S)) (nats (ableS S)) (ints S.said) (ints S.said) w2.heap.size w3.heap.size w4.heap.size) := hide (by
    have y3 : ∀ x, x < w2.heap.size → w3.heap[x]? = w2.heap[x]? := fun x hx => BB3.out.block x hx
    have y4 : ∀ x, x < w3.heap.size → w4.heap[x]? = w3.heap[x]? := fun x hx => BB4.out.block x hx
    have y5 : ∀ x, x < w4.heap.size → w5.heap[x]? = w4.heap[x]? := fun x hx => b5.block x hx
    have s3 := BB3.out.size
    have s4 := BB4.out.size
    have s0 := B1.out.size
    have s2 := G12.out
    have a0 : w2.ownsRow w.heap.size 3 1 (.slice oa n ca) n (nats (ableS S)) := owns_base HA.out s0
    refine ⟨B5.out, by omega, s3, s4, b5.size, ?_, ?_, ?_, hd, fun x hx => (HA.out.lt x hx).2, fun x hx => (HB.out.lt x hx).2, fun x hx => (HC.out.lt x hx).2⟩
    · exact owns_kept a0 (fun x hx => by have := (a0.lt x hx).2; rw [y5 x (by omega), y4 x (by omega), y3 x this])
    · exact owns_kept HB.out (fun x hx => by have := (HB.out.lt x hx).2; rw [y5 x (by omega), y4 x this])
    · exact owns_kept HC.out (fun x hx => by have := (HC.out.lt x hx).2; rw [y5 x this]))
  have W5 : Hid (w5.ownsRow w.heap.size 3 1 (.slice ow n cw) n (nats (ableS S))) := hide (by
    have s3 := BB3.out.size
    have s4 := BB4.out.size
    refine owns_kept HW2.out (fun x hx => ?_)
    have := (HW2.out.lt x hx).2
    rw [b5.block x (by omega), BB4.out.block x (by omega), BB3.out.block x this])
  clear hd b5 HA HB HC HW2 G12 BB3 BB4 B1 B2 B3 B4
  go_wp2_with fail
  refine (list_same (LA.out _ _ _ Q5.out.ra) (LA.out _ _ _ W5.out)).mono ?_
  rintro _ w6 ⟨rfl, b6⟩
  have Q6 := hide (Q5.out.next b6)
  have W6 := hide (owns_kept W5.out (fun x hx => b6.block x (W5.out.lt x hx).2))
  clear b6 Q5 W5
  go_wp2_with fail
  refine (list_same (LA.out _ _ _ Q6.out.rb) (LA.out _ _ _ W6.out)).mono ?_
  rintro _ w7 ⟨rfl, b7⟩
  have Q7 := hide (Q6.out.next b7)
  obtain ⟨f0, f1, f2⟩ := FL.out _ Q7.out.be
  have F2 := hide f2
  clear b7 Q6 W6 f2
  go_wp2_with fail
  refine (list_same (LS.out _ _ _ Q7.out.rc) F2.out).mono ?_
  rintro _ w8 ⟨rfl, b8⟩
  have Q8 := hide (Q7.out.next b8)
  clear b8 Q7 f0 f1 F2
  obtain ⟨f0, f1, f2⟩ := FL.out _ Q8.out.be
  have F2 := hide f2
  clear f2
  go_wp2_with fail
  refine (list_same (LS.out _ _ _ Q8.out.rd) F2.out).mono ?_
  rintro _ w9 ⟨rfl, b9⟩
  have Q9 := hide (Q8.out.next b9)
  clear b9 Q8 f0 f1 F2
  have xl : Hid ((nats (ableS S)).length = n ∧ (ints S.said).length = k) := hide ⟨by rw [nats_len, HN.out], by rw [ints_len, HK.out]⟩
  obtain ⟨xc, hxc⟩ : ∃ xc, xc = ints S.said := ⟨_, rfl⟩
  obtain ⟨xa, hxa⟩ : ∃ xa, xa = nats (ableS S) := ⟨_, rfl⟩
  rw [← hxc, ← hxa] at Q9 xl
  have LS' : Hid (∀ (W : World) (base : Nat) (v : Value), W.ownsRow base 3 1 v S.said.length (ints S.said) → IntsAt W v S.said) := hide (fun W base v h => LS.out W base v (by have := HK.out; rw [← this]; exact h))
  clear hxc hxa LA LS
  go_wp2_with fail
  go_loopw [12] (fun iv wr => ∃ (i : Nat), iv = .int .i64 (i : Int) ∧ i ≤ n ∧ Hid (∃ ya yb, Q4 w wr (.slice oa n ca) (.slice ob n cb) (.slice oc k cc) (.slice od k cd) n k ya yb xc xc w2.heap.size w3.heap.size w4.heap.size ∧ ya.length = n ∧ yb.length = n ∧ Fst ya i (.int .i64 201) ∧ Fst yb i (.int .i64 202))) (fun iv _ => n - (intOf iv).toNat)
  case atStart => exact ⟨0, rfl, Nat.zero_le _, hide ⟨xa, xa, Q9.out, xl.out.1, xl.out.1, Fst.zero _ _, Fst.zero _ _⟩⟩
  case round =>
    clear Q9
    obtain ⟨i, rfl, hi, HH⟩ := hrel
    obtain ⟨ya, yb, hq, la, lb, fa, fb⟩ := HH.out
    clear HH
    by_cases hlt : i < n
    · obtain ⟨ga, ca', e1, _⟩ := hq.ra.form (by omega)
      injection e1 with e1 e2 e3
      subst e1 e3
      obtain ⟨gb, cb', e1, _⟩ := hq.rb.form (by omega)
      injection e1 with e1 e2 e3
      subst e1 e3
      have q2 := (hq.setA i (.int .i64 201))
      have q3 := q2.setB i (.int .i64 202)
      have ka := hq.ra.cellAt i (by omega)
      rw [List.getElem?_eq_getElem (by omega)] at ka
      have kb := hq.rb.cellAt i (by omega)
      rw [List.getElem?_eq_getElem (by omega)] at kb
      have za := fz_row hq.ra i
      have zb := fz_row hq.rb i
      have hne : ga ≠ gb := by have := hq.la ga rfl; have := (hq.rb.lt gb rfl).1; omega
      have bca : n ≤ ca := by obtain ⟨o, c', e, h1, _⟩ := row_shape hq.ra; injection e with _ _ e; omega
      have bcb : n ≤ cb := by obtain ⟨o, c', e, h1, _⟩ := row_shape hq.rb; injection e with _ _ e; omega
      have NX : Hid (∃ ya yb, Q4 w ((wr.setCell ⟨ga, i, none⟩ (.int .i64 201)).setCell ⟨gb, i, none⟩ (.int .i64 202)) (.slice (some ⟨ga, 0, none⟩) n ca) (.slice (some ⟨gb, 0, none⟩) n cb) (.slice oc k cc) (.slice od k cd) n k ya yb xc xc w2.heap.size w3.heap.size w4.heap.size ∧ ya.length = n ∧ yb.length = n ∧ Fst ya (i + 1) (.int .i64 201) ∧ Fst yb (i + 1) (.int .i64 202)) := hide ⟨_, _, q3, by rw [List.length_set]; exact la, by rw [List.length_set]; exact lb, fa.set (by omega), fb.set (by omega)⟩
      have i1 : (i : Int) < (n : Int) := by omega
      have i2 : (0 : Int) ≤ (i : Int) := by omega
      generalize ya[i] = ua at ka
      generalize yb[i] = ub at kb
      clear q2 q3 hq la lb fa fb
      go_wp2_with fail
      go_roundw
      case rel => exact ⟨i + 1, by go_num, by omega, NX⟩
      case measure => simp [intOf]; omega
    · obtain rfl : i = n := by omega
      have d0 : ¬ (i : Int) < (i : Int) := by omega
      have HQ := hide hq
      have FA := hide fa
      have FB := hide fb
      have LL := hide (And.intro la lb)
      clear hq fa fb la lb
      go_wp2_with fail
      go_loopw [13] (fun jv wx => ∃ (j : Nat), jv = .int .i64 (j : Int) ∧ j ≤ k ∧ Hid (∃ yc yd, Q4 w wx (.slice oa i ca) (.slice ob i cb) (.slice oc k cc) (.slice od k cd) i k ya yb yc yd w2.heap.size w3.heap.size w4.heap.size ∧ yc.length = k ∧ yd.length = k)) (fun jv _ => k - (intOf jv).toNat)
      case atStart => exact ⟨0, rfl, Nat.zero_le _, hide ⟨xc, xc, HQ.out, xl.out.2, xl.out.2⟩⟩
      case round =>
        clear HQ
        obtain ⟨j, rfl, hj, HH⟩ := hrel
        obtain ⟨yc, yd, hq, lc, ld⟩ := HH.out
        clear HH
        by_cases hlt2 : j < k
        · obtain ⟨gc, cc', e1, _⟩ := hq.rc.form (by omega)
          injection e1 with e1 e2 e3
          subst e1 e3
          obtain ⟨gd, cd', e1, _⟩ := hq.rd.form (by omega)
          injection e1 with e1 e2 e3
          subst e1 e3
          have q3 := (hq.setC j (.int .i64 203)).setD j (.int .i64 204)
          have ka := hq.rc.cellAt j (by omega)
          rw [List.getElem?_eq_getElem (by omega)] at ka
          have kb := hq.rd.cellAt j (by omega)
          rw [List.getElem?_eq_getElem (by omega)] at kb
          have za := fz_row hq.rc j
          have zb := fz_row hq.rd j
          have hne : gc ≠ gd := by have := hq.lc gc rfl; have := (hq.rd.lt gd rfl).1; omega
          have bca : k ≤ cc := by obtain ⟨o, c', e, h1, _⟩ := row_shape hq.rc; injection e with _ _ e; omega
          have bcb : k ≤ cd := by obtain ⟨o, c', e, h1, _⟩ := row_shape hq.rd; injection e with _ _ e; omega
          have NX : Hid (∃ yc yd, Q4 w ((wr.setCell ⟨gc, j, none⟩ (.int .i64 203)).setCell ⟨gd, j, none⟩ (.int .i64 204)) (.slice oa i ca) (.slice ob i cb) (.slice (some ⟨gc, 0, none⟩) k cc) (.slice (some ⟨gd, 0, none⟩) k cd) i k ya yb yc yd w2.heap.size w3.heap.size w4.heap.size ∧ yc.length = k ∧ yd.length = k) := hide ⟨_, _, q3, by rw [List.length_set]; exact lc, by rw [List.length_set]; exact ld⟩
          have i1 : (j : Int) < (k : Int) := by omega
          have i2 : (0 : Int) ≤ (j : Int) := by omega
          generalize yc[j] = ua at ka
          generalize yd[j] = ub at kb
          clear q3 hq lc ld
          go_wp2_with fail
          go_roundw
          case rel => exact ⟨j + 1, by go_num, by omega, NX⟩
          case measure => simp [intOf]; omega
        · obtain rfl : j = k := by omega
          have d1 : ¬ (j : Int) < (j : Int) := by omega
          obtain ⟨g1, c1, W1, r1, o1, z1, y1, t1, u1, u2, u3⟩ := push1 hq.ra (by omega) hq.be.size 201 23
          have rb1 : W1.ownsRow w2.heap.size 3 1 (.slice ob i cb) i yb := owns_kept hq.rb (fun x hx => y1 x (hq.rb.lt x hx).2 (fun e => by have := hq.la x e; have := (hq.rb.lt x hx).1; omega))
          have s02 : w2.heap.size ≤ W1.heap.size := by have := hq.o2; have := hq.o3; have := hq.o4; omega
          obtain ⟨g2, c2, W2, r2, o2, z2, y2, t2, v1, v2, v3⟩ := push1 rb1 (by omega) s02 202 23
          have oa2 : W2.ownsRow w.heap.size 3 1 (.slice (some ⟨g1, 0, none⟩) (i + 1) c1) (i + 1) (ya ++ [.int .i64 201]) := owns_kept o1 (fun x hx => by
            have hx' : g1 = x := by simpa [Value.ownBlock] using hx
            subst hx'
            refine y2 g1 (o1.lt g1 rfl).2 (fun e => ?_)
            have e1 := hq.rb.lt g1 e
            rcases t1 with z | z
            · have := hq.la g1 z; omega
            · omega)
          have BW : Below w.heap.size w W2 := by
            have be := hq.be
            have s0 := be.size
            refine ⟨by rw [v1, u1]; exact be.os, by rw [v2, u2]; exact be.tape, by rw [v3, u3]; exact be.output, by omega, fun x hx => ?_⟩
            rw [y2 x (by omega) (fun e => by have := (hq.rb.lt x e).1; have := hq.o1; omega), y1 x (by omega) (fun e => by have := (hq.ra.lt x e).1; omega)]
            exact be.block x hx
          have HA2 := hide oa2
          have HB2 := hide o2
          have BW2 := hide BW
          have FA2 : Hid (∀ q, q < i + 1 → W2.cell? ⟨g1, q, none⟩ = some (.int .i64 201) ∧ W2.cell? ⟨g2, q, none⟩ = some (.int .i64 202)) := hide (fun q hq' => by
            have e1 := oa2.cellAt q (by omega)
            have e2 := o2.cellAt q (by omega)
            have l1 := LL.out.1
            have l2 := LL.out.2
            refine ⟨e1.trans ?_, e2.trans ?_⟩
            · by_cases z : q < i
              · rw [List.getElem?_append_left (by omega)]; exact FA.out q z
              · obtain rfl : q = i := by omega
                rw [List.getElem?_append_right (by omega), l1, Nat.sub_self]; rfl
            · by_cases z : q < i
              · rw [List.getElem?_append_left (by omega)]; exact FB.out q z
              · obtain rfl : q = i := by omega
                rw [List.getElem?_append_right (by omega), l2, Nat.sub_self]; rfl)
          have bc1 : i + 1 ≤ c1 := by obtain ⟨o, c', e, h1, _⟩ := row_shape oa2; injection e with _ _ e; omega
          have bc2 : i + 1 ≤ c2 := by obtain ⟨o, c', e, h1, _⟩ := row_shape o2; injection e with _ _ e; omega
          have R1 := hide r1
          have R2 := hide r2
          clear oa2 o2 BW r1 r2 o1 rb1 hq lc ld t1 t2 y1 y2 z1 z2 u1 u2 u3 v1 v2 v3 s02 FA FB LL
          go_wp2_with (first
            | (at_builtin; refine list_append_run (by rfl) (.tmp 87) (.tmp 88) 23 (by rfl) (by rfl) (by rfl) R1.out ?_)
            | (at_builtin; refine list_append_run (by rfl) (.tmp 90) (.tmp 91) 23 (by rfl) (by rfl) (by rfl) R2.out ?_))
          clear R1 R2
          go_loopw [14] (fun jv wy => ∃ (q : Nat), jv = .int .i64 (q : Int) ∧ q ≤ i + 1 ∧ wy = W2) (fun jv _ => i + 1 - (intOf jv).toNat)
          case atStart => exact ⟨0, rfl, Nat.zero_le _, rfl⟩
          case round =>
            obtain ⟨q, rfl, hqi, hwy⟩ := hrel
            subst hwy
            by_cases hl3 : q < i + 1
            · obtain ⟨e1, e2⟩ := FA2.out q hl3
              have i1 : (q : Int) < ((i + 1 : Nat) : Int) := by omega
              have i1' : (q : Int) < (i : Int) + 1 := by omega
              have i2 : (0 : Int) ≤ (q : Int) := by omega
              go_wp2_with fail
              go_roundw
              case rel => exact ⟨q + 1, by go_num, by omega, by first | rfl | trivial⟩
              case measure => simp [intOf]; omega
            · obtain rfl : q = i + 1 := by omega
              have d2 : ¬ ((i + 1 : Nat) : Int) < ((i + 1 : Nat) : Int) := by omega
              have d2' : ¬ ((i : Int) + 1) < ((i : Int) + 1) := by omega
              clear FA2 HA2 HB2
              obtain ⟨f0, f1, _⟩ := FL.out _ BW2.out
              have BD : Below w.heap.size w (wr.drewN 1) := below_drewN BW2.out 1
              go_wp2_with fail
              go_region_held3 (fun w' => w'.cell? ⟨rb, 4, none⟩ = some v4) (go_keep) (first
                | (go_at_call 28; refine (KS.out _ BD).said.mono ?_; rintro e A1 ⟨vs, rfl, hs, b1⟩; rw [ints_len] at hs; obtain ⟨os, cs, rfl, _⟩ := row_shape hs; have HS1 := hide hs; have E1 : Below w.heap.size w A1 := BD.trans (b1.mono BD.size); have k1 : A1.cell? ⟨rb, 4, none⟩ = some v4 := (FL.out _ E1).2.1; clear hs b1)
                | (go_at_call 15; refine (list_same (LS'.out _ _ _ HS1.out) (FL.out _ E1).2.2).mono ?_; rintro _ A2 ⟨rfl, b2⟩; have E2 : Below w.heap.size w A2 := E1.trans (b2.mono E1.size); have k2 : A2.cell? ⟨rb, 4, none⟩ = some v4 := (FL.out _ E2).2.1; clear b2))
              have EE := hide E2
              clear E1 E2 k1 k2 f0 f1 BD HS1 BW2 LS' CA'
              go_wp2_with fail
              go_loopw [15] (fun qv wz => ∃ (q : Int), qv = .int .i64 q ∧ -1 ≤ q ∧ q ≤ (T : Int) + 1 ∧ Hid (Below w.heap.size w wz)) (fun qv _ => ((T : Int) + 1 - intOf qv).toNat)
              case atStart => exact ⟨-1, rfl, by omega, by omega, EE⟩
              case round =>
                clear EE
                obtain ⟨q, rfl, q1, q2, HB⟩ := hrel
                obtain ⟨f0, _, _⟩ := FL.out _ HB.out
                have tl1 : (0 : Int) ≤ (T : Int) := by omega
                by_cases hl4 : q ≤ (T : Int)
                · have dq : decide (q ≤ (T : Int)) = true := decide_eq_true hl4
                  have hq64 : i64 q := by unfold i64; omega
                  obtain ⟨x, hx⟩ : ∃ x : Int, (((leftS S q).1 : Nat) : Int) = x := ⟨_, rfl⟩
                  obtain ⟨y, hy⟩ : ∃ y : Int, (((leftS S q).2 : Nat) : Int) = y := ⟨_, rfl⟩
                  have C1 : ∀ W, Below w.heap.size w W → Hid (Calls Try.prog 29 #[.pointer (some m), .int .i64 q] W fun e w' => e = .returned (.tuple #[.int .i64 x, .int .i64 y]) ∧ Below W.heap.size W w') := fun W hW => hide (by rw [← hx, ← hy]; exact (KS.out W hW).left q hq64)
                  have C2 : ∀ W, Below w.heap.size w W → Hid (Calls Try.prog 30 #[.pointer (some ⟨rb, 0, none⟩), .int .i64 q] W fun e w' => e = .returned (.tuple #[.int .i64 x, .int .i64 y]) ∧ Below W.heap.size W w') := fun W hW => hide (by rw [← hx, ← hy]; exact KR.out.left W hW q hq64)
                  have C1' := hide C1
                  have C2' := hide C2
                  have xx : (x != x) = false := by simp
                  have yy : (y != y) = false := by simp
                  clear C1 C2 hx hy hq64
                  go_wp2_with fail
                  refine (C1'.out _ HB.out).out.mono ?_
                  rintro _ A1 ⟨rfl, b1⟩
                  have B1 := hide (HB.out.trans (b1.mono HB.out.size))
                  clear b1
                  go_wp2_with fail
                  refine (C2'.out _ B1.out).out.mono ?_
                  rintro _ A2 ⟨rfl, b2⟩
                  have B2 := hide (B1.out.trans (b2.mono B1.out.size))
                  clear b2 B1
                  go_wp2_with fail
                  go_roundw
                  case rel => exact ⟨q + 1, by go_num, by omega, by omega, B2⟩
                  case measure => simp [intOf]; omega
                · have dq : decide (q ≤ (T : Int)) = false := decide_eq_false hl4
                  obtain rfl : q = (T : Int) + 1 := by omega
                  clear hl4 q1 q2
                  go_wp2_with fail
                  go_loopw [20] (fun qv wz => ∃ (p : Nat), qv = .int .i64 (p : Int) ∧ p ≤ N ∧ p ≤ 20 ∧ Hid (Below w.heap.size w wz)) (fun qv _ => 20 - (intOf qv).toNat)
                  case atStart => exact ⟨0, rfl, Nat.zero_le _, by omega, HB⟩
                  case round =>
                    clear HB
                    obtain ⟨p, rfl, p1, p2, HB⟩ := hrel
                    by_cases hp : p < N
                    · have dp : decide ((p : Int) < (N : Int)) = true := decide_eq_true (by omega)
                      by_cases hp2 : p < 20
                      · have dp2 : decide ((p : Int) < 20) = true := decide_eq_true (by omega)
                        have hp' : p < N := hp
                        obtain ⟨gn, offn, x, rfl, hx, x64, _⟩ := (KN.out _ (Below.refl _ _)).at (Below.refl _ _) hp'
                        have CX : Hid (∀ W, Below w.heap.size w W → W.cell? ⟨gn, offn + p, none⟩ = some (.int .i64 x)) := hide (fun W hW => by
                          obtain ⟨g', off', x', e, hx', _, c⟩ := (KN.out _ hW).at (Below.refl _ _) hp'
                          injection e with e
                          injection e with e1 e2
                          subst e1 e2
                          rw [hx] at hx'
                          injection hx' with hx'
                          subst hx'
                          exact c)
                        have bcn : N ≤ ncap := by obtain ⟨_, _, z, h2, _⟩ := KN.out _ (Below.refl _ _); injection z with z1 z2 z3; rw [HNN.out] at h2; omega
                        obtain ⟨X, hX⟩ : ∃ X : Int, (((S.hold x).getD 0 : Nat) : Int) = X := ⟨_, rfl⟩
                        obtain ⟨Bo, hBo⟩ : ∃ b : Bool, (S.hold x).isSome = b := ⟨_, rfl⟩
                        obtain ⟨Y, hY⟩ : ∃ Y : Int, S.cell x = Y := ⟨_, rfl⟩
                        have C1 : ∀ W, Below w.heap.size w W → Hid (Calls Try.prog 19 #[.pointer (some m), .int .i64 x] W fun e w' => e = .returned (.tuple #[.int .i64 X, .bool Bo]) ∧ Below W.heap.size W w') := fun W hW => hide (by
                          rw [← hX, ← hBo]
                          refine ((KS.out W hW).holder x x64).mono fun e w' ⟨he, hb⟩ => ⟨?_, hb⟩
                          rw [he]
                          unfold heldOf
                          cases S.hold x <;> rfl)
                        have C2 : ∀ W, Below w.heap.size w W → Hid (Calls Try.prog 24 #[.pointer (some ⟨rb, 0, none⟩), .int .i64 x] W fun e w' => e = .returned (.tuple #[.int .i64 X, .bool Bo]) ∧ w' = W) := fun W hW => hide (by rw [← hX, ← hBo]; exact KR.out.hold W hW x x64)
                        have C3 : ∀ W, Below w.heap.size w W → Hid (Calls Try.prog 31 #[.pointer (some m), .int .i64 x] W fun e w' => e = .returned (.int .i64 Y) ∧ w' = W) := fun W hW => hide (by rw [← hY]; exact (KS.out W hW).cellAt' x x64)
                        have C4 : ∀ W, Below w.heap.size w W → Hid (Calls Try.prog 27 #[.pointer (some ⟨rb, 0, none⟩), .int .i64 x] W fun e w' => e = .returned (.int .i64 Y) ∧ w' = W) := fun W hW => hide (by rw [← hY]; exact KR.out.cell W hW x x64)
                        have C1' := hide C1
                        have C2' := hide C2
                        have C3' := hide C3
                        have C4' := hide C4
                        have XX : (X != X) = false := by simp
                        have YY : (Y != Y) = false := by simp
                        have j1 : (p : Int) < (N : Int) := by omega
                        have j2 : (0 : Int) ≤ (p : Int) := by omega
                        have cx := CX.out _ HB.out
                        clear C1 C2 C3 C4 hX hBo hY hx x64 hp'
                        go_wp2_with fail
                        refine (C1'.out _ HB.out).out.mono ?_
                        rintro _ A1 ⟨rfl, b1⟩
                        have B1 := hide (HB.out.trans (b1.mono HB.out.size))
                        have cx1 := CX.out _ B1.out
                        clear b1 cx
                        go_wp2_with fail
                        refine (C2'.out _ B1.out).out.mono ?_
                        rintro _ A2 ⟨rfl, hA2⟩
                        rw [hA2]
                        clear hA2 A2
                        have BN : ∀ q, Hid (Below w.heap.size w (A1.drewN q)) := fun q => hide (below_drewN B1.out q)
                        have BN' := hide BN
                        clear BN
                        cases Bo
                        all_goals
                          go_wp2_with fail
                          go_quiet (first
                            | (go_at_call 31; refine Calls.quiet_of_same (C3'.out _ (BN'.out _).out).out)
                            | (go_at_call 27; refine Calls.quiet_of_same (C4'.out _ (BN'.out _).out).out))
                          have BQ := BN'.out nq
                          go_wp2_with fail
                          go_roundw
                          case rel => exact ⟨p + 1, by go_num, by omega, by omega, BQ⟩
                          case measure => simp [intOf]; omega
                      · have dp2 : decide ((p : Int) < 20) = false := decide_eq_false (by omega)
                        go_wp2_with fail
                        go_ret
                        exact ⟨rfl, HB.out⟩
                    · have dp : decide ((p : Int) < (N : Int)) = false := decide_eq_false (by omega)
                      go_wp2_with fail
                      go_ret
                      exact ⟨rfl, HB.out⟩
end Go.Proofs.Ytlcbegmhmbegjaa
