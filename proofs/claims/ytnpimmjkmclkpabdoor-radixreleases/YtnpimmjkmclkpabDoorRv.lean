/- RadixReleases: released again and again. -/
import Derived.Test.YtnpimmjkmclkpabDoorYl
import Derived.Test.YtnpimmjkmclkpabDoorLw
namespace Go.Proofs.YtnpimmjkmclkpabDoor
open Go.ChangeShapes Go.WideShapes Go.ChangeAt Go.RowKit Go.Proofs.Bt Go.Shelf Go.Proofs.Rx Go.Maps Go.Proofs.Pk
set_option linter.unusedVariables false
set_option linter.unusedSimpArgs false

theorem fr_rl {st : Nat → Nat} (h4 : Four st) (h : ∀ q, st q ≠ 2) : frT st = rlT st := by
  show cnt (fre st) 0 34359738368 = cnt (rel st) 0 34359738368
  refine cnt_congr fun k hk => ?_
  have h1 := h (0 + k)
  have h2 := h4 (0 + k)
  unfold fre rel
  rw [decide_eq_decide]
  omega
theorem first_or {st : Nat → Nat} {n : Nat} : (∀ p, ¬ Run st p n) ∨ ∃ p, First st n p := by
  by_cases h : ∃ p, Run st p n
  · obtain ⟨p, hp⟩ := h
    obtain ⟨a, h1, h2⟩ := least (P := fun p => Run st p n) p hp
    exact .inr ⟨a, h1, h2⟩
  · exact .inl fun p hp => h ⟨p, hp⟩
/-- Two chunks in use, none else. -/
def OutR (st : Nat → Nat) : Prop := ∀ q, ¬ (4608 ≤ q ∧ q < 5632) → st q = 0
theorem OutR.run {st : Nat → Nat} (h : OutR st) {p n : Nat} (hn : 1 ≤ n) (hr : ∀ q, p ≤ q → q < p + n → st q ≠ 0) : 4608 ≤ p ∧ p + n ≤ 5632 := by
  constructor
  · rcases Nat.lt_or_ge p 4608 with y | y
    · exact absurd (h p (by omega)) (hr p (Nat.le_refl _) (by omega))
    · exact y
  · rcases Nat.lt_or_ge 5632 (p + n) with y | y
    · exact absurd (h (p + n - 1) (by omega)) (hr (p + n - 1) (by omega) (by omega))
    · exact y
theorem OutR.set {st : Nat → Nat} (h : OutR st) {p n s : Nat} (h1 : 4608 ≤ p) (h2 : p + n ≤ 5632) : OutR (setSt st p (p + n) s) := fun q hq => by
  unfold setSt
  rw [if_neg (by omega)]
  exact h q hq
theorem used_in {st : Nat → Nat} {p n : Nat} (h1 : 1 ≤ n) (h : p + n ≤ 34359738368) : InT (setSt st p (p + n) 1) p n ∧ (tl (setSt st p (p + n) 1) p n).f = 0 := by
  have e : tl (setSt st p (p + n) 1) p n = tlOf 1 n := tl_all fun q q1 q2 => setSt_in ⟨q1, q2⟩
  unfold InT
  rw [e]
  exact ⟨⟨h1, h, rfl⟩, rfl⟩
theorem run3 {st : Nat → Nat} (h4 : Four st) (hi : ∀ q, st q ≠ 2) {p n : Nat} (h : Run st p n) : ∀ q, p ≤ q → q < p + n → st q = 3 := fun q q1 q2 => by
  have h1 := h q q1 q2
  have h2 := h4 q
  have h3 := hi q
  omega
theorem undone3 {st : Nat → Nat} {p n : Nat} (h : ∀ q, p ≤ q → q < p + n → st q = 3) : setSt (setSt st p (p + n) 1) p (p + n) 3 = st := by
  funext q
  unfold setSt
  by_cases z : p ≤ q ∧ q < p + n
  · rw [if_pos z, h q z.1 z.2]
  · rw [if_neg z, if_neg z]
theorem t9_scav {N : Nat} {O : Nat → Prop} {w W : World} {tb : Nat} {st : Nat → Nat} (h : T9 N O w W tb st) (hO : OutR st) (each : Nat) (he : 1 ≤ each) (he2 : each ≤ 600) :
    Calls Tryd.prog 11 #[.pointer (some ⟨tb, 0, none⟩), .int .u64 (each : Nat)] W fun e W' =>
      ((∀ q, st q ≠ 2) ∧ e = .returned (.tuple #[.int .u64 0, .int .u64 0]) ∧ T9 N O w W' tb st) ∨
      ∃ p m : Nat, 4608 ≤ p ∧ p + m ≤ 5632 ∧ 1 ≤ m ∧ m ≤ each ∧ (∀ q, p ≤ q → q < p + m → st q = 2) ∧ (∀ q, p + m ≤ q → st q ≠ 2) ∧ e = .returned (.tuple #[.int .u64 (p : Nat), .int .u64 (m : Nat)]) ∧ T9 N O w W' tb (setSt st p (p + m) 3) := by
  refine (scav9_any h.tr each (by omega)).mono ?_
  rintro e W' (⟨h1, he', hc⟩ | ⟨_, i, a, m, c, hi, hcs, habv, m1, m2, m3, hl, idle, he', hc⟩)
  · exact .inl ⟨h1.resolve_left (by omega), he', (h.chg hc).1⟩
  · obtain ⟨o1, o2⟩ := hO.run m1 (fun q q1 q2 => by rw [idle q q1 q2]; decide)
    refine .inr ⟨512 * i + a, m, o1, o2, m1, m2, idle, fun q hq => ?_, he', (h.chg hc).1⟩
    rcases Nat.lt_or_ge q ((i + 1) * 512) with y | y
    · rcases hl with ⟨hk, _⟩ | ⟨_, a', m', e1, e2, _, _, _, _, hb, _⟩
      · omega
      · have ea : a = a' := by omega
        have em : m = m' := by omega
        subst ea em
        have hb' := hb (q - 512 * i) (by omega) (by have e : min (512 : Int).toNat 512 = 512 := rfl; rw [e]; omega)
        have hq2 := hcs (q - 512 * i) (by omega)
        rw [show 512 * i + (q - 512 * i) = q by omega] at hq2
        intro hz
        rw [hz] at hq2
        unfold bsyC busy at hb'
        dsimp only at hb'
        rw [hq2] at hb'
        cases hb'
    · exact habv q y
/-- Between two rounds of the first loop. -/
structure RvI (N B0 tb : Nat) (w : World) (st : Nat → Nat) (v : Value) (c : Nat) (la : List Nat) (W : World) : Prop where
  t : T9 N (fun x => v.ownBlock = some x) w W tb st
  o : W.ownsRow B0 23 1 v c (vals la)
  ou : OutR st
  nb : N ≤ B0
  hb : B0 ≤ W.heap.size
theorem RvI.left {N B0 tb : Nat} {w W W' : World} {st st' : Nat → Nat} {v : Value} {c : Nat} {la : List Nat} (h : RvI N B0 tb w st v c la W) (t : T9 N (fun x => v.ownBlock = some x) w W' tb st') (l : Left9 N (fun x => v.ownBlock = some x) W W') (ho : OutR st') : RvI N B0 tb w st' v c la W' :=
  ⟨t, owns_kept h.o (fun x hx => l.block x (h.o.lt x hx).2 (fun z => z.2 hx)), ho, h.nb, Nat.le_trans h.hb l.size⟩
theorem RvI.push {N B0 tb : Nat} {w W : World} {st : Nat → Nat} {v : Value} {c : Nat} {la : List Nat} (h : RvI N B0 tb w st v c la W) (hk : c < 1000) (q : Nat) {W2 : World} (hW2 : W2 = W.alloc (.cells #[.int .u64 (q : Nat)] 23)) (ty : TypeId) :
    ∃ g cap Y, (Builtin.append_ #[22, 22] ty #[v, .slice (some ⟨W.heap.size, 0, none⟩) 1 1]).run Tryd.prog W2 = .ok (.slice (some ⟨g, 0, none⟩) (c + 1) cap) Y ∧ RvI N B0 tb w st (.slice (some ⟨g, 0, none⟩) (c + 1) cap) (c + 1) (la ++ [q]) Y := by
  have bW : Below W.heap.size W W2 := by rw [hW2]; exact grown1 W _
  have h2 := h.left (h.t.read bW).1 (h.t.read bW).2 h.ou
  have n2 : W2.heap[W.heap.size]? = some (.cells #[.int .u64 (q : Nat)] 23 (0, 0)) := by rw [hW2]; exact World.alloc_heap_new W _
  obtain ⟨g, cap, Y, r1, r2, r3, r4, r5⟩ := u64s_more h2.o hk W.heap.size q n2 h2.hb ty
  refine ⟨g, cap, Y, r1, ⟨?_, r2, h.ou, h.nb, Nat.le_trans h2.hb r3.size⟩⟩
  refine h2.t.grow r3 (fun x hx => ⟨hx, by have := (h2.o.lt x hx).1; have := h.nb; omega⟩) (fun x hx => ?_)
  have e : g = x := by simpa [Value.ownBlock] using hx
  subst e
  rcases r4 with r | r
  · exact .inl r
  · exact .inr ⟨r, r5⟩
set_option maxRecDepth 100000 in
set_option maxHeartbeats 4000000 in
theorem releases_any (w : World) (ht : TabW w) (o0 : Option Addr) (l0 c0 : Nat) (hA0 : l0 ≤ maxLen ∧ l0 ≤ c0 ∧ ∃ X, U64At w o0 l0 c0 X) (each n : Nat) (hev : each < 18446744073709551616) (hn : n < 18446744073709551616) :
    Calls Tryd.prog 3 #[.slice o0 l0 c0, .int .u64 (each : Nat), .int .u64 (n : Nat)] w fun e w' => e = .returned (.bool true) ∧ Below w.heap.size w w' := by
  obtain ⟨_, hc0, X, hX⟩ := hA0
  obtain ⟨N, hN⟩ : ∃ N, w.heap.size = N := ⟨_, rfl⟩
  have CN := hide (t9_new ht hN)
  obtain ⟨R, hR⟩ : ∃ R : Ending → World → Prop, R = fun e w' => e = .returned (.bool true) ∧ Below w.heap.size w w' := ⟨_, rfl⟩
  rw [← hR]
  have FIN := hide (show ∀ W, Below N w W → R (.returned (.bool true)) W from fun W hW => by rw [hR]; exact ⟨rfl, by rw [hN]; exact hW⟩)
  have HX := hide hX
  have HN := hide hN
  obtain ⟨E, hE⟩ : ∃ E : Int, (each : Int) = E := ⟨_, rfl⟩
  obtain ⟨M, hM⟩ : ∃ M : Int, (n : Int) = M := ⟨_, rfl⟩
  rw [hE, hM]
  have HE := hide hE
  have HM := hide hM
  have E0 : 0 ≤ E := by omega
  have m0 : 0 ≤ M := by omega
  have E9 : E < 18446744073709551616 := by omega
  have m9 : M < 18446744073709551616 := by omega
  clear hX hN hR ht hc0
  by_cases q0 : 40 < (l0 : Int) ∨ E < 1 ∨ 600 < E ∨ M < 1 ∨ 1000 < M
  · have F := hide (FIN.out w (Below.refl _ _))
    clear CN FIN hE hM
    by_cases z0 : 40 < (l0 : Int)
    · clear q0
      go_enter Tryd.func3, Tryd.ntmps3
      go_wp2_with fail
      try go_ret
      exact F.out
    by_cases z1 : E < 1
    · clear q0
      go_enter Tryd.func3, Tryd.ntmps3
      go_wp2_with fail
      try go_ret
      exact F.out
    by_cases z2 : 600 < E
    · clear q0
      go_enter Tryd.func3, Tryd.ntmps3
      go_wp2_with fail
      try go_ret
      exact F.out
    by_cases z3 : M < 1
    · clear q0
      go_enter Tryd.func3, Tryd.ntmps3
      go_wp2_with fail
      try go_ret
      exact F.out
    have z4 : 1000 < M := by omega
    clear q0
    go_enter Tryd.func3, Tryd.ntmps3
    go_wp2_with fail
    try go_ret
    exact F.out
  have a0 : (l0 : Int) ≤ 40 := by omega
  have a1 : 1 ≤ E := by omega
  have a2 : E ≤ 600 := by omega
  have a3 : 1 ≤ M := by omega
  have a4 : M ≤ 1000 := by omega
  have e1 : 1 ≤ each := by omega
  have e2 : each ≤ 600 := by omega
  have n1 : 1 ≤ n := by omega
  have n2 : n ≤ 1000 := by omega
  have l9 : (0 : Int) ≤ l0 := by omega
  clear q0 hE hM
  go_enter Tryd.func3, Tryd.ntmps3
  go_wp2_with fail
  refine CN.out.mono ?_
  rintro e w1 ⟨tb, rfl, t1⟩
  have CG := hide (t9_grow t1 9 2 (by unfold GrowBad; omega) (by rw [tl_all (s := 0) fun q _ _ => rfl]; rfl))
  simp only [Int.cast_ofNat_Int] at CG
  clear CN t1
  go_wp2_with fail
  refine CG.out.mono ?_
  rintro e w2 ⟨rfl, t2, -⟩
  obtain ⟨B0, hB0⟩ : ∃ B0, w2.heap.size = B0 := ⟨_, rfl⟩
  have I0 := hide (show RvI N B0 tb w _ (.slice none 0 0) 0 [] w2 from ⟨t2.more (Below.refl _ _) (fun x hx => by cases hx), World.ownsRow_nil _ _ _ _, (fun q hq => by unfold setSt; rw [if_neg (by omega)]), by have := t2.tr.lt.2.2; omega, by omega⟩)
  clear CG t2
  go_wp2_with fail
  go_loopw [8, 9] (fun vv iv wr => ∃ (k : Int) (v : Value), v = vv ∧ iv = .int .i64 k ∧ 0 ≤ k ∧ k ≤ l0 ∧ Hid (∃ st c la, c ≤ k.toNat ∧ RvI N B0 tb w st v c la wr)) (fun _ iv _ => ((l0 : Int) - intOf iv).toNat)
  case atStart => exact ⟨0, .slice none 0 0, rfl, rfl, by omega, by omega, hide ⟨_, _, _, by omega, I0.out⟩⟩
  case round =>
    clear I0
    obtain ⟨k, v, rfl, rfl, k0, k1, HI⟩ := hrel
    obtain ⟨st, c, la, hck, hI⟩ := HI.out
    have II := hide hI
    have CK := hide hck
    clear HI hI hck
    by_cases hk : k < l0
    · obtain ⟨b0, off0, rfl, hb0, hcl0⟩ := HX.out.at (i := k.toNat) (by omega)
      have x0 := (cell_block (II.out.t.be.block b0 (by rw [← HN.out]; exact hb0)) _).trans (hcl0 k.toNat (by omega))
      have y0 := HX.out.lo k.toNat
      have y1 := HX.out.hi k.toNat
      obtain ⟨A, hA⟩ : ∃ A : Nat, X k.toNat = A := ⟨(X k.toNat).toNat, by omega⟩
      rw [hA] at x0 y0 y1
      have XS := hide (show ∀ Z, Below N w Z → Z.cell? ⟨b0, off0 + k.toNat, none⟩ = some (.int .u64 (A : Nat)) from fun Z hZ => (cell_block (hZ.block b0 (by rw [← HN.out]; exact hb0)) _).trans (by rw [← hA]; exact hcl0 k.toNat (by omega)))
      clear hcl0 hA
      by_cases b1 : (A : Int) < 1
      · have F := hide (FIN.out wr II.out.t.be)
        go_wp2_with fail
        try go_ret
        exact F.out
      have b1' : 1 ≤ (A : Int) := by omega
      by_cases b2 : 300 < (A : Int)
      · have F := hide (FIN.out wr II.out.t.be)
        clear b1
        go_wp2_with fail
        try go_ret
        exact F.out
      have b2' : (A : Int) ≤ 300 := by omega
      have b3 : 1 ≤ A := by omega
      clear b1 b2
      rcases first_or (st := st) (n := A) with hno | ⟨p, hf⟩
      · have CA := hide (t9_alloc_no II.out.t A (by omega) b3 hno)
        clear hno
        go_wp2_with fail
        refine CA.out.mono ?_
        rintro e w3 ⟨rfl, t3, l3⟩
        have I3 := hide (show ∃ st c la, c ≤ (k + 1).toNat ∧ RvI N B0 tb w st v c la w3 from ⟨_, _, _, by have := CK.out; omega, II.out.left t3 l3 II.out.ou⟩)
        clear CA t3 l3
        go_wp2_with fail
        refine ⟨⟨k + 1, v, rfl, rfl, by omega, by omega, I3⟩, ?_⟩
        simp [intOf]; omega
      · obtain ⟨o1, o2⟩ := II.out.ou.run b3 (fun q q1 q2 => by have := hf.1 q q1 q2; omega)
        have CA := hide (t9_alloc II.out.t A p (by omega) b3 hf)
        obtain ⟨x, hx⟩ : ∃ x, (tl st p A).r = x := ⟨_, rfl⟩
        rw [hx] at CA
        clear hf hx
        go_wp2_with fail
        refine CA.out.mono ?_
        rintro e w3 ⟨rfl, t3, l3⟩
        have I3 := hide (II.out.left t3 l3 (II.out.ou.set o1 o2))
        clear CA t3 l3 x0
        obtain ⟨W4, hW4⟩ : ∃ W4, w3.alloc (.cells #[.int .u64 (p : Nat)] 23) = W4 := ⟨_, rfl⟩
        obtain ⟨g, cap, Y4, hrun, h5⟩ := I3.out.push (by have := CK.out; omega) p (W2 := W4) hW4.symm 22
        have RUN := hide hrun
        have I5 := hide h5
        have x5 := XS.out _ I5.out.t.be
        clear hrun h5
        by_cases hm : k % 2 = 1
        · have CV := hide (t9_give I5.out.t p A (used_in b3 (by omega)).1 (used_in b3 (by omega)).2)
          go_wp2_with (at_builtin; refine list_append_run (by rfl) (.tmp 81) (.tmp 83) 22 (by rfl) (by rfl) (by rfl) RUN.out ?_)
          refine CV.out.mono ?_
          rintro e w6 ⟨rfl, t6, l6⟩
          have I6 := hide (show ∃ st c la, c ≤ (k + 1).toNat ∧ RvI N B0 tb w st _ c la w6 from ⟨_, _, _, by have := CK.out; omega, I5.out.left t6 l6 ((II.out.ou.set o1 o2).set o1 o2)⟩)
          clear CV t6 l6
          go_wp2_with fail
          refine ⟨⟨k + 1, _, rfl, rfl, by omega, by omega, I6⟩, ?_⟩
          simp [intOf]; omega
        · have I6 := hide (show ∃ st c la, c ≤ (k + 1).toNat ∧ RvI N B0 tb w st _ c la Y4 from ⟨_, _, _, by have := CK.out; omega, I5.out⟩)
          go_wp2_with (at_builtin; refine list_append_run (by rfl) (.tmp 81) (.tmp 83) 22 (by rfl) (by rfl) (by rfl) RUN.out ?_)
          refine ⟨⟨k + 1, _, rfl, rfl, by omega, by omega, I6⟩, ?_⟩
          simp [intOf]; omega
    have hk' : (l0 : Int) ≤ k := by omega
    have TT := hide (show T9 N (fun _ => False) w wr tb st from II.out.t.more (Below.refl _ _) (fun x hx => hx.elim))
    have OU := hide II.out.ou
    clear hk II CK
    go_wp2_with fail
    clear hk' k0 k1
    go_loopw [13] (fun lv wr => ∃ la : Int, lv = .int .u64 la ∧ 0 ≤ la ∧ la ≤ 1099511627776 ∧ Hid (∃ st, T9 N (fun _ => False) w wr tb st ∧ OutR st ∧ ∀ q : Nat, la ≤ (q : Int) → st q ≠ 2)) (fun lv _ => (intOf lv).toNat)
    case atStart => exact ⟨1099511627776, rfl, by omega, by omega, hide ⟨st, TT.out, OU.out, fun q hq => by rw [OU.out q (by omega)]; decide⟩⟩
    case round =>
      clear TT OU
      obtain ⟨la, rfl, la0, la1, HI⟩ := hrel
      obtain ⟨st, hT, hO, hq⟩ := HI.out
      have TT := hide hT
      have OU := hide hO
      have HQ := hide hq
      clear HI hT hO hq
      have C1 := hide (t9_released TT.out)
      obtain ⟨rl, hrl⟩ : ∃ rl, rlT st = rl := ⟨_, rfl⟩
      rw [hrl] at C1
      have HRL := hide hrl
      have rlb : rl ≤ 34359738368 := by rw [← hrl]; exact (tl_le st 0 34359738368).2.2
      obtain ⟨RL, hRL⟩ : ∃ RL : Int, (rl : Int) = RL := ⟨_, rfl⟩
      rw [hRL] at C1
      have HRI := hide hRL
      have r0 : 0 ≤ RL := by omega
      have r1 : RL ≤ 34359738368 := by omega
      clear hrl rlb hRL
      go_wp2_with fail
      refine C1.out.mono ?_
      rintro e w3 ⟨rfl, t3, -⟩
      have CS := hide (t9_scav t3 OU.out each e1 e2)
      rw [HE.out] at CS
      clear C1 t3
      go_wp2_with fail
      refine CS.out.mono ?_
      rintro e w4 (⟨hno, rfl, t4⟩ | ⟨p, m, p1, p2, m1, m2, hid, hab, rfl, t4⟩)
      · have NO := hide hno
        have EQ := hide (fr_rl t4.four hno)
        have C5 := hide (t9_released t4)
        rw [HRL.out, HRI.out] at C5
        clear CS t4 hno
        go_wp2_with fail
        refine C5.out.mono ?_
        rintro e w5 ⟨rfl, t5, -⟩
        have C6 := hide (t9_free t5)
        rw [EQ.out, HRL.out, HRI.out] at C6
        clear C5 t5
        go_wp2_with fail
        refine C6.out.mono ?_
        rintro e w6 ⟨rfl, t6, -⟩
        clear C6
        rcases first_or (st := st) (n := n) with hno | ⟨p, hf⟩
        · have C7 := hide (t9_alloc_no t6 n hn n1 hno)
          rw [HM.out] at C7
          clear t6 hno
          go_wp2_with fail
          refine C7.out.mono ?_
          rintro e w7 ⟨rfl, t7, -⟩
          have TZ := hide t7
          clear C7 t7
          have CW := hide (awake_any TZ.out.tab)
          have B7 := hide TZ.out.be
          have L7 := hide TZ.out.tr.lt.2.2
          clear TZ
          go_wp2_with fail
          refine CW.out.mono ?_
          rintro e w14 ⟨rfl, b9⟩
          have F := hide (FIN.out _ (B7.out.trans (b9.mono L7.out)))
          clear CW b9
          go_wp2_with fail
          try go_ret
          exact F.out
        · have hth := run3 t6.four NO.out hf.1
          obtain ⟨o1, o2⟩ := OU.out.run n1 (fun q q1 q2 => by have := hf.1 q q1 q2; omega)
          have er : (tl st p n).r = n := by rw [tl_all hth]; rfl
          have C7 := hide (t9_alloc t6 n p hn n1 hf)
          rw [er, HM.out] at C7
          have HTH := hide hth
          clear t6 hf hth er
          go_wp2_with fail
          refine C7.out.mono ?_
          rintro e w7 ⟨rfl, t7, -⟩
          have C8 := hide (t9_back t7 p n (used_in n1 (by omega)).1 (used_in n1 (by omega)).2)
          rw [undone3 HTH.out, HM.out] at C8
          clear C7 t7
          go_wp2_with fail
          refine C8.out.mono ?_
          rintro e w8 ⟨rfl, t8, -⟩
          have C9 := hide (t9_released t8)
          rw [HRL.out, HRI.out] at C9
          clear C8 t8
          go_wp2_with fail
          refine C9.out.mono ?_
          rintro e w9 ⟨rfl, t9, -⟩
          have C10 := hide (t9_free t9)
          rw [EQ.out, HRL.out, HRI.out] at C10
          clear C9 t9
          go_wp2_with fail
          refine C10.out.mono ?_
          rintro e w10 ⟨rfl, t10, -⟩
          have TZ := hide t10
          clear C10 t10
          have CW := hide (awake_any TZ.out.tab)
          have B7 := hide TZ.out.be
          have L7 := hide TZ.out.tr.lt.2.2
          clear TZ
          go_wp2_with fail
          refine CW.out.mono ?_
          rintro e w14 ⟨rfl, b9⟩
          have F := hide (FIN.out _ (B7.out.trans (b9.mono L7.out)))
          clear CW b9
          go_wp2_with fail
          try go_ret
          exact F.out
      · have d1 : ((m : Int) == 0) = false := beq_eq_false_iff_ne.2 (by omega)
        have mE : (m : Int) ≤ E := by have := HE.out; omega
        have pla : (p : Int) + (m : Int) ≤ la := by
          rcases Int.lt_or_le ((p + m - 1 : Nat) : Int) la with y | y
          · omega
          · exact absurd (hid (p + m - 1) (by omega) (by omega)) (HQ.out _ y)
        have pI : (p : Int) + (m : Int) ≤ 5632 := by omega
        have pI0 : 4608 ≤ (p : Int) := by omega
        have mI : 1 ≤ (m : Int) := by omega
        have hrl2 : ((rlT (setSt st p (p + m) 3) : Nat) : Int) = RL + (m : Int) := by
          have h1 := (tot_set (st := st) (a := p) (n := m) (s := 3) (by omega)).2
          have e : (tl st p m).r = 0 := by rw [tl_all hid]; rfl
          rw [e, HRL.out, if_pos rfl, Nat.add_zero] at h1
          rw [h1]
          have := HRI.out
          omega
        have C5 := hide (t9_released t4)
        rw [hrl2] at C5
        have OU2 := hide (OU.out.set (s := 3) p1 p2)
        have HAB := hide (show ∀ q : Nat, (p : Int) ≤ (q : Int) → setSt st p (p + m) 3 q ≠ 2 from fun q hq => by
          unfold setSt
          by_cases z : p ≤ q ∧ q < p + m
          · rw [if_pos z]; decide
          · rw [if_neg z]; exact hab q (by omega))
        have ST3 := hide (show ∀ q, p ≤ q → q < p + m → setSt st p (p + m) 3 q = 3 from fun q q1 q2 => setSt_in ⟨q1, q2⟩)
        generalize hst' : setSt st p (p + m) 3 = st' at *
        clear hst' CS t4 hid hab hrl2
        go_wp2_with fail
        refine C5.out.mono ?_
        rintro e w5 ⟨rfl, t5, -⟩
        have T5 := hide t5
        clear C5 t5
        go_wp2_with fail
        go_loopw [17] (fun xv wr => ∃ y : Int, xv = .int .u64 y ∧ (p : Int) ≤ y ∧ y ≤ (p : Int) + (m : Int) ∧ Hid (T9 N (fun _ => False) w wr tb st')) (fun xv _ => ((p : Int) + (m : Int) - intOf xv).toNat)
        case atStart => exact ⟨(p : Int), rfl, by omega, by omega, T5⟩
        case round =>
          clear T5
          obtain ⟨y, rfl, s0, s1, T5⟩ := hrel
          by_cases hy : y < (p : Int) + (m : Int)
          · have C6 := hide (t9_state T5.out y.toNat (by omega))
            have e3 := ST3.out y.toNat (by omega) (by omega)
            have f1 : inU st' y.toNat = true := by unfold inU; rw [e3]; rfl
            have f2 : fre st' y.toNat = true := by unfold fre; rw [e3]; rfl
            have f3 : rel st' y.toNat = true := by unfold rel; rw [e3]; rfl
            rw [f1, f2, f3, Int.toNat_of_nonneg (by omega)] at C6
            clear e3 f1 f2 f3
            go_wp2_with fail
            refine C6.out.mono ?_
            rintro e w6 ⟨rfl, t6, -⟩
            have T6 := hide t6
            clear C6 t6
            go_wp2_with fail
            refine ⟨⟨y + 1, rfl, by omega, by omega, T6⟩, ?_⟩
            simp [intOf]; omega
          have hy' : (p : Int) + (m : Int) ≤ y := by omega
          clear hy
          go_wp2_with fail
          refine ⟨⟨(p : Int), rfl, by omega, by omega, hide ⟨st', T5.out, OU2.out, HAB.out⟩⟩, ?_⟩
          simp [intOf]; omega
theorem releases_int (w : World) (ht : TabW w) (o0 : Option Addr) (l0 c0 : Nat) (hA0 : l0 ≤ maxLen ∧ l0 ≤ c0 ∧ ∃ X, U64At w o0 l0 c0 X) (a1 : Int) (w1 : (Lit.int .u64 a1).wf = true) (a2 : Int) (w2 : (Lit.int .u64 a2).wf = true) :
    Calls Tryd.prog 3 #[.slice o0 l0 c0, .int .u64 a1, .int .u64 a2] w fun e w' => e = .returned (.bool true) ∧ Below w.heap.size w w' := by
  have b1 := bounds_u64 w1
  have b2 := bounds_u64 w2
  have h := releases_any w ht o0 l0 c0 hA0 a1.toNat a2.toNat (by omega) (by omega)
  rw [Int.toNat_of_nonneg b1.1, Int.toNat_of_nonneg b2.1] at h
  exact h
end Go.Proofs.YtnpimmjkmclkpabDoor
