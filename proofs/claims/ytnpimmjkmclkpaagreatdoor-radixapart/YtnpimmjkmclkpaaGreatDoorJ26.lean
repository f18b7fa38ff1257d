/- J26 of the proof of both laws: texts Zk, Zn, Zg, one behind the other. -/
import Derived.Test.YtnpimmjkmclkpaaGreatDoorJ25
import Derived.Test.YtnpimmjkmclkpaaGreatDoorJ23
/- The reference's tree: Alloc: its contract. -/
namespace Go.Proofs.YtnpimmjkmclkpaaGreatDoor
open Go.ChangeShapes Go.WideShapes Go.ChangeAt Go.RowKit Go.Proofs.Bt Go.Shelf Go.Proofs.Rx Go.Maps Go.Proofs.Pk
set_option linter.unusedVariables false
set_option linter.unusedSimpArgs false

section
variable {F : Nat → Prop} {W : World} {rb : Nat} {st : Nat → Nat} {Q : List (Nat × Nat)} {o : Option Addr} {c : Nat}
theorem r9_Find (h : RefAt F W rb st Q o c) (hl : Q.length ≤ 1000000) (n p : Nat) (hn : n < 18446744073709551616) (h1 : 1 ≤ n) (hf : First st n p) :
    Calls Tryz.prog 20 #[.pointer (some ⟨rb, 0, none⟩), .int .u64 (n : Nat)] W (RfL F W rb st Q o c (.tuple #[.int .u64 (p : Nat), .bool true])) := by
  have := findR_any h hl (n : Nat) (by omega) (by omega)
  rw [Int.toNat_natCast] at this
  refine this.mono ?_
  rintro e w' ⟨(⟨q, hq, _, he⟩ | ⟨hno, he⟩), hk⟩
  · rw [First_one hq hf] at he
    exact ⟨he, h.same hk⟩
  · exact absurd hf.1 (hno.resolve_left (by omega) p)
theorem r9_Find_no (h : RefAt F W rb st Q o c) (hl : Q.length ≤ 1000000) (n : Nat) (hn : n < 18446744073709551616) (hf : n = 0 ∨ ∀ p, ¬ Run st p n) :
    Calls Tryz.prog 20 #[.pointer (some ⟨rb, 0, none⟩), .int .u64 (n : Nat)] W (RfL F W rb st Q o c (.tuple #[.int .u64 0, .bool false])) := by
  have := findR_any h hl (n : Nat) (by omega) (by omega)
  rw [Int.toNat_natCast] at this
  refine this.mono ?_
  rintro e w' ⟨(⟨q, hq, h1, he⟩ | ⟨hno, he⟩), hk⟩
  · exact absurd hq.1 (hf.resolve_left (by omega) q)
  · exact ⟨he, h.same hk⟩
set_option maxRecDepth 100000 in
theorem r9_alloc_zero (h : RefAt F W rb st Q o c) :
    Calls Tryz.prog 13 #[.pointer (some ⟨rb, 0, none⟩), .int .u64 0] W (RfL F W rb st Q o c (.tuple #[.int .u64 0, .int .u64 0, .int .i64 1])) := by
  obtain ⟨R, hR⟩ : ∃ R, R = RfL F W rb st Q o c (.tuple #[.int .u64 0, .int .u64 0, .int .i64 1]) := ⟨_, rfl⟩
  rw [← hR]
  have FI := hide (show R (.returned (.tuple #[.int .u64 0, .int .u64 0, .int .i64 1])) W from by rw [hR]; exact ⟨rfl, h, Kept.refl _ _⟩)
  clear hR h
  go_enter Tryz.func13, Tryz.ntmps13
  go_wp2_with fail
  first | exact FI.out | (refine bodyPost_ret (results_tmp3 Tryz.results13 _ _ _) rfl ?_; exact FI.out)
set_option maxRecDepth 100000 in
theorem r9_alloc_no (h : RefAt F W rb st Q o c) (hl : Q.length ≤ 1000000) (n : Nat) (hn : n < 18446744073709551616) (h1 : 1 ≤ n) (hf : ∀ p, ¬ Run st p n) :
    Calls Tryz.prog 13 #[.pointer (some ⟨rb, 0, none⟩), .int .u64 (n : Nat)] W (RfL F W rb st Q o c (.tuple #[.int .u64 0, .int .u64 0, .int .i64 30])) := by
  obtain ⟨R, hR⟩ : ∃ R, R = RfL F W rb st Q o c (.tuple #[.int .u64 0, .int .u64 0, .int .i64 30]) := ⟨_, rfl⟩
  rw [← hR]
  have HR := hide hR
  have CF := hide (r9_Find_no h hl n hn (.inr hf))
  have d0 : ((n : Int) == 0) = false := beq_eq_false_iff_ne.2 (by omega)
  clear hR h hf h1
  go_enter Tryz.func13, Tryz.ntmps13
  go_wp2_with fail
  refine CF.out.mono ?_
  rintro e w1 ⟨rfl, h1, k1⟩
  have FI := hide (show R (.returned (.tuple #[.int .u64 0, .int .u64 0, .int .i64 30])) w1 from by rw [HR.out]; exact ⟨rfl, h1, k1⟩)
  clear CF h1 k1 HR
  go_wp2_with fail
  first | exact FI.out | (refine bodyPost_ret (results_tmp3 Tryz.results13 _ _ _) rfl ?_; exact FI.out)
set_option maxRecDepth 100000 in
theorem r9_alloc (h : RefAt F W rb st Q o c) (hl : Q.length ≤ 1000000) (n p : Nat) (hn : n < 18446744073709551616) (h1 : 1 ≤ n) (hf : First st n p) :
    Calls Tryz.prog 13 #[.pointer (some ⟨rb, 0, none⟩), .int .u64 (n : Nat)] W (RfL F W rb (setSt st p (p + n) 1) Q o c (.tuple #[.int .u64 (p : Nat), .int .u64 ((tl st p n).r : Nat), .int .i64 0])) := by
  obtain ⟨R, hR⟩ : ∃ R, R = RfL F W rb (setSt st p (p + n) 1) Q o c (.tuple #[.int .u64 (p : Nat), .int .u64 ((tl st p n).r : Nat), .int .i64 0]) := ⟨_, rfl⟩
  rw [← hR]
  have HR := hide hR
  have CF := hide (r9_Find h hl n p hn h1 hf)
  obtain ⟨q1, q2, q3⟩ := run_tl hf.1 h1 (fun q hq => h.mt.big hq)
  have CT := hide (fun X (hX : RefAt F X rb st Q o c) => r9_take hX hl p n ⟨h1, q1, q2⟩ q3)
  have d0 : ((n : Int) == 0) = false := beq_eq_false_iff_ne.2 (by omega)
  obtain ⟨g, hg⟩ : ∃ g, (tl st p n).r = g := ⟨_, rfl⟩
  rw [hg] at CT HR
  clear hR h hf h1 q1 q2 q3 hg
  go_enter Tryz.func13, Tryz.ntmps13
  go_wp2_with fail
  refine CF.out.mono ?_
  rintro e w1 ⟨rfl, h1, k1⟩
  have C2 := hide (CT.out w1 h1)
  have K1 := hide k1
  clear CF h1 k1 CT
  go_wp2_with fail
  refine C2.out.mono ?_
  rintro e w2 ⟨rfl, h2, k2⟩
  have FI := hide (show R (.returned (.tuple #[.int .u64 (p : Nat), .int .u64 (g : Nat), .int .i64 0])) w2 from by rw [HR.out]; exact ⟨rfl, h2, K1.out.trans k2 (fun _ _ z => z)⟩)
  clear C2 h2 k2 HR K1
  go_wp2_with fail
  first | exact FI.out | (refine bodyPost_ret (results_tmp3 Tryz.results13 _ _ _) rfl ?_; exact FI.out)
end
end Go.Proofs.YtnpimmjkmclkpaaGreatDoor

/- The reference's tree: First: its contract. -/
namespace Go.Proofs.YtnpimmjkmclkpaaGreatDoor
open Go.ChangeShapes Go.WideShapes Go.ChangeAt Go.RowKit Go.Proofs.Bt Go.Shelf Go.Proofs.Rx Go.Maps Go.Proofs.Pk
set_option linter.unusedVariables false
set_option linter.unusedSimpArgs false

section
variable {F : Nat → Prop} {W : World} {rb : Nat} {st : Nat → Nat} {Q : List (Nat × Nat)} {o : Option Addr} {c : Nat}
theorem r9_First (h : RefAt F W rb st Q o c) (hl : Q.length ≤ 1000000) :
    Calls Tryz.prog 31 #[.pointer (some ⟨rb, 0, none⟩)] W (FindRf st 1 W) := by
  have CF := hide (findR_any h hl 1 (by omega) (by omega))
  rw [show (1 : Int).toNat = 1 from rfl] at CF
  obtain ⟨R, hR⟩ : ∃ R, R = FindRf st 1 W := ⟨_, rfl⟩
  rw [← hR]
  have HR := hide hR
  clear hR h
  go_enter Tryz.func31, Tryz.ntmps31
  go_wp2_with fail
  refine CF.out.mono ?_
  rintro e w' ⟨(⟨p, hp, h1, rfl⟩ | ⟨hno, rfl⟩), k, hk⟩
  · have FI := hide (show R (.returned (.tuple #[.int .u64 (p : Nat), .bool true])) w' from by rw [HR.out]; exact ⟨.inl ⟨p, hp, h1, rfl⟩, k, hk⟩)
    clear CF hp h1 hk HR
    go_wp2_with fail
    exact FI.out
  · have FI := hide (show R (.returned (.tuple #[.int .u64 0, .bool false])) w' from by rw [HR.out]; exact ⟨.inr ⟨hno, rfl⟩, k, hk⟩)
    clear CF hno hk HR
    go_wp2_with fail
    exact FI.out
end
end Go.Proofs.YtnpimmjkmclkpaaGreatDoor

/- The reference's tree: Scavenge: its contract. -/
namespace Go.Proofs.YtnpimmjkmclkpaaGreatDoor
open Go.ChangeShapes Go.WideShapes Go.ChangeAt Go.RowKit Go.Proofs.Bt Go.Shelf Go.Proofs.Rx Go.Maps Go.Proofs.Pk
set_option linter.unusedVariables false
set_option linter.unusedSimpArgs false

section
variable {F : Nat → Prop} {W W' : World} {rb : Nat} {st : Nat → Nat} {Q : List (Nat × Nat)} {o : Option Addr} {c : Nat}
theorem RefAt.scav (h : RefAt F W rb st Q o c) {i : Nat} (hi : i < Q.length) {M x k : Int} (hp : LastP (busy (pt st Q[i]).u (pt st Q[i]).g) M 512 x k) (r : RcF W' Q[i].2 (pt st Q[i]).u (setF (pt st Q[i]).g x.toNat k.toNat)) (kp : Kept (fun b => b = Q[i].2) W W') :
    RefAt F W' rb (setSt st (512 * Q[i].1 + x.toNat) (512 * Q[i].1 + x.toNat + k.toNat) 3) Q o c := by
  have kb : ∀ y, y < W.heap.size → y ≠ Q[i].2 → W'.heap[y]? = W.heap[y]? := fun y hy hne => kp.block y hy hne
  obtain ⟨b0, b1, b2⟩ := last_bounds hp
  have clr : ∀ q, x.toNat ≤ q → q < x.toNat + k.toNat → (pt st Q[i]).u q = false := fun q q1 q2 => by
    rcases hp with ⟨rfl, rfl, _⟩ | ⟨_, a, m, rfl, rfl, _, _, _, h5, _, _⟩
    · omega
    · have := Clr.at h5 (k := q) (by simpa using q1) (by simpa using q2)
      unfold busy at this
      cases hu : (pt st Q[i]).u q
      · rfl
      · rw [hu] at this; cases this
  have m3 : Mt (setSt st (512 * Q[i].1 + x.toNat) (512 * Q[i].1 + x.toNat + k.toNat) 3) Q := h.mt.set (by omega) (fun q q1 q2 => by
    have := h.mt.inn _ (List.getElem_mem hi) (q - 512 * Q[i].1) (by omega)
    rwa [show 512 * Q[i].1 + (q - 512 * Q[i].1) = q by omega] at this)
  refine h.turn (kb rb (h.lt (.inl rfl)) (fun e => h.ne_rb hi e.symm)) (fun y hy => kb y (h.lt (.inr (.inl hy))) (fun e => h.ne_list hi (by rw [hy, e]))) (fun j hj => ?_) m3
  by_cases e : j = i
  · subst e
    refine ⟨r.used.congr fun q hq => ?_, r.gone.congr fun q hq => ?_⟩
    · show decide (st (512 * Q[j].1 + q) = 1) = decide (setSt st _ _ 3 (512 * Q[j].1 + q) = 1)
      by_cases z : x.toNat ≤ q ∧ q < x.toNat + k.toNat
      · rw [setSt_in (by omega)]
        exact clr q z.1 z.2
      · rw [setSt_out (by omega)]
    · show setF (fun q => decide (st (512 * Q[j].1 + q) = 3)) x.toNat k.toNat q = decide (setSt st _ _ 3 (512 * Q[j].1 + q) = 3)
      unfold setF
      by_cases z : x.toNat ≤ q ∧ q < x.toNat + k.toNat
      · rw [setSt_in (by omega), decide_eq_true z, Bool.or_true]; rfl
      · rw [setSt_out (by omega), decide_eq_false z, Bool.or_false]
  · have h1 := h.blk hj
    have e1 := kb Q[j].2 h1.lt (fun z => e (h.mt.injb hj hi z))
    have nq : Q[j].1 ≠ Q[i].1 := fun z => e (h.mt.inj hj hi z)
    refine ⟨(h1.used.block e1).congr fun q hq => ?_, (h1.gone.block e1).congr fun q hq => ?_⟩
    · unfold pt; dsimp only; rw [setSt_out (by omega)]
    · unfold pt; dsimp only; rw [setSt_out (by omega)]
/-- What Scavenge answers and leaves. -/
def ScavRf (F : Nat → Prop) (W : World) (rb : Nat) (st : Nat → Nat) (Q : List (Nat × Nat)) (o : Option Addr) (c : Nat) (most : Nat) (e : Ending) (W' : World) : Prop :=
  (((most = 0 ∨ ∀ q, st q ≠ 2) ∧ e = .returned (.tuple #[.int .u64 0, .int .u64 0]) ∧ RefAt F W' rb st Q o c) ∨
  (1 ≤ most ∧ ∃ (N a m : Nat), (∀ q, 512 * (N + 1) ≤ q → st q ≠ 2) ∧ 1 ≤ m ∧ a + m ≤ 512 ∧ st (512 * N + a) = 2 ∧ LastP (busy (fun k => decide (st (512 * N + k) = 1)) (fun k => decide (st (512 * N + k) = 3))) (min most 512 : Nat) 512 (a : Nat) (m : Nat) ∧ e = .returned (.tuple #[.int .u64 ((512 * N + a : Nat) : Int), .int .u64 (m : Nat)]) ∧ RefAt F W' rb (setSt st (512 * N + a) (512 * N + a + m) 3) Q o c)) ∧ Kept F W W'
/-- A chunk without an idle page. -/
theorem Mt.down (h : Mt st Q) {i : Nat} (hi : i < Q.length) {M : Int} (hM : 1 ≤ M) (hp : LastP (busy (pt st Q[i]).u (pt st Q[i]).g) M 512 0 0) (hz : ∀ q, qof Q (i + 1) ≤ q → st q ≠ 2) : ∀ q, qof Q i ≤ q → st q ≠ 2 := fun q hq => by
  rcases Nat.lt_or_ge q (qof Q (i + 1)) with z | z
  · obtain ⟨g1, g2⟩ := h.gap hi
    rw [qof_succ hi] at z
    rcases Nat.lt_or_ge q (512 * Q[i].1) with y | y
    · rw [g2 q hq y]; decide
    · rcases hp with ⟨_, _, h1⟩ | ⟨_, a, m, e1, e2, h2, _⟩
      · have := (h1.resolve_left (by omega)) (q - 512 * Q[i].1) (by simp; omega)
        unfold busy pt at this
        dsimp only at this
        rw [show 512 * Q[i].1 + (q - 512 * Q[i].1) = q by omega] at this
        intro e
        rw [e] at this
        cases this
      · omega
  · exact hz q z
theorem Mt.hit (h : Mt st Q) {i : Nat} (hi : i < Q.length) {M x k : Int} (hk : 0 < k) (hp : LastP (busy (pt st Q[i]).u (pt st Q[i]).g) M 512 x k) : st (512 * Q[i].1 + x.toNat) = 2 := by
  rcases hp with ⟨e1, _, _⟩ | ⟨_, a, m, rfl, rfl, h2, _, h4, h5, _, _⟩
  · omega
  · have := Clr.at h5 (k := a) (Nat.le_refl _) (by omega)
    unfold busy pt at this
    dsimp only at this
    have h1 := h.inn _ (List.getElem_mem hi) a (by omega)
    have h4 := h.four (512 * Q[i].1 + a)
    rw [Int.toNat_natCast]
    simp only [Bool.or_eq_false_iff, decide_eq_false_iff_not] at this
    omega
set_option maxRecDepth 100000 in
set_option maxHeartbeats 1000000 in
theorem r9_scav (h : RefAt F W rb st Q o c) (hl : Q.length ≤ 1000000) (most : Nat) (hm : most < 18446744073709551616) :
    Calls Tryz.prog 22 #[.pointer (some ⟨rb, 0, none⟩), .int .u64 (most : Nat)] W (ScavRf F W rb st Q o c most) := by
  obtain ⟨R, hR⟩ : ∃ R, R = ScavRf F W rb st Q o c most := ⟨_, rfl⟩
  rw [← hR]
  have HR := hide hR
  have HH := hide h
  obtain ⟨L, hL⟩ : ∃ L : Nat, Q.length = L := ⟨_, rfl⟩
  have HL := hide hL
  have l1 : (L : Int) ≤ 1000000 := by omega
  have l0 : 0 ≤ (L : Int) := by omega
  have c0 := h.cell0
  rw [hL] at c0
  obtain ⟨X, hX⟩ : ∃ X : Int, (most : Int) = X := ⟨_, rfl⟩
  rw [hX]
  obtain ⟨M, hM⟩ : ∃ M : Int, M = min X 512 := ⟨_, rfl⟩
  have m0 : 0 ≤ M := by omega
  have m1 : M ≤ 512 := by omega
  have x0 : 0 ≤ X := by omega
  have x1 : X < 18446744073709551616 := by omega
  have HM := hide (And.intro hX hM)
  have NO := hide (show ∀ W', RefAt F W' rb st Q o c → Kept F W W' → (X = 0 ∨ ∀ q, st q ≠ 2) → R (.returned (.tuple #[.int .u64 0, .int .u64 0])) W' from fun W' h1 h2 h3 => by
    rw [HR.out]
    exact ⟨.inl ⟨h3.imp (fun z => by have := HM.out.1; omega) id, rfl, h1⟩, h2⟩)
  have I0 := hide (show RefAt F W rb st Q o c ∧ Kept F W W ∧ (X = 0 ∨ ∀ q, qof Q ((L : Int) - 1 + 1).toNat ≤ q → st q ≠ 2) from ⟨h, Kept.refl _ _, .inr fun q hq => by
    rw [h.mt.past (x := q) (by rw [show Q.length = ((L : Int) - 1 + 1).toNat by have := HL.out; omega]; exact hq)]
    decide⟩)
  clear hR h hL hX
  by_cases big : 512 < X
  · obtain rfl : M = 512 := by omega
    clear hM
    go_enter Tryz.func22, Tryz.ntmps22
    go_wp2_with fail
    go_loopw [6] (fun iv wr => ∃ i : Int, iv = .int .i64 i ∧ -1 ≤ i ∧ i < L ∧ Hid (RefAt F wr rb st Q o c ∧ Kept F W wr ∧ (X = 0 ∨ ∀ q, qof Q (i + 1).toNat ≤ q → st q ≠ 2))) (fun iv _ => (intOf iv + 1).toNat)
    case atStart => exact ⟨(L : Int) - 1, rfl, by omega, by omega, I0⟩
    case round =>
      clear I0 c0
      obtain ⟨i, rfl, i0, i1, HI⟩ := hrel
      by_cases hi : 0 ≤ i
      · obtain ⟨iN, hiN⟩ : ∃ iN : Nat, i.toNat = iN := ⟨_, rfl⟩
        have hq : iN < Q.length := by have := HL.out; omega
        have c0 := HI.out.1.cell0
        rw [HL.out] at c0
        obtain ⟨b, rfl, d0, d1⟩ := HI.out.1.at hq
        rw [show iN * 2 = i.toNat * 2 by omega] at d0
        rw [show iN * 2 + 1 = i.toNat * 2 + 1 by omega] at d1
        have bl := HI.out.1.blk hq
        have CS := hide (scavR_any _ _ _ wr bl 512 (by omega))
        have ng := HI.out.1.mt.below _ (List.getElem_mem hq)
        have NX := hide (show ∀ (x y : Int) (w1 : World), LastP (busy (pt st Q[iN]).u (pt st Q[iN]).g) 512 512 x y → RcF w1 Q[iN].2 (pt st Q[iN]).u (setF (pt st Q[iN]).g x.toNat y.toNat) → Kept (fun b => b = Q[iN].2) wr w1 → 0 ≤ x ∧ 0 ≤ y ∧ x + y ≤ 512 ∧ (y = 0 → RefAt F w1 rb st Q (some ⟨b, 0, none⟩) c ∧ Kept F W w1 ∧ (X = 0 ∨ ∀ q, qof Q (i - 1 + 1).toNat ≤ q → st q ≠ 2)) ∧ (0 < y → R (.returned (.tuple #[.int .u64 ((Q[iN].1 : Nat) * 512 + x), .int .u64 y])) w1) from fun x y w1 p1 p2 p3 => by
          obtain ⟨b0, b1, b2⟩ := last_bounds p1
          have rn := HI.out.1.scav hq p1 p2 p3
          have kn : Kept F W w1 := HI.out.2.1.trans p3 (fun z _ e => by rw [e]; exact HI.out.1.ft _ (.inr (.inr ⟨_, List.getElem_mem hq, rfl⟩)))
          refine ⟨b0, b1, b2, fun e => ?_, fun e => ?_⟩
          · have ex : x = 0 := by
              rcases p1 with ⟨_, e1, _⟩ | ⟨_, a, m, _, e2, h2, _⟩
              · exact e1
              · omega
            rw [e, ex] at rn p1
            simp only [Int.toNat_zero, Nat.add_zero, setSt_none] at rn
            refine ⟨rn, kn, ?_⟩
            rcases HI.out.2.2 with z | z
            · exact .inl z
            · by_cases z0 : X = 0
              · exact .inl z0
              · refine .inr ?_
                rw [show (i - 1 + 1).toNat = iN by omega]
                exact HI.out.1.mt.down hq (M := 512) (by omega) p1 (by rw [show iN + 1 = (i + 1).toNat by omega]; exact z)
          · rw [HR.out]
            have zz := HI.out.2.2
            have m1 : (1 : Int) ≤ 512 ∧ y ≤ 512 := by
              rcases p1 with ⟨e1, _, _⟩ | ⟨m1, a, m, _, e2, _, m3, _⟩
              · omega
              · exact ⟨m1, by omega⟩
            have hh := HI.out.1.mt.hit hq e p1
            have MX := HM.out
            refine ⟨.inr ⟨by omega, Q[iN].1, x.toNat, y.toNat, fun q hq' => ?_, by omega, by omega, hh, ?_, ?_, ?_⟩, kn⟩
            · rcases zz with z | z
              · omega
              · exact z q (by rw [show (i + 1).toNat = iN + 1 by omega, qof_succ hq]; exact hq')
            · rw [show ((min most 512 : Nat) : Int) = 512 by omega, show ((x.toNat : Nat) : Int) = x by omega, show ((y.toNat : Nat) : Int) = y by omega]
              exact p1
            · rw [show ((512 * Q[iN].1 + x.toNat : Nat) : Int) = (Q[iN].1 : Nat) * 512 + x by omega, show ((y.toNat : Nat) : Int) = y by omega]
            · exact rn)
        have CEL := hide (show ∀ w1, Kept (fun b => b = Q[iN].2) wr w1 → w1.cell? ⟨rb, 0, none⟩ = some (.slice (some ⟨b, 0, none⟩) L c) ∧ w1.cell? ⟨b, i.toNat * 2, none⟩ = some (.int .u64 (Q[iN].1 : Nat)) from fun w1 k1 => ⟨(cell_block (k1.block rb (HI.out.1.lt (.inl rfl)) (fun e => HI.out.1.ne_rb hq e.symm)) 0).trans c0, (cell_block (k1.block b (HI.out.1.lt (.inr (.inl rfl))) (fun e => HI.out.1.ne_list hq (by rw [← e]; rfl))) _).trans d0⟩)
        obtain ⟨NI, hNI⟩ : ∃ NI : Int, ((Q[iN].1 : Nat) : Int) = NI := ⟨_, rfl⟩
        have ni0 : 0 ≤ NI := by omega
        have ni1 : NI < 67108864 := by omega
        generalize hblk : Q[iN].2 = blk at CS d1 NX CEL
        rw [hNI] at NX CEL
        clear d0 bl ng hNI hblk HI hiN
        go_wp2_with fail
        refine CS.out.mono ?_
        rintro e w1 ⟨x, y, rfl, p1, p2, p3⟩
        obtain ⟨x0', y0', xy, FZ, FY⟩ := NX.out x y w1 p1 p2 p3
        obtain ⟨c0, d0⟩ := CEL.out w1 p3
        have HFZ := hide FZ
        have HFY := hide FY
        clear CS NX CEL p1 p2 p3 FZ FY d1
        by_cases hy : 0 < y
        · have F0 := hide (HFY.out hy)
          clear HFZ HFY
          go_wp2_with fail
          first | exact F0.out | (go_wp2_with fail; exact F0.out)
        · have e0 : y = 0 := by omega
          subst e0
          have N2 := hide (HFZ.out rfl)
          clear HFZ HFY hy
          go_wp2_with fail
          go_roundw
          case rel => exact ⟨i - 1, by go_num, by omega, by omega, N2⟩
          case measure => simp [intOf]; omega
      · have e1 : i = -1 := by omega
        have F0 := hide (NO.out wr HI.out.1 HI.out.2.1 (HI.out.2.2.imp id (fun z q => z q (by rw [e1]; exact Nat.zero_le _))))
        have hd : decide (0 ≤ i) = false := decide_eq_false hi
        clear HI NO HR hi
        subst e1
        go_wp2_with fail
        first | exact F0.out | (go_ret2; exact F0.out)
  · obtain rfl : M = X := by omega
    clear hM
    go_enter Tryz.func22, Tryz.ntmps22
    go_wp2_with fail
    go_loopw [6] (fun iv wr => ∃ i : Int, iv = .int .i64 i ∧ -1 ≤ i ∧ i < L ∧ Hid (RefAt F wr rb st Q o c ∧ Kept F W wr ∧ (M = 0 ∨ ∀ q, qof Q (i + 1).toNat ≤ q → st q ≠ 2))) (fun iv _ => (intOf iv + 1).toNat)
    case atStart => exact ⟨(L : Int) - 1, rfl, by omega, by omega, I0⟩
    case round =>
      clear I0 c0
      obtain ⟨i, rfl, i0, i1, HI⟩ := hrel
      by_cases hi : 0 ≤ i
      · obtain ⟨iN, hiN⟩ : ∃ iN : Nat, i.toNat = iN := ⟨_, rfl⟩
        have hq : iN < Q.length := by have := HL.out; omega
        have c0 := HI.out.1.cell0
        rw [HL.out] at c0
        obtain ⟨b, rfl, d0, d1⟩ := HI.out.1.at hq
        rw [show iN * 2 = i.toNat * 2 by omega] at d0
        rw [show iN * 2 + 1 = i.toNat * 2 + 1 by omega] at d1
        have bl := HI.out.1.blk hq
        have CS := hide (scavR_any _ _ _ wr bl M (by omega))
        have ng := HI.out.1.mt.below _ (List.getElem_mem hq)
        have NX := hide (show ∀ (x y : Int) (w1 : World), LastP (busy (pt st Q[iN]).u (pt st Q[iN]).g) M 512 x y → RcF w1 Q[iN].2 (pt st Q[iN]).u (setF (pt st Q[iN]).g x.toNat y.toNat) → Kept (fun b => b = Q[iN].2) wr w1 → 0 ≤ x ∧ 0 ≤ y ∧ x + y ≤ 512 ∧ (y = 0 → RefAt F w1 rb st Q (some ⟨b, 0, none⟩) c ∧ Kept F W w1 ∧ (M = 0 ∨ ∀ q, qof Q (i - 1 + 1).toNat ≤ q → st q ≠ 2)) ∧ (0 < y → R (.returned (.tuple #[.int .u64 ((Q[iN].1 : Nat) * 512 + x), .int .u64 y])) w1) from fun x y w1 p1 p2 p3 => by
          obtain ⟨b0, b1, b2⟩ := last_bounds p1
          have rn := HI.out.1.scav hq p1 p2 p3
          have kn : Kept F W w1 := HI.out.2.1.trans p3 (fun z _ e => by rw [e]; exact HI.out.1.ft _ (.inr (.inr ⟨_, List.getElem_mem hq, rfl⟩)))
          refine ⟨b0, b1, b2, fun e => ?_, fun e => ?_⟩
          · have ex : x = 0 := by
              rcases p1 with ⟨_, e1, _⟩ | ⟨_, a, m, _, e2, h2, _⟩
              · exact e1
              · omega
            rw [e, ex] at rn p1
            simp only [Int.toNat_zero, Nat.add_zero, setSt_none] at rn
            refine ⟨rn, kn, ?_⟩
            rcases HI.out.2.2 with z | z
            · exact .inl z
            · by_cases z0 : M = 0
              · exact .inl z0
              · refine .inr ?_
                rw [show (i - 1 + 1).toNat = iN by omega]
                exact HI.out.1.mt.down hq (M := M) (by omega) p1 (by rw [show iN + 1 = (i + 1).toNat by omega]; exact z)
          · rw [HR.out]
            have zz := HI.out.2.2
            have m1 : (1 : Int) ≤ M ∧ y ≤ M := by
              rcases p1 with ⟨e1, _, _⟩ | ⟨m1, a, m, _, e2, _, m3, _⟩
              · omega
              · exact ⟨m1, by omega⟩
            have hh := HI.out.1.mt.hit hq e p1
            have MX := HM.out
            refine ⟨.inr ⟨by omega, Q[iN].1, x.toNat, y.toNat, fun q hq' => ?_, by omega, by omega, hh, ?_, ?_, ?_⟩, kn⟩
            · rcases zz with z | z
              · omega
              · exact z q (by rw [show (i + 1).toNat = iN + 1 by omega, qof_succ hq]; exact hq')
            · rw [show ((min most 512 : Nat) : Int) = M by omega, show ((x.toNat : Nat) : Int) = x by omega, show ((y.toNat : Nat) : Int) = y by omega]
              exact p1
            · rw [show ((512 * Q[iN].1 + x.toNat : Nat) : Int) = (Q[iN].1 : Nat) * 512 + x by omega, show ((y.toNat : Nat) : Int) = y by omega]
            · exact rn)
        have CEL := hide (show ∀ w1, Kept (fun b => b = Q[iN].2) wr w1 → w1.cell? ⟨rb, 0, none⟩ = some (.slice (some ⟨b, 0, none⟩) L c) ∧ w1.cell? ⟨b, i.toNat * 2, none⟩ = some (.int .u64 (Q[iN].1 : Nat)) from fun w1 k1 => ⟨(cell_block (k1.block rb (HI.out.1.lt (.inl rfl)) (fun e => HI.out.1.ne_rb hq e.symm)) 0).trans c0, (cell_block (k1.block b (HI.out.1.lt (.inr (.inl rfl))) (fun e => HI.out.1.ne_list hq (by rw [← e]; rfl))) _).trans d0⟩)
        obtain ⟨NI, hNI⟩ : ∃ NI : Int, ((Q[iN].1 : Nat) : Int) = NI := ⟨_, rfl⟩
        have ni0 : 0 ≤ NI := by omega
        have ni1 : NI < 67108864 := by omega
        generalize hblk : Q[iN].2 = blk at CS d1 NX CEL
        rw [hNI] at NX CEL
        clear d0 bl ng hNI hblk HI hiN
        go_wp2_with fail
        refine CS.out.mono ?_
        rintro e w1 ⟨x, y, rfl, p1, p2, p3⟩
        obtain ⟨x0', y0', xy, FZ, FY⟩ := NX.out x y w1 p1 p2 p3
        obtain ⟨c0, d0⟩ := CEL.out w1 p3
        have HFZ := hide FZ
        have HFY := hide FY
        clear CS NX CEL p1 p2 p3 FZ FY d1
        by_cases hy : 0 < y
        · have F0 := hide (HFY.out hy)
          clear HFZ HFY
          go_wp2_with fail
          first | exact F0.out | (go_wp2_with fail; exact F0.out)
        · have e0 : y = 0 := by omega
          subst e0
          have N2 := hide (HFZ.out rfl)
          clear HFZ HFY hy
          go_wp2_with fail
          go_roundw
          case rel => exact ⟨i - 1, by go_num, by omega, by omega, N2⟩
          case measure => simp [intOf]; omega
      · have e1 : i = -1 := by omega
        have F0 := hide (NO.out wr HI.out.1 HI.out.2.1 (HI.out.2.2.imp id (fun z q => z q (by rw [e1]; exact Nat.zero_le _))))
        have hd : decide (0 ≤ i) = false := decide_eq_false hi
        clear HI NO HR hi
        subst e1
        go_wp2_with fail
        first | exact F0.out | (go_ret2; exact F0.out)
end
end Go.Proofs.YtnpimmjkmclkpaaGreatDoor
