/- Package slices: pdqsortOrdered, Sort: contracts. -/
import Derived.Test.YtdcjldpbgickmaaSq
import Derived.Test.YtdcjldpbgickmaaSs
import Derived.Test.YtdcjldpbgickmaaSt
import Derived.Test.YtdcjldpbgickmaaSv
import Derived.Deep.DeepCutAuto
import Derived.Deep.CutBlock
namespace Go.Proofs.Ytdcjldpbgickmaa
open Go.ChangeShapes Go.WideShapes Go.ChangeAt Go.RowKit Go.Shelf Go.Proofs.Rx Go.Maps
open Go.Sort (swp ltInt size_swp swp_left swp_right swp_other PermIn SortedIn)
set_option linter.unusedVariables false
set_option linter.unusedSimpArgs false

/-! ### Plain: rows that are sorted part by part -/
theorem belowP {a b : Nat} {d d' : Array Int} (hb : b ≤ d.size) (h : Go.Sort.Below ltInt a b d) (hP : PermIn a b d d') : Go.Sort.Below ltInt a b d' := Go.Sort.Below.permA Go.Sort.permIn_all hb h hP
theorem ltT {x y : Int} : ltInt x y = true ↔ x < y := by unfold ltInt; exact decide_eq_true_iff
theorem ltF {x y : Int} : ltInt x y = false ↔ y ≤ x := by unfold ltInt; rw [decide_eq_false_iff_not]; omega
theorem three {a b m : Nat} {d : Array Int} {P : Int} (h1 : ∀ i, a ≤ i → i < m → d[i]! ≤ P) (h2 : d[m]! = P) (h3 : ∀ i, m < i → i < b → P ≤ d[i]!) (s1 : SortedIn ltInt a m d) (s2 : SortedIn ltInt (m + 1) b d) : SortedIn ltInt a b d := by
  intro i j hi hij hj
  rw [ltF]
  by_cases c1 : j < m
  · exact ltF.1 (s1 i j hi hij c1)
  · by_cases c2 : m < i
    · exact ltF.1 (s2 i j (by omega) hij hj)
    · have l1 : d[i]! ≤ P := by
        by_cases z : i = m
        · rw [z, h2]; omega
        · exact h1 i hi (by omega)
      have l2 : P ≤ d[j]! := by
        by_cases z : j = m
        · rw [z, h2]; omega
        · exact h3 j (by omega) hj
      omega
theorem two {a b m : Nat} {d : Array Int} {P : Int} (h1 : ∀ i, a ≤ i → i < m → d[i]! = P) (h3 : ∀ i, m ≤ i → i < b → P ≤ d[i]!) (s2 : SortedIn ltInt m b d) : SortedIn ltInt a b d := by
  intro i j hi hij hj
  rw [ltF]
  by_cases c2 : m ≤ i
  · exact ltF.1 (s2 i j (by omega) hij hj)
  · have l1 := h1 i hi (by omega)
    by_cases c1 : j < m
    · have l2 := h1 j (by omega) c1; omega
    · have l2 := h3 j (by omega) hj; omega
theorem permOut {a b : Nat} {d d' : Array Int} (h : PermIn a b d d') {i : Nat} (hi : i < a ∨ b ≤ i) : d'[i]! = d[i]! := h.2.1 i hi
theorem permT {a b : Nat} {d d' d'' : Array Int} (h : PermIn a b d d') (k : PermIn a b d' d'') : PermIn a b d d'' := Go.Sort.permIn_trans _ _ _ _ _ h k
theorem permM {a b a' b' : Nat} {d d' : Array Int} (h : PermIn a b d d') (h1 : a' ≤ a) (h2 : b ≤ b') (h3 : b' ≤ d.size) : PermIn a' b' d d' := Go.Sort.permIn_mono _ _ _ _ _ _ h1 h2 h3 h
theorem permA {a b : Nat} {d d' : Array Int} (p : Int → Prop) (hb : b ≤ d.size) (h : PermIn a b d d') (k : ∀ i, a ≤ i → i < b → p d[i]!) : ∀ i, a ≤ i → i < b → p d'[i]! := Go.Sort.permIn_all d d' a b p hb h k
/-- A part of a row is sorted, and nothing else has turned. -/
def Done (blk off : Nat) (w0 : World) (d : Array Int) (a b : Nat) (W' : World) : Prop := ∃ d', PermIn a b d d' ∧ SortedIn ltInt a b d' ∧ RwU blk off w0 d' W'
def PdqOk (blk off cap n L : Nat) (w0 : World) : Prop := ∀ (W : World) (d : Array Int) (a b l : Nat), RwU blk off w0 d W → d.size = n → a ≤ b → b ≤ n → b - a ≤ L → l < 1000 → Go.Sort.Below ltInt a b d →
  Calls Try.prog 35 #[.slice (some ⟨blk, off, none⟩) n cap, .int .i64 (a : Nat), .int .i64 (b : Nat), .int .i64 (l : Nat)] W fun e W' => e = .returned (.tuple #[]) ∧ Done blk off w0 d a b W'
/-- Between two rounds. -/
structure PI (blk off n a b : Nat) (w0 : World) (d : Array Int) (a' b' : Nat) (e : Array Int) (X : World) : Prop where
  r : RwU blk off w0 e X
  s : e.size = n
  p : PermIn a b d e
  w : Go.Sort.Below ltInt a' b' e
  c : ∀ d', PermIn a' b' e d' → SortedIn ltInt a' b' d' → SortedIn ltInt a b d'
section
variable {blk off n a b : Nat} {w0 : World} {d e e2 : Array Int} {a' b' : Nat} {X Y : World}
theorem PI.on (h : PI blk off n a b w0 d a' b' e X) (h1 : a ≤ a') (h3 : b' ≤ b) (hb : b ≤ n) (p : PermIn a' b' e e2) (r : RwU blk off w0 e2 Y) : PI blk off n a b w0 d a' b' e2 Y :=
  ⟨r, by rw [p.1]; exact h.s, permT h.p (permM p h1 h3 (by rw [h.s]; exact hb)), belowP (by rw [h.s]; omega) h.w p, fun d' q s => h.c d' (permT p q) s⟩
theorem PI.fin (h : PI blk off n a b w0 d a' b' e X) (h1 : a ≤ a') (h3 : b' ≤ b) (hb : b ≤ n) (p : PermIn a' b' e e2) (s : SortedIn ltInt a' b' e2) (r : RwU blk off w0 e2 Y) : Done blk off w0 d a b Y :=
  ⟨e2, permT h.p (permM p h1 h3 (by rw [h.s]; exact hb)), h.c e2 p s, r⟩
/-- Behind partitionEqual. -/
theorem PI.eq (h : PI blk off n a b w0 d a' b' e X) (h1 : a ≤ a') (h2 : a' ≤ b') (h3 : b' ≤ b) (hb : b ≤ n) {pv m : Nat} (hp1 : a' ≤ pv) (hp2 : pv < b') (h0 : 0 < a') (hl : ltInt e[a' - 1]! e[pv]! = false) {f : Array Int} (hf : Go.Sort.partitionEqual ltInt e a' b' pv = (m, f)) (r : RwU blk off w0 f Y) :
    a' < m ∧ m ≤ b' ∧ PI blk off n a b w0 d m b' f Y := by
  have bw : ∀ i, a' ≤ i → i < b' → e[a' - 1]! ≤ e[i]! := fun i q1 q2 => by
    rcases h.w with z | z
    · omega
    · exact ltF.1 (z i q1 q2)
  have pl := ltF.1 hl
  have bn : b' ≤ e.size := by rw [h.s]; omega
  have lo : ∀ i, a' ≤ i → i < b' → e[pv]! ≤ e[i]! := fun i q1 q2 => by have := bw i q1 q2; omega
  have H := Go.Sort.partitionEqual_holds ltInt Go.Sort.swo_ltInt e a' b' pv hp1 hp2 bn (fun i q1 q2 => ltF.2 (lo i q1 q2))
  rw [hf] at H
  obtain ⟨m1, m2, pp, le, gt⟩ := H
  simp only at m1 m2 pp le gt
  have lo' := permA (fun x => e[pv]! ≤ x) bn pp lo
  have fs : f.size = n := by rw [pp.1]; exact h.s
  have eqp : ∀ i, a' ≤ i → i < m → f[i]! = e[pv]! := fun i q1 q2 => by
    have := ltF.1 (le i q1 q2)
    have := lo' i q1 (by omega)
    omega
  refine ⟨m1, m2, r, fs, permT h.p (permM pp h1 h3 (by rw [h.s]; exact hb)), .inr fun i q1 q2 => ?_, fun d' q s => ?_⟩
  · rw [ltF, eqp (m - 1) (by omega) (by omega)]
    have := ltT.1 (gt i q1 q2)
    omega
  · have q' : PermIn a' b' f d' := permM q (by omega) (Nat.le_refl _) (by rw [fs]; omega)
    refine h.c d' (permT pp q') (two (m := m) (P := e[pv]!) (fun i q1 q2 => ?_) (fun i q1 q2 => ?_) s)
    · rw [permOut q (.inl q2)]; exact eqp i q1 q2
    · exact permA (fun x => e[pv]! ≤ x) (by rw [fs]; omega) q (fun i r1 r2 => by have := ltT.1 (gt i r1 r2); omega) i q1 q2
/-- Behind partition. -/
structure PT (a' b' m : Nat) (e f : Array Int) : Prop where
  m1 : a' ≤ m
  m2 : m < b'
  p : PermIn a' b' e f
  lo : ∀ i, a' ≤ i → i < m → f[i]! < f[m]!
  hi : ∀ i, m < i → i < b' → f[m]! ≤ f[i]!
theorem PT.of {pv m : Nat} {t : Bool} {f : Array Int} (hp1 : a' ≤ pv) (hp2 : pv < b') (bn : b' ≤ e.size) (hf : Go.Sort.partition ltInt e a' b' pv = (m, t, f)) : PT a' b' m e f := by
  have H := Go.Sort.partition_holds ltInt Go.Sort.swo_ltInt e a' b' pv hp1 hp2 bn
  rw [hf] at H
  obtain ⟨m1, m2, pp, lt, ge⟩ := H
  exact ⟨m1, m2, pp, fun i q1 q2 => ltT.1 (lt i q1 q2), fun i q1 q2 => ltF.1 (ge i q1 q2)⟩
theorem PI.left {m : Nat} {f g : Array Int} (h : PI blk off n a b w0 d a' b' e X) (h1 : a ≤ a') (h2 : a' ≤ b') (h3 : b' ≤ b) (hb : b ≤ n) (t : PT a' b' m e f) (p : PermIn a' m f g) (s : SortedIn ltInt a' m g) (r : RwU blk off w0 g Y) : PI blk off n a b w0 d (m + 1) b' g Y := by
  have m1 := t.m1
  have m2 := t.m2
  have es := h.s
  have fs : f.size = n := by rw [t.p.1]; exact es
  have gs : g.size = n := by rw [p.1]; exact fs
  have p' : PermIn a' b' f g := permM p (Nat.le_refl _) (by omega) (by rw [fs]; omega)
  refine ⟨r, gs, permT (permT h.p (permM t.p h1 h3 (by rw [es]; exact hb))) (permM p' h1 h3 (by rw [fs]; exact hb)), .inr fun i q1 q2 => ?_, fun d' q s' => ?_⟩
  · rw [ltF, show m + 1 - 1 = m by omega, permOut p (i := m) (.inr (by omega)), permOut p (i := i) (.inr (by omega))]
    exact t.hi i (by omega) q2
  · have q' : PermIn a' b' g d' := permM q (by omega) (Nat.le_refl _) (by rw [gs]; omega)
    have lo := permA (fun x => x < f[m]!) (by rw [fs]; omega) p t.lo
    refine h.c d' (permT (permT t.p p') q') (three (m := m) (P := f[m]!) (fun i r1 r2 => ?_) ?_ (fun i r1 r2 => ?_) (fun i j r1 r2 r3 => ?_) s')
    · rw [permOut q (i := i) (.inl (by omega))]; have := lo i r1 r2; omega
    · rw [permOut q (i := m) (.inl (by omega)), permOut p (i := m) (.inr (by omega))]
    · exact permA (fun x => f[m]! ≤ x) (by rw [gs]; omega) q (fun i u1 u2 => by rw [permOut p (i := i) (.inr (by omega))]; exact t.hi i (by omega) u2) i (by omega) r2
    · rw [permOut q (i := i) (.inl (by omega)), permOut q (i := j) (.inl (by omega))]
      exact s i j r1 r2 r3
theorem PI.right {m : Nat} {f g : Array Int} (h : PI blk off n a b w0 d a' b' e X) (h1 : a ≤ a') (h2 : a' ≤ b') (h3 : b' ≤ b) (hb : b ≤ n) (t : PT a' b' m e f) (p : PermIn (m + 1) b' f g) (s : SortedIn ltInt (m + 1) b' g) (r : RwU blk off w0 g Y) : PI blk off n a b w0 d a' m g Y := by
  have m1 := t.m1
  have m2 := t.m2
  have es := h.s
  have fs : f.size = n := by rw [t.p.1]; exact es
  have gs : g.size = n := by rw [p.1]; exact fs
  have p' : PermIn a' b' f g := permM p (by omega) (Nat.le_refl _) (by rw [fs]; omega)
  have bf := belowP (by rw [es]; omega) h.w t.p
  refine ⟨r, gs, permT (permT h.p (permM t.p h1 h3 (by rw [es]; exact hb))) (permM p' h1 h3 (by rw [fs]; exact hb)), ?_, fun d' q s' => ?_⟩
  · rcases bf with z | z
    · exact .inl z
    · by_cases a0 : a' = 0
      · exact .inl a0
      · refine .inr fun i q1 q2 => ?_
        rw [permOut p (i := i) (.inl (by omega)), permOut p (i := a' - 1) (.inl (by omega))]
        exact z i q1 (by omega)
  · have q' : PermIn a' b' g d' := permM q (Nat.le_refl _) (by omega) (by rw [gs]; omega)
    have hi := permA (fun x => f[m]! ≤ x) (by rw [fs]; omega) p (fun i u1 u2 => t.hi i (by omega) u2)
    refine h.c d' (permT (permT t.p p') q') (three (m := m) (P := f[m]!) (fun i r1 r2 => ?_) ?_ (fun i r1 r2 => ?_) s' (fun i j r1 r2 r3 => ?_))
    · have := permA (fun x => x < f[m]!) (by rw [gs]; omega) q (fun i u1 u2 => by rw [permOut p (i := i) (.inl (by omega))]; exact t.lo i u1 u2) i r1 r2
      omega
    · rw [permOut q (i := m) (.inr (by omega)), permOut p (i := m) (.inl (by omega))]
    · rw [permOut q (i := i) (.inr (by omega))]; exact hi i (by omega) r2
    · rw [permOut q (i := i) (.inr (by omega)), permOut q (i := j) (.inr (by omega))]
      exact s i j r1 r2 r3
theorem PT.belowL {m : Nat} {f : Array Int} (h : PI blk off n a b w0 d a' b' e X) (bn : b' ≤ n) (t : PT a' b' m e f) : Go.Sort.Below ltInt a' m f := by
  have m2 := t.m2
  rcases belowP (by rw [h.s]; exact bn) h.w t.p with z | z
  · exact .inl z
  · exact .inr fun i q1 q2 => z i q1 (by omega)
theorem PT.belowR {m : Nat} {f : Array Int} (t : PT a' b' m e f) : Go.Sort.Below ltInt (m + 1) b' f := .inr fun i q1 q2 => by
  rw [ltF, show m + 1 - 1 = m by omega]; exact t.hi i (by omega) q2
end
set_option maxRecDepth 100000 in
set_option maxHeartbeats 8000000 in
theorem pdq_step (blk off cap n L : Nat) (w0 : World) (hsz : n < 1152921504606846976) (IH : ∀ L', L' < L → PdqOk blk off cap n L' w0) : PdqOk blk off cap n L w0 := by
  intro W d a b l hr hn hab hb hL hl hB
  obtain ⟨R, hR⟩ : ∃ R : Ending → World → Prop, R = fun e W' => e = .returned (.tuple #[]) ∧ Done blk off w0 d a b W' := ⟨_, rfl⟩
  rw [← hR]
  have HR := hide hR
  have P0 := hide (show PI blk off n a b w0 d a b d W from ⟨hr, hn, Go.Sort.permIn_refl _ _ _, hB, fun _ _ h => h⟩)
  have II := hide IH
  clear hR hr hn hB IH
  go_enter Try.func35, Try.ntmps35
  go_wp2_with fail
  go_loopw [1, 2, 3, 8, 9] (fun va vb vl vc vp X => ∃ (a' b' l' : Nat) (wb wp : Bool) (e : Array Int), va = .int .i64 (a' : Nat) ∧ vb = .int .i64 (b' : Nat) ∧ vl = .int .i64 (l' : Nat) ∧ vc = .bool wb ∧ vp = .bool wp ∧ a ≤ a' ∧ a' ≤ b' ∧ b' ≤ b ∧ l' < 1000 ∧ Hid (PI blk off n a b w0 d a' b' e X)) (fun va vb _ _ _ _ => (zi vb - zi va).toNat)
  case atStart => exact ⟨a, b, l, true, true, d, rfl, rfl, rfl, rfl, rfl, Nat.le_refl _, hab, Nat.le_refl _, hl, P0⟩
  case round =>
    obtain ⟨a', b', l', wb, wp, e, rfl, rfl, rfl, rfl, rfl, h1, h2, h3, h4, HP⟩ := hrel
    have bn : b' ≤ n := by omega
    obtain ⟨len, hlen⟩ : ∃ len, b' - a' = len := ⟨_, rfl⟩
    have hlenI : (b' : Int) - (a' : Int) = (len : Int) := by omega
    have EQ := hide hlen
    have FD := hide (show ∀ (e2 : Array Int) (Y : World), PermIn a' b' e e2 → SortedIn ltInt a' b' e2 → RwU blk off w0 e2 Y → R (.returned (.tuple #[])) Y from fun e2 Y q1 q2 q3 => by
      rw [HR.out]; exact ⟨rfl, HP.out.fin h1 h3 hb q1 q2 q3⟩)
    have bI : (b' : Int) < 1152921504606846976 := by omega
    by_cases c1 : len ≤ 12
    · have d1 : decide ((len : Int) ≤ 12) = true := decide_eq_true (by omega)
      have CI := hide (insertion_any HP.out.r cap a' b' h2 (by rw [HP.out.s]; exact bn) (by rw [HP.out.s]; omega))
      rw [HP.out.s] at CI
      clear hlen
      go_wp2_with fail
      refine CI.out.mono ?_
      rintro r X ⟨rfl, hx⟩
      have H := Go.Sort.insertionSort_holds (lt := ltInt) Go.Sort.swo_ltInt e a' b' h2 (by rw [HP.out.s]; exact bn)
      have F := hide (FD.out _ X H.1 H.2 hx)
      clear hx CI H
      go_wp2_with fail
      refine bodyPost_ret (results_none rfl _ _ _) rfl ?_
      exact F.out
    · have d1 : decide ((len : Int) ≤ 12) = false := decide_eq_false (by omega)
      by_cases c2 : l' = 0
      · have d2 : ((l' : Int) == 0) = true := by simp [c2]
        have CI := hide (heap_any HP.out.r cap a' b' (by omega) (by rw [HP.out.s]; exact bn) (by rw [HP.out.s]; omega))
        rw [HP.out.s] at CI
        clear hlen c2
        go_wp2_with fail
        refine CI.out.mono ?_
        rintro r X ⟨rfl, hx⟩
        have H := Go.Sort.heapSort_holds (lt := ltInt) Go.Sort.swo_ltInt e a' b' h2 (by rw [HP.out.s]; exact bn)
        have F := hide (FD.out _ X H.1 H.2 hx)
        clear hx CI H
        go_wp2_with fail
        refine bodyPost_ret (results_none rfl _ _ _) rfl ?_
        exact F.out
      · have d2 : ((l' : Int) == 0) = false := by simp [c2]
        have L13 := hide (show a' + 13 ≤ b' from by omega)
        clear hlen
        go_upto_if 35 with fail
        go_cut [3] (fun vl Y => ∃ (l2 : Nat) (e2 : Array Int), vl = .int .i64 (l2 : Nat) ∧ l2 < 1000 ∧ Hid (PermIn a' b' e e2) ∧ Hid (RwU blk off w0 e2 Y))
        case first =>
          cases wb with
          | true =>
            try simp only [Bool.not_true]
            go_wp2_with fail
            go_meet
            exact ⟨l', e, rfl, h4, hide (Go.Sort.permIn_refl _ _ _), hide HP.out.r⟩
          | false =>
            try simp only [Bool.not_false]
            have CB := hide (break_any HP.out.r cap a' b' (by have := L13.out; omega) (by rw [HP.out.s]; exact bn) (by rw [HP.out.s]; exact hsz) HP.out.r.only.kept.size)
            rw [HP.out.s] at CB
            go_wp2_with fail
            refine CB.out.mono ?_
            rintro r Y ⟨rfl, e2, q1, q2⟩
            have Q := hide (And.intro q1 q2)
            clear q1 q2 CB
            go_wp2_with fail
            go_meet
            exact ⟨l' - 1, e2, by congr 1; omega, by omega, hide Q.out.1, hide Q.out.2⟩
        case rest =>
          obtain ⟨l2, e2, rfl, q1, QP, QR⟩ := hcut
          have P2 := hide (HP.out.on h1 h3 hb QP.out QR.out)
          clear FD HP QP QR c2 d2 h4
          have CV := hide (pivot_any P2.out.r cap a' b' L13.out (by rw [P2.out.s]; exact bn) (by rw [P2.out.s]; exact hsz) P2.out.r.only.kept.size)
          rw [P2.out.s] at CV
          go_wp2_with fail
          refine CV.out.mono ?_
          rintro r Y ⟨pv, k, rfl, v1, v2, v3, v4⟩
          have V4 := hide v4
          clear v4 CV
          go_upto_region 11 with fail
          go_cut [50] (fun s Z => ∃ t : Bool, s = .bool t ∧ Hid (RwU blk off w0 e2 Z))
          case first =>
            have dd : ((k : Int) == 2) = true ∨ ((k : Int) == 2) = false := by cases ((k : Int) == 2) <;> simp
            rcases dd with dk | dk <;> (go_wp2_with fail; go_meet; exact ⟨_, rfl, V4⟩)
          case rest =>
          obtain ⟨t2, rfl, V5⟩ := hcut
          clear V4
          go_upto_if 50 with fail
          go_cut [11, 12] (fun vp vh Z => ∃ (pw k2 : Nat) (e3 : Array Int), vp = .int .i64 (pw : Nat) ∧ vh = .int .i64 (k2 : Nat) ∧ a' + 1 ≤ pw ∧ pw < b' ∧ Hid (PermIn a' b' e2 e3) ∧ Hid (RwU blk off w0 e3 Z))
          case first =>
            cases t2 with
            | true =>
              have CR := hide (reverse_any V5.out cap a' b' (by omega) (by rw [P2.out.s]; exact bn) (by rw [P2.out.s]; exact hsz))
              rw [P2.out.s] at CR
              go_wp2_with fail
              refine CR.out.mono ?_
              rintro r Z ⟨rfl, z1⟩
              have Q := hide (And.intro (Go.Sort.reverseRange_holds e2 a' b' h2 (by rw [P2.out.s]; exact bn)) z1)
              clear z1 CR
              go_wp2_with fail
              go_meet
              exact ⟨b' - 1 - (pv - a'), 1, _, by congr 1; omega, rfl, by omega, by omega, hide Q.out.1, hide Q.out.2⟩
            | false =>
              go_wp2_with fail
              go_meet
              exact ⟨pv, k, e2, rfl, rfl, v1, by omega, hide (Go.Sort.permIn_refl _ _ _), V5⟩
          case rest =>
            obtain ⟨pw, k2, e3, rfl, rfl, w1, w2, QP, QR⟩ := hcut
            have P3 := hide (P2.out.on h1 h3 hb QP.out QR.out)
            clear P2 QP QR V5 v1 v2 v3
            go_upto_region 15 with fail
            go_cut [68] (fun s Z => ∃ t : Bool, s = .bool t ∧ Hid (RwU blk off w0 e3 Z))
            case first =>
              have dd : ((k2 : Int) == 1) = true ∨ ((k2 : Int) == 1) = false := by cases ((k2 : Int) == 1) <;> simp
              cases wb <;> cases wp <;> rcases dd with dk | dk <;> (go_wp2_with fail; go_meet; exact ⟨_, rfl, hide P3.out.r⟩)
            case rest =>
              obtain ⟨t, rfl, RT⟩ := hcut
              have P4 := hide (P3.out.on h1 h3 hb (Go.Sort.permIn_refl _ _ _) RT.out)
              clear P3 RT
              go_upto_if 68 with fail
              go_cut [72] (fun s Z => ∃ (u : Value) (e4 : Array Int), s = u ∧ Hid (PermIn a' b' e3 e4) ∧ Hid (RwU blk off w0 e4 Z))
              case first =>
                cases t with
                | true =>
                  have CQ := hide (pins_any P4.out.r cap a' b' (by omega) (by rw [P4.out.s]; exact bn) (by rw [P4.out.s]; exact hsz))
                  rw [P4.out.s] at CQ
                  have HQ := hide (Go.Sort.partialInsertionSort_holds (lt := ltInt) Go.Sort.swo_ltInt e3 a' b' (by omega) (by rw [P4.out.s]; exact bn) P4.out.w)
                  obtain ⟨g, tv, hg⟩ : ∃ g tv, Go.Sort.partialInsertionSort ltInt e3 a' b' = (g, tv) := ⟨_, _, rfl⟩
                  rw [hg] at CQ HQ
                  clear hg
                  go_wp2_with fail
                  refine CQ.out.mono ?_
                  rintro r Z ⟨rfl, z1⟩
                  have Z1 := hide z1
                  clear z1 CQ
                  cases tv with
                  | true =>
                    have F := hide (show R (.returned (.tuple #[])) Z from by rw [HR.out]; exact ⟨rfl, P4.out.fin h1 h3 hb HQ.out.1 (HQ.out.2 rfl) Z1.out⟩)
                    go_wp2_with fail
                    refine bodyPost_ret (results_none rfl _ _ _) rfl ?_
                    exact F.out
                  | false =>
                    go_wp2_with fail
                    go_meet
                    exact ⟨_, g, rfl, hide HQ.out.1, Z1⟩
                | false =>
                  go_wp2_with fail
                  go_meet
                  exact ⟨_, e3, rfl, hide (Go.Sort.permIn_refl _ _ _), hide P4.out.r⟩
              case rest =>
                obtain ⟨uu, e4, hu, QP, QR⟩ := hcut
                subst hu
                have P5 := hide (P4.out.on h1 h3 hb QP.out QR.out)
                clear P4 QP QR
                obtain ⟨G, hG⟩ : ∃ G : Nat → Int, ∀ t, G t = e4[t]! := ⟨fun t => e4[t]!, fun _ => rfl⟩
                have hc : ∀ t, t < n → wc.cell? ⟨blk, off + t, none⟩ = some (.int .u64 (G t)) := fun t ht => by rw [hG]; exact P5.out.r.cell t (by rw [P5.out.s]; exact ht)
                have HG := hide hG
                have pn : pw < n := by omega
                clear hG
                --LAST
                have ST := hide (And.intro h1 (And.intro h2 h3))
                by_cases c7 : 0 < a'
                · have d7 : decide ((0 : Int) < (a' : Int)) = true := decide_eq_true (by omega)
                  have an : a' - 1 < n := by omega
                  have a1 : (1 : Int) ≤ (a' : Int) := by omega
                  go_wp2_with fail
                  go_quiet (first | (go_at_call 43; refine Calls.quiet_of_same (less_any _ _ _)))
                  obtain ⟨X5, hX5⟩ : ∃ X5, wc.drewN nq = X5 := ⟨_, rfl⟩
                  have P6 := hide (P5.out.on h1 h3 hb (Go.Sort.permIn_refl _ _ _) (P5.out.r.drewN nq))
                  rw [hX5] at P6 ⊢
                  cases hv : ltInt (G (a' - 1)) (G pw) with
                  | true =>
                    simp only [Bool.not_true]
                    clear hX5 hc P5 hv
                    have CP := hide (partition_any P6.out.r cap a' b' pw (by omega) w2 (by rw [P6.out.s]; exact bn) (by rw [P6.out.s]; exact hsz))
                    rw [P6.out.s] at CP
                    obtain ⟨m, tp, f, hf⟩ : ∃ m tp f, Go.Sort.partition ltInt e4 a' b' pw = (m, tp, f) := ⟨_, _, _, rfl⟩
                    have T8 := hide (PT.of (by omega) w2 (by rw [P6.out.s]; exact bn) hf)
                    rw [hf] at CP
                    clear hf
                    have t1 := T8.out.m1
                    have t2 := T8.out.m2
                    go_wp2_with fail
                    refine CP.out.mono ?_
                    rintro r Z ⟨rfl, z1⟩
                    have Z1 := hide z1
                    have FS := hide (show f.size = n from by rw [T8.out.p.1]; exact P6.out.s)
                    have mI : (m : Int) < 1152921504606846976 := by omega
                    clear z1 CP
                    by_cases cl : m - a' < b' - m
                    · have dl : decide ((m : Int) - (a' : Int) < (b' : Int) - (m : Int)) = true := decide_eq_true (by omega)
                      have CI := hide (II.out (m - a') (by omega) Z f a' m l2 Z1.out FS.out t1 (by omega) (Nat.le_refl _) q1 (PT.belowL P6.out bn T8.out))
                      clear cl
                      go_wp2_with fail
                      refine CI.out.mono ?_
                      rintro r Z2 ⟨rfl, g, g1, g2, g3⟩
                      have P9 := hide (P6.out.left h1 h2 h3 hb T8.out g1 g2 g3)
                      clear CI g1 g2 g3
                      go_wp2_with fail
                      go_roundw
                      case rel => exact ⟨m + 1, b', l2, _, tp, g, by push_cast; rfl, rfl, rfl, rfl, rfl, by omega, by omega, h3, q1, P9⟩
                      case measure => simp [zi]; omega
                    · have dl : decide ((m : Int) - (a' : Int) < (b' : Int) - (m : Int)) = false := decide_eq_false (by omega)
                      have CI := hide (II.out (b' - (m + 1)) (by omega) Z f (m + 1) b' l2 Z1.out FS.out (by omega) bn (Nat.le_refl _) q1 (PT.belowR T8.out))
                      rw [Int.natCast_add] at CI
                      clear cl
                      go_wp2_with fail
                      refine CI.out.mono ?_
                      rintro r Z2 ⟨rfl, g, g1, g2, g3⟩
                      have P9 := hide (P6.out.right h1 h2 h3 hb T8.out g1 g2 g3)
                      clear CI g1 g2 g3
                      go_wp2_with fail
                      go_roundw
                      case rel => exact ⟨a', m, l2, _, tp, g, rfl, rfl, rfl, rfl, rfl, h1, t1, by omega, q1, P9⟩
                      case measure => simp [zi]; omega
                  | false =>
                    simp only [Bool.not_false]
                    have HV := hide (show ltInt e4[a' - 1]! e4[pw]! = false from by rw [← HG.out, ← HG.out]; exact hv)
                    have CP := hide (partEq_any P6.out.r cap a' b' pw (by omega) w2 (by rw [P6.out.s]; exact bn) (by rw [P6.out.s]; exact hsz))
                    rw [P6.out.s] at CP
                    obtain ⟨m, f, hf⟩ : ∃ m f, Go.Sort.partitionEqual ltInt e4 a' b' pw = (m, f) := ⟨_, _, rfl⟩
                    have HF := hide hf
                    rw [hf] at CP
                    clear hf hX5 hc P5 hv
                    go_wp2_with fail
                    refine CP.out.mono ?_
                    rintro r Z ⟨rfl, z1⟩
                    obtain ⟨m1, m2, p9⟩ := P6.out.eq h1 h2 h3 hb (by omega) w2 c7 HV.out HF.out z1
                    have P9 := hide p9
                    clear z1 CP p9
                    go_wp2_with fail
                    go_roundw
                    case rel => exact ⟨m, b', l2, wb, wp, f, rfl, rfl, rfl, rfl, rfl, by omega, m2, h3, q1, P9⟩
                    case measure => simp [zi]; omega
                · have d7 : decide ((0 : Int) < (a' : Int)) = false := decide_eq_false (by omega)
                  go_wp2_with fail
                  go_quiet (first | (go_at_call 43; refine Calls.quiet_of_same (less_any _ _ _)))
                  obtain ⟨X5, hX5⟩ : ∃ X5, wc.drewN nq = X5 := ⟨_, rfl⟩
                  have P6 := hide (P5.out.on h1 h3 hb (Go.Sort.permIn_refl _ _ _) (P5.out.r.drewN nq))
                  rw [hX5] at P6 ⊢
                  clear hX5 hc P5
                  have CP := hide (partition_any P6.out.r cap a' b' pw (by omega) w2 (by rw [P6.out.s]; exact bn) (by rw [P6.out.s]; exact hsz))
                  rw [P6.out.s] at CP
                  obtain ⟨m, tp, f, hf⟩ : ∃ m tp f, Go.Sort.partition ltInt e4 a' b' pw = (m, tp, f) := ⟨_, _, _, rfl⟩
                  have T8 := hide (PT.of (by omega) w2 (by rw [P6.out.s]; exact bn) hf)
                  rw [hf] at CP
                  clear hf
                  have t1 := T8.out.m1
                  have t2 := T8.out.m2
                  go_wp2_with fail
                  refine CP.out.mono ?_
                  rintro r Z ⟨rfl, z1⟩
                  have Z1 := hide z1
                  have FS := hide (show f.size = n from by rw [T8.out.p.1]; exact P6.out.s)
                  have mI : (m : Int) < 1152921504606846976 := by omega
                  clear z1 CP
                  by_cases cl : m - a' < b' - m
                  · have dl : decide ((m : Int) - (a' : Int) < (b' : Int) - (m : Int)) = true := decide_eq_true (by omega)
                    have CI := hide (II.out (m - a') (by omega) Z f a' m l2 Z1.out FS.out t1 (by omega) (Nat.le_refl _) q1 (PT.belowL P6.out bn T8.out))
                    clear cl
                    go_wp2_with fail
                    refine CI.out.mono ?_
                    rintro r Z2 ⟨rfl, g, g1, g2, g3⟩
                    have P9 := hide (P6.out.left h1 h2 h3 hb T8.out g1 g2 g3)
                    clear CI g1 g2 g3
                    go_wp2_with fail
                    go_roundw
                    case rel => exact ⟨m + 1, b', l2, _, tp, g, by push_cast; rfl, rfl, rfl, rfl, rfl, by omega, by omega, h3, q1, P9⟩
                    case measure => simp [zi]; omega
                  · have dl : decide ((m : Int) - (a' : Int) < (b' : Int) - (m : Int)) = false := decide_eq_false (by omega)
                    have CI := hide (II.out (b' - (m + 1)) (by omega) Z f (m + 1) b' l2 Z1.out FS.out (by omega) bn (Nat.le_refl _) q1 (PT.belowR T8.out))
                    rw [Int.natCast_add] at CI
                    clear cl
                    go_wp2_with fail
                    refine CI.out.mono ?_
                    rintro r Z2 ⟨rfl, g, g1, g2, g3⟩
                    have P9 := hide (P6.out.right h1 h2 h3 hb T8.out g1 g2 g3)
                    clear CI g1 g2 g3
                    go_wp2_with fail
                    go_roundw
                    case rel => exact ⟨a', m, l2, _, tp, g, rfl, rfl, rfl, rfl, rfl, h1, t1, by omega, q1, P9⟩
                    case measure => simp [zi]; omega
theorem pdq_any (blk off cap n : Nat) (w0 : World) (hsz : n < 1152921504606846976) : ∀ L, PdqOk blk off cap n L w0 := by
  intro L
  induction L using Nat.strongRecOn with
  | ind L ih => exact pdq_step blk off cap n L w0 hsz ih
theorem sort_any {blk off : Nat} {W : World} {d : Array Int} (h : RwU blk off W d W) (cap : Nat) (hsz : d.size < 1152921504606846976) :
    Calls Try.prog 29 #[.slice (some ⟨blk, off, none⟩) d.size cap] W fun e W' => e = .returned (.tuple #[]) ∧ Done blk off W d 0 d.size W' := by
  obtain ⟨n, hn⟩ : ∃ n, d.size = n := ⟨_, rfl⟩
  rw [hn] at hsz ⊢
  have C := hide (Try.bits_Len (n : Nat) W (by omega) (by omega))
  rw [Int.toNat_natCast] at C
  have k60 : Go.Lib.bitLen n ≤ 60 := Go.Lib.bitLen_le n 60 (by omega) hsz
  obtain ⟨k, hk⟩ : ∃ k, Go.Lib.bitLen n = k := ⟨_, rfl⟩
  rw [hk] at C k60
  have CP := hide (pdq_any blk off cap n W hsz n W d 0 n k h hn (by omega) (Nat.le_refl _) (by omega) (by omega) (.inl rfl))
  have nI : (n : Int) < 1152921504606846976 := by omega
  clear hk h hn
  go_enter Try.func29, Try.ntmps29
  go_wp2_with fail
  refine C.out.mono ?_
  rintro r w' ⟨rfl, hw⟩
  rw [hw]
  clear hw C
  go_wp2_with fail
  refine CP.out.mono ?_
  rintro r w' ⟨rfl, hd⟩
  have HD := hide hd
  clear hd CP
  go_wp2_with fail
  go_end0
  exact ⟨rfl, HD.out⟩
end Go.Proofs.Ytdcjldpbgickmaa
