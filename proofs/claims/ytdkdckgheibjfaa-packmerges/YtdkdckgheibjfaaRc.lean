/- The reference's Fits. -/
import Derived.Test.YtdkdckgheibjfaaRa
import Derived.Test.YtdkdckgheibjfaaPd
namespace Go.Proofs.Ytdkdckgheibjfaa
open Go.ChangeShapes Go.WideShapes Go.ChangeAt Go.RowKit Go.Proofs.Pk Go.Maps
set_option linter.unusedVariables false
set_option linter.unusedSimpArgs false

def RefR (t : List Sm) (p n : Int) (e : Ending) : Prop := ∃ a b, e = .returned (.tuple #[.int .i64 a, .bool b, .int .i64 0]) ∧ RefP p n (nth t) t.length a b
def RFitsP (t : List Sm) (p n : Int) (w : World) (e : Ending) (w' : World) : Prop := (1 ≤ n → RR t p → RefR t p n e) ∧ (¬ (1 ≤ n ∧ RR t p) → e = .returned (.tuple #[.int .i64 0, .bool false, .int .i64 1])) ∧ Below w.heap.size w w'
/-- How far the run from row i on goes. -/
structure Run (p : Int) (X : Nat → Sm) (i k : Nat) (r : Int) : Prop where
  wh : Wh p X i k
  is : r = (X i).e + ((k : Int) - 1 - i) * p
theorem Run.start {p : Int} {X : Nat → Sm} (i : Nat) : Run p X i (i + 1) (X i).e := ⟨fun j a b => by omega, by rw [show (((i + 1 : Nat) : Int) - 1 - i) = 0 by omega]; omega⟩
theorem Run.next {p : Int} {X : Nat → Sm} {i k : Nat} {r : Int} (h : Run p X i k r) (hik : i < k) (hs : (X k).s = p) : Run p X i (k + 1) (r + (X k).s) :=
  ⟨fun j a b => by
    by_cases e : j = k
    · subst e; exact hs
    · exact h.wh j a (by omega), by rw [gap_succ, h.is, hs]; omega⟩
theorem run_last {p n : Int} (hp : 1 ≤ p) {X : Nat → Sm} {L i k : Nat} {r : Int} (h : Run p X i k r) (hik : i < k) (hL : ∀ j, j < L → Rgt (X j) p) (hiL : i < L) (ha : ¬ Aw n X i) (hend : k = L) : n ≤ r → (X i).e ≠ 0 → Bw p n X L i := by
  intro hr he
  subst hend
  -- the last row was whole, or there is none behind i
  by_cases c : k = i + 1
  · subst c
    have := h.is
    rw [show (((i + 1 : Nat) : Int) - 1 - i) = 0 by omega] at this
    obtain ⟨⟨r1, r2, r3, r4, r5, r6⟩, r7⟩ := hL i hiL
    unfold Aw at ha
    exfalso; omega
  · refine ⟨he, k - 1, by omega, by omega, fun j a b => h.wh j a (by omega), ?_⟩
    have hs := h.wh (k - 1) (by omega) (by omega)
    rw [hs]
    have := h.is
    have e := gap_succ p (k - 1) i
    rw [show k - 1 + 1 = k by omega] at e
    omega
theorem run_stop {p n : Int} {X : Nat → Sm} {L i k : Nat} {r : Int} (h : Run p X i k r) (hik : i < k) (hkL : k < L) (he : (X i).e ≠ 0) : n ≤ r + (X k).s → Bw p n X L i := fun hr =>
  ⟨he, k, hik, hkL, h.wh, by rw [← h.is]; exact hr⟩
theorem no_bw {p n : Int} (hp : 1 ≤ p) {X : Nat → Sm} {L i k : Nat} {r : Int} (h : Run p X i k r) (hik : i < k) (hL : ∀ j, j < L → Rgt (X j) p) (hkL : k ≤ L) (hend : k = L ∨ (X k).s < p ∧ k < L) (hr : (k = L → r < n) ∧ (k < L → r + (X k).s < n)) : ¬ Bw p n X L i := by
  rintro ⟨he, j, j1, j2, j3, j4⟩
  -- what ends in row j is no longer than the whole run
  have mono : ∀ d, j + d ≤ k → j + d ≤ L → (X i).e + ((j : Int) - 1 - i) * p + (d : Int) * p = (X i).e + (((j + d : Nat) : Int) - 1 - i) * p := fun d _ _ => by
    rw [Int.add_assoc, ← Int.add_mul]; congr 2; omega
  rcases Nat.lt_trichotomy j k with l | l | l
  · have hs := h.wh j j1 l
    rw [hs] at j4
    obtain ⟨d, rfl⟩ : ∃ d, k = j + 1 + d := ⟨k - (j + 1), by omega⟩
    have hq : 0 ≤ (d : Int) * p := Int.mul_nonneg (by omega) (by omega)
    have e := h.is
    have e2 : (((j + 1 + d : Nat) : Int) - 1 - i) * p = ((j : Int) - 1 - i) * p + p + (d : Int) * p := by
      rw [show (((j + 1 + d : Nat) : Int) - 1 - i) = ((j : Int) - 1 - i) + 1 + d by omega, Int.add_mul, Int.add_mul]; omega
    rcases hend with z | ⟨z1, z2⟩
    · have := hr.1 z; omega
    · have := hr.2 z2
      obtain ⟨⟨r1, r2, r3, r4, r5, r6⟩, r7⟩ := hL _ z2
      omega
  · subst l
    have := hr.2 j2
    have := h.is
    omega
  · rcases hend with z | ⟨z1, z2⟩
    · omega
    · have := j3 k hik l
      omega
theorem run_bound {p : Int} (hp : 1 ≤ p) (hp2 : p ≤ 2097152) {X : Nat → Sm} {L i k : Nat} {r : Int} (h : Run p X i k r) (hik : i < k) (hk : k ≤ 64) (hx : Rgt (X i) p) : 0 ≤ r ∧ r ≤ 140000000 := by
  obtain ⟨⟨r1, r2, r3, r4, r5, r6⟩, r7⟩ := hx
  have := h.is
  have h1 : 0 ≤ ((k : Int) - 1 - i) * p := Int.mul_nonneg (by omega) (by omega)
  have h2 : ((k : Int) - 1 - i) * p ≤ 64 * p := Int.mul_le_mul_of_nonneg_right (by omega) (by omega)
  omega
set_option maxRecDepth 100000 in
set_option maxHeartbeats 4000000 in
theorem rfits_core {w : World} {v : Value} {t : List Sm} {T : Nat → Prop} (h : SumsAt w v t T) (p k : Int) : Calls Try.prog 17 #[v, .int .i64 p, .int .i64 k] w (RFitsP t p k w) := by
  obtain ⟨o, cap, rfl, h1, h2⟩ := h.shape
  have H := hide h
  obtain ⟨PO, hPO⟩ : ∃ PO, PO = RFitsP t p k w := ⟨_, rfl⟩
  rw [← hPO]
  have HP := hide hPO
  obtain ⟨n, hn⟩ : ∃ n, t.length = n := ⟨_, rfl⟩
  have HN := hide hn
  rw [hn] at H h1 ⊢
  clear h hPO hn
  go_enter Try.func17, Try.ntmps17
  go_wp2_with fail
  refine (rrows_core H.out p).mono ?_
  rintro e w2 ⟨hy, hno, b2⟩
  have BAD : ¬ (1 ≤ k ∧ RR t p) → Hid (PO (.returned (.tuple #[.int .i64 0, .bool false, .int .i64 1])) w2) := fun z => hide (by rw [HP.out]; exact ⟨fun a b => absurd ⟨a, b⟩ z, fun _ => rfl, b2⟩)
  by_cases r : RR t p
  · obtain rfl := hy r
    by_cases hk : 1 ≤ k
    · have dk : decide (k < 1) = false := decide_eq_false (by omega)
      have FN : ∀ W (a : Int) (b : Bool), RefP p k (nth t) n a b → Below w.heap.size w W → Hid (PO (.returned (.tuple #[.int .i64 a, .bool b, .int .i64 0])) W) := fun W a b ha hW => hide (by rw [HP.out]; exact ⟨fun _ _ => ⟨a, b, rfl, by rw [HN.out]; exact ha⟩, fun z => absurd ⟨hk, r⟩ z, hW⟩)
      obtain ⟨p1, p2, p3, p4⟩ := r
      rw [HN.out] at p3
      have P4 : Hid (∀ j, j < n → Rgt (nth t j) p) := hide (fun j hj => p4 j (by rw [HN.out]; exact hj))
      have B2 := hide b2
      clear hy hno b2 p4 HP BAD
      go_wp2_with fail
      go_loopw [9] (fun iv wr => ∃ (i : Nat), iv = .int .i64 (i : Int) ∧ i ≤ n ∧ Hid ((∀ j, j < i → ¬ Aw k (nth t) j ∧ ¬ Bw p k (nth t) n j) ∧ Below w.heap.size w wr)) (fun iv _ => n - (intOf iv).toNat)
      case atStart => exact ⟨0, rfl, Nat.zero_le _, hide ⟨fun j hj => by omega, B2.out⟩⟩
      case round =>
        clear B2
        obtain ⟨i, rfl, hi, HH⟩ := hrel
        by_cases hlt : i < n
        · obtain ⟨g, off, x, rfl, hx, hg, c0, c1, c2⟩ := H.out.at HH.out.2 hlt
          have i1 : (i : Int) < (n : Int) := by omega
          have i2 : (0 : Int) ≤ (i : Int) := by omega
          have hxn := nth_at hx
          have hr := P4.out i hlt
          have HRX := hide hr
          rw [hxn] at hr
          have eA : Aw k (nth t) i ↔ k ≤ x.m := by unfold Aw; rw [hxn]
          have qb : (i : Int) * p ≤ 134217728 := by
            have : (i : Int) * p ≤ 64 * p := Int.mul_le_mul_of_nonneg_right (by omega) (by omega)
            omega
          have qa : 0 ≤ (i : Int) * p := Int.mul_nonneg i2 (by omega)
          have XN : ¬ Aw k (nth t) i → ¬ Bw p k (nth t) n i → Hid (∀ j, j < i + 1 → ¬ Aw k (nth t) j ∧ ¬ Bw p k (nth t) n j) := fun a b => hide (fun j hj => by
            by_cases z : j = i
            · subst z; exact ⟨a, b⟩
            · exact HH.out.1 j (by omega))
          have H0 := hide HH.out.1
          have HB := hide HH.out.2
          have EN : Hid ((nth t i).e = x.e) := hide (by rw [hxn])
          clear hx hxn HH
          obtain ⟨⟨r1, r2, r3, r4, r5, r6⟩, r7⟩ := hr
          obtain ⟨s, m, y⟩ := x
          dsimp only at *
          have v2 : m ≤ 2097152 := by omega
          have v3 : y ≤ 2097152 := by omega
          clear r7 r6 r5 r4 r3
          by_cases c : k ≤ m
          · have dc : decide (k ≤ m) = true := decide_eq_true c
            have FF := FN _ _ true (.within i hlt H0.out (eA.2 c)) HB.out
            clear XN eA FN c EN HRX H
            go_wp2_with fail
            refine bodyPost_ret (results_tmp3 Try.results17 _ _ _) rfl ?_
            exact FF.out
          · have dc : decide (k ≤ m) = false := decide_eq_false c
            have NA : Hid (¬ Aw k (nth t) i) := hide (fun z => c (eA.1 z))
            clear c eA
            by_cases cz : y = 0
            · have dz : (y == 0) = true := beq_iff_eq.2 cz
              have NX := XN NA.out (fun z => z.1 (by rw [EN.out]; exact cz))
              clear cz XN FN
              go_wp2_with fail
              go_roundw
              case rel => exact ⟨i + 1, by go_num, by omega, hide ⟨NX.out, HB.out⟩⟩
              case measure => simp [intOf]; omega
            · have dz : (y == 0) = false := beq_eq_false_iff_ne.2 cz
              have NZ : Hid ((nth t i).e ≠ 0) := hide (by rw [EN.out]; exact cz)
              have R0 : Hid (Run p (nth t) i (i + 1) y) := hide (by rw [← EN.out]; exact Run.start i)
              clear cz
              go_wp2_with fail
              -- behind the run
              have done : ∀ (kk : Nat) (rv : Int), Run p (nth t) i kk rv → i < kk → kk ≤ n → True := fun _ _ _ _ _ => trivial
              clear done
              go_loopw [10, 11] (fun rv kv wx => ∃ (kk : Nat) (ru : Int), kv = .int .i64 (kk : Int) ∧ rv = .int .i64 ru ∧ i < kk ∧ kk ≤ n ∧ 0 ≤ ru ∧ ru ≤ 140000000 ∧ wx = wr ∧ Hid (Run p (nth t) i kk ru)) (fun _ kv _ => n - (intOf kv).toNat)
              case atStart => exact ⟨i + 1, y, by go_num, rfl, by omega, hlt, by omega, by omega, rfl, R0⟩
              case round =>
                clear R0
                obtain ⟨kk, ru, rfl, rfl, k1, k2, k3, k4, hwx, HRun⟩ := hrel
                subst hwx
                by_cases hkl : kk < n
                · obtain ⟨g', off', z, e0, hz, hg', e1, e2, e3⟩ := H.out.at HB.out hkl
                  injection e0 with e0
                  injection e0 with e0 e0'
                  subst e0 e0'
                  have hzn := nth_at hz
                  have hrz := P4.out kk hkl
                  have ES : Hid ((nth t kk).s = z.s) := hide (by rw [hzn])
                  have j1 : (kk : Int) < (n : Int) := by omega
                  have j2 : (0 : Int) ≤ (kk : Int) := by omega
                  rw [hzn] at hrz
                  obtain ⟨⟨t1, t2, t3, t4, t5, t6⟩, t7⟩ := hrz
                  obtain ⟨s', m', y'⟩ := z
                  dsimp only at *
                  have t8 : s' ≤ 2097152 := by omega
                  have t9 : s' ≤ p := by omega
                  clear hz hzn t3 t4 t5 t6 t7
                  by_cases cs : s' < p
                  · have ds : decide (s' < p) = true := decide_eq_true cs
                    by_cases cn : k ≤ ru + s'
                    · have dn : decide (k ≤ ru + s') = true := decide_eq_true cn
                      have FF := FN _ _ true (.cross i hlt H0.out NA.out (run_stop HRun.out k1 hkl NZ.out (by rw [ES.out]; exact cn))) HB.out
                      rw [EN.out] at FF
                      clear XN FN cs cn
                      go_wp2_with fail
                      refine bodyPost_ret (results_tmp3 Try.results17 _ _ _) rfl ?_
                      exact FF.out
                    · have dn : decide (k ≤ ru + s') = false := decide_eq_false cn
                      have NX := XN NA.out (no_bw p1 HRun.out k1 P4.out k2 (.inr ⟨by rw [ES.out]; exact cs, hkl⟩) ⟨fun z => by omega, fun _ => by rw [ES.out]; omega⟩)
                      clear XN FN cs cn
                      go_wp2_with fail
                      go_roundw
                      case rel => exact ⟨i + 1, by go_num, by omega, hide ⟨NX.out, HB.out⟩⟩
                      case measure => simp [intOf]; omega
                  · have ds : decide (s' < p) = false := decide_eq_false cs
                    have RN := HRun.out.next k1 (by rw [ES.out]; omega)
                    rw [ES.out] at RN
                    have RB := run_bound (L := n) p1 p2 RN (by omega) (by omega) HRX.out
                    have RNH := hide RN
                    clear XN FN cs RN
                    go_wp2_with fail
                    go_roundw
                    case rel => exact ⟨kk + 1, ru + s', by go_num, by first | rfl | trivial, by omega, by omega, RB.1, RB.2, by first | rfl | trivial, RNH⟩
                    case measure => simp [intOf]; omega
                · obtain rfl : kk = n := by omega
                  have d0 : ¬ (kk : Int) < (kk : Int) := by omega
                  by_cases cn : k ≤ ru
                  · have dn : decide (k ≤ ru) = true := decide_eq_true cn
                    have FF := FN _ _ true (.cross i hlt H0.out NA.out (run_last p1 HRun.out k1 P4.out hlt NA.out rfl cn NZ.out)) HB.out
                    rw [EN.out] at FF
                    clear XN FN cn
                    go_wp2_with fail
                    refine bodyPost_ret (results_tmp3 Try.results17 _ _ _) rfl ?_
                    exact FF.out
                  · have dn : decide (k ≤ ru) = false := decide_eq_false cn
                    have NX := XN NA.out (no_bw p1 HRun.out k1 P4.out k2 (.inl rfl) ⟨fun _ => by omega, fun z => by omega⟩)
                    clear XN FN cn
                    go_wp2_with fail
                    go_roundw
                    case rel => exact ⟨i + 1, by go_num, by omega, hide ⟨NX.out, HB.out⟩⟩
                    case measure => simp [intOf]; omega
        · obtain rfl : i = n := by omega
          have d0 : ¬ (i : Int) < (i : Int) := by omega
          have FF := FN _ 0 false (.none HH.out.1) HH.out.2
          clear FN HH H
          go_wp2_with fail
          refine bodyPost_ret (results_tmp3 Try.results17 _ _ _) rfl ?_
          exact FF.out
    · have FF := BAD (fun z => hk z.1)
      have dk : decide (k < 1) = true := decide_eq_true (by omega)
      clear hy hno b2 r HP H BAD hk
      go_wp2_with fail
      refine bodyPost_ret (results_tmp3 Try.results17 _ _ _) rfl ?_
      exact FF.out
  · obtain rfl := hno r
    have FF := BAD (fun z => r z.2)
    clear hy hno b2 r HP H BAD
    go_wp2_with fail
    refine bodyPost_ret (results_tmp3 Try.results17 _ _ _) rfl ?_
    exact FF.out
end Go.Proofs.Ytdkdckgheibjfaa
