/- J09 of the proof of both laws: texts Tc, Tl, Xp, one behind the other. -/
import Derived.Test.YtnclicdnncgdiaaGreatDoorJ08
import Derived.Test.YtnclicdnncgdiaaGreatDoorJ02
/- The reference's tree: count: its contract. -/
namespace Go.Proofs.YtnclicdnncgdiaaGreatDoor
open Go.ChangeShapes Go.WideShapes Go.ChangeAt Go.RowKit Go.Proofs.Bt Go.Shelf
set_option linter.unusedVariables false
set_option linter.unusedSimpArgs false

/-- How many of the k numbers from a on are so. -/
def cnt9 (f : Nat → Bool) (a : Nat) : Nat → Nat
  | 0 => 0
  | k + 1 => cnt9 f a k + (if f (a + k) then 1 else 0)
theorem cnt9_le (f : Nat → Bool) (a : Nat) : ∀ k, cnt9 f a k ≤ k
  | 0 => Nat.le_refl _
  | k + 1 => by have := cnt9_le f a k; unfold cnt9; split <;> omega
set_option maxRecDepth 100000 in
set_option maxHeartbeats 400000 in
theorem count9 {W : World} {tb : Nat} {P : List Pt} {o : Option Addr} {c : Nat} (h : TrAt W tb P o c) (hl : P.length ≤ 1000000) (p n : Int) (h0 : 0 ≤ p) (n0 : 0 ≤ n) (h1 : p + n ≤ 34359738368) :
    Calls Tryz.prog 58 #[.pointer (some ⟨tb, 0, none⟩), .int .u64 p, .int .u64 n] W (fun e w' => e = .returned (.tuple #[.int .u64 (cnt9 (fun q => !(state9 P q).2.1) p.toNat n.toNat : Nat), .int .u64 (cnt9 (fun q => (state9 P q).2.2) p.toNat n.toNat : Nat)]) ∧ ∃ k, w' = W.drewN k) := by
  obtain ⟨fu, hfu⟩ : ∃ fu : Nat → Bool, fu = fun q => !(state9 P q).2.1 := ⟨_, rfl⟩
  obtain ⟨fg, hfg⟩ : ∃ fg : Nat → Bool, fg = fun q => (state9 P q).2.2 := ⟨_, rfl⟩
  rw [← hfu, ← hfg]
  have ST := hide (show ∀ (j : Nat) (q : Int), 0 ≤ q → q < 18446744073709551616 → ∃ x, Calls Tryz.prog 12 #[.pointer (some ⟨tb, 0, none⟩), .int .u64 q] (W.drewN j) (StP (W.drewN j) x (!fu q.toNat) (fg q.toNat)) from fun j q q0 q1 => ⟨_, by
    have := st9 (h.drewN j) hl q q0 q1
    rw [hfu, hfg]
    simpa only [Bool.not_not] using this⟩)
  obtain ⟨R, hR⟩ : ∃ R : Ending → World → Prop, R = (fun e w' => e = .returned (.tuple #[.int .u64 (cnt9 fu p.toNat n.toNat : Nat), .int .u64 (cnt9 fg p.toNat n.toNat : Nat)]) ∧ ∃ k, w' = W.drewN k) := ⟨_, rfl⟩
  rw [← hR]
  have FIN := hide (show ∀ (a b : Int) (j : Nat), a = (cnt9 fu p.toNat n.toNat : Nat) → b = (cnt9 fg p.toNat n.toNat : Nat) → R (.returned (.tuple #[.int .u64 a, .int .u64 b])) (W.drewN j) from fun a b j ha hb => by
    rw [hR, ha, hb]; exact ⟨rfl, j, rfl⟩)
  have BU := hide (fun k => cnt9_le fu p.toNat k)
  have BG := hide (fun k => cnt9_le fg p.toNat k)
  clear h hl hR hfu hfg
  go_enter Tryz.func58, Tryz.ntmps58
  go_wp2_with fail
  go_loopw [8, 9, 10] (fun uv gv pv wr => ∃ a b k : Int, uv = .int .u64 a ∧ gv = .int .u64 b ∧ pv = .int .u64 k ∧ p ≤ k ∧ k ≤ p + n ∧ 0 ≤ a ∧ a ≤ k - p ∧ 0 ≤ b ∧ b ≤ k - p ∧ Hid (a = (cnt9 fu p.toNat (k - p).toNat : Nat) ∧ b = (cnt9 fg p.toNat (k - p).toNat : Nat) ∧ ∃ j, wr = W.drewN j)) (fun _ _ pv _ => (p + n - intOf pv).toNat)
  case atStart => exact ⟨0, 0, p, rfl, rfl, rfl, by omega, by omega, by omega, by omega, by omega, by omega, hide ⟨by rw [show (p - p).toNat = 0 by omega]; rfl, by rw [show (p - p).toNat = 0 by omega]; rfl, 0, rfl⟩⟩
  case round =>
    obtain ⟨a, b, k, rfl, rfl, rfl, k0, k1, a0, a1, b0, b1, HI⟩ := hrel
    obtain ⟨ea, eb, j, hw⟩ := HI.out
    subst hw
    by_cases hk : k < p + n
    · obtain ⟨x, cS⟩ := ST.out j k (by omega) (by omega)
      have NX := hide (show ∀ (a' b' : Int) (w' : World) (q : Nat), a' = a + (if fu k.toNat then 1 else 0) → b' = b + (if fg k.toNat then 1 else 0) → w' = (W.drewN j).drewN q → a' = (cnt9 fu p.toNat (k + 1 - p).toNat : Nat) ∧ b' = (cnt9 fg p.toNat (k + 1 - p).toNat : Nat) ∧ ∃ j, w' = W.drewN j from fun a' b' w' q e1 e2 e3 => by
        rw [show (k + 1 - p).toNat = (k - p).toNat + 1 by omega, cnt9, cnt9, show p.toNat + (k - p).toNat = k.toNat by omega, e1, e2, e3, ea, eb]
        refine ⟨?_, ?_, j + q, drewN_add _ _ _⟩
        · split <;> simp
        · split <;> simp)
      clear HI ea eb BU BG FIN ST
      obtain ⟨y, hy⟩ : ∃ y, fu k.toNat = y := ⟨_, rfl⟩
      obtain ⟨z, hz⟩ : ∃ z, fg k.toNat = z := ⟨_, rfl⟩
      rw [hy, hz] at cS NX
      clear hy hz
      generalize W.drewN j = W1 at cS NX ⊢
      go_wp2_with fail
      refine cS.mono ?_
      rintro e w1 ⟨rfl, q, hw1⟩
      have N2 := hide (fun a' b' e1 e2 => NX.out a' b' _ q e1 e2 hw1)
      clear hw1 NX cS
      cases y <;> cases z
      · go_wp2_with fail
        go_roundw
        case rel => exact ⟨a, b, k + 1, by go_num, by go_num, by go_num, by omega, by omega, by omega, by omega, by omega, by omega, hide (N2.out _ _ (by simp) (by simp))⟩
        case measure => simp [intOf]; omega
      · go_wp2_with fail
        go_roundw
        case rel => exact ⟨a, b + 1, k + 1, by go_num, by go_num, by go_num, by omega, by omega, by omega, by omega, by omega, by omega, hide (N2.out _ _ (by simp) (by simp))⟩
        case measure => simp [intOf]; omega
      · go_wp2_with fail
        go_roundw
        case rel => exact ⟨a + 1, b, k + 1, by go_num, by go_num, by go_num, by omega, by omega, by omega, by omega, by omega, by omega, hide (N2.out _ _ (by simp) (by simp))⟩
        case measure => simp [intOf]; omega
      · go_wp2_with fail
        go_roundw
        case rel => exact ⟨a + 1, b + 1, k + 1, by go_num, by go_num, by go_num, by omega, by omega, by omega, by omega, by omega, by omega, hide (N2.out _ _ (by simp) (by simp))⟩
        case measure => simp [intOf]; omega
    · have hd : decide (k < p + n) = false := decide_eq_false hk
      have F := hide (FIN.out a b j (by rw [ea, show (k - p).toNat = n.toNat by omega]) (by rw [eb, show (k - p).toNat = n.toNat by omega]))
      clear HI ea eb BU BG FIN ST hk
      generalize W.drewN j = W1 at F ⊢
      go_wp2_with fail
      exact F.out
end Go.Proofs.YtnclicdnncgdiaaGreatDoor

/- The reference's tree: lies: its contract. -/
namespace Go.Proofs.YtnclicdnncgdiaaGreatDoor
open Go.ChangeShapes Go.WideShapes Go.ChangeAt Go.RowKit Go.Proofs.Bt Go.Shelf
set_option linter.unusedVariables false
set_option linter.unusedSimpArgs false

/-- From place k on the chunks c, c + 1 .. stand beside one another, m of them. -/
def Stand (P : List Pt) (k c m : Nat) : Prop := ∀ i, i < m → ∃ hi : k + i < P.length, P[k + i].n = c + i
/-- A row of pages lies in the tree: 9.2. -/
def Lies9 (P : List Pt) (p n : Nat) : Prop := 0 < n ∧ p < 34359738368 ∧ n ≤ 34359738368 - p ∧ Stand P (pos9 (p / 512) P) (p / 512) ((p + n - 1) / 512 + 1 - p / 512)
set_option maxRecDepth 100000 in
set_option maxHeartbeats 400000 in
theorem lies9 {W : World} {tb : Nat} {P : List Pt} {o : Option Addr} {c : Nat} (h : TrAt W tb P o c) (hl : P.length ≤ 1000000) (p n : Int) (h0 : 0 ≤ p) (n0 : 0 ≤ n) (h1 : p < 18446744073709551616) (n1 : n < 18446744073709551616) :
    Calls Tryz.prog 57 #[.pointer (some ⟨tb, 0, none⟩), .int .u64 p, .int .u64 n] W (fun e w' => (∃ x, e = .returned (.bool x) ∧ (x = true ↔ Lies9 P p.toNat n.toNat)) ∧ ∃ k, w' = W.drewN k) := by
  obtain ⟨R, hR⟩ : ∃ R : Ending → World → Prop, R = (fun e w' => (∃ x, e = .returned (.bool x) ∧ (x = true ↔ Lies9 P p.toNat n.toNat)) ∧ ∃ k, w' = W.drewN k) := ⟨_, rfl⟩
  rw [← hR]
  have YES := hide (show ∀ j : Nat, Lies9 P p.toNat n.toNat → R (.returned (.bool true)) (W.drewN j) from fun j y => by rw [hR]; exact ⟨⟨true, rfl, by simp [y]⟩, j, rfl⟩)
  have NO := hide (show ∀ j : Nat, ¬ Lies9 P p.toNat n.toNat → R (.returned (.bool false)) (W.drewN j) from fun j y => by rw [hR]; exact ⟨⟨false, rfl, by simp [y]⟩, j, rfl⟩)
  clear hR
  by_cases ok : n = 0 ∨ 34359738368 ≤ p ∨ 34359738368 - p < n
  · have F := hide (NO.out 0 (fun ⟨a, b, c, _⟩ => by omega))
    clear YES NO h
    rw [show W.drewN 0 = W from rfl] at F
    by_cases o1 : n = 0
    · subst o1
      go_enter Tryz.func57, Tryz.ntmps57
      go_wp2_with fail
      exact F.out
    · by_cases o2 : 34359738368 ≤ p
      · have d1 : (n == 0) = false := by simpa using o1
        have d2 : decide (34359738368 ≤ p) = true := decide_eq_true o2
        go_enter Tryz.func57, Tryz.ntmps57
        go_wp2_with fail
        exact F.out
      · have d1 : (n == 0) = false := by simpa using o1
        have d2 : decide (34359738368 ≤ p) = false := decide_eq_false o2
        have o3 : 34359738368 - p < n := by omega
        have d3 : decide (34359738368 - p < n) = true := decide_eq_true o3
        go_enter Tryz.func57, Tryz.ntmps57
        go_wp2_with fail
        exact F.out
  · have o1 : ¬ n = 0 := fun z => ok (.inl z)
    have o2 : ¬ 34359738368 ≤ p := fun z => ok (.inr (.inl z))
    have o3 : ¬ 34359738368 - p < n := fun z => ok (.inr (.inr z))
    have d1 : (n == 0) = false := by simpa using o1
    have d2 : decide (34359738368 ≤ p) = false := decide_eq_false o2
    have d3 : decide (34359738368 - p < n) = false := decide_eq_false o3
    have cF := find9 h hl (p / 512) (by omega)
    rw [show (p / 512).toNat = p.toNat / 512 by omega] at cF
    obtain ⟨K, hK⟩ : ∃ K, pos9 (p.toNat / 512) P = K := ⟨_, rfl⟩
    have kl := pos9_le (p.toNat / 512) P
    have HK := hide hK
    rw [hK] at cF kl
    generalize has9 (p.toNat / 512) P = hb at cF
    have HH := hide h
    have c0 := h.cell
    obtain ⟨L, hL⟩ : ∃ L : Nat, P.length = L := ⟨_, rfl⟩
    rw [hL] at c0 kl hl
    have HL := hide hL
    clear h hL hK ok
    have l1 : (L : Int) ≤ 1000000 := by omega
    go_enter Tryz.func57, Tryz.ntmps57
    go_wp2_with fail
    refine cF.mono ?_
    rintro e w1 ⟨rfl, j, hw⟩
    have C1 : w1.cell? ⟨tb, 0, none⟩ = some (.slice o L c) := by rw [hw]; exact c0
    have H1 := hide (show TrAt w1 tb P o c from by rw [hw]; exact HH.out.drewN j)
    have Y1 := hide (YES.out j)
    have N1 := hide (NO.out j)
    rw [← hw] at Y1 N1
    clear cF hw c0 HH YES NO
    obtain ⟨C, hC⟩ : ∃ C : Int, p / 512 = C := ⟨_, rfl⟩
    obtain ⟨E, hE⟩ : ∃ E : Int, (p + n - 1) / 512 = E := ⟨_, rfl⟩
    have e0 : 0 ≤ C := by omega
    have e1 : C ≤ E := by omega
    have e2 : E < 67108864 := by omega
    have q0 : 0 ≤ p + n - 1 := by omega
    have LI := hide (show Lies9 P p.toNat n.toNat ↔ Stand P K C.toNat (E + 1 - C).toNat from by
      unfold Lies9
      rw [HK.out, show p.toNat / 512 = C.toNat by omega, show (p.toNat + n.toNat - 1) / 512 + 1 - C.toNat = (E + 1 - C).toNat by omega]
      constructor
      · exact fun z => z.2.2.2
      · exact fun z => ⟨by omega, by omega, by omega, z⟩)
    go_wp2_with fail
    go_loop [7, 9] (fun av kv => ∃ a k : Int, av = .int .i64 a ∧ kv = .int .u64 k ∧ C ≤ k ∧ k ≤ E + 1 ∧ 0 ≤ a ∧ a ≤ L ∧ Hid (a = K + (k - C)) ∧ Hid (Stand P K C.toNat (k - C).toNat)) (fun _ kv => (E + 1 - intOf kv).toNat)
    case atStart => exact ⟨K, C, rfl, by rw [← hC], by omega, by omega, by omega, by omega, hide (by omega), hide (fun i hi => by omega)⟩
    case round =>
      obtain ⟨a, k, rfl, rfl, k0, k1, a0, a1, AK, HI⟩ := hrel
      by_cases hk : k ≤ E
      · have dk : decide (k ≤ (p + n - 1) / 512) = true := decide_eq_true (by omega)
        by_cases ha : a < L
        · obtain ⟨b, rfl, hc⟩ := H1.out.at (by have := HL.out; omega)
          have hi : a.toNat < P.length := by have := HL.out; omega
          have da : decide ((L : Int) ≤ a) = false := decide_eq_false (by omega)
          obtain ⟨x0, x1⟩ := hc a.toNat hi
          obtain ⟨N, hN⟩ : ∃ N : Nat, P[a.toNat].n = N := ⟨_, rfl⟩
          rw [hN] at x0
          obtain ⟨NI, hNI⟩ : ∃ NI : Int, (N : Int) = NI := ⟨_, rfl⟩
          rw [hNI] at x0
          by_cases hn : NI = k
          · have I2 := hide (show Stand P K C.toNat (k + 1 - C).toNat from fun i hi' => by
              by_cases z : i < (k - C).toNat
              · exact HI.out i z
              · have : K + i = a.toNat := by have := AK.out; omega
                refine ⟨by omega, ?_⟩
                simp only [this, hN]
                omega)
            rw [hn] at x0
            have A2 := hide (show a + 1 = K + (k + 1 - C) from by have := AK.out; omega)
            clear hc x1 HI hN hNI hi Y1 N1 LI H1 hn AK
            go_wp2_with fail
            refine ⟨⟨a + 1, k + 1, rfl, rfl, by omega, by omega, by omega, by omega, A2, I2⟩, ?_⟩
            simp [intOf]; omega
          · have F := hide (N1.out (fun z => by
              obtain ⟨hj, e⟩ := LI.out.1 z (k - C).toNat (by omega)
              have : K + (k - C).toNat = a.toNat := by have := AK.out; omega
              simp only [this, hN] at e
              omega))
            have dn : (NI == k) = false := by simpa using hn
            clear hc x1 HI hN hNI hi Y1 N1 LI H1 hn AK
            go_wp2_with fail
            exact F.out
        · have F := hide (N1.out (fun z => by
            obtain ⟨hj, e⟩ := LI.out.1 z (k - C).toNat (by omega)
            have := HL.out
            have := AK.out
            omega))
          have da : decide ((L : Int) ≤ a) = true := decide_eq_true (by omega)
          clear HI Y1 N1 LI H1
          go_wp2_with fail
          exact F.out
      · have F := hide (Y1.out (LI.out.2 (by rw [show E + 1 - C = k - C by omega]; exact HI.out)))
        have dk : decide (k ≤ (p + n - 1) / 512) = false := decide_eq_false (by omega)
        clear HI Y1 N1 LI H1
        go_wp2_with fail
        exact F.out
end Go.Proofs.YtnclicdnncgdiaaGreatDoor

/- The tree of rows, as plain functions: what is kept of it, and when that is right: no Go in sight. -/
namespace Go.Proofs.Rx
open Go.Proofs.Bt Go.Proofs.Pk

abbrev Lv := Nat → Nat → Option Rw
abbrev Ch := Nat → Option (Nat × (Nat → Nat))
/-- A row, below one that has such a rest. -/
def row (L : Lv) (d i rest : Nat) : Rw := (L d i).getD (even d rest)
/-- What is told of a row is so. -/
def Fact (st : Nat → Nat) (d i : Nat) (r : Rw) : Prop := r.t = tl st (i * sz d) (sz d) ∧ (0 < d → Su st (i * sz d) (sz d) r) ∧ r.rest ≤ 3
/-- A row and all below it are right. -/
def Good (L : Lv) (C : Ch) (st : Nat → Nat) : Nat → Nat → Nat → Rw → Prop
  | 0, d, i, r => Fact st d i r ∧ (∀ s, al r.t (sz d) = some s → r = even d s ∧ C i = none) ∧ (al r.t (sz d) = none → ∃ b c, C i = some (b, c) ∧ ∀ k, k < 512 → c k = st (512 * i + k))
  | n + 1, d, i, r => Fact st d i r ∧ (∀ s, al r.t (sz d) = some s → r = even d s ∧ ∀ k, k < fan d → L (d + 1) (fan d * i + k) = none) ∧ ∀ k, k < fan d → Good L C st n (d + 1) (fan d * i + k) (row L (d + 1) (fan d * i + k) r.rest)
theorem Good.fact {L : Lv} {C : Ch} {st : Nat → Nat} {n d i : Nat} {r : Rw} (h : Good L C st n d i r) : Fact st d i r := by
  cases n <;> exact h.1
theorem Good.even {L : Lv} {C : Ch} {st : Nat → Nat} {n d i : Nat} {r : Rw} (h : Good L C st n d i r) {s : Nat} (hs : al r.t (sz d) = some s) : r = even d s := by
  cases n
  · exact (h.2.1 s hs).1
  · exact (h.2.1 s hs).1
theorem Good.kid {L : Lv} {C : Ch} {st : Nat → Nat} {n d i : Nat} {r : Rw} (h : Good L C st (n + 1) d i r) {k : Nat} (h0 : fan d * i ≤ k) (h1 : k < fan d * (i + 1)) : Good L C st n (d + 1) k (row L (d + 1) k r.rest) := by
  have e : fan d * (i + 1) = fan d * i + fan d := Nat.mul_succ _ _
  have := h.2.2 (k - fan d * i) (by omega)
  rwa [show fan d * i + (k - fan d * i) = k by omega] at this
theorem Good.chunk {L : Lv} {C : Ch} {st : Nat → Nat} {d i : Nat} {r : Rw} (h : Good L C st 0 d i r) (ha : al r.t (sz d) = none) : ∃ b c, C i = some (b, c) ∧ ∀ k, k < 512 → c k = st (512 * i + k) := h.2.2 ha
theorem Good.all {L : Lv} {C : Ch} {st : Nat → Nat} (h4 : Four st) {n d i : Nat} {r : Rw} (h : Good L C st n d i r) {s : Nat} (hs : al r.t (sz d) = some s) : All st (i * sz d) (sz d) s := by
  obtain ⟨h1, h2⟩ := al_some hs
  exact all_of_tl h4 h1 (by rw [← h.fact.1]; exact h2)
/-- The row lies in a span. -/
def Ins (a b d i : Nat) : Prop := a ≤ i * sz d ∧ (i + 1) * sz d ≤ b
theorem kid_ins {d i k : Nat} (hd : d < 6) (h0 : fan d * i ≤ k) (h1 : k < fan d * (i + 1)) : Ins (i * sz d) ((i + 1) * sz d) (d + 1) k := by
  have e := sz_fan d hd
  unfold Ins
  rw [e]
  constructor
  · rw [← Nat.mul_assoc, Nat.mul_comm i]; exact Nat.mul_le_mul_right _ h0
  · rw [← Nat.mul_assoc, Nat.mul_comm (i + 1)]; exact Nat.mul_le_mul_right _ h1
/-- Both trees are the same below a depth, within a span. -/
structure Agree (D a b : Nat) (L L' : Lv) (C C' : Ch) (st st' : Nat → Nat) : Prop where
  lv : ∀ d i, D < d → Ins a b d i → L d i = L' d i
  ch : ∀ i, Ins a b 6 i → C i = C' i
  st : ∀ q, a ≤ q → q < b → st q = st' q
theorem Agree.sub {D a b : Nat} {L L' : Lv} {C C' : Ch} {st st' : Nat → Nat} (h : Agree D a b L L' C C' st st') {D' a' b' : Nat} (hD : D ≤ D') (ha : a ≤ a') (hb : b' ≤ b) : Agree D' a' b' L L' C C' st st' :=
  ⟨fun d i hd hi => h.lv d i (by omega) ⟨Nat.le_trans ha hi.1, Nat.le_trans hi.2 hb⟩, fun i hi => h.ch i ⟨Nat.le_trans ha hi.1, Nat.le_trans hi.2 hb⟩, fun q h1 h2 => h.st q (by omega) (by omega)⟩
theorem Fact.congr {st st' : Nat → Nat} {d i : Nat} {r : Rw} (h : Fact st d i r) (hs : ∀ q, i * sz d ≤ q → q < (i + 1) * sz d → st q = st' q) : Fact st' d i r := by
  have e : (i + 1) * sz d = i * sz d + sz d := Nat.succ_mul _ _
  refine ⟨h.1.trans (tl_congr fun q h1 h2 => hs q h1 (by omega)), fun hd => ?_, h.2.2⟩
  exact sumN_congr (h.2.1 hd) fun k hk => by unfold bsy fre; rw [hs _ (by omega) (by omega)]
theorem Good.congr {L L' : Lv} {C C' : Ch} {st st' : Nat → Nat} : ∀ {n d i : Nat} {r : Rw}, n + d = 6 → Good L C st n d i r → Agree d (i * sz d) ((i + 1) * sz d) L L' C C' st st' → Good L' C' st' n d i r
  | 0, d, i, r, hn, h, g => by
    obtain rfl : d = 6 := by omega
    have ec : C' i = C i := (g.ch i ⟨Nat.le_refl _, Nat.le_refl _⟩).symm
    refine ⟨h.1.congr g.st, fun s hs => ⟨(h.2.1 s hs).1, by rw [ec]; exact (h.2.1 s hs).2⟩, fun ha => ?_⟩
    obtain ⟨b, c, e1, e2⟩ := h.2.2 ha
    refine ⟨b, c, ec.trans e1, fun k hk => (e2 k hk).trans ?_⟩
    have e : sz 6 = 512 := rfl
    exact g.st _ (by rw [e]; omega) (by rw [e]; omega)
  | n + 1, d, i, r, hn, h, g => by
    have hk : ∀ k, k < fan d → L (d + 1) (fan d * i + k) = L' (d + 1) (fan d * i + k) := fun k hk => g.lv _ _ (by omega) (kid_ins (by omega) (by omega) (by rw [Nat.mul_succ]; omega))
    refine ⟨h.1.congr g.st, fun s hs => ⟨(h.2.1 s hs).1, fun k hk' => by rw [← hk k hk']; exact (h.2.1 s hs).2 k hk'⟩, fun k hk' => ?_⟩
    have := h.2.2 k hk'
    have e : row L (d + 1) (fan d * i + k) r.rest = row L' (d + 1) (fan d * i + k) r.rest := by unfold row; rw [hk k hk']
    rw [← e]
    have hi := kid_ins (d := d) (i := i) (k := fan d * i + k) (by omega) (by omega) (by rw [Nat.mul_succ]; omega)
    exact Good.congr (by omega) this (g.sub (by omega) hi.1 hi.2)
/-- Nothing is kept below a row. -/
def Bare (D a b : Nat) (L : Lv) (C : Ch) : Prop := (∀ d i, D < d → d ≤ 6 → Ins a b d i → L d i = none) ∧ ∀ i, Ins a b 6 i → C i = none
theorem Bare.sub {D a b : Nat} {L : Lv} {C : Ch} (h : Bare D a b L C) {D' a' b' : Nat} (hD : D ≤ D') (ha : a ≤ a') (hb : b' ≤ b) : Bare D' a' b' L C :=
  ⟨fun d i hd h6 hi => h.1 d i (by omega) h6 ⟨Nat.le_trans ha hi.1, Nat.le_trans hi.2 hb⟩, fun i hi => h.2 i ⟨Nat.le_trans ha hi.1, Nat.le_trans hi.2 hb⟩⟩
theorem even_fact {st : Nat → Nat} {d i s : Nat} (hs : s ≤ 3) (h : All st (i * sz d) (sz d) s) : Fact st d i (even d s) := ⟨h.tl.symm, fun _ => even_su h, hs⟩
theorem al_even {d s : Nat} (hs : s ≤ 3) : al (even d s).t (sz d) = some s := al_of (sz_pos d) hs
theorem All.sub {st : Nat → Nat} {a n s a' n' : Nat} (h : All st a n s) (h1 : a ≤ a') (h2 : a' + n' ≤ a + n) : All st a' n' s := fun q q1 q2 => h q (by omega) (by omega)
theorem Good.of_even {L : Lv} {C : Ch} {st : Nat → Nat} {s : Nat} (hs : s ≤ 3) : ∀ {n d i : Nat}, n + d = 6 → All st (i * sz d) (sz d) s → Bare d (i * sz d) ((i + 1) * sz d) L C → Good L C st n d i (Rx.even d s)
  | 0, d, i, hn, ha, hb => by
    obtain rfl : d = 6 := by omega
    refine ⟨even_fact hs ha, fun s' h' => ?_, fun h' => ?_⟩
    · rw [al_even hs] at h'
      cases h'
      exact ⟨rfl, hb.2 i ⟨Nat.le_refl _, Nat.le_refl _⟩⟩
    · rw [al_even hs] at h'; cases h'
  | n + 1, d, i, hn, ha, hb => by
    have hi : ∀ k, k < fan d → Ins (i * sz d) ((i + 1) * sz d) (d + 1) (fan d * i + k) := fun k hk => kid_ins (by omega) (by omega) (by rw [Nat.mul_succ]; omega)
    have hl : ∀ k, k < fan d → L (d + 1) (fan d * i + k) = none := fun k hk => hb.1 _ _ (by omega) (by omega) (hi k hk)
    refine ⟨even_fact hs ha, fun s' h' => ?_, fun k hk => ?_⟩
    · rw [al_even hs] at h'
      cases h'
      exact ⟨rfl, hl⟩
    · have e : row L (d + 1) (fan d * i + k) (Rx.even d s).rest = Rx.even (d + 1) s := by unfold row; rw [hl k hk]; rfl
      rw [e]
      have h2 := hi k hk
      have e1 : (i + 1) * sz d = i * sz d + sz d := Nat.succ_mul _ _
      have e2 : (fan d * i + k + 1) * sz (d + 1) = (fan d * i + k) * sz (d + 1) + sz (d + 1) := Nat.succ_mul _ _
      unfold Ins at h2
      exact Good.of_even hs (by omega) (ha.sub h2.1 (by omega)) (hb.sub (by omega) h2.1 h2.2)
/-- A row that is alike has nothing kept below it. -/
theorem Good.bare {L : Lv} {C : Ch} {st : Nat → Nat} : ∀ {n d i : Nat} {r : Rw}, n + d = 6 → Good L C st n d i r → ∀ {s}, al r.t (sz d) = some s → Bare d (i * sz d) ((i + 1) * sz d) L C
  | 0, d, i, r, hn, h, s, hs => by
    obtain rfl : d = 6 := by omega
    have e : sz 6 = 512 := rfl
    refine ⟨fun d' j hd h6 _ => by omega, fun j hj => ?_⟩
    unfold Ins at hj
    rw [e] at hj
    obtain rfl : j = i := by omega
    exact (h.2.1 s hs).2
  | n + 1, d, i, r, hn, h, s, hs => by
    obtain ⟨e0, hl⟩ := h.2.1 s hs
    have hs3 := (al_some hs).1
    have kb : ∀ k, k < fan d → Bare (d + 1) ((fan d * i + k) * sz (d + 1)) ((fan d * i + k + 1) * sz (d + 1)) L C := fun k hk => by
      have h1 := h.2.2 k hk
      have e : row L (d + 1) (fan d * i + k) r.rest = Rx.even (d + 1) s := by unfold row; rw [hl k hk, e0]; rfl
      rw [e] at h1
      exact Good.bare (by omega) h1 (al_even hs3)
    -- which child a row below lies in
    have hf : ∀ d' j, d < d' → d' ≤ 6 → Ins (i * sz d) ((i + 1) * sz d) d' j → ∃ k, k < fan d ∧ Ins ((fan d * i + k) * sz (d + 1)) ((fan d * i + k + 1) * sz (d + 1)) d' j := fun d' j hd h6 hj => by
      obtain ⟨m, hm⟩ : ∃ m, sz (d + 1) = m * sz d' := by
        have : ∀ x y, x ≤ 6 → y ≤ 6 → x ≤ y → ∃ m, sz x = m * sz y := fun x y hx hy => by
          have hx' := sz_pow x hx
          have hy' := sz_pow y hy
          intro hxy
          have hsh : sh y ≤ sh x := by
            have : ∀ x, x ≤ 6 → ∀ y, y ≤ 6 → x ≤ y → sh y ≤ sh x := by decide
            exact this x hx y hy hxy
          exact ⟨2 ^ (sh x - sh y), by rw [hx', hy', ← Nat.pow_add]; congr 1; omega⟩
        exact this (d + 1) d' (by omega) h6 (by omega)
      have mp : 0 < m := by
        rcases Nat.eq_zero_or_pos m with z | z
        · rw [z, Nat.zero_mul] at hm; have := sz_pos (d + 1); omega
        · exact z
      have zp := sz_pos d'
      have e1 := sz_fan d (by omega)
      unfold Ins at hj ⊢
      rw [e1, hm] at hj
      rw [hm]
      have a1 : i * (fan d * m) ≤ j := by
        have := hj.1
        rw [show i * (fan d * (m * sz d')) = i * (fan d * m) * sz d' by simp only [Nat.mul_assoc]] at this
        exact Nat.le_of_mul_le_mul_right this zp
      have a2 : j + 1 ≤ (i + 1) * (fan d * m) := by
        have := hj.2
        rw [show (i + 1) * (fan d * (m * sz d')) = (i + 1) * (fan d * m) * sz d' by simp only [Nat.mul_assoc]] at this
        exact Nat.le_of_mul_le_mul_right this zp
      have q0 : fan d * i ≤ j / m := (Nat.le_div_iff_mul_le mp).2 (by rw [show fan d * i * m = i * (fan d * m) by rw [Nat.mul_comm (fan d), Nat.mul_assoc]]; exact a1)
      have q1 : j / m < fan d * i + fan d := by
        rw [Nat.div_lt_iff_lt_mul mp]
        rw [show (fan d * i + fan d) * m = (i + 1) * (fan d * m) by rw [← Nat.mul_succ, Nat.mul_comm (fan d), Nat.mul_assoc]]
        omega
      refine ⟨j / m - fan d * i, by omega, ?_⟩
      rw [show fan d * i + (j / m - fan d * i) = j / m by omega]
      constructor
      · rw [← Nat.mul_assoc]; exact Nat.mul_le_mul_right _ (Nat.div_mul_le_self j m)
      · rw [← Nat.mul_assoc]; exact Nat.mul_le_mul_right _ (by
          have := Nat.lt_div_mul_add (a := j) mp
          rw [Nat.succ_mul]; omega)
    refine ⟨fun d' j hd h6 hj => ?_, fun j hj => ?_⟩
    · obtain ⟨k, k1, k2⟩ := hf d' j hd h6 hj
      by_cases z : d' = d + 1
      · subst z
        have zp := sz_pos (d + 1)
        unfold Ins at k2
        have b1 := Nat.le_of_mul_le_mul_right k2.1 zp
        have b2 := Nat.le_of_mul_le_mul_right k2.2 zp
        have : j = fan d * i + k := by omega
        rw [this]; exact hl k k1
      · exact (kb k k1).1 d' j (by omega) h6 k2
    · obtain ⟨k, k1, k2⟩ := hf 6 j (by omega) (by omega) hj
      exact (kb k k1).2 j k2
end Go.Proofs.Rx
