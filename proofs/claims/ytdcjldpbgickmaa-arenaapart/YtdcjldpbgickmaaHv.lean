/- act, whatever is done; heavy: contracts. -/
import Derived.Test.YtdcjldpbgickmaaAd
import Derived.Test.YtdcjldpbgickmaaAe
namespace Go.Proofs.Ytdcjldpbgickmaa
open Go.ChangeShapes Go.WideShapes Go.ChangeAt Go.RowKit Go.Shelf Go.Proofs.Rx Go.Maps
set_option linter.unusedVariables false
set_option linter.unusedSimpArgs false

attribute [local go_sem] Oper.semAt_some

/-- How many pages an act may set. -/
def csx (x : ActV) : Nat := if x.what = 2 then cst x.n else 0
theorem act_any {N : Nat} {w : World} {mb xb : Nat} {F : Nat → Prop} {a b : Nat} (h : PX N w mb xb F a b) (hN : N ≤ w.heap.size) (ha : a < 1000) (x : ActV) (hx : x.Ok) (hb : b + csx x ≤ 90000) :
    Calls Try.prog 10 #[.pointer (some ⟨mb, 0, none⟩), .pointer (some ⟨xb, 0, none⟩), actV x] w fun e W' => e = .returned (.bool true) ∧ ∃ F', PX N W' mb xb F' (a + 1) (b + csx x) ∧ To w W' F F' := by
  by_cases h2 : x.what = 2
  · have e : csx x = cst x.n := by unfold csx; rw [if_pos h2]
    rw [e] at hb ⊢
    exact act_2 h hN ha x h2 hx hb
  · have e : csx x = 0 := by unfold csx; rw [if_neg h2]
    rw [e] at hb ⊢
    rw [Nat.add_zero] at hb ⊢
    by_cases h1 : x.what = 1
    · exact act_1 h hN ha x h1 hx
    · by_cases h3 : x.what = 3
      · exact act_3 h hN ha x h3 hx hb
      · by_cases h4 : x.what = 4
        · exact act_4 h hN ha x h4
        · exact act_0 h hN ha x h1 h2 h3 h4 hx
def gsum (X : Nat → ActV) : Nat → Nat
  | 0 => 0
  | i + 1 => gsum X i + csx (X i)
theorem gsum_mono (X : Nat → ActV) : ∀ {i j : Nat}, i ≤ j → gsum X i ≤ gsum X j := by
  intro i j h
  induction h with
  | refl => exact Nat.le_refl _
  | step _ ih => exact Nat.le_trans ih (Nat.le_add_right _ _)
/-- What heavy answers. -/
def HeavyR (W : World) (len : Nat) (X : Nat → ActV) (e : Ending) (w' : World) : Prop := (e = .returned (.bool true) ∨ (e = .returned (.bool false) ∧ len ≤ 200 ∧ gsum X len ≤ 20000)) ∧ w' = W
set_option maxRecDepth 100000 in
set_option maxHeartbeats 1000000 in
theorem heavy_any (W : World) (o : Option Addr) (len cap : Nat) (X : Nat → ActV) (h : ActsAt W o len cap X) (hlen : len ≤ maxLen) :
    Calls Try.prog 7 #[.slice o len cap] W (HeavyR W len X) := by
  obtain ⟨R, hR⟩ : ∃ R, R = HeavyR W len X := ⟨_, rfl⟩
  rw [← hR]
  have YES := hide (show R (.returned (.bool true)) W from by rw [hR]; exact ⟨.inl rfl, rfl⟩)
  have NO := hide (show len ≤ 200 → gsum X len ≤ 20000 → R (.returned (.bool false)) W from fun h1 h2 => by rw [hR]; exact ⟨.inr ⟨rfl, h1, h2⟩, rfl⟩)
  have HH := hide h
  have hl' : (len : Int) < 9223372036854775808 := by unfold maxLen at hlen; omega
  clear hR h hlen
  go_enter Try.func7, Try.ntmps7
  go_wp2_with fail
  go_loopw [3, 4] (fun nv iv X' => X' = W ∧ ∃ (n i : Nat), nv = .int .u64 (n : Nat) ∧ iv = .int .i64 (i : Nat) ∧ i ≤ len ∧ n ≤ 20000 ∧ Hid (n = gsum X i)) (fun _ iv _ => len - (zi iv).toNat)
  case atStart => exact ⟨rfl, 0, 0, rfl, rfl, by omega, by omega, hide rfl⟩
  case round =>
    obtain ⟨hX, n, i, rfl, rfl, i1, n1, HN⟩ := hrel
    rw [hX]
    clear hX
    by_cases c : i < len
    · have d : decide ((i : Int) < (len : Int)) = true := decide_eq_true (by omega)
      obtain ⟨b, off, rfl, hb, hcl⟩ := HH.out.at c
      obtain ⟨d0, d1, d2, d3⟩ := hcl i c
      have ok := HH.out.ok i
      have GS := hide (show gsum X (i + 1) = gsum X i + csx (X i) from rfl)
      have i9 : (i : Int) < 9223372036854775808 := by omega
      have pw : IntKind.i64.wrap ((i : Int) + 1) = (i : Int) + 1 := by rw [IntKind.wrap_i64]; omega
      unfold csx cst at GS
      obtain ⟨a, ha⟩ : ∃ a, (X i).what = a := ⟨_, rfl⟩
      obtain ⟨y, hy⟩ : ∃ y, (X i).n = y := ⟨_, rfl⟩
      have c1 := ok.q1
      rw [ha] at d0 GS
      rw [hy] at d2 GS c1
      clear hcl hb d1 d3 ok ha hy
      by_cases a1 : a = 2
      · subst a1
        rw [if_pos rfl] at GS
        by_cases h2 : y < 1099511627776
        · have e2 : decide ((y : Int) < 1099511627776) = true := decide_eq_true (by omega)
          rw [if_pos h2] at GS
          have e1 : n + y = gsum X (i + 1) := by rw [GS.out, HN.out]
          have pn : IntKind.u64.wrap ((n : Int) + (y : Int)) = ((n + y : Nat) : Int) := by rw [IntKind.wrap_u64]; omega
          obtain ⟨z, hz⟩ : ∃ z, n + y = z := ⟨_, rfl⟩
          rw [hz] at pn e1
          by_cases h4 : 20000 < z
          · have e4 : decide ((20000 : Int) < (z : Int)) = true := decide_eq_true (by omega)
            clear GS NO HN hz e1 h4
            generalize (z : Int) = Z at *
            go_wp2_with fail
            first | exact YES.out | (go_ret; exact YES.out)
          · have e4 : decide ((20000 : Int) < (z : Int)) = false := decide_eq_false (by omega)
            have N2 := hide e1
            have h5 := hide h4
            clear GS HN hz e1 h4
            go_wp2_with fail
            have h4 := h5.out
            exact ⟨⟨trivial, z, i + 1, by rfl, by push_cast; rfl, by omega, by omega, N2⟩, by simp [zi]; omega⟩
        · have e2 : decide ((y : Int) < 1099511627776) = false := decide_eq_false (by omega)
          have e4 : decide ((20000 : Int) < (n : Int)) = false := decide_eq_false (by omega)
          rw [if_neg h2] at GS
          have N2 := hide (show n = gsum X (i + 1) from by rw [GS.out, HN.out]; rfl)
          clear GS HN
          go_wp2_with fail
          exact ⟨⟨trivial, n, i + 1, by rfl, by push_cast; rfl, by omega, by omega, N2⟩, by simp [zi]; omega⟩
      · have e3 : (a == 2) = false := beq_eq_false_iff_ne.2 a1
        have e4 : decide ((20000 : Int) < (n : Int)) = false := decide_eq_false (by omega)
        rw [if_neg a1] at GS
        have N2 := hide (show n = gsum X (i + 1) from by rw [GS.out, HN.out]; rfl)
        clear GS HN a1
        go_wp2_with fail
        exact ⟨⟨trivial, n, i + 1, by rfl, by push_cast; rfl, by omega, by omega, N2⟩, by simp [zi]; omega⟩
    · have d : decide ((i : Int) < (len : Int)) = false := decide_eq_false (by omega)
      have e0 : i = len := by omega
      by_cases h5 : 200 < len
      · have e5 : decide ((200 : Int) < (len : Int)) = true := decide_eq_true (by omega)
        clear e0
        go_wp2_with fail
        first | exact YES.out | (go_ret; exact YES.out)
      · have e5 : decide ((200 : Int) < (len : Int)) = false := decide_eq_false (by omega)
        have F := hide (NO.out (by omega) (by rw [← e0, ← HN.out]; exact n1))
        clear e0
        go_wp2_with fail
        first | exact F.out | (go_ret; exact F.out)
end Go.Proofs.Ytdcjldpbgickmaa
