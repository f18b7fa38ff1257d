/- VmemRefused, over the face. -/
import Derived.Test.YtpceigglilgelabAwake
namespace Go.Proofs.Ytpceigglilgelab
open Go.ChangeShapes Go.WideShapes Go.ChangeAt Go.RowKit Go.Proofs.Sp

theorem infoB : (Try.prog.info? 4).map (fun i => (i.zero, i.size, i.bytes)) = some (some (.bool false), 1, 1) := by kernel_rfl
theorem own_one (w : World) (e : TypeId) (x : Value) : (w.alloc (.cells #[x] e)).ownsRow w.heap.size e 1 (.slice (some ⟨w.heap.size, 0, none⟩) 1 1) 1 [x] :=
  ⟨by simp, Or.inr ⟨w.heap.size, 1, #[x], rfl, Nat.le_refl _, by show (w.heap.push _)[w.heap.size]? = _; simp, Nat.le_refl _, by decide, by simp, by simp⟩⟩
theorem bools_snoc (i : Nat) : bools (false :: List.replicate i true) ++ [.bool true] = bools (false :: List.replicate (i + 1) true) := by
  unfold bools
  simp [List.replicate_succ']
theorem one_at (w : World) (x : Value) (e : TypeId) : ∀ j u, [x][j]? = some u → (w.alloc (.cells #[x] e)).cell? ((⟨w.heap.size, 0, none⟩ : Addr).add j) = some u := by
  intro j u hu
  match j, hu with
  | 0, hu => simp at hu; subst hu; simp [Addr.add]

set_option maxRecDepth 100000 in
theorem refusal_core {I : Inv} (Fc : Face vm I) (p n : Int) (hp : 1 ≤ p) (hp' : p ≤ 500) (hn : 0 ≤ n) (hn' : n ≤ 20) (w : World) :
    Calls Try.prog 3 #[.int .u64 p, .int .i64 n] w fun e w' => e = .returned (.bool true) ∧ Below w.heap.size w w' := by
  obtain ⟨i0, hi, hz0, hz1, hz2⟩ := info_parts infoB
  go_enter Try.func3, Try.ntmps3
  go_wp2_with fail
  go_loopw [5, 6] (fun v i wr => ∃ k : Nat, (k : Int) ≤ n ∧ i = .int .i64 (k : Int) ∧ wr.ownsRow w.heap.size 4 1 v (k + 1) (bools (false :: List.replicate k true)) ∧ v ≠ .slice none 0 0 ∧ Below w.heap.size w wr) (fun _ i _ => (n - intOf i).toNat)
  case atStart => exact ⟨0, by omega, rfl, own_one w 4 _, by simp, (Below.refl _ _).alloc (Nat.le_refl _) _⟩
  case round =>
    obtain ⟨k, hk, rfl, hown, hnn, hbel⟩ := hrel
    have hsz := hbel.size
    by_cases hlt : (k : Int) < n
    · go_wp2_with (first | (at_builtin; refine wpList_append_own _ rfl (.tmp 33) (.tmp 34) 23 rfl w.heap.size 4 i0 (.bool false) 1 1 Try.underlying23 hi hz0 hz1 hz2 rfl (by decide) _ (k + 1) (bools (false :: List.replicate k true)) rfl (hown.alloc _) ⟨wr.heap.size, 0, none⟩ 1 1 [.bool true] rfl rfl (one_at wr _ _) (by simp [Value.oneCell']) (by unfold maxLen; omega) (by omega) (by simp; omega) ?_; intro v' w1 hown' hgrow hnil))
      have bel : Below w.heap.size w w1 := (hbel.alloc hsz _).grown hgrow (by simp; omega) (by intro q hq; exact (hown.lt q hq).1)
      rw [bools_snoc] at hown'
      have hnn' : v' ≠ .slice none 0 0 := fun h => hnn (hnil.1 h).1
      clear hgrow hnil hown hbel hnn
      go_wp2_with fail
      go_roundw
      case rel => exact ⟨k + 1, by omega, by go_num, hown', hnn', bel⟩
      case measure => simp [intOf]; omega
    · obtain ⟨g, cp, rfl⟩ := own_shape hown hnn
      have hsl := Sl.of_owns hown
      clear hown hnn
      go_wp2_with fail
      go_at_call 5
      refine (Fc.jnew (w0 := w) _ _ _ _ [] (false :: List.replicate k true) [] (Sl.nil _) hsl (Sl.nil _) (by simp) (by simp) (by decide) (by simp; omega) (by decide) hbel).mono ?_
      rintro e w2 ⟨m, rfl, j1⟩
      obtain ⟨S1, e1, b1⟩ := reserve_new (false :: List.replicate k true) [] rfl
      have E1 : Hid _ := e1
      have B1 : Hid (Base S1 (List.replicate k true) [] 0 2) := b1
      clear hsl e1 b1
      go_wp2_with fail
      go_at_call 6
      refine (Fc.jreserve (a := 0) (b := 512) (by exact E1.out) j1 (by unfold two64; omega) (by unfold two64; omega) (by decide)).mono ?_
      rintro e w3 ⟨rfl, j2⟩
      obtain ⟨K, hK, j2⟩ : ∃ K, K ≤ 1000 ∧ J I w m w3 S1 K := ⟨_, by unfold cost; simp, j2⟩
      clear j1 E1
      go_wp2_with fail
      go_loopw [10] (fun i wr => ∃ (a c K : Nat) (S : Sp), a + c = k ∧ K ≤ 1000 + a ∧ i = .int .i64 (a : Int) ∧ Hid (Base S (List.replicate c true) [] 0 2) ∧ J I w m wr S K) (fun i _ => (n - intOf i).toNat)
      case atStart => exact ⟨0, k, K, S1, by omega, by omega, rfl, B1, j2⟩
      case round =>
        obtain ⟨a, c, K', S, hac, hK', rfl, hB, jr⟩ := hrel
        clear j2
        by_cases hla : (a : Int) < n
        · obtain ⟨c, rfl⟩ : ∃ d, c = d + 1 := ⟨c - 1, by omega⟩
          obtain ⟨f1, f2, f3⟩ := base_refused (n := p.toNat) hB.out (by omega) (by omega)
          have c1 := (base_count f3 (by decide) (by decide)).2
          have c2 := (base_count f3 (by decide) (by decide)).1
          have F1 : Hid _ := f1
          have F2 : Hid _ := f2
          have F3 : Hid _ := f3
          have C1 : Hid _ := c1
          have C2 : Hid _ := c2
          clear f1 f2 f3 c1 c2 hB
          by_cases hpar : (a : Int) % 2 = 0
          · have hpar' : ((a : Int) % 2 == 0) = true := by simpa using hpar
            go_wp2_with fail
            go_at_call 7
            refine (Fc.jcommit (a := 512) (b := p) F1.out jr (by unfold two64; omega) (by unfold two64; omega) (by unfold lim; omega)).mono ?_
            rintro e w4 ⟨rfl, j4⟩
            go_wp2_with fail
            go_at_call 8
            refine (Fc.jcount (k := 1) C1.out j4 (by omega) (by omega) (by unfold cost lim; simp; omega)).mono ?_
            rintro e w5 ⟨rfl, j5⟩
            go_wp2_with fail
            go_at_call 8
            refine (Fc.jcount (k := 2) C2.out j5 (by omega) (by omega) (by unfold cost lim; simp; omega)).mono ?_
            rintro e w6 ⟨rfl, j6⟩
            go_wp2_with fail
            go_roundw
            case rel => exact ⟨a + 1, c, _, takeRefuse S, by omega, by unfold cost; simp; omega, by go_num, F3, j6⟩
            case measure => simp [intOf]; omega
          · have hpar' : ((a : Int) % 2 == 0) = false := by simpa using hpar
            go_wp2_with fail
            go_at_call 6
            refine (Fc.jreserve (a := 0) (b := 512) (by exact F2.out) jr (by unfold two64; omega) (by unfold two64; omega) (by unfold lim; omega)).mono ?_
            rintro e w4 ⟨rfl, j4⟩
            go_wp2_with fail
            go_at_call 8
            refine (Fc.jcount (k := 1) C1.out j4 (by omega) (by omega) (by unfold cost lim; simp; omega)).mono ?_
            rintro e w5 ⟨rfl, j5⟩
            go_wp2_with fail
            go_at_call 8
            refine (Fc.jcount (k := 2) C2.out j5 (by omega) (by omega) (by unfold cost lim; simp; omega)).mono ?_
            rintro e w6 ⟨rfl, j6⟩
            go_wp2_with fail
            go_roundw
            case rel => exact ⟨a + 1, c, _, takeRefuse S, by omega, by unfold cost; simp; omega, by go_num, F3, j6⟩
            case measure => simp [intOf]; omega
        · obtain rfl : c = 0 := by omega
          obtain ⟨T, e1, b1, _⟩ := base_commit (n := p.toNat) hB.out (by omega) (by omega) rfl
          have e2 := base_ready b1 (by omega) (by omega)
          have e3 : countS T 2 = p.toNat := (base_count b1 (by omega) (by decide)).1
          have E1 : Hid _ := e1
          have E2 : Hid _ := e2
          have E3 : Hid _ := e3
          clear e1 e2 e3 b1 hB
          go_wp2_with fail
          go_at_call 7
          refine (Fc.jcommit (a := 512) (b := p) E1.out jr (by unfold two64; omega) (by unfold two64; omega) (by unfold lim; omega)).mono ?_
          rintro e w4 ⟨rfl, j4⟩
          go_wp2_with fail
          go_at_call 8
          refine (Fc.jcount (k := 2) E3.out j4 (by omega) (by omega) (by unfold cost lim; simp; omega)).mono ?_
          rintro e w5 ⟨rfl, j5⟩
          have ec : ((p.toNat : Nat) : Int) = p := by omega
          rw [ec]
          clear ec
          go_wp2_with fail
          go_at_call 7
          refine (Fc.jcommit (a := 512) (b := p) E2.out j5 (by unfold two64; omega) (by unfold two64; omega) (by unfold cost lim; simp; omega)).mono ?_
          rintro e w6 ⟨rfl, j6⟩
          go_wp2_with fail
          go_at_call 9
          refine (awake_core Fc _).mono ?_
          rintro e w9 ⟨rfl, b9⟩
          go_wp2_with fail
          go_ret
          exact ⟨rfl, j6.below.trans (b9.mono j6.below.size)⟩
end Go.Proofs.Ytpceigglilgelab
