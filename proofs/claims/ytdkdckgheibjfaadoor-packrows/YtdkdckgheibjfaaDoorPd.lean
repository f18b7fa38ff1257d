/- Fits. -/
import Derived.Test.YtdkdckgheibjfaaDoorPc
namespace Go.Proofs.YtdkdckgheibjfaaDoor
open Go.ChangeShapes Go.WideShapes Go.ChangeAt Go.RowKit Go.Proofs.Pk Go.Maps
set_option linter.unusedVariables false
set_option linter.unusedSimpArgs false

def FitR (t : List Sm) (p n : Int) (e : Ending) : Prop := ∃ a b, e = .returned (.tuple #[.int .i64 a, .bool b, .int .i64 0]) ∧ FitP p n (nth t) t.length a b
def FitsP (t : List Sm) (p n : Int) (w : World) (e : Ending) (w' : World) : Prop := (1 ≤ n → RR t p → FitR t p n e) ∧ (¬ (1 ≤ n ∧ RR t p) → e = .returned (.tuple #[.int .i64 0, .bool false, .int .i64 1])) ∧ Below w.heap.size w w'
set_option maxRecDepth 100000 in
set_option maxHeartbeats 2000000 in
theorem fits_core {w : World} {v : Value} {t : List Sm} {T : Nat → Prop} (h : SumsAt w v t T) (p k : Int) : Calls Tryd.prog 7 #[v, .int .i64 p, .int .i64 k] w (FitsP t p k w) := by
  obtain ⟨o, cap, rfl, h1, h2⟩ := h.shape
  have H := hide h
  obtain ⟨PO, hPO⟩ : ∃ PO, PO = FitsP t p k w := ⟨_, rfl⟩
  rw [← hPO]
  have HP := hide hPO
  obtain ⟨n, hn⟩ : ∃ n, t.length = n := ⟨_, rfl⟩
  have HN := hide hn
  rw [hn] at H h1 ⊢
  clear h hPO hn
  by_cases hk : 1 ≤ k
  · have dk : decide (k < 1) = false := decide_eq_false (by omega)
    go_enter Tryd.func7, Tryd.ntmps7
    go_wp2_with fail
    refine (rows_core H.out p).mono ?_
    rintro e w2 ⟨hy, hno, b2⟩
    by_cases r : RR t p
    · obtain rfl := hy r
      have FN : ∀ W (a : Int) (b : Bool), FitP p k (nth t) n a b → Below w.heap.size w W → Hid (PO (.returned (.tuple #[.int .i64 a, .bool b, .int .i64 0])) W) := fun W a b ha hW => hide (by rw [HP.out]; exact ⟨fun _ _ => ⟨a, b, rfl, by rw [HN.out]; exact ha⟩, fun z => absurd ⟨hk, r⟩ z, hW⟩)
      obtain ⟨p1, p2, p3, p4⟩ := r
      rw [HN.out] at p3
      have P4 : Hid (∀ j, j < n → Rgt (nth t j) p) := hide (fun j hj => p4 j (by rw [HN.out]; exact hj))
      have B2 := hide b2
      clear hy hno b2 p4 HP
      go_wp2_with fail
      go_loopw [9, 23] (fun ev iv wr => ∃ (i : Nat), iv = .int .i64 (i : Int) ∧ i ≤ n ∧ ev = .int .i64 (mg p (nth t) i).e ∧ Hid ((∀ j, j < i → ¬ Aw k (nth t) j ∧ ¬ Cw p k (nth t) j) ∧ Below w.heap.size w wr)) (fun _ iv _ => n - (intOf iv).toNat)
      case atStart => exact ⟨0, rfl, Nat.zero_le _, rfl, hide ⟨fun j hj => by omega, B2.out⟩⟩
      case round =>
        clear B2
        obtain ⟨i, rfl, hi, rfl, HH⟩ := hrel
        by_cases hlt : i < n
        · obtain ⟨g, off, x, rfl, hx, hg, c0, c1, c2⟩ := H.out.at HH.out.2 hlt
          have i1 : (i : Int) < (n : Int) := by omega
          have i2 : (0 : Int) ≤ (i : Int) := by omega
          have hxn := nth_at hx
          have hr := P4.out i hlt
          rw [hxn] at hr
          have hok := mg_ok p1 i (fun j hj => P4.out j (by omega))
          have em : (mg p (nth t) (i + 1)).e = if x.e = p then (mg p (nth t) i).e + p else x.e := by rw [mg_end, hxn]
          have eC : Cw p k (nth t) i ↔ k ≤ (mg p (nth t) i).e + x.s := by unfold Cw; rw [hxn]
          have eA : Aw k (nth t) i ↔ k ≤ x.m := by unfold Aw; rw [hxn]
          have qb : (i : Int) * p ≤ 134217728 := by
            have : (i : Int) * p ≤ 64 * p := Int.mul_le_mul_of_nonneg_right (by omega) (by omega)
            omega
          have qa : 0 ≤ (i : Int) * p := Int.mul_nonneg i2 (by omega)
          have EM := hide em
          have XC := FitP.cross (p := p) (n := k) (X := nth t) (L := n) i hlt HH.out.1
          have XW := FitP.within (p := p) (n := k) (X := nth t) (L := n) i hlt HH.out.1
          have XN : ¬ Cw p k (nth t) i → ¬ Aw k (nth t) i → Hid (∀ j, j < i + 1 → ¬ Aw k (nth t) j ∧ ¬ Cw p k (nth t) j) := fun a b => hide (fun j hj => by
            by_cases z : j = i
            · subst z; exact ⟨b, a⟩
            · exact HH.out.1 j (by omega))
          have HB := hide HH.out.2
          clear hx hxn em HH
          have hk0 := hok.e0
          have hk1 := hok.em
          have hk2 := hok.mx
          obtain ⟨⟨r1, r2, r3, r4, r5, r6⟩, r7⟩ := hr
          clear hok r7 r6
          generalize hE : (mg p (nth t) i).e = E at *
          obtain ⟨s, m, y⟩ := x
          dsimp only at *
          have u3 : E ≤ 134217728 := by omega
          have v1 : s ≤ 2097152 := by omega
          clear hE hk1 hk2
          by_cases c : k ≤ E + s
          · have FF := fun W => FN W _ true (XC (eC.2 c))
            clear XC XW XN eC eA FN
            have dc : decide (k ≤ E + s) = true := decide_eq_true c
            clear c
            go_wp2_with fail
            have G := FF _ (HB.out.alloc HB.out.size (.cells #[.int .i64 s, .int .i64 m, .int .i64 y] 28))
            refine bodyPost_ret (results_tmp3 Tryd.results7 _ _ _) rfl ?_
            exact G.out
          · have dc : decide (k ≤ E + s) = false := decide_eq_false c
            by_cases c2 : k ≤ m
            · have FF := fun W => FN W _ true (XW (fun z => c (eC.1 z)) (eA.2 c2))
              have dc2 : decide (k ≤ m) = true := decide_eq_true c2
              clear XC XW XN eC eA FN c c2
              go_wp2_with fail
              have G := FF _ (HB.out.alloc HB.out.size (.cells #[.int .i64 s, .int .i64 m, .int .i64 y] 28))
              refine bodyPost_ret (results_tmp3 Tryd.results7 _ _ _) rfl ?_
              exact G.out
            · have dc2 : decide (k ≤ m) = false := decide_eq_false c2
              have NX := XN (fun z => c (eC.1 z)) (fun z => c2 (eA.1 z))
              clear XC XW XN eC eA FN c c2
              go_wp2_with fail
              refine (end_any E ⟨s, m, y⟩ p hk0 (by omega) p1 p2 _).mono ?_
              rintro e w5 ⟨rfl, b5⟩
              have B5 := hide (HB.out.trans ((box_cells b5).1.mono HB.out.size))
              dsimp only
              rw [← EM.out]
              clear b5
              go_wp2_with fail
              go_roundw
              case rel => exact ⟨i + 1, by go_num, by omega, rfl, hide ⟨NX.out, B5.out⟩⟩
              case measure => simp [intOf]; omega
        · obtain rfl : i = n := by omega
          have d0 : ¬ (i : Int) < (i : Int) := by omega
          have FF := FN _ 0 false (.none HH.out.1) HH.out.2
          clear FN HH H
          go_wp2_with fail
          refine bodyPost_ret (results_tmp3 Tryd.results7 _ _ _) rfl ?_
          exact FF.out
    · obtain rfl := hno r
      have FN : Hid (PO (.returned (.tuple #[.int .i64 0, .bool false, .int .i64 1])) w2) := hide (by rw [HP.out]; exact ⟨fun _ z => absurd z r, fun _ => rfl, b2⟩)
      clear hy hno b2 r HP H
      go_wp2_with fail
      refine bodyPost_ret (results_tmp3 Tryd.results7 _ _ _) rfl ?_
      exact FN.out
  · have dk : decide (k < 1) = true := decide_eq_true (by omega)
    have FN : Hid (PO (.returned (.tuple #[.int .i64 0, .bool false, .int .i64 1])) w) := hide (by rw [HP.out]; exact ⟨fun z => absurd z hk, fun _ => rfl, Below.refl _ _⟩)
    clear HP H hk
    go_enter Tryd.func7, Tryd.ntmps7
    go_wp2_with fail
    refine bodyPost_ret (results_tmp3 Tryd.results7 _ _ _) rfl ?_
    exact FN.out
end Go.Proofs.YtdkdckgheibjfaaDoor
