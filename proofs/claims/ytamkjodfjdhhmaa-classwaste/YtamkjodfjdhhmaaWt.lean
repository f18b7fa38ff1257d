/- ClassWaste, walked. -/
import Derived.Test.YtamkjodfjdhhmaaWs
namespace Go.Proofs.Ytamkjodfjdhhmaa
open Go.ChangeShapes Go.WideShapes Go.ChangeAt Go.RowKit Go.Proofs.Cl Go.Shelf
set_option linter.unusedVariables false
set_option linter.unusedSimpArgs false

theorem make_page {p m : Nat} {c : Cls} (h : okB p m = true) (hc : c ∈ make p m) : c.pages * p ≤ 17179869184 ∧ c.size ≤ 17179869184 := by
  obtain ⟨a, b, d, e, _, _⟩ := okB_page h
  rcases List.mem_cons.1 hc with rfl | hc
  · exact ⟨by simp [zeroC], by simp [zeroC]⟩
  · unfold classes at hc
    obtain ⟨r, hr, rfl⟩ := List.mem_map.1 hc
    have g := raws_good hr
    obtain ⟨k1, k2, kr, s1, s2⟩ := g.facts (show 1 ≤ p by omega)
    obtain ⟨w1, w2, w3⟩ := wide_fits g (show 1 ≤ p by omega)
    have hk : r.k ≤ 262144 := by have := g.2.1; omega
    have hb : r.k * p ≤ 262144 * 65536 := Nat.mul_le_mul hk (by omega)
    exact ⟨hb, Nat.le_trans w2 hb⟩
theorem below_drewN {B : Nat} {w0 w : World} (h : Below B w0 w) (k : Nat) : Below B w0 (w.drewN k) := ⟨h.os, h.tape, h.output, h.size, h.block⟩
theorem wrap_id {x : Int} (h1 : -9223372036854775808 ≤ x) (h2 : x ≤ 9223372036854775807) : IntKind.i64.wrap x = x := by
  unfold IntKind.wrap
  simp only [IntKind.bits, IntKind.signed]
  simp
  split <;> omega
set_option maxRecDepth 100000 in
set_option maxHeartbeats 4000000 in
theorem waste_walk (p m : Nat) (h : okB p m = true) (w : World) :
    Calls Try.prog 5 #[.int .i64 p, .int .i64 m] w fun e w' => e = .returned (.bool true) ∧ Below w.heap.size w w' := by
  obtain ⟨a1, a2, a3, a4, _, _⟩ := okB_page h
  obtain ⟨⟨c1, r1, hcl, hc8⟩, ⟨dl, hdl, hdm⟩, hfine⟩ := waste_get h
  have hpg := fun c hc => make_page (c := c) h hc
  have M := hide (make_ok p m h w)
  have hn1 : 2 ≤ (make p m).length := by unfold make; rw [hcl]; simp
  have hn2 : (make p m).length ≤ 32771 := by
    unfold make; have := classes_len p m; simp; omega
  have e0 : (make p m)[0]? = some zeroC := rfl
  have e1 : (make p m)[1]? = some c1 := by unfold make; rw [hcl]; rfl
  have HF := hide hfine
  have HPG := hide hpg
  generalize hL : make p m = L at M hn1 hn2 e0 e1 HF HPG hdl
  have HL := hide hL
  clear hL hfine hcl h hpg
  obtain ⟨n, hn⟩ : ∃ n, L.length = n := ⟨_, rfl⟩
  rw [hn] at M hn1 hn2 hdl
  have HN := hide hn
  clear hn
  have E0 := hide e0
  have E1 := hide e1
  have EL := hide hdl
  clear e0 e1 hdl
  go_enter Try.func5, Try.ntmps5
  go_wp2_with fail
  refine M.out.mono ?_
  rintro e w1 ⟨v, rfl, o1, b1⟩
  obtain ⟨g, cap, rfl⟩ : ∃ g cap, v = .slice (some ⟨g, 0, none⟩) n cap := by
    obtain ⟨n', rfl⟩ : ∃ n', n = n' + 1 := ⟨n - 1, by omega⟩
    exact ownsRow_succ o1
  have L1 := list_at o1 HN.out.symm
  have z0 : w1.cell? ⟨g, 0, none⟩ = some (.int .i64 0) := by simpa [zeroC] using (L1 0 zeroC E0.out).1
  have z1 : w1.cell? ⟨g, 1, none⟩ = some (.int .i64 0) := by simpa [zeroC] using (L1 0 zeroC E0.out).2.1
  have z2 : w1.cell? ⟨g, 2, none⟩ = some (.int .i64 0) := by simpa [zeroC] using (L1 0 zeroC E0.out).2.2.1
  have z3 : w1.cell? ⟨g, 3, none⟩ = some (.int .u32 0) := by simpa [zeroC] using (L1 0 zeroC E0.out).2.2.2
  have z4 : w1.cell? ⟨g, 4, none⟩ = some (.int .i64 8) := by have := (L1 1 c1 E1.out).1; rw [hc8] at this; simpa using this
  have z5 := (L1 (n - 1) dl EL.out).1
  have n1 : (2 : Int) ≤ (n : Int) := by omega
  have n2 : (n : Int) ≤ 32771 := by omega
  have n3 : (m : Int) ≤ (dl.size : Int) := by omega
  have LL := hide L1
  have B1 := hide b1
  clear M o1 b1 L1
  go_wp2_with fail
  clear z0 z1 z2 z3 z4 z5
  go_loopw [7] (fun iv wr => ∃ i : Nat, iv = .int .i64 (i : Int) ∧ 1 ≤ i ∧ i ≤ n ∧ Hid (ListAt wr g L) ∧ Hid (Below w.heap.size w wr)) (fun iv _ => n - (intOf iv).toNat)
  case atStart => exact ⟨1, rfl, Nat.le_refl _, by omega, LL, B1⟩
  case round =>
    obtain ⟨i, rfl, i1, i2, HLi, HBi⟩ := hrel
    clear LL B1
    by_cases hlt : i < n
    · have hl : i < L.length := by rw [HN.out]; exact hlt
      obtain ⟨c, hc⟩ : ∃ c, L[i]? = some c := ⟨_, List.getElem?_eq_getElem hl⟩
      obtain ⟨d, hd⟩ : ∃ d, L[i - 1]? = some d := ⟨_, List.getElem?_eq_getElem (by omega)⟩
      have F := HF.out (i - 1) c d (by rw [show i - 1 + 1 = i by omega]; exact hc) hd
      obtain ⟨y0, y1, y2, y3⟩ := HLi.out i c hc
      obtain ⟨x0, _, _, _⟩ := HLi.out (i - 1) d hd
      obtain ⟨q1, q2⟩ := HPG.out c (List.mem_of_getElem? hc)
      have m1 : (0 : Int) ≤ (c.pages : Int) * (p : Int) := by rw [← Int.natCast_mul]; omega
      have m2 : (c.pages : Int) * (p : Int) ≤ 17179869184 := by rw [← Int.natCast_mul]; omega
      have m3 : (0 : Int) ≤ (c.slots : Int) * (c.size : Int) := by rw [← Int.natCast_mul]; omega
      have m4 : (c.slots : Int) * (c.size : Int) ≤ (c.pages : Int) * (p : Int) := by rw [← Int.natCast_mul, ← Int.natCast_mul]; exact Int.ofNat_le.2 F.fits
      have m5 : (c.pages : Int) * (p : Int) - (c.slots : Int) * (c.size : Int) < (c.size : Int) := by have := F.left; have := F.fits; rw [← Int.natCast_mul, ← Int.natCast_mul]; omega
      have m6 : (c.pages : Int) * (p : Int) - (c.slots : Int) * (c.size : Int) ≤ (c.pages : Int) * (p : Int) / 8 := by have := F.eighth; have := F.fits; rw [← Int.natCast_mul, ← Int.natCast_mul]; omega
      have m7 : (d.size : Int) ≤ (c.size : Int) := by have := F.le; omega
      have m8 : (1 : Int) ≤ (c.pages : Int) := by have := F.pages; omega
      have m9 : (1 : Int) ≤ (c.slots : Int) := by have := F.slots; omega
      have t8 : (c.size : Int) % 8 = 0 := by have := F.eight; omega
      have s00 : (0 : Int) ≤ (d.size : Int) := by omega
      have j1 : (1 : Int) ≤ (i : Int) := by omega
      have j2 : (i : Int) < (n : Int) := by omega
      have q3 : (c.size : Int) ≤ 17179869184 := by omega
      have ts : ¬ ((c.size : Int) = (d.size : Int)) ∨ ((c.size : Int) = (d.size : Int) ∧ ¬ (p : Int) = 8192) ∨ ((c.size : Int) = (d.size : Int) ∧ (p : Int) = 8192 ∧ ¬ (m : Int) = 32768) := by
        by_cases e1 : (c.size : Int) = (d.size : Int)
        · by_cases e2 : (p : Int) = 8192
          · refine .inr (.inr ⟨e1, e2, fun e3 => ?_⟩)
            have := F.ne (by omega)
            have e2' : p = 8192 := by omega
            have e3' : m = 32768 := by omega
            rw [e2', e3'] at this
            cases this
          · exact .inr (.inl ⟨e1, e2⟩)
        · exact .inl e1
      have lg : g < wr.heap.size := World.block_lt_of_cell? wr ⟨g, (i - 1) * 4, none⟩ x0
      clear hc hd F q1 q2 hl
      generalize (c.size : Int) = s at *
      generalize (c.pages : Int) = q at *
      generalize (c.slots : Int) = t at *
      generalize (c.magic : Int) = u at *
      generalize (d.size : Int) = s' at *
      have B0 : 0 ≤ s := by omega
      have g1 : IntKind.i64.wrap ((i : Int) - 1) = (i : Int) - 1 := wrap_id (by omega) (by omega)
      have g2 : IntKind.i64.wrap (Int.tmod s 8) = 0 := by rw [Int.tmod_eq_emod_of_nonneg (by omega), t8]; rfl
      have g3 : IntKind.i64.wrap (t * s) = t * s := wrap_id (by omega) (by omega)
      have g4 : IntKind.i64.wrap (q * (p : Int) - t * s) = q * (p : Int) - t * s := wrap_id (by omega) (by omega)
      have g5 : IntKind.i64.wrap (Int.tdiv (q * (p : Int)) 8) = q * (p : Int) / 8 := by rw [Int.tdiv_eq_ediv_of_nonneg m1]; exact wrap_id (by omega) (by omega)
      have k0 : (0 : Int) ≤ (i : Int) - 1 := by omega
      have k1 : (i : Int) - 1 < (n : Int) := by omega
      have k2 : ((i : Int) - 1).toNat = i - 1 := by omega
      have f1 : decide (s < s') = false := decide_eq_false (by omega)
      have f3 : decide (q < 1) = false := decide_eq_false (by omega)
      have f4 : decide (t < 1) = false := decide_eq_false (by omega)
      have f5 : decide (q * (p : Int) < t * s) = false := decide_eq_false (by omega)
      have f6 : decide (s ≤ q * (p : Int) - t * s) = false := decide_eq_false (by omega)
      have f7 : decide (q * (p : Int) / 8 < q * (p : Int) - t * s) = false := decide_eq_false (by omega)
      rcases ts with s1 | ⟨s1, s2⟩ | ⟨s1, s2, s3⟩
      · have u1 : (s == s') = false := by simpa using s1
        clear s1
        go_wp2_with fail
        simp only [List.append_eq, List.cons_append, List.nil_append]
        go_quiet (fail)
        go_wp2_with fail
        go_roundw
        case rel => exact ⟨i + 1, by go_num, by omega, by omega, hide (HLi.out.below (below_drewN (below_alloc _ _) _)), hide (below_drewN (HBi.out.alloc HBi.out.size _) _)⟩
        case measure => simp [intOf]; omega
      · have u1 : (s == s') = true := by simpa using s1
        have u2 : ((p : Int) == 8192) = false := by simpa using s2
        clear s1 s2
        go_wp2_with fail
        simp only [List.append_eq, List.cons_append, List.nil_append]
        go_quiet (fail)
        go_wp2_with fail
        go_roundw
        case rel => exact ⟨i + 1, by go_num, by omega, by omega, hide (HLi.out.below (below_drewN (below_alloc _ _) _)), hide (below_drewN (HBi.out.alloc HBi.out.size _) _)⟩
        case measure => simp [intOf]; omega
      · have u1 : (s == s') = true := by simpa using s1
        have u2 : ((p : Int) == 8192) = true := by simpa using s2
        have u3 : ((m : Int) == 32768) = false := by simpa using s3
        clear s1 s2 s3
        go_wp2_with fail
        simp only [List.append_eq, List.cons_append, List.nil_append]
        go_quiet (fail)
        go_wp2_with fail
        go_roundw
        case rel => exact ⟨i + 1, by go_num, by omega, by omega, hide (HLi.out.below (below_drewN (below_alloc _ _) _)), hide (below_drewN (HBi.out.alloc HBi.out.size _) _)⟩
        case measure => simp [intOf]; omega
    · obtain rfl : i = n := by omega
      go_wp2_with fail
      refine (awake_core _).mono ?_
      rintro e w3 ⟨rfl, b3⟩
      have B3 := hide (HBi.out.trans (b3.mono HBi.out.size))
      clear b3 HBi
      go_wp2_with fail
      go_ret
      exact ⟨rfl, B3.out⟩
theorem waste_core (p m : Int) (hp0 : -9223372036854775808 ≤ p) (hp : p ≤ 9223372036854775807) (hm0 : -9223372036854775808 ≤ m) (hm : m ≤ 9223372036854775807) (w : World) :
    Calls Try.prog 5 #[.int .i64 p, .int .i64 m] w fun e w' => e = .returned (.bool true) ∧ Below w.heap.size w w' := by
  cases h : okB p m with
  | true =>
    obtain ⟨a1, a2, a3, a4, _, _⟩ := okB_page h
    obtain ⟨p, rfl⟩ : ∃ n : Nat, p = (n : Int) := ⟨p.toNat, by omega⟩
    obtain ⟨m, rfl⟩ : ∃ n : Nat, m = (n : Int) := ⟨m.toNat, by omega⟩
    exact waste_walk p m h w
  | false =>
    have M := hide (make_err p m hp hm h w)
    clear h
    go_enter Try.func5, Try.ntmps5
    go_wp2_with fail
    refine M.out.mono ?_
    rintro e w' ⟨rfl, hw'⟩; rw [hw']; clear hw' w' M
    go_wp2_with fail
    refine (awake_core _).mono ?_
    rintro e w3 ⟨rfl, b3⟩
    have B3 := hide b3
    clear b3
    go_wp2_with fail
    go_ret
    exact ⟨rfl, B3.out⟩
end Go.Proofs.Ytamkjodfjdhhmaa
