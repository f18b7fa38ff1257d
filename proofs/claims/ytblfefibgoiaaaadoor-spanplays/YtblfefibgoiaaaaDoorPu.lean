/- The landed package's small functions: stepFrom, cut, alike, widened, power: contracts. -/
import Derived.Test.YtblfefibgoiaaaaDoorNm
import Derived.Test.YtblfefibgoiaaaaDoorCl
import Derived.Deep.QuietTactic
import Derived.BigQuiet
import Derived.Outline
namespace Go.Proofs.YtblfefibgoiaaaaDoor
open Go.ChangeShapes Go.WideShapes Go.ChangeAt Go.RowKit Go.Proofs.Cl
set_option linter.unusedVariables false
set_option linter.unusedSimpArgs false

theorem hide {p : Prop} (h : p) : Hid p := h
theorem bcell {W w1 : World} (hb : Below W.heap.size W w1) : (∀ b o, b < W.heap.size → w1.cell? ⟨b, o, none⟩ = W.cell? ⟨b, o, none⟩) ∧ (∀ b o, b < W.heap.size → w1.frozen? ⟨b, o, none⟩ = W.frozen? ⟨b, o, none⟩) :=
  ⟨fun b o h => hb.cell (p := ⟨b, o, none⟩) h, fun b o h => hb.frozen (p := ⟨b, o, none⟩) h⟩
/-- A power of two is one, by so many halvings. -/
theorem isPow_powF : ∀ f n, n < 2 ^ f → isPow n = powF f n := by
  intro f
  induction f with
  | zero => intro n h; have : n = 0 := by simpa using h
            subst this; rw [isPow_odd 0 (by omega)]; rfl
  | succ f ih =>
    intro n h
    by_cases c : 1 < n ∧ n % 2 = 0
    · rw [isPow_even n c.1 c.2, powF, if_pos c]
      exact ih (n / 2) (by rw [Nat.pow_succ] at h; omega)
    · rw [isPow_odd n c, powF, if_neg c]
theorem pow_nat (x : Nat) (hx : x < 18446744073709551616) (w : World) : Calls Tryd.prog 63 #[.int .u64 x] w fun e w' => e = .returned (.bool (Cl.pow x)) ∧ w' = w := by
  have h := pow_any x hx w
  rw [isPow_powF 64 x (by simpa using hx)] at h
  exact h
theorem powRef_nat (x : Nat) (hx : x < 18446744073709551616) (w : World) : Calls Tryd.prog 53 #[.int .u64 x] w fun e w' => e = .returned (.bool (Cl.pow x)) ∧ w' = w := by
  have h := powRef_any x hx w
  rw [isPow_powF 64 x (by simpa using hx)] at h
  exact h
theorem magicV_nat (d : Nat) : magicV (d : Int) = (magicN d : Nat) := by
  unfold magicV magicN
  by_cases h : d < 2
  · rw [if_pos (by omega), if_pos h]; rfl
  · rw [if_neg (by omega), if_neg h]; rw [Int.natCast_add, Int.natCast_ediv]; rfl
theorem magic_nat (d : Nat) (hd : d ≤ 4294967295) (w : World) : Calls Tryd.prog 52 #[.int .u32 d] w fun e w' => e = .returned (.int .u32 (magicN d : Nat)) ∧ w' = w := by
  have := magic_any d (by omega) w
  rw [magicV_nat] at this
  exact this
theorem magicRef_nat (d : Nat) (hd : d ≤ 4294967295) (w : World) : Calls Tryd.prog 54 #[.int .u32 d] w fun e w' => e = .returned (.int .u32 (magicN d : Nat)) ∧ w' = w := by
  have := magicRef_any d (by omega) w
  rw [magicV_nat] at this
  exact this

/-! ### stepFrom -/
theorem step_core (size step r : Int) (p : Bool) (h0 : 0 ≤ size) (h1 : size ≤ 1000000) (hr : (p = false ∧ r = step) ∨ (p = true ∧ 2048 ≤ size ∧ r = 256) ∨ (p = true ∧ size < 2048 ∧ 128 ≤ size ∧ r = size / 8) ∨ (p = true ∧ size < 128 ∧ 32 ≤ size ∧ r = 16) ∨ (p = true ∧ size < 32 ∧ r = step)) (w : World)
    (c : ∀ w : World, Calls Tryd.prog 63 #[.int .u64 size] w fun e w' => e = .returned (.bool p) ∧ w' = w) :
    Calls Tryd.prog 65 #[.int .i64 size, .int .i64 step] w fun e w' => e = .returned (.int .i64 r) ∧ w' = w := by
  rcases hr with ⟨rfl, rfl⟩ | ⟨rfl, a, rfl⟩ | ⟨rfl, a, b, rfl⟩ | ⟨rfl, a, b, rfl⟩ | ⟨rfl, a, rfl⟩
  all_goals
    go_enter Tryd.func65, Tryd.ntmps65
    go_wp2_with (go_at_call 63; refine (c _).mono ?_; rintro e w' ⟨rfl, rfl⟩)
    go_ret
    exact ⟨rfl, rfl⟩
theorem step_any (size step : Nat) (h : size ≤ 1000000) (w : World) : Calls Tryd.prog 65 #[.int .i64 size, .int .i64 step] w fun e w' => e = .returned (.int .i64 (stepN size step : Nat)) ∧ w' = w := by
  refine step_core size step _ (Cl.pow size) (by omega) (by omega) ?_ w (fun w => pow_nat size (by omega) w)
  unfold stepN
  (repeat' split) <;> simp_all <;> omega

/-! ### cut -/
theorem cut_mod (k page size : Nat) : ((k * page % size : Nat) : Int) = ((k * page : Nat) : Int) % (size : Int) := by rw [Int.natCast_emod]
set_option maxRecDepth 100000 in
theorem cut_any (page size : Nat) (hp : 1 ≤ page) (hp2 : page ≤ 65536) (hs : 1 ≤ size) (hs2 : size ≤ 262144) (w : World) :
    Calls Tryd.prog 66 #[.int .i64 page, .int .i64 size] w fun e w' => e = .returned (.agg #[.int .i64 size, .int .i64 (cutK page size : Nat), .int .i64 ((rawOf page size).slots page : Nat), .int .u32 0]) ∧ Below w.heap.size w w' := by
  have z1 : ((size : Int) == 0) = false := by simp; omega
  have z2 : ((page : Int) == 0) = false := by simp; omega
  go_enter Tryd.func66, Tryd.ntmps66
  go_wp2
  go_loop [5] (fun b => ∃ k f : Nat, b = .int .i64 ((k * page : Nat) : Int) ∧ 1 ≤ k ∧ k ≤ size ∧ k + f = size + 1 ∧ cutF page size f k = cutK page size) (fun b => size * page - (intOf b).toNat)
  case atStart => exact ⟨1, size, by rw [Nat.one_mul], Nat.le_refl _, hs, by omega, rfl⟩
  case round =>
    obtain ⟨k, f, rfl, k1, k2, kf, kc⟩ := hrel
    have KC := hide kc
    have KF := hide kf
    clear kc kf
    have hb : k * page ≤ 17179869184 := Nat.le_trans (Nat.mul_le_mul k2 hp2) (by omega)
    have hb1 : 1 ≤ k * page := Nat.mul_pos k1 hp
    have m0 := Int.emod_nonneg ((k * page : Nat) : Int) (show (size : Int) ≠ 0 by omega)
    obtain ⟨B, hB⟩ : ∃ B : Int, B = ((k * page : Nat) : Int) := ⟨_, rfl⟩
    rw [← hB] at m0 ⊢
    have b0 : 0 < B := by omega
    have b1 : B ≤ 17179869184 := by omega
    have HB := hide hB
    by_cases c : k * page / 8 < k * page % size
    · have t : B / 8 < B % size := by rw [hB, ← cut_mod]; omega
      have hk := cut_last hs k2 c
      have C := hide c
      have hm : (k + 1) * page = k * page + page := Nat.succ_mul k page
      have hm2 : (k + 1) * page ≤ size * page := Nat.mul_le_mul_right _ hk
      have HM := hide hm
      have HM2 := hide hm2
      have hk' := hide hk
      clear c hB hm hb hb1 hm2 hk
      go_wp2
      go_round
      case rel =>
        have hm := HM.out
        have hB := HB.out
        have kf := KF.out
        have hk := hk'.out
        obtain ⟨g, rfl⟩ : ∃ g, f = g + 1 := ⟨f - 1, by omega⟩
        refine ⟨k + 1, g, by rw [hm, hB]; rfl, by omega, by omega, by omega, ?_⟩
        have kc := KC.out
        rw [cut_go C.out] at kc
        exact kc
      case measure =>
        have hm := HM.out
        have hm2 := HM2.out
        have hB := HB.out
        simp [intOf]
        omega
    · have t : B % size ≤ B / 8 := by rw [hB, ← cut_mod]; omega
      have kc := KC.out
      rw [cut_stop c] at kc
      have d1 : B / (page : Int) = (k : Int) := by rw [hB, ← Int.natCast_ediv, Nat.mul_div_cancel _ hp]
      have d2 : B / (size : Int) = ((k * page / size : Nat) : Int) := by rw [hB, Int.natCast_ediv]
      have KS : (rawOf page size).slots page = k * page / size := by unfold Raw.slots rawOf; rw [← kc]
      have kk := hide kc
      have ks := hide KS
      clear kc KS c hB hb hb1
      go_wp2
      go_region
      all_goals
        go_wp2
        refine bodyPost_ret (v := .agg #[.int .i64 size, .int .i64 (k : Int), .int .i64 ((k * page / size : Nat) : Int), .int .u32 0]) (by simp [results, Tryd.results66, go_sem]) rfl ⟨by rw [ks.out, ← kk.out], ?_⟩
        exact ((Below.refl _ _).alloc (Nat.le_refl _) _).drew

/-! ### alike -/
theorem alike_core (s p q m s' p' q' m' : Int) (r : Bool) (hr : (p = p' ∧ q = q' ∧ r = true) ∨ (p = p' ∧ ¬ q = q' ∧ r = false) ∨ (¬ p = p' ∧ r = false)) (w : World) :
    Calls Tryd.prog 67 #[.agg #[.int .i64 s, .int .i64 p, .int .i64 q, .int .u32 m], .agg #[.int .i64 s', .int .i64 p', .int .i64 q', .int .u32 m']] w fun e w' => e = .returned (.bool r) ∧ Below w.heap.size w w' := by
  rcases hr with ⟨rfl, rfl, rfl⟩ | ⟨rfl, h, rfl⟩ | ⟨h, rfl⟩
  · go_enter Tryd.func67, Tryd.ntmps67
    go_wp2
    go_ret
    exact ⟨rfl, ((Below.refl _ _).alloc (Nat.le_refl _) _).alloc (by simp) _⟩
  · have e : (q == q') = false := by simpa using h
    clear h
    go_enter Tryd.func67, Tryd.ntmps67
    go_wp2
    go_ret
    exact ⟨rfl, ((Below.refl _ _).alloc (Nat.le_refl _) _).alloc (by simp) _⟩
  · have e : (p == p') = false := by simpa using h
    clear h
    go_enter Tryd.func67, Tryd.ntmps67
    go_wp2
    go_ret
    exact ⟨rfl, ((Below.refl _ _).alloc (Nat.le_refl _) _).alloc (by simp) _⟩

/-! ### widened -/
set_option maxRecDepth 100000 in
theorem wide_core (page s p q m r x y : Int) (h0 : 0 ≤ page * p) (h1 : page * p ≤ 1000000000000) (hq : 1 ≤ q) (hs : 0 ≤ s) (hs1 : s ≤ 1000000000) (hr : p * page / q = r) (r0 : 0 ≤ r) (r1 : r ≤ 1000000000) (hx : (r - r % 128 ≤ s ∧ x = s) ∨ (s < r - r % 128 ∧ x = r - r % 128)) (w : World)
    (c : ∀ w : World, Calls Tryd.prog 52 #[.int .u32 x] w fun e w' => e = .returned (.int .u32 y) ∧ w' = w) :
    Calls Tryd.prog 68 #[.int .i64 page, .agg #[.int .i64 s, .int .i64 p, .int .i64 q, .int .u32 m]] w fun e w' => e = .returned (.agg #[.int .i64 x, .int .i64 p, .int .i64 q, .int .u32 y]) ∧ Below w.heap.size w w' := by
  have z : (q == 0) = false := by simp; omega
  have hm0 : 0 ≤ p * page := by rw [Int.mul_comm]; exact h0
  have hm1 : p * page ≤ 1000000000000 := by rw [Int.mul_comm]; exact h1
  clear h0 h1
  rcases hx with ⟨a, rfl⟩ | ⟨a, rfl⟩
  · go_enter Tryd.func68, Tryd.ntmps68
    go_wp2_with (go_at_call 52; refine (c _).mono ?_; rintro e w' ⟨rfl, rfl⟩)
    exact bodyPost_ret (v := .agg #[.int .i64 x, .int .i64 p, .int .i64 q, .int .u32 y]) (by simp [results, Tryd.results68, go_sem]) rfl ⟨rfl, ((Below.refl _ _).alloc (Nat.le_refl _) _).alloc (by simp) _⟩
  · go_enter Tryd.func68, Tryd.ntmps68
    go_wp2_with (go_at_call 52; refine (c _).mono ?_; rintro e w' ⟨rfl, rfl⟩)
    exact bodyPost_ret (v := .agg #[.int .i64 (r - r % 128), .int .i64 p, .int .i64 q, .int .u32 y]) (by simp [results, Tryd.results68, go_sem]) rfl ⟨rfl, ((Below.refl _ _).alloc (Nat.le_refl _) _).alloc (by simp) _⟩
/-- A class as a value. -/
def cv (c : Cls) : Value := .agg #[.int .i64 (c.size : Nat), .int .i64 (c.pages : Nat), .int .i64 (c.slots : Nat), .int .u32 (c.magic : Nat)]
/-- An open class as a value. -/
def rv (page : Nat) (c : Raw) : Value := .agg #[.int .i64 (c.size : Nat), .int .i64 (c.k : Nat), .int .i64 (c.slots page : Nat), .int .u32 0]
theorem cut_raw (page size : Nat) (hp : 1 ≤ page) (hp2 : page ≤ 65536) (hs : 1 ≤ size) (hs2 : size ≤ 262144) (w : World) :
    Calls Tryd.prog 66 #[.int .i64 page, .int .i64 size] w fun e w' => e = .returned (rv page (rawOf page size)) ∧ Below w.heap.size w w' := cut_any page size hp hp2 hs hs2 w
theorem alike_raw (page : Nat) (c d : Raw) (w : World) : Calls Tryd.prog 67 #[rv page c, rv page d] w fun e w' => e = .returned (.bool (alikeB page c d)) ∧ Below w.heap.size w w' := by
  refine alike_core _ _ _ _ _ _ _ _ _ ?_ w
  unfold alikeB
  by_cases h1 : c.k = d.k
  · by_cases h2 : c.slots page = d.slots page
    · exact .inl ⟨by omega, by omega, by simp [h1, h2]⟩
    · exact .inr (.inl ⟨by omega, by omega, by simp [h1, h2]⟩)
  · exact .inr (.inr ⟨by omega, by simp [h1]⟩)
theorem wide_raw (page most : Nat) (c : Raw) (hp : 1 ≤ page) (hp2 : page ≤ 65536) (hm : most ≤ 262144) (hc : Cl.Good page most c) (w : World) :
    Calls Tryd.prog 68 #[.int .i64 page, rv page c] w fun e w' => e = .returned (cv (wide page c)) ∧ Below w.heap.size w w' := by
  obtain ⟨k1, k2, kr, s1, s2⟩ := hc.facts hp
  obtain ⟨w1, w2, w3⟩ := wide_fits hc hp
  obtain ⟨g1, g2, _⟩ := hc
  have hb : c.k * page ≤ 17179869184 := Nat.le_trans (Nat.mul_le_mul (Nat.le_trans k2 (Nat.le_trans g2 hm)) hp2) (by omega)
  have hroom : c.k * page / c.slots page ≤ 1000000000 := by
    -- bytes by slots is below twice a slot's bytes and a slot's size
    have hd : c.k * page < (c.slots page + 1) * c.size := by
      have := Nat.lt_div_mul_add (a := c.k * page) (b := c.size) (by omega)
      unfold Raw.slots; rw [Nat.add_mul]; omega
    have h2 : c.k * page / c.slots page ≤ 2 * c.size := by
      rw [Nat.div_le_iff_le_mul_add_pred (by omega)]
      have e : (c.slots page + 1) * c.size ≤ 2 * c.slots page * c.size := Nat.mul_le_mul_right _ (by omega)
      have e2 : 2 * c.slots page * c.size = c.slots page * (2 * c.size) := by rw [Nat.mul_comm 2, Nat.mul_assoc]
      omega
    omega
  have hw : wideN page c ≤ 1000000000 := by unfold wideN; simp only; omega
  refine wide_core page c.size c.k (c.slots page : Nat) 0 ((c.k * page / c.slots page : Nat) : Int) (wideN page c : Nat) _ ?_ ?_ (by omega) (by omega) (by omega) ?_ (Int.natCast_nonneg _) (Int.ofNat_le.2 hroom) ?_ w (fun w => magic_nat _ (by omega) w)
  · rw [Int.mul_comm, ← Int.natCast_mul]; omega
  · rw [Int.mul_comm, ← Int.natCast_mul]; omega
  · rw [← Int.natCast_mul, ← Int.natCast_ediv]
  · unfold wideN; simp only
    rcases Nat.le_total (c.k * page / c.slots page - c.k * page / c.slots page % 128) c.size with e | e
    · left; exact ⟨by omega, by rw [Nat.max_eq_left e]⟩
    · rcases Nat.lt_or_ge c.size (c.k * page / c.slots page - c.k * page / c.slots page % 128) with g | g
      · right; exact ⟨by omega, by rw [Nat.max_eq_right e]; omega⟩
      · left; exact ⟨by omega, by rw [Nat.max_eq_left g]⟩

/-! ### power -/
def powerB (n least most : Int) : Bool := decide (least ≤ n) && decide (n ≤ most) && Cl.pow n.toNat
theorem power_core (n least most : Int) (h0 : 0 ≤ least) (hn : n ≤ 9223372036854775807) (w : World) :
    Calls Tryd.prog 59 #[.int .i64 n, .int .i64 least, .int .i64 most] w fun e w' => e = .returned (.bool (powerB n least most)) ∧ w' = w := by
  by_cases h1 : least ≤ n
  · by_cases h2 : n ≤ most
    · obtain ⟨k, rfl⟩ : ∃ k : Nat, n = (k : Int) := ⟨n.toNat, by omega⟩
      have hp : powerB k least most = Cl.pow k := by simp [powerB, h1, h2]
      rw [hp]
      have c := fun w => pow_nat k (by omega) w
      generalize Cl.pow k = p at c
      clear hp
      go_enter Tryd.func59, Tryd.ntmps59
      go_wp2_with (go_at_call 63; refine (c _).mono ?_; rintro e w' ⟨rfl, rfl⟩)
      go_ret
      exact ⟨rfl, rfl⟩
    · have hp : powerB n least most = false := by simp [powerB, h2]
      rw [hp]
      have d2 : decide (n ≤ most) = false := by simpa using h2
      clear hp
      go_enter Tryd.func59, Tryd.ntmps59
      go_wp2_with fail
      go_ret
      exact ⟨rfl, rfl⟩
  · have hp : powerB n least most = false := by simp [powerB, h1]
    rw [hp]
    have d1 : decide (least ≤ n) = false := by simpa using h1
    clear hp
    go_enter Tryd.func59, Tryd.ntmps59
    go_wp2_with fail
    go_ret
    exact ⟨rfl, rfl⟩
end Go.Proofs.YtblfefibgoiaaaaDoor
