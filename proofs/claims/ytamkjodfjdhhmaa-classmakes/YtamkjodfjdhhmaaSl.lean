/- ClassSlots, walked. -/
import Derived.Test.YtamkjodfjdhhmaaAw
import Derived.StillTailTactics
namespace Go.Proofs.Ytamkjodfjdhhmaa
open Go.ChangeShapes Go.WideShapes Go.ChangeAt Go.RowKit Go.Proofs.Cl Go.Shelf
set_option linter.unusedVariables false
set_option linter.unusedSimpArgs false

theorem still_tail {P : Program} {id : Nat} {Q : Exit → Act → World → Prop} {a : Act} {w : World} {l : List Oper} (n : Nat) (hm : P.follows .mixedOrders = true) (hB : Region.lexTailB .any l.toArray n = true)
    (h : wpStill P l.toArray w.drew (fun a' => wpList P l.toArray Q (l.drop n) a' w.drew) (l.take n) a) : (Code.region id l.toArray true).wp P Q a w := wp_region_still_tail n hm hB h
theorem still_all {P : Program} {id : Nat} {Q : Exit → Act → World → Prop} {a : Act} {w : World} {l : List Oper} (hm : P.follows .mixedOrders = true) (hB : Region.lexB .any l.toArray = true)
    (h : wpStill P l.toArray w.drew (fun a' => Q .normal a' w.drew) l a) : (Code.region id l.toArray true).wp P Q a w := wp_region_still_lit hm hB h

/-- A quotient by multiplication is the quotient. -/
theorem exact_arith (d x : Int) (h2 : 2 ≤ d) (hd : d ≤ 32768) (hx : 0 ≤ x) (h : x < 131072) : x * (4294967295 / d + 1) / 4294967296 = x / d := by
  have xd : x * d ≤ 4294967296 := by
    have := Int.mul_le_mul (show x ≤ 131071 by omega) hd (by omega) (by decide)
    omega
  have em := Int.mul_ediv_add_emod 4294967295 d
  have e0 := Int.emod_nonneg 4294967295 (show d ≠ 0 by omega)
  have e1 := Int.emod_lt_of_pos 4294967295 (show 0 < d by omega)
  have xm := Int.mul_ediv_add_emod x d
  have x0 := Int.emod_nonneg x (show d ≠ 0 by omega)
  have x1 := Int.emod_lt_of_pos x (show 0 < d by omega)
  generalize 4294967295 / d = k at *
  generalize 4294967295 % d = r at *
  generalize x / d = q at *
  generalize x % d = s at *
  have hm : d * (k + 1) = 4294967296 + (d - 1 - r) := by rw [Int.mul_add]; omega
  have ht : d * (x * (k + 1)) = x * 4294967296 + x * (d - 1 - r) := by rw [Int.mul_left_comm, hm, Int.mul_add]
  have he0 : 0 ≤ x * (d - 1 - r) := Int.mul_nonneg hx (by omega)
  have he1 : x * (d - 1 - r) ≤ x * (d - 1) := Int.mul_le_mul_of_nonneg_left (by omega) hx
  have he2 : x * (d - 1) = x * d - x := by rw [Int.mul_sub]; omega
  have he3 : x * (d - 1 - r) < 4294967296 := by
    by_cases hz : x = 0
    · subst hz; omega
    · omega
  have lo : q * 4294967296 ≤ x * (k + 1) := by
    apply Int.le_of_mul_le_mul_left _ (show 0 < d by omega)
    rw [ht, ← Int.mul_assoc]
    omega
  have hi : x * (k + 1) < (q + 1) * 4294967296 := by
    apply Int.lt_of_mul_lt_mul_left _ (show 0 ≤ d by omega)
    rw [ht, ← Int.mul_assoc, Int.mul_add d q 1]
    omega
  omega
theorem table_facts {c : Cls} (h : c ∈ table) : 8 ≤ c.size ∧ c.size ≤ 32768 ∧ 1 ≤ c.pages ∧ c.pages ≤ 10 ∧ c.magic = magicN c.size := by
  have a : table.all (fun c => decide (8 ≤ c.size) && decide (c.size ≤ 32768) && decide (1 ≤ c.pages) && decide (c.pages ≤ 10) && c.magic == magicN c.size) = true := by decide +kernel
  have := List.all_eq_true.1 a c h
  simp at this
  obtain ⟨⟨⟨⟨a, b⟩, d⟩, e⟩, f⟩ := this
  exact ⟨a, b, d, e, f⟩
set_option maxRecDepth 100000 in
theorem slots_mid (k a d p m x : Int) (hk : 1 ≤ k) (hk2 : k < 68) (ha : 0 ≤ a) (ha2 : a ≤ 4294967295) (hd : 8 ≤ d) (hd2 : d ≤ 32768) (hp : 1 ≤ p) (hp2 : p ≤ 10) (hx : a % (p * 8192) = x) (x0 : 0 ≤ x) (x1 : x < 131072) (m0 : 0 ≤ m) (m1 : m ≤ 4294967295) (s : Int) (xm0 : 0 ≤ x * m) (xm : x * m ≤ 18446744073709551615) (hq : x * m / 4294967296 = x / d) (q0 : 0 ≤ x / d) (q1 : x / d ≤ 131072) (kn : Nat) (hkn : k = (kn : Int)) (w : World)
    (T : ∀ w, Calls Try.prog 12 #[] w fun e w' => ∃ g cap, e = .returned (.slice (some ⟨g, 0, none⟩) 68 cap) ∧ (w'.cell? ⟨g, kn * 4, none⟩ = some (.int .i64 d) ∧ w'.cell? ⟨g, kn * 4 + 1, none⟩ = some (.int .i64 p) ∧ w'.cell? ⟨g, kn * 4 + 2, none⟩ = some (.int .i64 s) ∧ w'.cell? ⟨g, kn * 4 + 3, none⟩ = some (.int .u32 m)) ∧ Below w.heap.size w w') :
    Calls Try.prog 7 #[.int .i64 k, .int .u32 a] w fun e w' => e = .returned (.bool true) ∧ Below w.heap.size w w' := by
  subst hkn
  have TT := hide T
  have z1 : ((p * 8192 : Int) == 0) = false := by simp; omega
  have z2 : (d == 0) = false := by simp; omega
  clear T
  go_enter Try.func7, Try.ntmps7
  go_wp2_with fail
  refine (TT.out _).mono ?_
  rintro e w1 ⟨g, cap, rfl, ⟨y0, y1, y2, y3⟩, b1⟩
  have B1 := hide b1
  clear TT b1
  go_wp2_with fail
  rw [hx]
  have HX := hide hx
  have t1 : (x * m / 4294967296 == x / d) = true := by rw [hq]; simp
  have e1 : IntKind.u64.wrap x = x := by rw [IntKind.wrap_u64]; omega
  have e2 : IntKind.u64.wrap m = m := by rw [IntKind.wrap_u64]; omega
  have e3 : IntKind.u64.wrap (x * m) = x * m := by rw [IntKind.wrap_u64]; omega
  have e4 : IntKind.u32.wrap (x * m / 4294967296) = x * m / 4294967296 := by rw [IntKind.wrap_u32, hq]; omega
  have e5 : IntKind.u32.wrap d = d := by rw [IntKind.wrap_u32]; omega
  have e6 : IntKind.u32.wrap (x.tdiv d) = x / d := by rw [IntKind.wrap_u32, Int.tdiv_eq_ediv_of_nonneg x0]; omega
  have z3 : ¬ d = 0 := by omega
  have HQ := hide hq
  clear hx hq
  refine still_tail 15 (by kernel_rfl) (by kernel_rfl) ?_
  simp only [List.take_succ_cons, List.take_zero, List.drop_succ_cons, List.drop_zero]
  repeat still_step
  refine wpStill_nil ?_
  go_wp2_with fail
  refine (awake_core _).mono ?_
  rintro e w3 ⟨rfl, b3⟩
  have B3 := hide b3
  clear b3
  go_wp2_with fail
  go_ret
  refine ⟨rfl, ?_⟩
  have h1 := B1.out.size
  exact ((B1.out.alloc h1 _).drew).trans (B3.out.mono (by simp; omega))
theorem magic_fits2 (d : Nat) (h : 8 ≤ d) : magicN d = 4294967295 / d + 1 ∧ magicN d ≤ 536870912 := by
  have e : magicN d = 4294967295 / d + 1 := by unfold magicN; rw [if_neg (by omega)]
  refine ⟨e, ?_⟩
  rw [e]
  have : 4294967295 / d ≤ 4294967295 / 8 := Nat.div_le_div_left h (by omega)
  omega
theorem slots_core (k a : Int) (hk0 : -9223372036854775808 ≤ k) (hk1 : k ≤ 9223372036854775807) (ha : 0 ≤ a) (ha2 : a ≤ 4294967295) (w : World) :
    Calls Try.prog 7 #[.int .i64 k, .int .u32 a] w fun e w' => e = .returned (.bool true) ∧ Below w.heap.size w w' := by
  by_cases h1 : k < 1
  · go_enter Try.func7, Try.ntmps7
    go_wp2_with fail
    refine (table_any _).mono ?_
    rintro e w1 ⟨g, cap, rfl, o1, b1⟩
    have B1 := hide b1
    clear o1 b1
    go_wp2_with fail
    refine (awake_core _).mono ?_
    rintro e w3 ⟨rfl, b3⟩
    have B3 := hide (B1.out.trans (b3.mono B1.out.size))
    clear b3
    go_wp2_with fail
    go_ret
    exact ⟨rfl, B3.out⟩
  · by_cases h2 : 68 ≤ k
    · have h1' : (1 : Int) ≤ k := by omega
      go_enter Try.func7, Try.ntmps7
      go_wp2_with fail
      refine (table_any _).mono ?_
      rintro e w1 ⟨g, cap, rfl, o1, b1⟩
      have B1 := hide b1
      clear o1 b1
      go_wp2_with fail
      refine (awake_core _).mono ?_
      rintro e w3 ⟨rfl, b3⟩
      have B3 := hide (B1.out.trans (b3.mono B1.out.size))
      clear b3
      go_wp2_with fail
      go_ret
      exact ⟨rfl, B3.out⟩
    · obtain ⟨kn, rfl⟩ : ∃ kn : Nat, k = (kn : Int) := ⟨k.toNat, by omega⟩
      have hl : kn < (zeroC :: table).length := by rw [List.length_cons, table_len]; omega
      obtain ⟨c, hc⟩ : ∃ c, (zeroC :: table)[kn]? = some c := ⟨_, List.getElem?_eq_getElem hl⟩
      have hm : c ∈ table := by
        obtain ⟨j, rfl⟩ : ∃ j, kn = j + 1 := ⟨kn - 1, by omega⟩
        exact List.mem_of_getElem? (by simpa using hc)
      obtain ⟨f1, f2, f3, f4, f5⟩ := table_facts hm
      obtain ⟨g1, g2⟩ := magic_fits2 c.size f1
      have hx0 := Int.emod_nonneg a (show ((c.pages : Int) * 8192) ≠ 0 by omega)
      have hx1 := Int.emod_lt_of_pos a (show 0 < ((c.pages : Int) * 8192) by omega)
      have hq := exact_arith (c.size : Int) (a % ((c.pages : Int) * 8192)) (by omega) (by omega) hx0 (by omega)
      have hmm : (c.magic : Int) = 4294967295 / (c.size : Int) + 1 := by rw [f5, g1, Int.natCast_add, Int.natCast_ediv]; rfl
      have q0 : 0 ≤ a % ((c.pages : Int) * 8192) / (c.size : Int) := Int.ediv_nonneg hx0 (by omega)
      have q1 : a % ((c.pages : Int) * 8192) / (c.size : Int) ≤ 131072 := Int.le_trans (Int.ediv_le_self _ hx0) (by omega)
      have hm1 : (c.magic : Int) ≤ 536870912 := by rw [f5]; omega
      have xm0 : 0 ≤ a % ((c.pages : Int) * 8192) * (c.magic : Int) := Int.mul_nonneg hx0 (by omega)
      have xm1 : a % ((c.pages : Int) * 8192) * (c.magic : Int) ≤ 131072 * 536870912 := Int.mul_le_mul (by omega) hm1 (by omega) (by omega)
      refine slots_mid kn a c.size c.pages c.magic _ (by omega) (by omega) ha ha2 (by omega) (by omega) (by omega) (by omega) rfl hx0 (by omega) (by omega) (by omega) c.slots xm0 (by omega) (by rw [hmm]; exact hq) q0 q1 kn rfl w ?_
      intro w
      refine (table_any w).mono ?_
      rintro e w1 ⟨g, cap, rfl, o1, b1⟩
      exact ⟨g, cap, rfl, list_at o1 (by rw [List.length_cons, table_len]) kn c hc, b1⟩
end Go.Proofs.Ytamkjodfjdhhmaa
