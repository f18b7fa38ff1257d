/- The forms of package masks: formOf: contract. -/
import Derived.Test.YtnhllnepnpmegaaMo
namespace Go.Proofs.Ytnhllnepnpmegaa
open Go.ChangeShapes Go.WideShapes Go.ChangeAt Go.RowKit Go.Shelf Go.Proofs.Rx Go.Maps Go.Proofs.Bt
set_option linter.unusedVariables false
set_option linter.unusedSimpArgs false

attribute [local go_sem] Oper.semAt_some

theorem BoolsAt.below {W W' : World} {o : Option Addr} {len cap : Nat} {X : Nat → Bool} (h : BoolsAt W o len cap X) (k : Below W.heap.size W W') : BoolsAt W' o len cap X := by
  refine ⟨h.nil, fun ad e i hi => ?_⟩
  obtain ⟨b, f, rfl, hb, hc⟩ := h.at hi
  obtain rfl : (⟨b, f, none⟩ : Addr) = ad := by injection e
  rw [addr_add0]
  exact (k.cell (p := ⟨b, f + i, none⟩) hb).trans (hc i hi)
theorem cut_cnt (X : Nat → Bool) (len : Nat) : cnt (cutF X len) 0 len = cnt X 0 len := cnt_congr fun k hk => by unfold cutF; rw [decide_eq_true (by omega)]; rfl
/-- A form of things. -/
def FormR (fi len n : Nat) (X : Nat → Bool) (W : World) (e : Ending) (W' : World) : Prop := ∃ T u g fb, e = .returned (.iface T u) ∧ FormAt W' T u g fb ∧ (∀ x, g x = thF fi len n (cutF X len) x) ∧ (∀ z ∈ fb, W.heap.size ≤ z) ∧ Below W.heap.size W W'
theorem formR_none {fi len n : Nat} {X : Nat → Bool} {W W' : World} (h : n = 0 ∨ cnt X 0 len = 0) (hl : 1 ≤ len) (k : Below W.heap.size W W') : FormR fi len n X W (.returned (.iface 65 (.agg #[]))) W' := by
  refine ⟨_, _, _, _, rfl, .none, fun x => ?_, fun z hz => (by cases hz), k⟩
  unfold thF
  rcases h with rfl | h
  · rw [Nat.zero_mul, decide_eq_false (by omega)]; rfl
  · have := cnt_zero.1 h ((x - fi) % len) (Nat.mod_lt _ (by omega))
    rw [Nat.zero_add] at this
    unfold cutF
    rw [this]; simp
set_option maxRecDepth 100000 in
theorem formOf_any {W : World} {o : Option Addr} {len cap : Nat} {X : Nat → Bool} (h : BoolsAt W o len cap X) (h1 : 1 ≤ len) (h2 : len ≤ 65536) (fi n : Nat) (lim : fi + n * len ≤ 35184372088832) (wv : Int) :
    Calls Try.prog 24 #[.int .u64 (fi : Nat), .agg #[.int .i64 wv, .slice o len cap], .int .u64 (n : Nat)] W (FormR fi len n X W) := by
  obtain ⟨WA, hWA⟩ : ∃ WA, W.alloc (.cells #[.int .i64 wv, .slice o len cap] 34) = WA := ⟨_, rfl⟩
  have kb : Bk WA W.heap.size 34 #[.int .i64 wv, .slice o len cap] := by rw [← hWA]; exact World.alloc_heap_new W _
  have bA : Below W.heap.size W WA := by rw [← hWA]; exact below_alloc W _
  have a1 := kb.cell 1 _ rfl
  have CM := hide (maskOf_any (h.below bA) h1 h2)
  have E0 := hide (show ∀ W1, Below WA.heap.size WA W1 → n = 0 ∨ cnt X 0 len = 0 → ∀ v, FormR fi len n X W (.returned (.iface 65 (.agg #[]))) (W1.alloc v) from fun W1 k c v => formR_none c h1 ((bA.trans (k.mono bA.size)).trans ((below_alloc W1 v).mono (by have := bA.size; have := k.size; omega))))
  have E1 := hide (show ∀ W1 sb v, Below WA.heap.size WA W1 → WA.heap.size ≤ sb → Vec W1 sb ((len + 63) / 64) 31 (strips (cutF X len)) → FormR fi len n X W (.returned (.iface 74 (.pointer (some ⟨W1.heap.size + 1, 0, none⟩)))) ((W1.alloc v).alloc (.cells #[.int .u64 (fi : Nat), .int .u64 (len : Nat), .int .u64 (cnt X 0 len : Nat), .slice (some ⟨sb, 0, none⟩) ((len + 63) / 64) ((len + 63) / 64), .int .u64 (n : Nat)] 76)) from fun W1 sb v k s1 vv => by
    rw [show W1.heap.size + 1 = (W1.alloc v).heap.size by simp]
    have q1 := below_alloc W1 v
    have q2 := below_alloc (W1.alloc v) (.cells #[.int .u64 (fi : Nat), .int .u64 (len : Nat), .int .u64 (cnt X 0 len : Nat), .slice (some ⟨sb, 0, none⟩) ((len + 63) / 64) ((len + 63) / 64), .int .u64 (n : Nat)] 76)
    have sA := bA.size
    have s2 := k.size
    have s3 := q1.size
    refine ⟨_, _, _, _, rfl, .things _ sb fi len n (cutF X len) ⟨?_, (vv.below q1).below q2, h1, h2, lim⟩, fun _ => rfl, fun z hz => ?_, ((bA.trans (k.mono sA)).trans (q1.mono (by omega))).trans (q2.mono (by omega))⟩
    · rw [cut_cnt]; exact World.alloc_heap_new _ _
    · simp only [List.mem_cons, List.mem_nil_iff, or_false] at hz
      rcases hz with hz | hz
      · rw [hz]; omega
      · rw [hz]; omega)
  obtain ⟨R, hR⟩ : ∃ R, FormR fi len n X W = R := ⟨_, rfl⟩
  rw [hR] at E0 E1 ⊢
  have HWA := hide hWA
  obtain ⟨ab, hab⟩ : ∃ ab, W.heap.size = ab := ⟨_, rfl⟩
  have HAB := hide hab
  rw [hab] at a1
  have pl := cnt_le X 0 len
  obtain ⟨PT, hPT⟩ : ∃ PT, cnt X 0 len = PT := ⟨_, rfl⟩
  rw [hPT] at E0 E1 CM pl
  have PT0 : (0 : Int) ≤ (PT : Int) := by omega
  have PT1 : (PT : Int) ≤ 65536 := by omega
  clear hR hWA hab kb bA h lim hPT
  by_cases c : n = 0
  · have d : (((n : Nat) : Int) == 0) = true := by rw [beq_iff_eq]; omega
    have EE := hide (fun W1 k v => E0.out W1 k (.inl c) v)
    clear c E0 E1
    go_enter Try.func24, Try.ntmps24
    go_upto_region 1 with fail
    rw [HWA.out, HAB.out]
    go_wp2_with fail
    refine CM.out.mono ?_
    rintro e W1 ⟨sb, rfl, s1, vv, k1⟩
    have FF := hide (EE.out W1 k1)
    clear s1 vv k1 CM a1 EE
    go_wp2_with fail
    first | exact FF.out _ | (go_ret; exact FF.out _)
  · have d : (((n : Nat) : Int) == 0) = false := by rw [beq_eq_false_iff_ne]; omega
    by_cases c2 : PT = 0
    · have d2 : (((PT : Nat) : Int) == 0) = true := by rw [beq_iff_eq]; omega
      have EE := hide (fun W1 k v => E0.out W1 k (.inr c2) v)
      clear c c2 E0 E1
      go_enter Try.func24, Try.ntmps24
      go_upto_region 1 with fail
      rw [HWA.out, HAB.out]
      go_wp2_with fail
      refine CM.out.mono ?_
      rintro e W1 ⟨sb, rfl, s1, vv, k1⟩
      have FF := hide (EE.out W1 k1)
      clear s1 vv k1 CM a1 EE
      go_wp2_with fail
      first | exact FF.out _ | (go_ret; exact FF.out _)
    · have d2 : (((PT : Nat) : Int) == 0) = false := by rw [beq_eq_false_iff_ne]; omega
      clear c c2 E0
      go_enter Try.func24, Try.ntmps24
      go_upto_region 1 with fail
      rw [HWA.out, HAB.out]
      go_wp2_with fail
      refine CM.out.mono ?_
      rintro e W1 ⟨sb, rfl, s1, vv, k1⟩
      have FF := hide (fun v => E1.out W1 sb v k1 s1 vv)
      clear s1 vv k1 CM a1 E1
      go_wp2_with fail
      first | exact FF.out _ | (go_ret; exact FF.out _)
end Go.Proofs.Ytnhllnepnpmegaa
