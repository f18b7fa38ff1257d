/- Where words of a row of bytes can't be touched. -/
import Derived.Test.YtpceigglilgelaaVmR
import Derived.Test.YtpceigglilgelaaVmC
namespace Go.Proofs.Ytpceigglilgelaa
open Go.ChangeShapes Go.WideShapes Go.ChangeAt Go.RowKit Go.Proofs.Sp

theorem cover_ready {f : Nat → Nat} {a e : Nat} {Ps : List (Nat × Nat × Nat)} (h : Cover f a Ps e) : (!(Ps.any fun x => ((x.2.2 : Int) != 2))) = true ↔ ∀ p, a ≤ p → p < e → f p = 2 := by
  rw [← h.all (fun s => s = 2)]
  simp [bne_iff_ne]
  constructor
  · intro k a b c d; have := k a b c d; omega
  · intro k a b c d; have := k a b c d; omega
theorem all_rows {S : Sp} {a c : Nat} (hc : 0 < c) : allReady S a c ↔ ∀ p, a / 8192 ≤ p → p < (a + c - 1) / 8192 + 1 → S.st p = 2 := by
  unfold allReady
  constructor
  · intro h p h1 h2
    have := h (p - a / 8192) (by omega)
    rwa [show a / 8192 + (p - a / 8192) = p by omega] at this
  · intro h i hi
    exact h _ (by omega) (by omega)
set_option maxRecDepth 100000 in
theorem tall_ok (b g cap : Nat) (R : List (Nat × Nat)) (S : Sp) (a c : Int) (h0 : 0 ≤ a) (h1 : a < 18446744073709551616) (h2 : 0 ≤ c) (h3 : c < 18446744073709551616) (hn : R.length ≤ 2199023255552) (w : World) (hL : ListAt w b 3 g cap R) (hs : Seg S.st 0 R 34359738368)
    (e1 : a % 8 = 0) (e2 : c % 8 = 0) (hr : c = 0 ∨ (a + c ≤ 281474976710656 ∧ allReady S a.toNat c.toNat)) :
    Calls Try.prog 52 #[.pointer (some ⟨b, 0, none⟩), .int .u64 a, .int .u64 c] w fun e w' => e = .returned (.tuple #[]) ∧ Below w.heap.size w w' := by
  by_cases c0 : c = 0
  · subst c0
    clear hr hL hs
    go_enter Try.func52, Try.ntmps52
    go_wp2_with (first
      | (go_at_call 66; refine (aligned_ok a h0 h1 e1 _).mono ?_; rintro e w' ⟨rfl, hw'⟩; rw [hw']; clear hw' w')
      | (go_at_call 66; refine (aligned_ok 0 h2 h3 e2 _).mono ?_; rintro e w' ⟨rfl, hw'⟩; rw [hw']; clear hw' w'))
    ((try simp only [Exit.inBlock, Exit.then]); refine bodyPost_ret (results_none rfl _ _ _) rfl ?_)
    exact ⟨rfl, Below.refl _ _⟩
  · obtain ⟨r1, r2⟩ := hr.resolve_left c0
    have b0 : (c == 0) = false := beq_eq_false_iff_ne.2 c0
    have a1 : ¬ 281474976710656 ≤ a := by omega
    have a2 : ¬ c > 281474976710656 - a := by omega
    have c1 : 1 ≤ c := by omega
    have HR : Hid (∀ q, (a / 8192).toNat ≤ q → q < ((a + c - 1) / 8192 + 1).toNat → S.st q = 2) := hide (by
      rw [all_rows (by omega)] at r2
      intro q q1 q2
      exact r2 q (by omega) (by omega))
    have HL := hide hL
    have HS := hide hs
    clear hr r2 hL hs c0
    go_enter Try.func52, Try.ntmps52
    go_wp2_with (first
      | (go_at_call 66; refine (aligned_ok a h0 h1 e1 _).mono ?_; rintro e w' ⟨rfl, hw'⟩; rw [hw']; clear hw' w')
      | (go_at_call 66; refine (aligned_ok c h2 h3 e2 _).mono ?_; rintro e w' ⟨rfl, hw'⟩; rw [hw']; clear hw' w'))
    refine (parts_core b 3 g cap R S.st (a / 8192) ((a + c - 1) / 8192 + 1) (by omega) (by omega) (by omega) hn w HL.out HS.out).mono ?_
    rintro e w' ⟨v, Ps, rfl, hP, hC, hl, _, B1⟩
    have E := hide ((cover_ready hC).2 HR.out)
    have HP := hide hP
    have HB := hide B1
    clear hP hC HR HL HS B1
    go_wp2_with fail
    refine (allReady_core v Ps (by omega) w' HP.out).mono ?_
    rintro e w'' ⟨rfl, B2⟩
    rw [E.out]
    clear E HP
    go_wp2_with fail
    go_end0
    exact ⟨rfl, HB.out.trans (B2.mono HB.out.size)⟩
set_option maxRecDepth 100000 in
theorem tall_odd (b : Nat) (a c : Int) (h0 : 0 ≤ a) (h1 : a < 18446744073709551616) (h2 : 0 ≤ c) (h3 : c < 18446744073709551616) (w : World) (h : ¬ (a % 8 = 0 ∧ c % 8 = 0)) :
    Calls Try.prog 52 #[.pointer (some ⟨b, 0, none⟩), .int .u64 a, .int .u64 c] w fun e w' => e = .panicked [{ v := .iface 99 (.agg #[.int .i64 11]), recovered := false }] ∧ Below w.heap.size w w' := by
  by_cases e1 : a % 8 = 0
  · have e2 : ¬ c % 8 = 0 := fun z => h ⟨e1, z⟩
    clear h
    go_enter Try.func52, Try.ntmps52
    go_wp2_with (first
      | (go_at_call 66; refine (aligned_ok a h0 h1 e1 _).mono ?_; rintro e w' ⟨rfl, hw'⟩; rw [hw']; clear hw' w')
      | (go_at_call 66; refine (aligned_bad c h2 h3 e2 _).mono ?_; rintro e w' ⟨rfl, hw'⟩; rw [hw']; clear hw' w'))
    exact ⟨rfl, rfl, Below.refl _ _⟩
  · clear h
    go_enter Try.func52, Try.ntmps52
    go_wp2_with (first
      | (go_at_call 66; refine (aligned_bad a h0 h1 e1 _).mono ?_; rintro e w' ⟨rfl, hw'⟩; rw [hw']; clear hw' w'))
    exact ⟨rfl, rfl, Below.refl _ _⟩
set_option maxRecDepth 100000 in
theorem tall_bad (b g cap : Nat) (R : List (Nat × Nat)) (S : Sp) (a c : Int) (h0 : 0 ≤ a) (h1 : a < 18446744073709551616) (h2 : 0 ≤ c) (h3 : c < 18446744073709551616) (hn : R.length ≤ 2199023255552) (w : World) (hL : ListAt w b 3 g cap R) (hs : Seg S.st 0 R 34359738368)
    (e1 : a % 8 = 0) (e2 : c % 8 = 0) (c0 : c ≠ 0) (hr : ¬ (a + c ≤ 281474976710656 ∧ allReady S a.toNat c.toNat)) :
    Calls Try.prog 52 #[.pointer (some ⟨b, 0, none⟩), .int .u64 a, .int .u64 c] w fun e w' => e = .panicked [{ v := .iface 99 (.agg #[.int .i64 12]), recovered := false }] ∧ Below w.heap.size w w' := by
  have b0 : (c == 0) = false := beq_eq_false_iff_ne.2 c0
  have c1 : 1 ≤ c := by omega
  by_cases a1 : 281474976710656 ≤ a
  · clear hr hL hs c0
    go_enter Try.func52, Try.ntmps52
    go_wp2_with (first
      | (go_at_call 66; refine (aligned_ok a h0 h1 e1 _).mono ?_; rintro e w' ⟨rfl, hw'⟩; rw [hw']; clear hw' w')
      | (go_at_call 66; refine (aligned_ok c h2 h3 e2 _).mono ?_; rintro e w' ⟨rfl, hw'⟩; rw [hw']; clear hw' w'))
    exact ⟨rfl, rfl, Below.refl _ _⟩
  · by_cases a2 : c > 281474976710656 - a
    · clear hr hL hs c0
      go_enter Try.func52, Try.ntmps52
      go_wp2_with (first
        | (go_at_call 66; refine (aligned_ok a h0 h1 e1 _).mono ?_; rintro e w' ⟨rfl, hw'⟩; rw [hw']; clear hw' w')
        | (go_at_call 66; refine (aligned_ok c h2 h3 e2 _).mono ?_; rintro e w' ⟨rfl, hw'⟩; rw [hw']; clear hw' w'))
      exact ⟨rfl, rfl, Below.refl _ _⟩
    · have HR : Hid (¬ ∀ q, (a / 8192).toNat ≤ q → q < ((a + c - 1) / 8192 + 1).toNat → S.st q = 2) := hide (by
        intro z
        apply hr
        refine ⟨by omega, (all_rows (by omega)).2 ?_⟩
        intro q q1 q2
        exact z q (by omega) (by omega))
      have HL := hide hL
      have HS := hide hs
      clear hr hL hs c0
      go_enter Try.func52, Try.ntmps52
      go_wp2_with (first
        | (go_at_call 66; refine (aligned_ok a h0 h1 e1 _).mono ?_; rintro e w' ⟨rfl, hw'⟩; rw [hw']; clear hw' w')
        | (go_at_call 66; refine (aligned_ok c h2 h3 e2 _).mono ?_; rintro e w' ⟨rfl, hw'⟩; rw [hw']; clear hw' w'))
      refine (parts_core b 3 g cap R S.st (a / 8192) ((a + c - 1) / 8192 + 1) (by omega) (by omega) (by omega) hn w HL.out HS.out).mono ?_
      rintro e w' ⟨v, Ps, rfl, hP, hC, hl, _, B1⟩
      have E : Hid ((!(Ps.any fun x => ((x.2.2 : Int) != 2))) = false) := hide (by
        cases z : (!(Ps.any fun x => ((x.2.2 : Int) != 2)))
        · rfl
        · exact absurd ((cover_ready hC).1 z) HR.out)
      have HP := hide hP
      have HB := hide B1
      clear hP hC HR HL HS B1
      go_wp2_with fail
      refine (allReady_core v Ps (by omega) w' HP.out).mono ?_
      rintro e w'' ⟨rfl, B2⟩
      rw [E.out]
      clear E HP
      go_wp2_with fail
      exact ⟨rfl, rfl, HB.out.trans (B2.mono HB.out.size)⟩
end Go.Proofs.Ytpceigglilgelaa
