/- Where words can't be touched: the faults that are panicked with. -/
import Derived.Test.YtpceigglilgelaaVmB
import Derived.Defers
import Derived.Recover
import Derived.Laws.Pointers
namespace Go.Proofs.Ytpceigglilgelaa
open Go.ChangeShapes Go.WideShapes Go.ChangeAt Go.RowKit Go.Proofs.Sp
set_option linter.unusedVariables false
set_option linter.unusedSimpArgs false

/-- What is panicked with. -/
def faultV (c : Nat) : Value := .iface 99 (.agg #[.int .i64 (c : Int)])
def Faulted (c : Nat) (e : Ending) : Prop := e = .panicked [{ v := faultV c, recovered := false }]

theorem aligned_ok (n : Int) (h0 : 0 ≤ n) (h1 : n < 18446744073709551616) (h : n % 8 = 0) (w : World) : Calls Try.prog 66 #[.int .u64 n] w fun e w' => e = .returned (.tuple #[]) ∧ w' = w := by
  go_enter Try.func66, Try.ntmps66
  go_wp2_with fail
  go_end0
  exact ⟨rfl, rfl⟩
theorem aligned_bad (n : Int) (h0 : 0 ≤ n) (h1 : n < 18446744073709551616) (h : ¬ n % 8 = 0) (w : World) : Calls Try.prog 66 #[.int .u64 n] w fun e w' => e = .panicked [{ v := .iface 99 (.agg #[.int .i64 11]), recovered := false }] ∧ w' = w := by
  go_enter Try.func66, Try.ntmps66
  go_wp2_with fail
  exact ⟨rfl, rfl, rfl⟩
theorem touch_ok (b g cap : Nat) (R : List (Nat × Nat)) (f : Nat → Nat) (a : Int) (h0 : 0 ≤ a) (h1 : a < 18446744073709551616) (hn : R.length ≤ 70368744177664) (w : World) (hL : ListAt w b 3 g cap R) (hs : Seg f 0 R 34359738368) (hz : ∀ p, 34359738368 ≤ p → f p = 0)
    (h : a % 8 = 0) (hr : f (a / 8192).toNat = 2) :
    Calls Try.prog 38 #[.pointer (some ⟨b, 0, none⟩), .int .u64 a] w fun e w' => e = .returned (.tuple #[]) ∧ Below w.heap.size w w' := by
  have HL := hide hL
  have HS := hide hs
  have HZ := hide hz
  have HR := hide hr
  clear hL hs hz hr
  go_enter Try.func38, Try.ntmps38
  go_wp2_with (first
    | (go_at_call 66; refine (aligned_ok a h0 h1 h _).mono ?_; rintro e w' ⟨rfl, hw'⟩; rw [hw']; clear hw' w')
    | (go_at_call 54; refine (state_core b 3 g cap R f (a / 8192) (by omega) hn _ HL.out HS.out HZ.out).mono ?_; rintro e w' ⟨rfl, B1⟩; rw [HR.out]))
  go_end0
  exact ⟨rfl, B1⟩
theorem touch_odd (b : Nat) (a : Int) (h0 : 0 ≤ a) (h1 : a < 18446744073709551616) (w : World) (h : ¬ a % 8 = 0) :
    Calls Try.prog 38 #[.pointer (some ⟨b, 0, none⟩), .int .u64 a] w fun e w' => e = .panicked [{ v := .iface 99 (.agg #[.int .i64 11]), recovered := false }] ∧ Below w.heap.size w w' := by
  go_enter Try.func38, Try.ntmps38
  go_wp2_with (first
    | (go_at_call 66; refine (aligned_bad a h0 h1 h _).mono ?_; rintro e w' ⟨rfl, hw'⟩; rw [hw']; clear hw' w'))
  exact ⟨rfl, rfl, Below.refl _ _⟩
theorem touch_bad (b g cap : Nat) (R : List (Nat × Nat)) (f : Nat → Nat) (a : Int) (h0 : 0 ≤ a) (h1 : a < 18446744073709551616) (hn : R.length ≤ 70368744177664) (w : World) (hL : ListAt w b 3 g cap R) (hs : Seg f 0 R 34359738368) (hz : ∀ p, 34359738368 ≤ p → f p = 0)
    (h : a % 8 = 0) (hr : f (a / 8192).toNat ≠ 2) :
    Calls Try.prog 38 #[.pointer (some ⟨b, 0, none⟩), .int .u64 a] w fun e w' => e = .panicked [{ v := .iface 99 (.agg #[.int .i64 12]), recovered := false }] ∧ Below w.heap.size w w' := by
  have HL := hide hL
  have HS := hide hs
  have HZ := hide hz
  obtain ⟨x, hx⟩ : ∃ x : Nat, x = f (a / 8192).toNat := ⟨_, rfl⟩
  rw [← hx] at hr
  have HX := hide hx
  have xr : ((x : Int) != 2) = true := by rw [bne_iff_ne]; omega
  clear hL hs hz hr hx
  go_enter Try.func38, Try.ntmps38
  go_wp2_with (first
    | (go_at_call 66; refine (aligned_ok a h0 h1 h _).mono ?_; rintro e w' ⟨rfl, hw'⟩; rw [hw']; clear hw' w')
    | (go_at_call 54; refine (state_core b 3 g cap R f (a / 8192) (by omega) hn _ HL.out HS.out HZ.out).mono ?_; rintro e w' ⟨rfl, B1⟩; rw [← HX.out]))
  exact ⟨rfl, rfl, B1⟩

/-! ### The guard -/
set_option maxRecDepth 100000 in
theorem catch_fault (q : Nat) (x c : Int) (w : World) (hc : w.cell? ⟨q, 0, none⟩ = some (.int .i64 x)) (hz : w.frozen? ⟨q, 0, none⟩ = false) :
    CallsD Try.prog 65 #[.pointer (some ⟨q, 0, none⟩)] (.panicking [{ v := .iface 99 (.agg #[.int .i64 c]), recovered := false }]) w fun e u' w' =>
      e = .returned (.tuple #[]) ∧ u' = .panicking [{ v := .iface 99 (.agg #[.int .i64 c]), recovered := true }] ∧ w' = (w.setCell ⟨q, 0, none⟩ (.int .i64 c)).alloc (.cells #[.int .i64 c] 99) := by
  have hpl := cell_lt hc
  refine callsD_of_wpS Try.func65 rfl fun c₀ cs hu => ?_
  apply wpS_seq
  apply wpS_region
  simp [wpOpsS, go_sem, recoverD, hu, Try.ntmps65, Exit.thenS, Array.replicate]
  refine wpS_of_wp ?_
  clear hu
  have hta : ∀ (v : Value) (w : World), (Instr.typeAssert (.iface 99 v) 20 99 true).run Try.prog w = .ok (.tuple #[v, .bool true]) w := fun _ _ => rfl
  go_wp2_with fail
  cases c₀
  simp_all [bodyPostS, results, Try.results65]
theorem catch_idle (p : Addr) (w : World) :
    CallsD Try.prog 65 #[.pointer (some p)] .returning w fun e u' w' => e = .returned (.tuple #[]) ∧ u' = .returning ∧ w' = w := by
  refine callsD_of_wpS Try.func65 rfl fun c₀ cs hu => ?_
  apply wpS_seq
  apply wpS_region
  simp [wpOpsS, go_sem, recoverD, hu, Try.ntmps65, Exit.thenS, Array.replicate]
  refine wpS_of_wp ?_
  go_wp2_with fail
  cases c₀
  simp_all [bodyPostS, results, Try.results65]
theorem guard_ok (f : FuncId) (cp : Array Value) (w : World) (Q : World → Prop) (hent : ∀ (args : Array Value) (w : World), (callFunc f args).run Try.prog w = .ok (.enter f args) w)
    (hw : Calls Try.prog f cp (w.alloc (.cells #[.int .i64 0] 29)) fun e w' => e = .returned (.tuple #[]) ∧ Q w')
    (hQ : ∀ w2, Q w2 → w2.cell? ⟨w.heap.size, 0, none⟩ = some (.int .i64 0) ∧ w2.frozen? ⟨w.heap.size, 0, none⟩ = false) :
    Calls Try.prog 36 #[.func (.func f) #[] cp] w fun e w' => e = .returned (.int .i64 0) ∧ ∃ w2, Q w2 ∧ w' = w2.setCell ⟨w.heap.size, 0, none⟩ (.int .i64 0) := by
  have hmf : ∀ (fn : Fn) (first cap : Array Value) (w : World), (Instr.makeFunc fn first cap).run Try.prog w = .ok (.func fn first cap) w := fun _ _ _ _ => rfl
  have HQ := hide hQ
  have HW := hide hw
  clear hQ hw
  go_enter_defers Try.func36, Try.ntmps36
  go_wp2_with fail
  refine HW.out.mono ?_
  rintro e w2 ⟨rfl, q2⟩
  obtain ⟨c2, f2⟩ := HQ.out w2 q2
  have b2 := cell_lt c2
  have Q2 := hide q2
  clear q2 HW HQ
  go_wp2_with fail
  refine leaves_cons (f := 65) (args := #[.pointer (some ⟨w.heap.size, 0, none⟩)]) (by simp) (by simp [go_sem]) ?_
  refine (catch_idle ⟨w.heap.size, 0, none⟩ _).mono ?_
  rintro e u' w'' ⟨rfl, rfl, rfl⟩
  simp [Leaves, settle, results, Try.results36, go_sem, b2, c2]
  exact ⟨w2, Q2.out, rfl⟩
theorem guard_bad (f : FuncId) (cp : Array Value) (c : Int) (w : World) (Q : World → Prop) (hent : ∀ (args : Array Value) (w : World), (callFunc f args).run Try.prog w = .ok (.enter f args) w)
    (hw : Calls Try.prog f cp (w.alloc (.cells #[.int .i64 0] 29)) fun e w' => e = .panicked [{ v := .iface 99 (.agg #[.int .i64 c]), recovered := false }] ∧ Q w')
    (hQ : ∀ w2, Q w2 → w2.cell? ⟨w.heap.size, 0, none⟩ = some (.int .i64 0) ∧ w2.frozen? ⟨w.heap.size, 0, none⟩ = false) :
    Calls Try.prog 36 #[.func (.func f) #[] cp] w fun e w' => e = .returned (.int .i64 c) ∧ ∃ w2, Q w2 ∧ w' = (w2.setCell ⟨w.heap.size, 0, none⟩ (.int .i64 c)).alloc (.cells #[.int .i64 c] 99) := by
  have hmf : ∀ (fn : Fn) (first cap : Array Value) (w : World), (Instr.makeFunc fn first cap).run Try.prog w = .ok (.func fn first cap) w := fun _ _ _ _ => rfl
  have HQ := hide hQ
  have HW := hide hw
  clear hQ hw
  go_enter_defers Try.func36, Try.ntmps36
  go_wp2_with fail
  refine HW.out.mono ?_
  rintro e w2 ⟨rfl, q2⟩
  obtain ⟨c2, f2⟩ := HQ.out w2 q2
  have b2 := cell_lt c2
  have Q2 := hide q2
  clear q2 HW HQ
  go_wp2_with fail
  refine leaves_cons (f := 65) (args := #[.pointer (some ⟨w.heap.size, 0, none⟩)]) (by simp) (by simp [go_sem]) ?_
  refine (catch_fault w.heap.size 0 c _ c2 f2).mono ?_
  rintro e u' w'' ⟨rfl, rfl, rfl⟩
  simp [Leaves, settle, results, Try.results36, go_sem, b2, c2]
  exact ⟨w2, Q2.out, rfl⟩
end Go.Proofs.Ytpceigglilgelaa
