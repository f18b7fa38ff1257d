/- A span is made: rightPages, slotBytes, cut, New, Manual: contracts. -/
import Derived.Test.YtblfefibgoiaaaaDoorGd
namespace Go.Proofs.YtblfefibgoiaaaaDoor
open Go.ChangeShapes Go.WideShapes Go.ChangeAt Go.RowKit Go.Proofs.Sn Go.Shelf
set_option linter.unusedVariables false
set_option linter.unusedSimpArgs false

attribute [local go_sem] Oper.semAt_some

def geo (page pages cls : Nat) (noptr : Bool) (elem : Nat) : Geo :=
  ⟨page * 8192, pages, cls, noptr, elem, pages * 8192 / elem, if pages * 8192 ≤ 131072 ∧ elem ≤ 32768 then Cl.magicN elem else 0⟩
theorem by_any (p : Nat) (hp : p ≤ 34359738368) (W : World) : Calls Tryd.prog 32 #[.int .u64 (p : Nat)] W fun e W' => e = .returned (.int .i64 ((p : Int) * 8192)) ∧ W' = W := by
  have w1 : IntKind.u64.wrap ((p : Int) * 8192) = (p : Int) * 8192 := by rw [IntKind.wrap_u64]; omega
  have w2 : IntKind.i64.wrap ((p : Int) * 8192) = (p : Int) * 8192 := by rw [IntKind.wrap_i64]; omega
  clear hp
  go_enter Tryd.func32, Tryd.ntmps32
  go_wp2_with fail
  go_ret
  exact ⟨rfl, rfl⟩
def rpB (page pages : Nat) : Bool := decide (0 < pages ∧ page + pages ≤ 34359738368)
theorem rp_any (page pages : Nat) (h1 : page < 18446744073709551616) (h2 : pages < 18446744073709551616) (W : World) : Calls Tryd.prog 27 #[.int .u64 (page : Nat), .int .u64 (pages : Nat)] W fun e W' => e = .returned (.bool (rpB page pages)) ∧ W' = W := by
  obtain ⟨A, hA⟩ : ∃ A : Int, (page : Int) = A := ⟨_, rfl⟩
  obtain ⟨B, hB⟩ : ∃ B : Int, (pages : Int) = B := ⟨_, rfl⟩
  unfold rpB
  by_cases c1 : 0 < B
  · have d1 : decide (0 < B) = true := decide_eq_true c1
    by_cases c2 : B ≤ 34359738368
    · have d2 : decide (B ≤ 34359738368) = true := decide_eq_true c2
      have w1 : IntKind.u64.wrap (34359738368 - B) = 34359738368 - B := by rw [IntKind.wrap_u64]; omega
      rw [show decide (0 < pages ∧ page + pages ≤ 34359738368) = decide (A ≤ 34359738368 - B) from by
        apply decide_eq_decide.2; omega]
      rw [hA, hB]
      clear hA hB h1 h2
      go_enter Tryd.func27, Tryd.ntmps27
      go_wp2_with fail
      go_ret
      exact ⟨rfl, rfl⟩
    · have d2 : decide (B ≤ 34359738368) = false := decide_eq_false c2
      rw [decide_eq_false (by omega)]
      rw [hA, hB]
      clear hA hB h1 h2
      go_enter Tryd.func27, Tryd.ntmps27
      go_wp2_with fail
      go_ret
      exact ⟨rfl, rfl⟩
  · have d1 : decide (0 < B) = false := decide_eq_false c1
    rw [decide_eq_false (by omega)]
    rw [hA, hB]
    clear hA hB h1 h2
    go_enter Tryd.func27, Tryd.ntmps27
    go_wp2_with fail
    go_ret
    exact ⟨rfl, rfl⟩
theorem second_new (W : World) (o o' : Obj) : ((W.alloc o).alloc o').heap[W.heap.size + 1]? = some o' := by
  have := World.alloc_heap_new (W.alloc o) o'
  rwa [World.size_alloc] at this
theorem second_below (W : World) (o o' : Obj) : Below W.heap.size W ((W.alloc o).alloc o') := (below_alloc W o).alloc (by rw [World.size_alloc]; omega) _
/-! ### cut -/
def info0 (st cls : Nat) (noptr : Bool) (elem : Nat) : Value := .agg #[.int .u64 0, .int .i64 0, .int .i64 (st : Nat), .int .i64 (cls : Nat), .bool noptr, .int .i64 (elem : Nat), .int .i64 0, .int .i64 0, .bool false, .bool false]
def made (page pages st cls : Nat) (noptr : Bool) (elem : Nat) : Array Value := cellsS (geo page pages cls noptr elem) st 0 (.slice none 0 0) (.slice none 0 0) 0
set_option maxRecDepth 100000 in
theorem cut_span (page pages st cls : Nat) (noptr : Bool) (elem : Nat) (h1 : page ≤ 34359738368) (h2 : pages ≤ 134217728) (h3 : 8 ≤ elem) (h4 : elem ≤ 1099511627776) (W : World) :
    Calls Tryd.prog 29 #[.int .u64 (page : Nat), .int .u64 (pages : Nat), info0 st cls noptr elem] W fun e W' => e = .returned (.pointer (some ⟨W.heap.size + 1, 0, none⟩)) ∧ Bk W' (W.heap.size + 1) 78 (made page pages st cls noptr elem) ∧ Below W.heap.size W W' := by
  have CB := hide (fun w => by_any pages (by omega) w)
  have w1 : IntKind.u64.wrap ((page : Int) * 8192) = (page : Int) * 8192 := by rw [IntKind.wrap_u64]; omega
  have w2 : IntKind.i64.wrap (pages : Int) = (pages : Int) := by rw [IntKind.wrap_i64]; omega
  have z : ((elem : Int) == 0) = false := by simp; omega
  obtain ⟨q, hq⟩ : ∃ q : Nat, pages * 8192 / elem = q := ⟨_, rfl⟩
  have q0 : ((pages : Int) * 8192) / (elem : Int) = (q : Int) := by rw [← hq, Int.natCast_ediv]; push_cast; rfl
  have q1 : ((pages : Int) * 8192).tdiv (elem : Int) = (q : Int) := by rw [Int.tdiv_eq_ediv_of_nonneg (by omega)]; exact q0
  have ql := Nat.div_le_self (pages * 8192) elem
  rw [hq] at ql
  have w3 : IntKind.i64.wrap (q : Int) = (q : Int) := by rw [IntKind.wrap_i64]; omega
  unfold made cellsS geo
  simp only []
  rw [hq, show ((page * 8192 : Nat) : Int) = (page : Int) * 8192 by push_cast; rfl]
  obtain ⟨P, hP⟩ : ∃ P : Int, (pages : Int) * 8192 = P := ⟨_, rfl⟩
  rw [hP] at q0 q1 CB
  unfold info0
  by_cases c1 : pages * 8192 ≤ 131072
  · have d1 : decide (P ≤ 131072) = true := decide_eq_true (by omega)
    by_cases c2 : elem ≤ 32768
    · have d2 : decide (elem ≤ 32768) = true := decide_eq_true c2
      have CM := hide (fun w => magic_nat elem (by omega) w)
      have w4 : IntKind.u32.wrap (elem : Int) = (elem : Int) := by rw [IntKind.wrap_u32]; omega
      rw [if_pos ⟨c1, c2⟩]
      generalize Cl.magicN elem = mg at *
      clear hq hP ql h1 h2 h4 c1
      go_enter Tryd.func29, Tryd.ntmps29
      go_wp2_with fail
      refine (CB.out _).mono ?_
      rintro e W1 ⟨rfl, hw⟩
      rw [hw]
      clear hw CB W1
      go_wp2_with fail
      refine (CM.out _).mono ?_
      rintro e W1 ⟨rfl, hw⟩
      rw [hw]
      clear hw CM W1
      go_wp2_with fail
      go_ret
      exact ⟨rfl, second_new _ _ _, second_below _ _ _⟩
    · have d2 : decide (elem ≤ 32768) = false := decide_eq_false c2
      have c2' : 32768 < elem := by omega
      rw [if_neg (fun z => c2 z.2)]
      clear hq hP ql h1 h2 h4 c1 c2
      go_enter Tryd.func29, Tryd.ntmps29
      go_wp2_with fail
      refine (CB.out _).mono ?_
      rintro e W1 ⟨rfl, hw⟩
      rw [hw]
      clear hw CB W1
      go_wp2_with fail
      go_ret
      exact ⟨rfl, second_new _ _ _, second_below _ _ _⟩
  · have d1 : decide (P ≤ 131072) = false := decide_eq_false (by omega)
    rw [if_neg (fun z => c1 z.1)]
    clear hq hP ql h1 h2 h4 c1
    go_enter Tryd.func29, Tryd.ntmps29
    go_wp2_with fail
    refine (CB.out _).mono ?_
    rintro e W1 ⟨rfl, hw⟩
    rw [hw]
    clear hw CB W1
    go_wp2_with fail
    go_ret
    exact ⟨rfl, second_new _ _ _, second_below _ _ _⟩
/-! ### slotBytes -/
open Cl in
/-- The bytes of a slot, where so many pages are right for the class. -/
def elemOf (pages : Nat) (number : Int) : Option Nat :=
  if number = 0 then (if pages ≤ 134217728 then some (pages * 8192) else none)
  else if number < 0 ∨ 68 ≤ number then none
  else match (zeroC :: table)[number.toNat]? with
    | some c => if c.pages = pages then some c.size else none
    | none => none
open Cl in
theorem table_all : (table.all fun c => decide (c.slots = c.pages * 8192 / c.size ∧ 8 ≤ c.size ∧ c.size ≤ 32768 ∧ 1 ≤ c.pages ∧ c.pages ≤ 16 ∧ c.slots ≤ 1024 ∧ 1 ≤ c.slots ∧ c.slots * c.size ≤ c.pages * 8192)) = true := by decide +kernel
open Cl in
theorem table_at {k : Nat} {c : Cls} (h1 : 1 ≤ k) (h : (zeroC :: table)[k]? = some c) : c.slots = c.pages * 8192 / c.size ∧ 8 ≤ c.size ∧ c.size ≤ 32768 ∧ 1 ≤ c.pages ∧ c.pages ≤ 16 ∧ c.slots ≤ 1024 ∧ 1 ≤ c.slots ∧ c.slots * c.size ≤ c.pages * 8192 := by
  obtain ⟨j, rfl⟩ : ∃ j, k = j + 1 := ⟨k - 1, by omega⟩
  rw [List.getElem?_cons_succ] at h
  have := List.all_eq_true.1 table_all c (List.mem_of_getElem? h)
  simpa using this
open Cl in
theorem table_some {k : Nat} (h : k < 68) : ∃ c, (zeroC :: table)[k]? = some c := by
  refine ⟨_, List.getElem?_eq_getElem (by rw [List.length_cons, table_len]; exact h)⟩
open Cl in
set_option maxRecDepth 100000 in
theorem slotBytes_any (pages : Nat) (number : Int) (h1 : pages ≤ 34359738368) (W : World) :
    Calls Tryd.prog 28 #[.int .u64 (pages : Nat), .int .i64 number] W fun e W' => (∃ x : Int, e = .returned (.tuple #[.int .i64 x, .bool (elemOf pages number).isSome]) ∧ ∀ el, elemOf pages number = some el → x = (el : Nat)) ∧ Below W.heap.size W W' := by
  obtain ⟨R, hR⟩ : ∃ R : Ending → World → Prop, R = fun e W' => (∃ x : Int, e = .returned (.tuple #[.int .i64 x, .bool (elemOf pages number).isSome]) ∧ ∀ el, elemOf pages number = some el → x = (el : Nat)) ∧ Below W.heap.size W W' := ⟨_, rfl⟩
  rw [← hR]
  have HR := hide hR
  clear hR
  by_cases c0 : number = 0
  · subst c0
    have CB := hide (fun w => by_any pages (by omega) w)
    have FF := hide (show R (.returned (.tuple #[.int .i64 ((pages : Int) * 8192), .bool (decide ((pages : Int) ≤ 134217728))])) W from by
      rw [HR.out, show decide ((pages : Int) ≤ 134217728) = decide (pages ≤ 134217728) from decide_eq_decide.2 (by omega)]
      refine ⟨⟨(pages : Int) * 8192, ?_, fun el he => ?_⟩, Below.refl _ _⟩
      · unfold elemOf
        rw [if_pos rfl]
        by_cases c : pages ≤ 134217728
        · rw [if_pos c, decide_eq_true c]; rfl
        · rw [if_neg c, decide_eq_false c]; rfl
      · unfold elemOf at he
        rw [if_pos rfl] at he
        split at he
        · have := Option.some.inj he; rw [← this]; push_cast; rfl
        · cases he)
    clear HR h1
    go_enter Tryd.func28, Tryd.ntmps28
    go_wp2_with fail
    refine (CB.out _).mono ?_
    rintro e W1 ⟨rfl, hw⟩
    rw [hw]
    clear hw CB W1
    go_wp2_with fail
    first | exact FF.out | (go_ret2; exact FF.out)
  · have d0 : (number == 0) = false := by simpa using c0
    by_cases c1 : number < 0
    · have d1 : decide (number < 0) = true := decide_eq_true c1
      have FF := hide (show ∀ X, Below W.heap.size W X → R (.returned (.tuple #[.int .i64 0, .bool false])) X from fun X hX => by
        rw [HR.out]
        have e : elemOf pages number = none := by unfold elemOf; rw [if_neg c0, if_pos (.inl c1)]
        rw [e]
        exact ⟨⟨0, rfl, fun el he => by cases he⟩, hX⟩)
      clear HR h1 c0
      go_enter Tryd.func28, Tryd.ntmps28
      go_wp2_with fail
      refine (table_any _).mono ?_
      rintro e W1 ⟨g, cap, rfl, o1, b1⟩
      have F1 := hide (FF.out W1 b1)
      clear o1 b1 FF
      go_wp2_with fail
      first | exact F1.out | (go_ret2; exact F1.out)
    · have d1 : decide (number < 0) = false := decide_eq_false c1
      by_cases c2 : 68 ≤ number
      · have d2 : decide (68 ≤ number) = true := decide_eq_true c2
        have FF := hide (show ∀ X, Below W.heap.size W X → R (.returned (.tuple #[.int .i64 0, .bool false])) X from fun X hX => by
          rw [HR.out]
          have e : elemOf pages number = none := by unfold elemOf; rw [if_neg c0, if_pos (.inr c2)]
          rw [e]
          exact ⟨⟨0, rfl, fun el he => by cases he⟩, hX⟩)
        clear HR h1 c0
        go_enter Tryd.func28, Tryd.ntmps28
        go_wp2_with fail
        refine (table_any _).mono ?_
        rintro e W1 ⟨g, cap, rfl, o1, b1⟩
        have F1 := hide (FF.out W1 b1)
        clear o1 b1 FF
        go_wp2_with fail
        first | exact F1.out | (go_ret2; exact F1.out)
      · have d2 : decide (68 ≤ number) = false := decide_eq_false c2
        obtain ⟨k, rfl⟩ : ∃ k : Nat, number = k := ⟨number.toNat, by omega⟩
        obtain ⟨cl, hcl⟩ := table_some (k := k) (by omega)
        have tf := table_at (by omega) hcl
        have ee : elemOf pages (k : Int) = if cl.pages = pages then some cl.size else none := by
          unfold elemOf
          rw [if_neg c0, if_neg (by omega), Int.toNat_natCast, hcl]
        have k1 : (k : Int) < 68 := by omega
        have k0 : (0 : Int) ≤ (k : Int) := by omega
        have w1 : IntKind.u64.wrap (cl.pages : Int) = (cl.pages : Int) := by rw [IntKind.wrap_u64]; omega
        have HC := hide hcl
        clear hcl
        by_cases c3 : cl.pages = pages
        · rw [if_pos c3] at ee
          subst c3
          have FF := hide (show ∀ X, Below W.heap.size W X → R (.returned (.tuple #[.int .i64 (cl.size : Nat), .bool true])) X from fun X hX => by
            rw [HR.out, ee]
            exact ⟨⟨_, rfl, fun el he => by rw [Option.some.inj he]⟩, hX⟩)
          clear HR h1 c0 ee tf
          go_enter Tryd.func28, Tryd.ntmps28
          go_wp2_with fail
          refine (table_any _).mono ?_
          rintro e W1 ⟨g, cap, rfl, o1, b1⟩
          have F1 := hide (FF.out W1 b1)
          obtain ⟨x0, x1, x2, x3⟩ := list_at o1 (by rw [List.length_cons, table_len]) k cl HC.out
          clear o1 b1 FF
          go_wp2_with fail
          first | exact F1.out | (go_ret2; exact F1.out)
        · rw [if_neg c3] at ee
          have d3 : ((cl.pages : Int) != (pages : Int)) = true := by simp; omega
          have d4 : ((cl.pages : Int) == (pages : Int)) = false := by simp; omega
          have FF := hide (show ∀ X, Below W.heap.size W X → R (.returned (.tuple #[.int .i64 0, .bool false])) X from fun X hX => by
            rw [HR.out, ee]
            exact ⟨⟨0, rfl, fun el he => by cases he⟩, hX⟩)
          clear HR h1 c0 ee tf
          go_enter Tryd.func28, Tryd.ntmps28
          go_wp2_with fail
          refine (table_any _).mono ?_
          rintro e W1 ⟨g, cap, rfl, o1, b1⟩
          have F1 := hide (FF.out W1 b1)
          obtain ⟨x0, x1, x2, x3⟩ := list_at o1 (by rw [List.length_cons, table_len]) k cl HC.out
          clear o1 b1 FF
          go_wp2_with fail
          first | exact F1.out | (go_ret2; exact F1.out)
/-! ### New -/
theorem new_pages (page pages : Nat) (number : Int) (noptr : Bool) (h1 : page < 18446744073709551616) (h2 : pages < 18446744073709551616) (h : rpB page pages = false) (W : World) :
    Calls Tryd.prog 9 #[.int .u64 (page : Nat), .int .u64 (pages : Nat), .int .i64 number, .bool noptr] W fun e W' => e = .returned (.tuple #[.pointer none, .int .i64 1]) ∧ W' = W := by
  have C := hide (rp_any page pages h1 h2 W)
  rw [h] at C
  clear h h1 h2
  go_enter Tryd.func9, Tryd.ntmps9
  go_wp2_with fail
  refine C.out.mono ?_
  rintro e W1 ⟨rfl, hw⟩
  rw [hw]
  clear hw C W1
  go_wp2_with fail
  go_ret2
  exact ⟨rfl, rfl⟩
theorem rp_le {page pages : Nat} (h : rpB page pages = true) : 0 < pages ∧ page + pages ≤ 34359738368 := by unfold rpB at h; exact of_decide_eq_true h
theorem new_class (page pages : Nat) (number : Int) (noptr : Bool) (h : rpB page pages = true) (he : elemOf pages number = none) (W : World) :
    Calls Tryd.prog 9 #[.int .u64 (page : Nat), .int .u64 (pages : Nat), .int .i64 number, .bool noptr] W fun e W' => e = .returned (.tuple #[.pointer none, .int .i64 1]) ∧ Below W.heap.size W W' := by
  have le := rp_le h
  have C := hide (rp_any page pages (by omega) (by omega) W)
  rw [h] at C
  have CB := hide (slotBytes_any pages number (by omega) W)
  rw [he] at CB
  clear h he le
  go_enter Tryd.func9, Tryd.ntmps9
  go_wp2_with fail
  refine C.out.mono ?_
  rintro e W1 ⟨rfl, hw⟩
  rw [hw]
  clear hw C W1
  go_wp2_with fail
  refine CB.out.mono ?_
  rintro e W1 ⟨⟨x, rfl, -⟩, b1⟩
  have B1 := hide b1
  clear b1 CB
  go_wp2_with fail
  go_ret2
  exact ⟨rfl, B1.out⟩
theorem elem_le {pages : Nat} {number : Int} {el : Nat} (h : elemOf pages number = some el) (hp : 1 ≤ pages) : 8 ≤ el ∧ el ≤ 1099511627776 ∧ pages ≤ 134217728 ∧ 0 ≤ number ∧ number < 68 ∧ el ≤ pages * 8192 ∧ pages * 8192 / el ≤ 1024 := by
  unfold elemOf at h
  split at h
  · split at h
    · have := Option.some.inj h
      subst this
      rw [Nat.div_self (by omega)]
      omega
    · cases h
  · rename_i c0
    split at h
    · cases h
    · rename_i c1
      obtain ⟨c, hc⟩ := table_some (k := number.toNat) (by omega)
      rw [hc] at h
      have tf := table_at (by omega) hc
      simp only [] at h
      split at h
      · rename_i c2
        have := Option.some.inj h
        subst this
        have : c.slots = pages * 8192 / c.size := by rw [← c2]; exact tf.1
        have m1 : 1 * c.size ≤ c.slots * c.size := Nat.mul_le_mul_right _ tf.2.2.2.2.2.2.1
        omega
      · cases h
set_option maxRecDepth 100000 in
theorem new_made (page pages : Nat) (number : Int) (noptr : Bool) (el : Nat) (h : rpB page pages = true) (he : elemOf pages number = some el) (W : World) :
    Calls Tryd.prog 9 #[.int .u64 (page : Nat), .int .u64 (pages : Nat), .int .i64 number, .bool noptr] W fun e W' => ∃ sb, e = .returned (.tuple #[.pointer (some ⟨sb, 0, none⟩), .int .i64 0]) ∧ W.heap.size ≤ sb ∧ Bk W' sb 78 (made page pages 1 number.toNat noptr el) ∧ Below W.heap.size W W' := by
  have le := rp_le h
  have ee := elem_le he (by omega)
  have C := hide (rp_any page pages (by omega) (by omega) W)
  rw [h] at C
  have CB := hide (slotBytes_any pages number (by omega) W)
  rw [he] at CB
  have CC := hide (fun w => cut_span page pages 1 number.toNat noptr el (by omega) (by omega) ee.1 ee.2.1 w)
  unfold info0 at CC
  rw [show ((number.toNat : Nat) : Int) = number by omega, show ((1 : Nat) : Int) = 1 from rfl] at CC
  clear h he le ee
  go_enter Tryd.func9, Tryd.ntmps9
  go_wp2_with fail
  refine C.out.mono ?_
  rintro e W1 ⟨rfl, hw⟩
  rw [hw]
  clear hw C W1
  go_wp2_with fail
  refine CB.out.mono ?_
  rintro e W1 ⟨⟨x, rfl, hx⟩, b1⟩
  have B1 := hide b1
  rw [hx el rfl]
  clear b1 CB hx
  go_wp2_with fail
  refine (CC.out _).mono ?_
  rintro e W2 ⟨rfl, k2, b2⟩
  have B2 := hide (And.intro k2 b2)
  clear CC k2 b2
  go_wp2_with fail
  go_ret2
  exact ⟨_, rfl, by have := B1.out.size; omega, B2.out.1, B1.out.trans (B2.out.2.mono B1.out.size)⟩
/-! ### Manual -/
def manB (page pages : Nat) (elem : Int) : Bool := rpB page pages && decide (pages ≤ 134217728) && decide (8 ≤ elem) && decide (elem ≤ (pages : Int) * 8192)
theorem manual_no (page pages : Nat) (elem : Int) (h1 : page < 18446744073709551616) (h2 : pages < 18446744073709551616) (h : manB page pages elem = false) (W : World) :
    Calls Tryd.prog 11 #[.int .u64 (page : Nat), .int .u64 (pages : Nat), .int .i64 elem] W fun e W' => e = .returned (.tuple #[.pointer none, .int .i64 1]) ∧ W' = W := by
  have C := hide (rp_any page pages h1 h2 W)
  cases c1 : rpB page pages with
  | false =>
    rw [c1] at C
    clear h h1 h2 c1
    go_enter Tryd.func11, Tryd.ntmps11
    go_wp2_with fail
    refine C.out.mono ?_
    rintro e W1 ⟨rfl, hw⟩
    rw [hw]
    clear hw C W1
    go_wp2_with fail
    go_ret2
    exact ⟨rfl, rfl⟩
  | true =>
    rw [c1] at C
    have le := rp_le c1
    by_cases c2 : pages ≤ 134217728
    · have d2 : decide (134217728 < pages) = false := decide_eq_false (by omega)
      have d2' : decide (134217728 < (pages : Int)) = false := decide_eq_false (by omega)
      have CB := hide (by_any pages (by omega) W)
      by_cases c3 : elem < 8
      · have d3 : decide (elem < 8) = true := decide_eq_true c3
        obtain ⟨P, hP⟩ : ∃ P : Int, (pages : Int) = P := ⟨_, rfl⟩
        have p9 : P ≤ 134217728 := by omega
        rw [hP] at C d2' ⊢
        clear h h1 h2 c1 CB le c2 hP d2
        go_enter Tryd.func11, Tryd.ntmps11
        go_wp2_with fail
        refine C.out.mono ?_
        rintro e W1 ⟨rfl, hw⟩
        rw [hw]
        clear hw C W1
        go_wp2_with fail
        go_ret2
        exact ⟨rfl, rfl⟩
      · have d3 : decide (elem < 8) = false := decide_eq_false c3
        have d4 : decide ((pages : Int) * 8192 < elem) = true := decide_eq_true (by
          unfold manB at h
          rw [c1, decide_eq_true c2, decide_eq_true (show 8 ≤ elem by omega)] at h
          simp at h
          omega)
        obtain ⟨P, hP⟩ : ∃ P : Int, (pages : Int) = P := ⟨_, rfl⟩
        have p9 : P ≤ 134217728 := by omega
        rw [hP] at C d2' d4 CB ⊢
        clear h h1 h2 c1 le c2 hP d2
        go_enter Tryd.func11, Tryd.ntmps11
        go_wp2_with fail
        refine C.out.mono ?_
        rintro e W1 ⟨rfl, hw⟩
        rw [hw]
        clear hw C W1
        go_wp2_with fail
        refine CB.out.mono ?_
        rintro e W1 ⟨rfl, hw⟩
        rw [hw]
        clear hw CB W1
        go_wp2_with fail
        go_ret2
        exact ⟨rfl, rfl⟩
    · obtain ⟨P, hP⟩ : ∃ P : Int, (pages : Int) = P := ⟨_, rfl⟩
      have p9 : 134217728 < P := by omega
      have d2' : decide (134217728 < P) = true := decide_eq_true p9
      rw [hP] at C ⊢
      clear h h1 h2 c1 le c2 hP
      go_enter Tryd.func11, Tryd.ntmps11
      go_wp2_with fail
      refine C.out.mono ?_
      rintro e W1 ⟨rfl, hw⟩
      rw [hw]
      clear hw C W1
      go_wp2_with fail
      go_ret2
      exact ⟨rfl, rfl⟩
theorem man_le {page pages : Nat} {elem : Int} (h : manB page pages elem = true) : rpB page pages = true ∧ pages ≤ 134217728 ∧ 8 ≤ elem ∧ elem ≤ (pages : Int) * 8192 := by
  unfold manB at h
  simp at h
  exact ⟨h.1.1.1, h.1.1.2, h.1.2, h.2⟩
theorem manual_made (page pages elem : Nat) (h : manB page pages elem = true) (W : World) :
    Calls Tryd.prog 11 #[.int .u64 (page : Nat), .int .u64 (pages : Nat), .int .i64 (elem : Nat)] W fun e W' => ∃ sb, e = .returned (.tuple #[.pointer (some ⟨sb, 0, none⟩), .int .i64 0]) ∧ W.heap.size ≤ sb ∧ Bk W' sb 78 (made page pages 2 0 false elem) ∧ Below W.heap.size W W' := by
  obtain ⟨r, c2, c3, c4⟩ := man_le h
  have le := rp_le r
  have C := hide (rp_any page pages (by omega) (by omega) W)
  rw [r] at C
  have CB := hide (by_any pages (by omega) W)
  have CC := hide (fun w => cut_span page pages 2 0 false elem (by omega) c2 (by omega) (by omega) w)
  unfold info0 at CC
  rw [show ((2 : Nat) : Int) = 2 from rfl, show ((0 : Nat) : Int) = 0 from rfl] at CC
  obtain ⟨P, hP⟩ : ∃ P : Int, (pages : Int) = P := ⟨_, rfl⟩
  obtain ⟨E, hE⟩ : ∃ E : Int, (elem : Int) = E := ⟨_, rfl⟩
  have p9 : P ≤ 134217728 := by omega
  have d2' : decide (134217728 < P) = false := decide_eq_false (by omega)
  have d3 : decide (E < 8) = false := decide_eq_false (by omega)
  have d4 : decide (P * 8192 < E) = false := decide_eq_false (by omega)
  rw [hP] at C CB CC ⊢
  rw [hE] at CC ⊢
  clear h r c2 c3 c4 le hP hE
  go_enter Tryd.func11, Tryd.ntmps11
  go_wp2_with fail
  refine C.out.mono ?_
  rintro e W1 ⟨rfl, hw⟩
  rw [hw]
  clear hw C W1
  go_wp2_with fail
  refine CB.out.mono ?_
  rintro e W1 ⟨rfl, hw⟩
  rw [hw]
  clear hw CB W1
  go_wp2_with fail
  refine (CC.out _).mono ?_
  rintro e W2 ⟨rfl, k2, b2⟩
  have B2 := hide (And.intro k2 b2)
  clear CC k2 b2
  go_wp2_with fail
  go_ret2
  exact ⟨_, rfl, by omega, B2.out.1, B2.out.2⟩
end Go.Proofs.YtblfefibgoiaaaaDoor
