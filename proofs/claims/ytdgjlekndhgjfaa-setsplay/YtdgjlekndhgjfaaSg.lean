/- Package sets: the calls, by the list of spans. -/
import Derived.Test.YtdgjlekndhgjfaaSf
namespace Go.Proofs.Ytdgjlekndhgjfaa
open Go.ChangeShapes Go.WideShapes Go.ChangeAt Go.RowKit Go.Shelf Go.Proofs.Rx Go.Maps Go.Proofs.Hm
set_option linter.unusedVariables false
set_option linter.unusedSimpArgs false

attribute [local go_sem] Oper.semAt_some

/-- Sets with the spans L, behind at most c steps of growth. -/
def tSets (s c : Nat) (L : List On) : Thing := ⟨fun W F => ∃ G, Parts W s c G ∧ Rel c G L ∧ ∀ z, F z ↔ Foot G s z,
  fun ⟨G, h, R, hF⟩ k n => ⟨G, h.kept k (fun z hz => n z ((hF z).2 hz)), R, hF⟩, fun ⟨G, h, R, hF⟩ z hz => h.lt ((hF z).1 hz)⟩
section
variable {W W' : World} {s c : Nat} {L : List On} {F : Nat → Prop}
theorem tSets_ok (h : (tSets s c L).P W F) : OkL L := by
  obtain ⟨G, h, R, hF⟩ := h
  exact R.ok h.pl
theorem tSets_len (h : (tSets s c L).P W F) : L.length ≤ c := by
  obtain ⟨G, h, R, hF⟩ := h
  exact R.len_L
theorem Rel.mono {c' : Nat} {G : Gh} (R : Rel c G L) (hc : c ≤ c') : Rel c' G L := ⟨R.nd, R.L, R.g2, R.d2, R.mem, R.onk, R.m0, R.m1, R.bd, R.ib, Nat.le_trans R.len hc⟩
/-- What a call leaves that changes the list. -/
def Turn (s c : Nat) (L : List On) (W W' : World) (F : Nat → Prop) : Prop := ∃ F', (tSets s c L).P W' F' ∧ To W W' F F'
theorem Turn.same (h : (tSets s c L).P W F) (b : Below W.heap.size W W') : Turn s c L W W' F := by
  obtain ⟨G, p, R, hF⟩ := h
  exact ⟨F, ⟨G, p.below b, R, hF⟩, To.of_below b F⟩
/-! ### Put -/
theorem map_nil (r : Nat) (W : World) : (binOp BinOp.eql 49 (.map (some r)) (.map none)).run Try.prog W = .ok (.bool false) W := by kernel_rfl
def argB (id cl : Int) : Bool := decide (1 ≤ id) && (decide (0 ≤ cl) && decide (cl ≤ 67))
theorem put_arg (id : Int) (bs : Nat) (cl : Int) (a b sw : Bool) (hA : argB id cl = false) (s : Nat) (W : World) :
    Calls Try.prog 12 #[.pointer (some ⟨s, 0, none⟩), .int .i64 id, .int .u64 (bs : Nat), .int .i64 cl, .bool a, .bool b, .bool sw] W fun e W' => e = .returned (.int .i64 1) ∧ W' = W := by
  obtain ⟨B, hB⟩ : ∃ B : Int, (bs : Int) = B := ⟨_, rfl⟩
  rw [hB]
  clear hB
  by_cases c0 : id < 1
  · have d0 : decide (id < 1) = true := decide_eq_true c0
    clear hA c0
    go_enter Try.func12, Try.ntmps12
    go_wp2_with fail
    go_ret
    exact ⟨rfl, rfl⟩
  · have d0 : decide (id < 1) = false := decide_eq_false c0
    by_cases c1 : cl < 0
    · have d1 : decide (cl < 0) = true := decide_eq_true c1
      clear hA c0 c1
      go_enter Try.func12, Try.ntmps12
      go_wp2_with fail
      go_ret
      exact ⟨rfl, rfl⟩
    · have d1 : decide (cl < 0) = false := decide_eq_false c1
      have d2 : decide (67 < cl) = true := by
        refine decide_eq_true ?_
        unfold argB at hA
        simp at hA
        have := hA (by omega) (by omega)
        omega
      clear hA c0 c1
      go_enter Try.func12, Try.ntmps12
      go_wp2_with fail
      go_ret
      exact ⟨rfl, rfl⟩
theorem arg_true {id cl : Int} (h : argB id cl = true) : 1 ≤ id ∧ 0 ≤ cl ∧ cl ≤ 67 := by
  unfold argB at h
  simp at h
  exact h
theorem M0_some {G : Gh} (R : Rel c G L) (i : Int) : (G.M0 i).isSome = true ↔ ∃ x, x ∈ L ∧ x.id = i := by
  rw [Option.isSome_iff_exists, R.L]
  constructor
  · rintro ⟨m, hm⟩
    have := (R.m0 i m).1 hm
    exact ⟨_, List.mem_map.2 ⟨m, this.1, rfl⟩, this.2⟩
  · rintro ⟨x, hx, e⟩
    obtain ⟨m, hm, rfl⟩ := List.mem_map.1 hx
    exact ⟨m, (R.m0 i m).2 ⟨hm, e⟩⟩
theorem M1_some {G : Gh} (R : Rel c G L) (b : Nat) : (G.M1 b).isSome = true ↔ ∃ x, x ∈ L ∧ x.base = b := by
  rw [R.m1, R.L]
  constructor
  · rintro ⟨m, hm, e⟩
    exact ⟨_, List.mem_map.2 ⟨m, hm, rfl⟩, e⟩
  · rintro ⟨x, hx, e⟩
    obtain ⟨m, hm, rfl⟩ := List.mem_map.1 hx
    exact ⟨m, hm, e⟩
theorem put_twice (h : (tSets s c L).P W F) (id : Int) (bs : Nat) (cl : Int) (a b sw : Bool) (hA : argB id cl = true) (h1 : id ≤ 9223372036854775807) (hb : bs < 18446744073709551616) (hT : ∃ x, x ∈ L ∧ (x.id = id ∨ x.base = bs)) :
    Calls Try.prog 12 #[.pointer (some ⟨s, 0, none⟩), .int .i64 id, .int .u64 (bs : Nat), .int .i64 cl, .bool a, .bool b, .bool sw] W fun e W' => e = .returned (.int .i64 34) ∧ Below W.heap.size W W' := by
  obtain ⟨G, p, R, hF⟩ := h
  obtain ⟨q0, q1, q2⟩ := arg_true hA
  have d0 : decide (id < 1) = false := decide_eq_false (by omega)
  have d1 : decide (cl < 0) = false := decide_eq_false (by omega)
  have d2 : decide (67 < cl) = false := decide_eq_false (by omega)
  have C1 := hide (hasID_any p id (by omega) h1)
  have C2 := hide (hasBase_any p bs hb)
  have hor : (G.M0 id).isSome = true ∨ ((G.M0 id).isSome = false ∧ (G.M1 bs).isSome = true) := by
    cases z : (G.M0 id).isSome with
    | true => exact .inl rfl
    | false =>
      refine .inr ⟨rfl, ?_⟩
      obtain ⟨x, hx, e | e⟩ := hT
      · have := (M0_some R id).2 ⟨x, hx, e⟩
        rw [z] at this; cases this
      · exact (M1_some R bs).2 ⟨x, hx, e⟩
  obtain ⟨B, hB⟩ : ∃ B : Int, (bs : Int) = B := ⟨_, rfl⟩
  rw [hB] at C2 ⊢
  clear p R hF q0 q1 q2 hA hT hB h1 hb
  rcases hor with e1 | ⟨e1, e2⟩
  · rw [e1] at C1
    clear C2
    go_enter Try.func12, Try.ntmps12
    go_wp2_with fail
    refine C1.out.mono ?_
    rintro e W1 ⟨rfl, hw⟩
    rw [hw]
    clear hw C1
    go_wp2_with fail
    go_ret
    exact ⟨rfl, Below.refl _ _⟩
  · rw [e1] at C1
    rw [e2] at C2
    go_enter Try.func12, Try.ntmps12
    go_wp2_with fail
    refine C1.out.mono ?_
    rintro e W1 ⟨rfl, hw⟩
    rw [hw]
    clear hw C1
    go_wp2_with fail
    refine C2.out.mono ?_
    rintro e W1 ⟨rfl, b1⟩
    clear C2
    have B1 := hide b1
    clear b1
    go_wp2_with fail
    go_ret
    exact ⟨rfl, B1.out⟩
theorem put_ok (h : (tSets s c L).P W F) (hc : c ≤ 5000) (id : Int) (bs : Nat) (cl : Int) (a b sw : Bool) (hA : argB id cl = true) (h1 : id ≤ 9223372036854775807) (hb : bs < 18446744073709551616) (hT : ∀ x, x ∈ L → x.id ≠ id ∧ x.base ≠ bs) :
    Calls Try.prog 12 #[.pointer (some ⟨s, 0, none⟩), .int .i64 id, .int .u64 (bs : Nat), .int .i64 cl, .bool a, .bool b, .bool sw] W fun e W' => e = .returned (.int .i64 0) ∧ Turn s (c + 3) (L ++ [⟨id, bs, ⟨cl, a, b⟩, sw⟩]) W W' F := by
  obtain ⟨G, p, R, hF⟩ := h
  obtain ⟨q0, q1, q2⟩ := arg_true hA
  have d0 : decide (id < 1) = false := decide_eq_false (by omega)
  have d1 : decide (cl < 0) = false := decide_eq_false (by omega)
  have d2 : decide (67 < cl) = false := decide_eq_false (by omega)
  have n0 : G.M0 id = none := by
    cases z : G.M0 id with
    | none => rfl
    | some m =>
      obtain ⟨x, hx, e⟩ := (M0_some R id).1 (by rw [z]; rfl)
      exact absurd e (hT x hx).1
  have n1 : G.M1 bs = none := by
    cases z : G.M1 bs with
    | none => rfl
    | some m =>
      obtain ⟨x, hx, e⟩ := (M1_some R bs).1 (by rw [z]; rfl)
      exact absurd e (hT x hx).2
  have C1 := hide (hasID_any p id (by omega) h1)
  have C2 := hide (hasBase_any p bs hb)
  rw [n0] at C1
  rw [n1] at C2
  rw [show (none : Option Nat).isSome = false from rfl] at C1
  rw [show (none : Option Unit).isSome = false from rfl] at C2
  have C0 := hide (fun W1 (b1 : Below W.heap.size W W1) => (p.below b1).sb.cell 0 (.map (some G.b0)) rfl)
  have C3 := hide (fun W1 (b1 : Below W.heap.size W W1) => which_any (p.below b1) R.g2 sw)
  obtain ⟨d, hd⟩ : ∃ d, (if sw then G.g else 1 - G.g) = d := ⟨_, rfl⟩
  have g2 := R.g2
  have hd2 : d < 2 := by
    rw [← hd]
    split <;> omega
  have hds : decide (d = G.g) = sw := by
    rw [← hd]
    cases sw with
    | true => simp
    | false =>
      rw [if_neg (by simp)]
      exact decide_eq_false (by omega)
  rw [hd] at C3
  have CA := hide (fun W1 (b1 : Below W.heap.size W W1) => show Calls Try.prog 27 #[.pointer (some ⟨s, 0, none⟩), .pointer (some ⟨W1.heap.size, 0, none⟩)] (W1.alloc (.cells #[.int .i64 id, .int .u64 (bs : Nat), .int .i64 cl, .bool a, .bool b, .int .i64 (d : Nat), .int .i64 0, .int .i64 0] 74)) fun e W' => e = .returned (.tuple #[]) ∧ Turn s (c + 3) (L ++ [⟨id, bs, ⟨cl, a, b⟩, sw⟩]) W W' F from by
    have bA : Below W.heap.size W (W1.alloc (.cells #[.int .i64 id, .int .u64 (bs : Nat), .int .i64 cl, .bool a, .bool b, .int .i64 (d : Nat), .int .i64 0, .int .i64 0] 74)) := b1.trans ((below_alloc W1 _).mono b1.size)
    have kb : Bk (W1.alloc (.cells #[.int .i64 id, .int .u64 (bs : Nat), .int .i64 cl, .bool a, .bool b, .int .i64 (d : Nat), .int .i64 0, .int .i64 0] 74)) W1.heap.size 74 (memV ⟨id, bs, ⟨cl, a, b⟩, d⟩ 0 0) := World.alloc_heap_new W1 _
    have nf : ¬ Foot G s W1.heap.size := fun u => by have := p.lt u; have := b1.size; omega
    refine (sets_add (p.below bA) R hc kb nf ⟨hd2, ⟨q0, h1⟩, q1, q2⟩ hb n0 n1).mono fun e W' ⟨he, G2, a1, a2, a3⟩ => ⟨he, Foot G2 s, ⟨G2, a1, ?_, fun _ => Iff.rfl⟩, ?_⟩
    · rw [show (⟨id, bs, ⟨cl, a, b⟩, sw⟩ : On) = ⟨id, bs, ⟨cl, a, b⟩, decide (d = G.g)⟩ by rw [hds]]
      exact a2
    · refine ⟨(Kept.of_below bA).trans a3.1 (fun z hz hz' => ?_), fun z hz => ?_⟩
      · rcases hz' with u | u
        · exact (hF z).2 u
        · have := b1.size; omega
      · rcases a3.2 z hz with (u | u) | u
        · exact .inl ((hF z).2 u)
        · exact .inr (by rw [u]; exact b1.size)
        · exact .inr (Nat.le_trans bA.size u))
  obtain ⟨TU, hTU⟩ : ∃ P : World → Prop, (fun W' => Turn s (c + 3) (L ++ [⟨id, bs, ⟨cl, a, b⟩, sw⟩]) W W' F) = P := ⟨_, rfl⟩
  have hTU' : ∀ W', Turn s (c + 3) (L ++ [⟨id, bs, ⟨cl, a, b⟩, sw⟩]) W W' F = TU W' := fun W' => congrFun hTU W'
  simp only [hTU'] at CA ⊢
  obtain ⟨B, hB⟩ : ∃ B : Int, (bs : Int) = B := ⟨_, rfl⟩
  rw [hB] at C2 ⊢
  simp only [hB] at CA
  obtain ⟨D, hD⟩ : ∃ D : Int, (d : Int) = D := ⟨_, rfl⟩
  simp only [hD] at CA C3
  obtain ⟨r0, hr0⟩ : ∃ r, G.b0 = r := ⟨_, rfl⟩
  simp only [hr0] at C0
  clear hTU hTU' p R hF q0 q1 q2 hA hT hB h1 hb n0 n1 g2 hd2 hds hd hD hr0 hc
  go_enter Try.func12, Try.ntmps12
  go_wp2_with fail
  refine C1.out.mono ?_
  rintro e W1 ⟨rfl, hw⟩
  rw [hw]
  clear hw C1
  go_wp2_with fail
  refine C2.out.mono ?_
  rintro e W1 ⟨rfl, b1⟩
  have c0 := C0.out W1 b1
  have CW := hide (C3.out W1 b1)
  have CC := hide (CA.out W1 b1)
  clear C2 C0 C3 CA b1
  have nl := map_nil r0 W1
  go_wp2_with fail
  refine CW.out.mono ?_
  rintro e W2 ⟨rfl, hw⟩
  rw [hw]
  clear hw CW
  go_wp2_with fail
  refine CC.out.mono ?_
  rintro e W3 ⟨rfl, a⟩
  have AA := hide a
  clear a CC
  go_wp2_with fail
  go_ret
  exact ⟨rfl, AA.out⟩
end
end Go.Proofs.Ytdgjlekndhgjfaa
