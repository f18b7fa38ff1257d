/- Package arena: how a map lies; New, has, Has, Add, At: contracts. -/
import Derived.Test.YtdcjldpbgickmaaEx
namespace Go.Proofs.Ytdcjldpbgickmaa
open Go.ChangeShapes Go.WideShapes Go.ChangeAt Go.RowKit Go.Shelf Go.Proofs.Rx Go.Maps
set_option linter.unusedVariables false
set_option linter.unusedSimpArgs false

/-! ### How it lies -/
/-- The owners of an arena, as a value: one of all pages, and perhaps a row of them. -/
def owV : Int × Option Nat → Value
  | (a, none) => .agg #[.int .i64 a, .pointer none]
  | (a, some b) => .agg #[.int .i64 a, .pointer (some ⟨b, 0, none⟩)]
def owElem : Value → Option (DataW Unit × List MemPlace)
  | .agg xs => match xs.toList with
    | [.int .i64 a, .pointer none] => some (.agg [.lit (.int .i64 a), .lit (.int .i64 0)], [])
    | [.int .i64 a, .pointer (some ⟨b, 0, none⟩)] => some (.agg [.lit (.int .i64 a), .lit (.int .i64 ((b : Int) + 1))], [])
    | _ => none
  | _ => none
def owDat : Int × Option Nat → DataW Unit
  | (a, none) => .agg [.lit (.int .i64 a), .lit (.int .i64 0)]
  | (a, some b) => .agg [.lit (.int .i64 a), .lit (.int .i64 ((b : Int) + 1))]
theorem ow_back (v : Value) (o : Int × Option Nat) (ps : List MemPlace) (h : owElem v = some (owDat o, ps)) : v = owV o := by
  obtain ⟨a, e⟩ := o
  unfold owElem at h
  split at h
  · rename_i xs
    split at h
    · rename_i a' hx
      have e1 : xs = #[.int .i64 a', .pointer none] := by rw [← Array.toList_inj]; exact hx
      cases e with
      | none => simp [owDat] at h; rw [e1, owV, h.1]
      | some b => simp [owDat] at h; omega
    · rename_i a' b' hx
      have e1 : xs = #[.int .i64 a', .pointer (some ⟨b', 0, none⟩)] := by rw [← Array.toList_inj]; exact hx
      cases e with
      | none => simp [owDat] at h; omega
      | some b =>
        simp [owDat] at h
        have e2 : b' = b := by omega
        rw [e1, owV, h.1.1, e2]
    · cases h
  · cases h
theorem ow_mk (o : Int × Option Nat) : owElem (owV o) = some (owDat o, []) := by obtain ⟨a, e⟩ := o; cases e <;> rfl
def encO : Enc (Int × Option Nat) := ⟨owElem, owDat, owV, owDat (0, none), owV (0, none), ow_mk, rfl, ow_back, fun v ps h => ow_back v (0, none) ps h⟩
theorem zeroO (w : World) : (zeroValue 56).run Try.prog w = .ok (owV (0, none)) w := by kernel_rfl
theorem tyO : Try.prog.underlying 49 = some (.map 35 56) := by kernel_rfl

/-- A row of 512 numbers. -/
structure RowI (w : World) (b : Nat) (v : Nat → Int) : Prop where
  cell : ∀ k, k < 512 → w.cell? ⟨b, k, none⟩ = some (.int .i64 (v k))
  fz : ∀ k, k < 512 → w.frozen? ⟨b, k, none⟩ = false
theorem RowI.lt {w : World} {b : Nat} {v : Nat → Int} (h : RowI w b v) : b < w.heap.size := World.block_lt_of_cell? w ⟨b, 0, none⟩ (h.cell 0 (by omega))
theorem RowI.block {w w' : World} {b : Nat} {v : Nat → Int} (h : RowI w b v) (e : w'.heap[b]? = w.heap[b]?) : RowI w' b v :=
  ⟨fun k hk => (cell_block e _).trans (h.cell k hk), fun k hk => (fz_block e).trans (h.fz k hk)⟩
theorem RowI.congr {w : World} {b : Nat} {v v' : Nat → Int} (h : RowI w b v) (e : ∀ k, k < 512 → v k = v' k) : RowI w b v' := ⟨fun k hk => by rw [← e k hk]; exact h.cell k hk, h.fz⟩
/-- Owners, and what they tell of the 512 places. -/
def OwAt (w : World) (o : Int × Option Nat) (v : Nat → Int) : Prop :=
  match o.2 with
  | none => ∀ k, k < 512 → v k = o.1
  | some b => RowI w b v
theorem OwAt.congr {w : World} {o : Int × Option Nat} {v v' : Nat → Int} (h : OwAt w o v) (e : ∀ k, k < 512 → v k = v' k) : OwAt w o v' := by
  obtain ⟨a, x⟩ := o
  cases x with
  | none => exact fun k hk => (e k hk).symm.trans (h k hk)
  | some b => exact RowI.congr h e
theorem OwAt.block {w w' : World} {o : Int × Option Nat} {v : Nat → Int} (h : OwAt w o v) (e : ∀ b, o.2 = some b → w'.heap[b]? = w.heap[b]?) : OwAt w' o v := by
  obtain ⟨a, x⟩ := o
  cases x with
  | none => exact h
  | some b => exact RowI.block h (e b rfl)
theorem OwAt.lt {w : World} {o : Int × Option Nat} {v : Nat → Int} (h : OwAt w o v) {b : Nat} (e : o.2 = some b) : b < w.heap.size := by
  obtain ⟨a, x⟩ := o
  cases e
  exact RowI.lt h
/-- A map of arenas at block mb: which chunks are there, whose each page is. -/
structure ArAt (w : World) (mb kb : Nat) (G : Nat → Option (Int × Option Nat)) (C : Nat → Bool) (V : Nat → Int) : Prop where
  top : Boxed w mb 51 (.map (some kb))
  map : MapG encO w kb G
  has : ∀ p, (G p).isSome = C p
  lim : ∀ p, C p = true → p < 67108864
  out : ∀ q, C (q / 512) = false → V q = 0
  own : ∀ p o, G p = some o → OwAt w o (fun k => V (512 * p + k))
  inj : ∀ p q o r b, G p = some o → G q = some r → o.2 = some b → r.2 = some b → p = q
  far : ∀ p o b, G p = some o → o.2 = some b → b ≠ mb ∧ b ≠ kb
  two : mb ≠ kb
/-- Its blocks. -/
def fpA (mb kb : Nat) (G : Nat → Option (Int × Option Nat)) (b : Nat) : Prop := b = mb ∨ b = kb ∨ ∃ p o, G p = some o ∧ o.2 = some b
structure Ar (w : World) (mb : Nat) (Φ : Nat → Prop) (C : Nat → Bool) (V : Nat → Int) : Prop where
  ex : ∃ kb G, ArAt w mb kb G C V ∧ ∀ b, fpA mb kb G b → Φ b
  lt : ∀ b, Φ b → b < w.heap.size
theorem ArAt.fp_lt {w : World} {mb kb : Nat} {G : Nat → Option (Int × Option Nat)} {C : Nat → Bool} {V : Nat → Int} (h : ArAt w mb kb G C V) {b : Nat} (hb : fpA mb kb G b) : b < w.heap.size := by
  rcases hb with rfl | rfl | ⟨p, o, h1, h2⟩
  · exact box_lt h.top
  · exact h.map.lt
  · exact (h.own p o h1).lt h2
theorem ArAt.same {w w' : World} {mb kb : Nat} {G : Nat → Option (Int × Option Nat)} {C : Nat → Bool} {V : Nat → Int} (h : ArAt w mb kb G C V) (e : ∀ b, fpA mb kb G b → w'.heap[b]? = w.heap[b]?) : ArAt w' mb kb G C V :=
  ⟨boxed_block h.top (e _ (.inl rfl)), h.map.kept (e _ (.inr (.inl rfl))), h.has, h.lim, h.out, fun p o ho => (h.own p o ho).block (fun b hb => e b (.inr (.inr ⟨p, o, ho, hb⟩))), h.inj, h.far, h.two⟩
theorem Ar.kept {w w' : World} {mb : Nat} {F Φ : Nat → Prop} {C : Nat → Bool} {V : Nat → Int} (h : Ar w mb Φ C V) (k : Kept F w w') (hF : ∀ b, Φ b → ¬ F b) : Ar w' mb Φ C V := by
  obtain ⟨kb, G, a, hp⟩ := h.ex
  exact ⟨⟨kb, G, a.same (fun b hb => k.block b (a.fp_lt hb) (hF b (hp b hb))), hp⟩, fun b hb => Nat.lt_of_lt_of_le (h.lt b hb) k.size⟩
theorem Ar.below {w w' : World} {mb : Nat} {Φ : Nat → Prop} {C : Nat → Bool} {V : Nat → Int} (h : Ar w mb Φ C V) (k : Below w.heap.size w w') : Ar w' mb Φ C V := h.kept (F := fun _ => False) (Kept.of_below k) (fun _ _ f => f)
theorem Ar.mb {w : World} {mb : Nat} {Φ : Nat → Prop} {C : Nat → Bool} {V : Nat → Int} (h : Ar w mb Φ C V) : Φ mb := by obtain ⟨kb, G, a, hp⟩ := h.ex; exact hp _ (.inl rfl)
/-- What a change leaves: all that is old and not of its blocks; its blocks are those, or new ones. -/
def ArTo (w w' : World) (mb : Nat) (Φ : Nat → Prop) (C : Nat → Bool) (V : Nat → Int) : Prop :=
  Kept Φ w w' ∧ ∃ Ψ : Nat → Prop, Ar w' mb Ψ C V ∧ ∀ b, Ψ b → Φ b ∨ w.heap.size ≤ b

theorem below_alloc (w : World) (o : Obj) : Below w.heap.size w (w.alloc o) := (Below.refl _ _).alloc (Nat.le_refl _) _
/-! ### New -/
theorem new_any (w : World) : Calls Try.prog 8 #[] w fun e w' => ∃ mb, e = .returned (.pointer (some ⟨mb, 0, none⟩)) ∧ (∃ Φ : Nat → Prop, Ar w' mb Φ (fun _ => false) (fun _ => 0) ∧ ∀ b, Φ b → w.heap.size ≤ b) ∧ Below w.heap.size w w' := by
  have mk : ∀ (t : TypeId) (w : World), (Instr.makeMap t none).run Try.prog w = .ok (.map (some w.heap.size)) (w.alloc (.map #[] 0)) := fun t w => run_makeMap t w
  go_enter Try.func8, Try.ntmps8
  go_wp2_with fail
  go_ret
  have hA : ArAt ((w.alloc (.map #[] 0)).alloc (.cells #[.map (some w.heap.size)] 51)) (w.heap.size + 1) w.heap.size (fun _ => none) (fun _ => false) (fun _ => 0) := by
    refine ⟨?_, (MapG.made encO w).below (below_alloc _ _), fun _ => rfl, fun _ h => (by cases h), fun _ _ => rfl, fun _ _ h => (by cases h), fun _ _ _ _ _ h => (by cases h), fun _ _ _ h => (by cases h), by omega⟩
    have := Boxed.new (w.alloc (.map #[] 0)) 51 (.map (some w.heap.size))
    simpa using this
  refine ⟨w.heap.size + 1, rfl, ⟨fpA (w.heap.size + 1) w.heap.size (fun _ => none), ⟨⟨_, _, hA, fun _ h => h⟩, fun b hb => hA.fp_lt hb⟩, ?_⟩, ((Below.refl _ w).alloc (Nat.le_refl _) _).alloc (by simp) _⟩
  rintro b (rfl | rfl | ⟨p, o, h, _⟩)
  · omega
  · omega
  · cases h
/-! ### has, Has -/
theorem owV_open (o : Int × Option Nat) : ∃ a p, owV o = .agg #[.int .i64 a, .pointer p] := by obtain ⟨a, x⟩ := o; cases x <;> exact ⟨_, _, rfl⟩
theorem valO_open (o : Option (Int × Option Nat)) : ∃ a p, valO encO o = .agg #[.int .i64 a, .pointer p] := by
  cases o with
  | none => exact ⟨0, none, rfl⟩
  | some o => exact owV_open o
theorem has_any {w : World} {mb : Nat} {Φ : Nat → Prop} {C : Nat → Bool} {V : Nat → Int} (h : Ar w mb Φ C V) (c : Nat) (hc : c < 18446744073709551616) :
    Calls Try.prog 27 #[.pointer (some ⟨mb, 0, none⟩), .int .u64 (c : Nat)] w fun e w' => e = .returned (.bool (C c)) ∧ Below w.heap.size w w' := by
  obtain ⟨kb, G, a, hp⟩ := h.ex
  have c0 := a.top.cell
  have l0 := a.map.looks tyO (zeroO w) c hc
  obtain ⟨x, p, e⟩ := valO_open (G c)
  rw [e, a.has c] at l0
  clear e
  go_enter Try.func27, Try.ntmps27
  go_wp2_with fail
  go_ret
  exact ⟨rfl, below_alloc _ _⟩
theorem Has_any {w : World} {mb : Nat} {Φ : Nat → Prop} {C : Nat → Bool} {V : Nat → Int} (h : Ar w mb Φ C V) (a : Nat) (ha : a < 18446744073709551616) :
    Calls Try.prog 16 #[.pointer (some ⟨mb, 0, none⟩), .int .u64 (a : Nat)] w fun e w' => e = .returned (.bool (C (a / 4194304))) ∧ Below w.heap.size w w' := by
  have cH := hide (has_any h (a / 4194304) (by omega))
  rw [show ((a / 4194304 : Nat) : Int) = (a : Int) / 4194304 by omega] at cH
  go_enter Try.func16, Try.ntmps16
  go_wp2_with fail
  refine cH.out.mono ?_
  rintro e w' ⟨rfl, hb⟩
  go_wp2_with fail
  go_ret
  exact ⟨rfl, hb⟩
/-! ### Add -/
theorem add_arg {w : World} {mb : Nat} (c : Nat) (hc : 67108864 ≤ c) : Calls Try.prog 15 #[.pointer (some ⟨mb, 0, none⟩), .int .u64 (c : Nat)] w fun e w' => e = .returned (.int .i64 1) ∧ Below w.heap.size w w' := by
  have d1 : decide ((67108864 : Int) ≤ (c : Int)) = true := decide_eq_true (by omega)
  clear hc
  generalize (c : Int) = P at *
  go_enter Try.func15, Try.ntmps15
  go_wp2_with fail
  go_ret
  exact ⟨rfl, Below.refl _ _⟩
theorem add_twice {w : World} {mb : Nat} {Φ : Nat → Prop} {C : Nat → Bool} {V : Nat → Int} (h : Ar w mb Φ C V) (c : Nat) (hc : c < 67108864) (hC : C c = true) :
    Calls Try.prog 15 #[.pointer (some ⟨mb, 0, none⟩), .int .u64 (c : Nat)] w fun e w' => e = .returned (.int .i64 34) ∧ Below w.heap.size w w' := by
  have cH := hide (has_any h c (by omega))
  rw [hC] at cH
  have d1 : decide ((67108864 : Int) ≤ (c : Int)) = false := decide_eq_false (by omega)
  obtain ⟨P, hP⟩ : ∃ P : Int, (c : Int) = P := ⟨_, rfl⟩
  rw [hP] at cH d1 ⊢
  have HC := hide hc
  clear hc
  go_enter Try.func15, Try.ntmps15
  go_wp2_with fail
  refine cH.out.mono ?_
  rintro e w' ⟨rfl, hb⟩
  go_wp2_with fail
  go_ret
  exact ⟨rfl, hb⟩
theorem add_new {w : World} {mb : Nat} {Φ : Nat → Prop} {C : Nat → Bool} {V : Nat → Int} (h : Ar w mb Φ C V) (c : Nat) (hc : c < 67108864) (hC : C c = false) :
    Calls Try.prog 15 #[.pointer (some ⟨mb, 0, none⟩), .int .u64 (c : Nat)] w fun e w' => e = .returned (.int .i64 0) ∧ ArTo w w' mb Φ (fun q => if q = c then true else C q) V := by
  have cH := hide (has_any h c (by omega))
  rw [hC] at cH
  have d1 : decide ((67108864 : Int) ≤ (c : Int)) = false := decide_eq_false (by omega)
  obtain ⟨P, hP⟩ : ∃ P : Int, (c : Int) = P := ⟨_, rfl⟩
  rw [hP] at cH d1 ⊢
  have HC := hide hc
  clear hc
  go_enter Try.func15, Try.ntmps15
  go_wp2_with fail
  refine cH.out.mono ?_
  rintro e w1 ⟨rfl, hb⟩
  obtain ⟨kb, G, a, hp⟩ := (h.below hb).ex
  have c0 := a.top.cell
  obtain ⟨w2, r2, m2, g2⟩ := a.map.put tyO c HC.out (0, none)
  rw [hP] at r2
  have e2 : encO.val (0, none) = .agg #[.int .i64 0, .pointer none] := rfl
  rw [e2] at r2
  have A := hide a
  have M2 := hide m2
  have G2 := hide g2
  clear a m2 g2 e2 cH
  go_wp2_with fail
  go_ret
  have g2 := G2.out
  have a := A.out
  have kb2 : Kept (fun b => b = kb) w1 w2 := Kept.of_grown g2 (fun k e => (Option.some.inj e).symm)
  have k1 : Kept Φ w w2 := (Kept.of_below hb).trans kb2 (fun b _ e => by rw [e]; exact hp _ (.inr (.inl rfl)))
  have hG : G c = none := by
    have := a.has c
    rw [hC] at this
    cases z : G c with
    | none => rfl
    | some o => rw [z] at this; cases this
  have hA : ArAt w2 mb kb (fun q => if q = c then some (0, none) else G q) (fun q => if q = c then true else C q) V := by
    refine ⟨boxed_kept a.top kb2 a.two, M2.out, fun p => ?_, fun p hp => ?_, fun q hq => ?_, fun p o ho => ?_, fun p q o r b h1 h2 h3 h4 => ?_, fun p o b h1 h2 => ?_, a.two⟩
    · split
      · rfl
      · exact a.has p
    · split at hp
      · rename_i e; rw [e]; exact HC.out
      · exact a.lim p hp
    · split at hq
      · cases hq
      · exact a.out q hq
    · split at ho
      · rename_i e
        cases ho
        intro k hk
        exact a.out _ (by rw [e, show (512 * c + k) / 512 = c by omega]; exact hC)
      · exact (a.own p o ho).block (fun b hb => kb2.block b ((a.own p o ho).lt hb) (a.far p o b ho hb).2)
    · split at h1
      · cases h1; cases h3
      · split at h2
        · cases h2; cases h4
        · exact a.inj p q o r b h1 h2 h3 h4
    · split at h1
      · cases h1; cases h2
      · exact a.far p o b h1 h2
  refine ⟨rfl, k1, fpA mb kb (fun q => if q = c then some (0, none) else G q), ⟨⟨_, _, hA, fun _ h => h⟩, fun b hb => hA.fp_lt hb⟩, ?_⟩
  rintro b (rfl | rfl | ⟨p, o, h1, h2⟩)
  · exact .inl (hp _ (.inl rfl))
  · exact .inl (hp _ (.inr (.inl rfl)))
  · simp only at h1
    split at h1
    · cases h1; cases h2
    · exact .inl (hp _ (.inr (.inr ⟨p, o, h1, h2⟩)))
/-! ### At -/
theorem at_any {w : World} (o : Int × Option Nat) (v : Nat → Int) (h : OwAt w o v) (k : Nat) (hk : k < 512) :
    Calls Try.prog 23 #[owV o, .int .u64 (k : Nat)] w fun e w' => e = .returned (.int .i64 (v k)) ∧ Below w.heap.size w w' := by
  obtain ⟨a, x⟩ := o
  cases x with
  | none =>
    rw [h k hk]
    unfold owV
    go_enter Try.func23, Try.ntmps23
    go_wp2_with fail
    go_ret
    exact ⟨rfl, below_alloc _ _⟩
  | some b =>
    have c0 := RowI.cell h k hk
    have hl := RowI.lt h
    unfold owV
    go_enter Try.func23, Try.ntmps23
    go_wp2_with fail
    go_ret
    exact ⟨rfl, below_alloc _ _⟩
theorem At_any {w : World} {mb : Nat} {Φ : Nat → Prop} {C : Nat → Bool} {V : Nat → Int} (h : Ar w mb Φ C V) (a : Nat) (ha : a < 18446744073709551616) :
    Calls Try.prog 11 #[.pointer (some ⟨mb, 0, none⟩), .int .u64 (a : Nat)] w fun e w' => e = .returned (.int .i64 (V (a / 8192))) ∧ Below w.heap.size w w' := by
  obtain ⟨kb, G, g, hp⟩ := h.ex
  have c0 := g.top.cell
  have l0 := g.map.look tyO (zeroO w) (a / 4194304) (by omega)
  have cA := hide (show ∀ W, Below w.heap.size w W → Calls Try.prog 23 #[valO encO (G (a / 4194304)), .int .u64 ((a / 8192 % 512 : Nat) : Int)] W fun e w' => e = .returned (.int .i64 (V (a / 8192))) ∧ Below W.heap.size W w' from fun W hW => by
    have hq : 512 * (a / 4194304) + a / 8192 % 512 = a / 8192 := by omega
    cases z : G (a / 4194304) with
    | none =>
      have := g.out (a / 8192) (by rw [← g.has, show a / 8192 / 512 = a / 4194304 by omega, z]; rfl)
      rw [this]
      exact at_any (0, none) (fun _ => 0) (fun _ _ => rfl) _ (by omega)
    | some o =>
      have := at_any o _ ((g.own _ o z).block (fun b hb => hW.block b ((g.own _ o z).lt hb))) (a / 8192 % 512) (by omega)
      rw [hq] at this
      exact this)
  obtain ⟨x, p, e⟩ := valO_open (G (a / 4194304))
  rw [e] at l0 cA
  clear e
  rw [show ((a / 4194304 : Nat) : Int) = (a : Int) / 4194304 by omega] at l0
  rw [show ((a / 8192 % 512 : Nat) : Int) = (a : Int) / 8192 % 512 by omega] at cA
  go_enter Try.func11, Try.ntmps11
  go_wp2_with fail
  refine (cA.out _ (Below.refl _ _)).mono ?_
  rintro e w' ⟨rfl, hb⟩
  go_wp2_with fail
  go_ret
  exact ⟨rfl, hb⟩
end Go.Proofs.Ytdcjldpbgickmaa
