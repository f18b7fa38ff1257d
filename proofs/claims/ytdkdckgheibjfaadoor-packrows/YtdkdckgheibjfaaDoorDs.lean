/- What comes in: eight words; the table that is laid. -/
import Derived.Test.YtdkdckgheibjfaaDoorBm
import Derived.Test.YtdkdckgheibjfaaDoorPg
import Derived.Test.YtdkdckgheibjfaaDoorPr
import Derived.Lib.LaidTab
import Derived.LaidMore
import Derived.Stop.Joined
import Derived.WideKeyPair
import Derived.WideKeyArr2
namespace Go.Proofs.YtdkdckgheibjfaaDoor.Bb
open Go.ChangeShapes Go.WideShapes Go.ChangeAt Go.RowKit Go.Proofs.Bt Go.Shelf Go.WideMaps
set_option linter.unusedVariables false
set_option linter.unusedSimpArgs false

/-- Eight words as a value. -/
def cells8 (g : Nat → Nat) : Array Value := #[.int .u64 ((g 0 : Nat) : Int), .int .u64 ((g 1 : Nat) : Int), .int .u64 ((g 2 : Nat) : Int), .int .u64 ((g 3 : Nat) : Int), .int .u64 ((g 4 : Nat) : Int), .int .u64 ((g 5 : Nat) : Int), .int .u64 ((g 6 : Nat) : Int), .int .u64 ((g 7 : Nat) : Int)]
def words (g : Nat → Nat) : Value := .agg (cells8 g)
section
variable {H : Type} {enc : TypeId × Value → H} {P : Program} {k e : TypeId} {W : World} {base : Nat} {sp : Nat → Bool} {held : Bool}
def wordsD {H : Type} (g : Nat → Nat) : DataW H := .agg [.lit (.int .u64 ((g 0 : Nat) : Int)), .lit (.int .u64 ((g 1 : Nat) : Int)), .lit (.int .u64 ((g 2 : Nat) : Int)), .lit (.int .u64 ((g 3 : Nat) : Int)), .lit (.int .u64 ((g 4 : Nat) : Int)), .lit (.int .u64 ((g 5 : Nat) : Int)), .lit (.int .u64 ((g 6 : Nat) : Int)), .lit (.int .u64 ((g 7 : Nat) : Int))]
theorem nat_of_wf {a : Int} (h : (Lit.int .u64 a).wf = true) : ∃ n : Nat, a = n ∧ n < 18446744073709551616 := by
  have := bounds_u64 h
  exact ⟨a.toNat, by omega, by omega⟩
theorem open_words (A : ArrKey P k e 8) (he : P.underlying e = some (.int .u64)) {r : Reach} {b0 : Nat} {v : Value} {d : DataW H} {ps : List MemPlace} (hval : Value.okWide P W r b0 k v) (hd : DataW.Trod enc P W base sp held k v d ps) :
    ∃ g : Nat → Nat, v = words g ∧ d = wordsD g ∧ ps = [] ∧ ∀ k, g k < 18446744073709551616 := by
  obtain ⟨xs, rfl, hx⟩ := okWide_arr A hval
  obtain ⟨l⟩ := xs
  match l, hx with
  | [c0, c1, c2, c3, c4, c5, c6, c7], _ =>
    obtain ⟨fuel, hf⟩ := hd
    cases fuel with
    | zero => simp [DataW.trod] at hf
    | succ n =>
      rw [DataW.trod_step] at hf
      unfold DataW.trodStep at hf
      simp only [A.hu, Value.cells] at hf
      rw [if_pos (by rw [A.size]; rfl)] at hf
      simp only [Option.map_eq_some_iff] at hf
      obtain ⟨xs, hx, e1⟩ := hf
      rw [show List.range 8 = [0, 1, 2, 3, 4, 5, 6, 7] from rfl] at hx
      simp only [List.mapM_cons, List.mapM_nil, bind, Option.bind_eq_some_iff, pure, Option.some.injEq, A.one] at hx
      obtain ⟨y0, h0, _, ⟨y1, h1, _, ⟨y2, h2, _, ⟨y3, h3, _, ⟨y4, h4, _, ⟨y5, h5, _, ⟨y6, h6, _, ⟨y7, h7, _, rfl, rfl⟩, rfl⟩, rfl⟩, rfl⟩, rfl⟩, rfl⟩, rfl⟩, rfl⟩ := hx
      obtain ⟨a0, ea0, rfl, wa0⟩ := DataW.trod_int he h0
      obtain ⟨a1, ea1, rfl, wa1⟩ := DataW.trod_int he h1
      obtain ⟨a2, ea2, rfl, wa2⟩ := DataW.trod_int he h2
      obtain ⟨a3, ea3, rfl, wa3⟩ := DataW.trod_int he h3
      obtain ⟨a4, ea4, rfl, wa4⟩ := DataW.trod_int he h4
      obtain ⟨a5, ea5, rfl, wa5⟩ := DataW.trod_int he h5
      obtain ⟨a6, ea6, rfl, wa6⟩ := DataW.trod_int he h6
      obtain ⟨a7, ea7, rfl, wa7⟩ := DataW.trod_int he h7
      simp at ea0 ea1 ea2 ea3 ea4 ea5 ea6 ea7
      subst ea0 ea1 ea2 ea3 ea4 ea5 ea6 ea7
      obtain ⟨n0, rfl, b0⟩ := nat_of_wf wa0
      obtain ⟨n1, rfl, b1⟩ := nat_of_wf wa1
      obtain ⟨n2, rfl, b2⟩ := nat_of_wf wa2
      obtain ⟨n3, rfl, b3⟩ := nat_of_wf wa3
      obtain ⟨n4, rfl, b4⟩ := nat_of_wf wa4
      obtain ⟨n5, rfl, b5⟩ := nat_of_wf wa5
      obtain ⟨n6, rfl, b6⟩ := nat_of_wf wa6
      obtain ⟨n7, rfl, b7⟩ := nat_of_wf wa7
      simp only [Prod.mk.injEq] at e1
      refine ⟨fun k => match k with | 0 => n0 | 1 => n1 | 2 => n2 | 3 => n3 | 4 => n4 | 5 => n5 | 6 => n6 | 7 => n7 | _ => 0, rfl, by rw [← e1.1]; rfl, by rw [← e1.2]; rfl, fun k => ?_⟩
      dsimp only
      split <;> first | assumption | omega
theorem wf_u64 (n : Nat) (h : n < 18446744073709551616) : (Lit.int .u64 (n : Int)).wf = true := by
  simp [Lit.wf, IntKind.min, IntKind.max, IntKind.signed, IntKind.bits]; omega
theorem shut_words (A : ArrKey P k e 8) (he : P.underlying e = some (.int .u64)) {g : Nat → Nat} (hg : ∀ k, g k < 18446744073709551616) :
    DataW.Trod enc P W base sp held k (words g) (wordsD g) [] :=
  ⟨2, by
    show DataW.trod enc P W base sp held (1 + 1) k [.int .u64 ((g 0 : Nat) : Int), .int .u64 ((g 1 : Nat) : Int), .int .u64 ((g 2 : Nat) : Int), .int .u64 ((g 3 : Nat) : Int), .int .u64 ((g 4 : Nat) : Int), .int .u64 ((g 5 : Nat) : Int), .int .u64 ((g 6 : Nat) : Int), .int .u64 ((g 7 : Nat) : Int)] = _
    rw [DataW.trod_step]
    unfold DataW.trodStep
    simp only [A.hu]
    rw [if_pos (by rw [A.size]; rfl), show List.range 8 = [0, 1, 2, 3, 4, 5, 6, 7] from rfl]
    simp only [List.mapM_cons, List.mapM_nil]
    simp [A.one, DataW.trod, he, wf_u64 _ (hg _), wordsD]⟩
end
theorem arr8 : ArrKey Tryd.prog 23 22 8 := ⟨Tryd.underlying23, by kernel_rfl, by kernel_rfl, by kernel_rfl⟩

/-! ### The table -/
def laid1 : List (String × DataW Unit) := [("math/bits.deBruijn64tab", Rows.laid_math_bits_deBruijn64tab)]
theorem own : ownKnob Tryd.prog.godebug = none := by kernel_rfl
theorem gTab : Tryd.prog.globalNamed "math/bits.deBruijn64tab" = some 0 := by kernel_rfl
theorem tTab : (Tryd.prog.globals[0]?).map (·.type) = some 52 := by kernel_rfl
theorem door_met (os : Go.Os) (args : Array Value) : laidMetH Tryd.prog laid1 ((World.doorLaid Tryd.prog 400 os).forCall (fun _ _ => 0) ⟨#[], args, []⟩).memory :=
  laidMetH_of_parts3 (fuel := 8) (laidMet_of_run' 8 (by kernel_rfl) (by kernel_rfl)) (by kernel_rfl) (by kernel_rfl)
theorem tab_of_laid {W : World} (h : laidMetH Tryd.prog laid1 W) : TabW W := by
  rw [MakeChecks.laidMetH_plain _ _ _ (by kernel_rfl)] at h
  have hT := Lib.tabIs_of_head (k := .u8) (zs := Lib.deBruijn64tab.map fun n : Nat => (n : Int)) (rest := []) gTab tTab Tryd.underlying52 Tryd.underlying5 (by kernel_rfl) (by kernel_rfl) h
  intro j hj
  have := hT.cell gTab j (by rw [List.length_map]; exact hj)
  rw [this]
  congr 2
  simp only [List.getD, List.getElem?_map]
  cases Lib.deBruijn64tab[j]? <;> rfl

/-- Three rows of eight words in one block. -/
def cells24 (a b c : Nat → Nat) : Array Value := #[.int .u64 ((a 0 : Nat) : Int), .int .u64 ((a 1 : Nat) : Int), .int .u64 ((a 2 : Nat) : Int), .int .u64 ((a 3 : Nat) : Int), .int .u64 ((a 4 : Nat) : Int), .int .u64 ((a 5 : Nat) : Int), .int .u64 ((a 6 : Nat) : Int), .int .u64 ((a 7 : Nat) : Int), .int .u64 ((b 0 : Nat) : Int), .int .u64 ((b 1 : Nat) : Int), .int .u64 ((b 2 : Nat) : Int), .int .u64 ((b 3 : Nat) : Int), .int .u64 ((b 4 : Nat) : Int), .int .u64 ((b 5 : Nat) : Int), .int .u64 ((b 6 : Nat) : Int), .int .u64 ((b 7 : Nat) : Int), .int .u64 ((c 0 : Nat) : Int), .int .u64 ((c 1 : Nat) : Int), .int .u64 ((c 2 : Nat) : Int), .int .u64 ((c 3 : Nat) : Int), .int .u64 ((c 4 : Nat) : Int), .int .u64 ((c 5 : Nat) : Int), .int .u64 ((c 6 : Nat) : Int), .int .u64 ((c 7 : Nat) : Int)]
theorem rows_of {w : World} {B : Nat} {a b c : Nat → Nat} {t : TypeId} (h : w.heap[B]? = some (.cells (cells24 a b c) t (0, 0))) (ha : ∀ k, a k < 18446744073709551616) (hb : ∀ k, b k < 18446744073709551616) (hc : ∀ k, c k < 18446744073709551616) :
    RowF w B 0 (bitW a) ∧ RowF w B 8 (bitW b) ∧ RowF w B 16 (bitW c) := by
  have lt : B < w.heap.size := (Array.getElem?_eq_some_iff.1 h).1
  have cl := fun j => cells_of h j
  refine ⟨⟨a, ⟨lt, fun k hk => ?_, ha⟩, fun _ _ => rfl⟩, ⟨b, ⟨lt, fun k hk => ?_, hb⟩, fun _ _ => rfl⟩, ⟨c, ⟨lt, fun k hk => ?_, hc⟩, fun _ _ => rfl⟩⟩
  all_goals
    refine (cl _).trans ?_
    match k, hk with
    | 0, _ => rfl
    | 1, _ => rfl
    | 2, _ => rfl
    | 3, _ => rfl
    | 4, _ => rfl
    | 5, _ => rfl
    | 6, _ => rfl
    | 7, _ => rfl
/-- The bits of the three rows. -/
def fs3 (a b c : Nat → Nat) (k : Nat) : Nat → Bool := if k = 0 then bitW a else if k = 1 then bitW b else bitW c
theorem row3 {w : World} {B : Nat} {a b c : Nat → Nat} (h : RowF w B 0 (bitW a) ∧ RowF w B 8 (bitW b) ∧ RowF w B 16 (bitW c)) (k : Nat) (hk : k < 3) : RowF w B (k * 8) (fs3 a b c k) := by
  match k, hk with
  | 0, _ => exact h.1
  | 1, _ => exact h.2.1
  | 2, _ => exact h.2.2
end Go.Proofs.YtdkdckgheibjfaaDoor.Bb
