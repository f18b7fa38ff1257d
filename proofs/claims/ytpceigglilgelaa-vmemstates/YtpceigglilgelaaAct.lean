/- Lists of acts that come in; which of them are heavy. -/
import Derived.Test.YtpceigglilgelaaHelp
import Derived.Test.YtpceigglilgelaaVmA
import Derived.Deep.Slices
import Derived.Lib.SmallJoins
namespace Go.Proofs.Ytpceigglilgelaa
open Go.ChangeShapes Go.WideShapes Go.ChangeAt Go.RowKit Go.Proofs.Sp

/-- Something that is done. -/
structure ActV where
  what : Int
  page : Nat
  n : Nat
  x : Nat
structure ActV.Ok (a : ActV) : Prop where
  lo : -9223372036854775808 ≤ a.what
  hi : a.what ≤ 9223372036854775807
  page : a.page < 18446744073709551616
  n : a.n < 18446744073709551616
  x : a.x < 18446744073709551616
structure ActsAt (w : World) (o : Option Addr) (len cap : Nat) (X : Nat → ActV) : Prop where
  nil : o = none → len = 0 ∧ cap = 0
  cells : ∀ ad, o = some ad → ∀ i, i < len → w.cell? (ad.add (i * 4)) = some (.int .i64 (X i).what) ∧ w.cell? ((ad.add (i * 4)).add 1) = some (.int .u64 ((X i).page : Int)) ∧ w.cell? ((ad.add (i * 4)).add 2) = some (.int .u64 ((X i).n : Int)) ∧ w.cell? ((ad.add (i * 4)).add 3) = some (.int .u64 ((X i).x : Int))
  ok : ∀ i, (X i).Ok
theorem act_spot {w : World} {b off : Nat} {sp : Option Nat} {v : Value} (h : w.cell? ⟨b, off, sp⟩ = some v) : sp = none := by
  unfold World.cell? at h
  cases sp with
  | none => rfl
  | some x => split at h <;> simp at h
theorem ActsAt.at {w : World} {o : Option Addr} {len cap : Nat} {X : Nat → ActV} (h : ActsAt w o len cap X) {i : Nat} (hi : i < len) : ∃ b off, o = some ⟨b, off, none⟩ ∧ b < w.heap.size ∧ ∀ i, i < len → w.cell? ⟨b, off + i * 4, none⟩ = some (.int .i64 (X i).what) ∧ w.cell? ⟨b, off + i * 4 + 1, none⟩ = some (.int .u64 ((X i).page : Int)) ∧ w.cell? ⟨b, off + i * 4 + 2, none⟩ = some (.int .u64 ((X i).n : Int)) ∧ w.cell? ⟨b, off + i * 4 + 3, none⟩ = some (.int .u64 ((X i).x : Int)) := by
  cases ho : o with
  | none => have := (h.nil ho).1; omega
  | some a =>
    obtain ⟨b, off, sp⟩ := a
    have c0 := (h.cells _ ho 0 (by omega)).1
    have hs : sp = none := act_spot (by simpa [Addr.add] using c0)
    subst hs
    have hb : b < w.heap.size := cell_lt (by simpa [Addr.add] using c0)
    refine ⟨b, off, rfl, hb, fun j hj => ?_⟩
    have := h.cells _ ho j hj
    rwa [addr_add0, addr_add0, addr_add0, addr_add0] at this
theorem cellsAct : Try.prog.cellsOf 44 = 4 := by kernel_rfl
theorem cells4 {w : World} {a : Addr} {cs : List Value} (h : w.cells? 0 a 4 = some cs) : ∃ c0 c1 c2 c3, cs = [c0, c1, c2, c3] ∧ w.cell? a = some c0 ∧ w.cell? (a.add 1) = some c1 ∧ w.cell? (a.add 2) = some c2 ∧ w.cell? (a.add 3) = some c3 := by
  unfold World.cells? at h
  rw [if_pos (Nat.zero_le _)] at h
  have e : a.add 0 = a := by simp [Addr.add]
  simp only [show List.range 4 = [0, 1, 2, 3] from rfl, List.mapM_cons, List.mapM_nil, e] at h
  cases h0 : w.cell? a with
  | none => rw [h0] at h; simp at h
  | some c0 =>
    cases h1 : w.cell? (a.add 1) with
    | none => rw [h0, h1] at h; simp at h
    | some c1 =>
      cases h2 : w.cell? (a.add 2) with
      | none => rw [h0, h1, h2] at h; simp at h
      | some c2 =>
        cases h3 : w.cell? (a.add 3) with
        | none => rw [h0, h1, h2, h3] at h; simp at h
        | some c3 =>
          rw [h0, h1, h2, h3] at h
          simp at h
          exact ⟨c0, c1, c2, c3, h.symm, rfl, rfl, rfl, rfl⟩
theorem cellsI : Try.prog.cellsOf 3 = 1 := by kernel_rfl
theorem cellsN : Try.prog.cellsOf 23 = 1 := by kernel_rfl
theorem act_of {H : Type} {enc : TypeId × Value → H} {W : World} {n : Nat} {c0 c1 c2 c3 : Value} {x : DataW H × List MemPlace} (h : DataW.trod enc Try.prog W 0 (fun _ => true) true n 44 [c0, c1, c2, c3] = some x) :
    ∃ a : ActV, a.Ok ∧ c0 = .int .i64 a.what ∧ c1 = .int .u64 (a.page : Int) ∧ c2 = .int .u64 (a.n : Int) ∧ c3 = .int .u64 (a.x : Int) := by
  obtain ⟨y0, y1, y2, y3, m, _, _, h0, h1, h2, h3⟩ := Go.Joins.trod_struct4 Try.underlying44 h
  obtain ⟨n0, e0, _, w0⟩ := DataW.trod_int Try.underlying3 h0
  obtain ⟨n1, e1, _, w1⟩ := DataW.trod_int Try.underlying23 h1
  obtain ⟨n2, e2, _, w2⟩ := DataW.trod_int Try.underlying23 h2
  obtain ⟨n3, e3, _, w3⟩ := DataW.trod_int Try.underlying23 h3
  simp only [cellsI, cellsN, List.drop_zero, List.drop_succ_cons, List.take_succ_cons, List.take_zero] at e0 e1 e2 e3
  have b0 := bounds_i64 w0
  have b1 := bounds_u64 w1
  have b2 := bounds_u64 w2
  have b3 := bounds_u64 w3
  refine ⟨⟨n0, n1.toNat, n2.toNat, n3.toNat⟩, ⟨b0.1, b0.2, ?_, ?_, ?_⟩, ?_, ?_, ?_, ?_⟩
  · show n1.toNat < _; omega
  · show n2.toNat < _; omega
  · show n3.toNat < _; omega
  · injection e0
  · show c1 = .int .u64 ((n1.toNat : Nat) : Int)
    rw [Int.toNat_of_nonneg b1.1]; injection e1
  · show c2 = .int .u64 ((n2.toNat : Nat) : Int)
    rw [Int.toNat_of_nonneg b2.1]; injection e2
  · show c3 = .int .u64 ((n3.toNat : Nat) : Int)
    rw [Int.toNat_of_nonneg b3.1]; injection e3
theorem acts_of {H : Type} {enc : TypeId × Value → H} {W : World} {o : Option Addr} {len cap : Nat} {d : DataW H} {p : List MemPlace} (h : DataW.Trod enc Try.prog W 0 (fun _ => true) true 37 (.slice o len cap) d p) : len ≤ maxLen ∧ ∃ X, ActsAt W o len cap X := by
  obtain ⟨fuel, hf⟩ := h
  have ok0 : (⟨0, 0, 0, 0⟩ : ActV).Ok := ⟨by decide, by decide, by decide, by decide, by decide⟩
  rcases Go.Deep.open_slice Try.underlying37 hf with ⟨hcs, hx⟩ | ⟨a, len', cap', m, n, D, Pl, hcs, _, hl, hm, hme, hx, hc⟩
  · simp [Value.cells] at hcs
    obtain ⟨rfl, rfl, rfl⟩ := hcs
    exact ⟨by decide, fun _ => ⟨0, 0, 0, 0⟩, ⟨fun _ => ⟨rfl, rfl⟩, fun _ z => by (cases z), fun _ => ok0⟩⟩
  · simp [Value.cells] at hcs
    obtain ⟨rfl, rfl, rfl⟩ := hcs
    have hmc : m = cap := by simpa using hme
    rw [cellsAct] at hc
    have ex : ∀ i, ∃ X : ActV, X.Ok ∧ (i < len → W.cell? (a.add (i * 4)) = some (.int .i64 X.what) ∧ W.cell? ((a.add (i * 4)).add 1) = some (.int .u64 (X.page : Int)) ∧ W.cell? ((a.add (i * 4)).add 2) = some (.int .u64 (X.n : Int)) ∧ W.cell? ((a.add (i * 4)).add 3) = some (.int .u64 (X.x : Int))) := fun i => by
      by_cases z : i < len
      · obtain ⟨cs', k1, k2⟩ := hc i (by omega)
        obtain ⟨c0, c1, c2, c3, rfl, e0, e1, e2, e3⟩ := cells4 k1
        obtain ⟨X, ok, rfl, rfl, rfl, rfl⟩ := act_of k2
        exact ⟨X, ok, fun _ => ⟨e0, e1, e2, e3⟩⟩
      · exact ⟨⟨0, 0, 0, 0⟩, ok0, fun y => absurd y z⟩
    refine ⟨by omega, fun i => Classical.choose (ex i), ⟨fun z => by (cases z), fun ad e i hi => ?_, fun i => (Classical.choose_spec (ex i)).1⟩⟩
    obtain rfl : a = ad := by injection e
    exact (Classical.choose_spec (ex i)).2 hi
end Go.Proofs.Ytpceigglilgelaa
