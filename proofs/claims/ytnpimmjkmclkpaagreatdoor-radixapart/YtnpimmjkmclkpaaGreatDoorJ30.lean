/- What comes in: lists of acts and of truths; heavy: its contract. -/
import Derived.Test.YtnpimmjkmclkpaaGreatDoorJ29
namespace Go.Proofs.YtnpimmjkmclkpaaGreatDoor
open Go.ChangeShapes Go.WideShapes Go.ChangeAt Go.RowKit Go.Proofs.Bt Go.Shelf Go.WideMaps
set_option linter.unusedVariables false
set_option linter.unusedSimpArgs false

/-- Something that is done. -/
structure ActV where
  what : Int
  i : Nat
  n : Nat
structure ActV.Ok (a : ActV) : Prop where
  a0 : -9223372036854775808 ≤ a.what
  a1 : a.what ≤ 9223372036854775807
  b1 : a.i < 18446744073709551616
  c1 : a.n < 18446744073709551616
structure ActsAt (w : World) (o : Option Addr) (len cap : Nat) (X : Nat → ActV) : Prop where
  nil : o = none → len = 0 ∧ cap = 0
  cells : ∀ ad, o = some ad → ∀ i, i < len → w.cell? (ad.add (i * 3)) = some (.int .i64 (X i).what) ∧ w.cell? ((ad.add (i * 3)).add 1) = some (.int .u64 ((X i).i : Nat)) ∧ w.cell? ((ad.add (i * 3)).add 2) = some (.int .u64 ((X i).n : Nat))
  ok : ∀ i, (X i).Ok
theorem ActsAt.at {w : World} {o : Option Addr} {len cap : Nat} {X : Nat → ActV} (h : ActsAt w o len cap X) {i : Nat} (hi : i < len) : ∃ b off, o = some ⟨b, off, none⟩ ∧ b < w.heap.size ∧ ∀ i, i < len → w.cell? ⟨b, off + i * 3, none⟩ = some (.int .i64 (X i).what) ∧ w.cell? ⟨b, off + i * 3 + 1, none⟩ = some (.int .u64 ((X i).i : Nat)) ∧ w.cell? ⟨b, off + i * 3 + 2, none⟩ = some (.int .u64 ((X i).n : Nat)) := by
  cases ho : o with
  | none => have := (h.nil ho).1; omega
  | some a =>
    obtain ⟨b, off, sp⟩ := a
    have c0 := (h.cells _ ho 0 (by omega)).1
    have hs : sp = none := act_spot (by simpa [Addr.add] using c0)
    subst hs
    have hb : b < w.heap.size := cell_lt (by simpa [Addr.add] using c0)
    refine ⟨b, off, rfl, hb, fun j hj => ?_⟩
    have := h.cells _ ho j hj
    rwa [addr_add0, addr_add0, addr_add0] at this
theorem cellsAct : Tryz.prog.cellsOf 33 = 3 := by kernel_rfl
theorem cells3 {w : World} {a : Addr} {cs : List Value} (h : w.cells? 0 a 3 = some cs) : ∃ c0 c1 c2, cs = [c0, c1, c2] ∧ w.cell? a = some c0 ∧ w.cell? (a.add 1) = some c1 ∧ w.cell? (a.add 2) = some c2 := by
  unfold World.cells? at h
  rw [if_pos (Nat.zero_le _)] at h
  have e : a.add 0 = a := by simp [Addr.add]
  simp only [show List.range 3 = [0, 1, 2] from rfl, List.mapM_cons, List.mapM_nil, e] at h
  cases h0 : w.cell? a with
  | none => rw [h0] at h; simp at h
  | some c0 =>
    cases h1 : w.cell? (a.add 1) with
    | none => rw [h0, h1] at h; simp at h
    | some c1 =>
      cases h2 : w.cell? (a.add 2) with
      | none => rw [h0, h1, h2] at h; simp at h
      | some c2 =>
        rw [h0, h1, h2] at h
        simp at h
        exact ⟨c0, c1, c2, h.symm, rfl, rfl, rfl⟩
theorem act_of {H : Type} {enc : TypeId × Value → H} {W : World} {n : Nat} {c0 c1 c2 : Value} {x : DataW H × List MemPlace} (h : DataW.trod enc Tryz.prog W 0 (fun _ => true) true n 33 [c0, c1, c2] = some x) :
    ∃ a : ActV, a.Ok ∧ c0 = .int .i64 a.what ∧ c1 = .int .u64 (a.i : Nat) ∧ c2 = .int .u64 (a.n : Nat) := by
  obtain ⟨y0, y1, y2, m, _, _, h0, h1, h2⟩ := Go.Deep.trod_struct3 Tryz.underlying33 h
  obtain ⟨n0, e0, _, w0⟩ := DataW.trod_int Tryz.underlying3 h0
  obtain ⟨n1, e1, _, w1⟩ := DataW.trod_int Tryz.underlying31 h1
  obtain ⟨n2, e2, _, w2⟩ := DataW.trod_int Tryz.underlying31 h2
  simp only [cellsI, cellsU, List.drop_zero, List.drop_succ_cons, List.take_succ_cons, List.take_zero] at e0 e1 e2
  have b0 := bounds_i64 w0
  have b1 := bounds_u64 w1
  have b2 := bounds_u64 w2
  refine ⟨⟨n0, n1.toNat, n2.toNat⟩, ⟨b0.1, b0.2, by show n1.toNat < _; omega, by show n2.toNat < _; omega⟩, by injection e0, ?_, ?_⟩
  · have : c1 = .int .u64 n1 := by injection e1
    rw [this, show ((n1.toNat : Nat) : Int) = n1 by omega]
  · have : c2 = .int .u64 n2 := by injection e2
    rw [this, show ((n2.toNat : Nat) : Int) = n2 by omega]
theorem acts_of {H : Type} {enc : TypeId × Value → H} {W : World} {o : Option Addr} {len cap : Nat} {d : DataW H} {p : List MemPlace} (h : DataW.Trod enc Tryz.prog W 0 (fun _ => true) true 22 (.slice o len cap) d p) : len ≤ maxLen ∧ len ≤ cap ∧ ∃ X, ActsAt W o len cap X := by
  obtain ⟨fuel, hf⟩ := h
  have ok0 : (⟨0, 0, 0⟩ : ActV).Ok := ⟨by decide, by decide, by decide, by decide⟩
  rcases Go.Deep.open_slice Tryz.underlying22 hf with ⟨hcs, hx⟩ | ⟨a, len', cap', m, n, D, Pl, hcs, _, hl, hm, hme, hx, hc⟩
  · simp [Value.cells] at hcs
    obtain ⟨rfl, rfl, rfl⟩ := hcs
    exact ⟨by decide, Nat.le_refl _, fun _ => ⟨0, 0, 0⟩, ⟨fun _ => ⟨rfl, rfl⟩, fun _ z => by (cases z), fun _ => ok0⟩⟩
  · simp [Value.cells] at hcs
    obtain ⟨rfl, rfl, rfl⟩ := hcs
    have hmc : m = cap := by simpa using hme
    rw [cellsAct] at hc
    have ex : ∀ i, ∃ X : ActV, X.Ok ∧ (i < len → W.cell? (a.add (i * 3)) = some (.int .i64 X.what) ∧ W.cell? ((a.add (i * 3)).add 1) = some (.int .u64 (X.i : Nat)) ∧ W.cell? ((a.add (i * 3)).add 2) = some (.int .u64 (X.n : Nat))) := fun i => by
      by_cases z : i < len
      · obtain ⟨cs', k1, k2⟩ := hc i (by omega)
        obtain ⟨c0, c1, c2, rfl, e0, e1, e2⟩ := cells3 k1
        obtain ⟨X, ok, rfl, rfl, rfl⟩ := act_of k2
        exact ⟨X, ok, fun _ => ⟨e0, e1, e2⟩⟩
      · exact ⟨⟨0, 0, 0⟩, ok0, fun y => absurd y z⟩
    refine ⟨by omega, by omega, fun i => Classical.choose (ex i), ⟨fun z => by (cases z), fun ad e i hi => ?_, fun i => (Classical.choose_spec (ex i)).1⟩⟩
    obtain rfl : a = ad := by injection e
    exact (Classical.choose_spec (ex i)).2 hi

/-- Truths in a row. -/
structure BoolsAt (w : World) (o : Option Addr) (len cap : Nat) (X : Nat → Bool) : Prop where
  nil : o = none → len = 0 ∧ cap = 0
  cells : ∀ ad, o = some ad → ∀ i, i < len → w.cell? (ad.add i) = some (.bool (X i))
theorem BoolsAt.at {w : World} {o : Option Addr} {len cap : Nat} {X : Nat → Bool} (h : BoolsAt w o len cap X) {i : Nat} (hi : i < len) : ∃ b off, o = some ⟨b, off, none⟩ ∧ b < w.heap.size ∧ ∀ i, i < len → w.cell? ⟨b, off + i, none⟩ = some (.bool (X i)) := by
  cases ho : o with
  | none => have := (h.nil ho).1; omega
  | some a =>
    obtain ⟨b, off, sp⟩ := a
    have c0 := h.cells _ ho 0 (by omega)
    have hs : sp = none := act_spot (by simpa [Addr.add] using c0)
    subst hs
    have hb : b < w.heap.size := cell_lt (by simpa [Addr.add] using c0)
    refine ⟨b, off, rfl, hb, fun j hj => ?_⟩
    have := h.cells _ ho j hj
    rwa [addr_add0] at this
theorem cellsB : Tryz.prog.cellsOf 4 = 1 := by kernel_rfl
theorem bools_of {H : Type} {enc : TypeId × Value → H} {W : World} {o : Option Addr} {len cap : Nat} {d : DataW H} {p : List MemPlace} (h : DataW.Trod enc Tryz.prog W 0 (fun _ => true) true 36 (.slice o len cap) d p) : len ≤ maxLen ∧ len ≤ cap ∧ ∃ X, BoolsAt W o len cap X := by
  obtain ⟨fuel, hf⟩ := h
  rcases Go.Deep.open_slice1 Tryz.underlying36 cellsB hf with ⟨hcs, hx⟩ | ⟨a, len', cap', m, n, V, D, Pl, hcs, _, hl, hm, hme, hx, hc⟩
  · simp [Value.cells] at hcs
    obtain ⟨rfl, rfl, rfl⟩ := hcs
    exact ⟨by decide, Nat.le_refl _, fun _ => false, ⟨fun _ => ⟨rfl, rfl⟩, fun _ z => by (cases z)⟩⟩
  · simp [Value.cells] at hcs
    obtain ⟨rfl, rfl, rfl⟩ := hcs
    have hmc : m = cap := by simpa using hme
    have ex : ∀ i, ∃ X : Bool, (i < len → W.cell? (a.add i) = some (.bool X)) := fun i => by
      by_cases z : i < len
      · obtain ⟨k1, k2⟩ := hc i (by omega)
        obtain ⟨n0, e0, _⟩ := DataW.trod_bool Tryz.underlying4 k2
        have e1 : V i = .bool n0 := by injection e0
        exact ⟨n0, fun _ => by rw [k1, e1]⟩
      · exact ⟨false, fun y => absurd y z⟩
    refine ⟨by omega, by omega, fun i => Classical.choose (ex i), ⟨fun z => by (cases z), fun ad e i hi => ?_⟩⟩
    obtain rfl : a = ad := by injection e
    exact Classical.choose_spec (ex i) hi
/-- How many chunks the first i acts may add. -/
def gsum (X : Nat → ActV) : Nat → Nat
  | 0 => 0
  | i + 1 => gsum X i + more9 (X i).what (X i).n
theorem gsum_mono (X : Nat → ActV) : ∀ {i j : Nat}, i ≤ j → gsum X i ≤ gsum X j := by
  intro i j h
  induction h with
  | refl => exact Nat.le_refl _
  | step _ ih => exact Nat.le_trans ih (Nat.le_add_right _ _)
/-- What heavy answers. -/
def HeavyR (W : World) (len : Nat) (X : Nat → ActV) (e : Ending) (w' : World) : Prop := (e = .returned (.bool true) ∨ (e = .returned (.bool false) ∧ len ≤ 150 ∧ gsum X len ≤ 40)) ∧ w' = W
set_option maxRecDepth 100000 in
set_option maxHeartbeats 1000000 in
theorem heavy_any (W : World) (o : Option Addr) (len cap : Nat) (X : Nat → ActV) (h : ActsAt W o len cap X) (hlen : len ≤ maxLen) :
    Calls Tryz.prog 5 #[.slice o len cap] W (HeavyR W len X) := by
  obtain ⟨R, hR⟩ : ∃ R, R = HeavyR W len X := ⟨_, rfl⟩
  rw [← hR]
  have YES := hide (show R (.returned (.bool true)) W from by rw [hR]; exact ⟨.inl rfl, rfl⟩)
  have NO := hide (show len ≤ 150 → gsum X len ≤ 40 → R (.returned (.bool false)) W from fun h1 h2 => by rw [hR]; exact ⟨.inr ⟨rfl, h1, h2⟩, rfl⟩)
  have HH := hide h
  clear hR h
  by_cases hl : 150 < len
  · have d1 : (150 : Int) < (len : Int) := by omega
    clear NO hl
    go_enter Tryz.func5, Tryz.ntmps5
    go_wp2_with fail
    first | exact YES.out | (go_ret; exact YES.out)
  have hl' : (len : Int) ≤ 150 := by omega
  have hl0 : 0 ≤ (len : Int) := by omega
  have LL := hide (show len ≤ 150 from by omega)
  clear hl hlen
  go_enter Tryz.func5, Tryz.ntmps5
  go_wp2_with fail
  go_loop [3, 4] (fun nv iv => ∃ n i : Int, nv = .int .u64 n ∧ iv = .int .i64 i ∧ 0 ≤ i ∧ i ≤ len ∧ 0 ≤ n ∧ n ≤ 40 ∧ Hid (n = (gsum X i.toNat : Nat))) (fun _ iv => (len - intOf iv).toNat)
  case atStart => exact ⟨0, 0, rfl, rfl, by omega, by omega, by omega, by omega, hide rfl⟩
  case round =>
    obtain ⟨n, i, rfl, rfl, i0, i1, n0, n1, HN⟩ := hrel
    by_cases hi : i < len
    · obtain ⟨b, off, rfl, hb, hcl⟩ := HH.out.at (i := i.toNat) (by omega)
      obtain ⟨d0, d1, d2⟩ := hcl i.toNat (by omega)
      have ok := HH.out.ok i.toNat
      have GS := hide (show gsum X (i + 1).toNat = gsum X i.toNat + more9 (X i.toNat).what (X i.toNat).n from by rw [show (i + 1).toNat = i.toNat + 1 by omega]; rfl)
      obtain ⟨a, ha⟩ : ∃ a, (X i.toNat).what = a := ⟨_, rfl⟩
      obtain ⟨y, hy⟩ : ∃ y, (X i.toNat).n = y := ⟨_, rfl⟩
      have c1 := ok.c1
      rw [ha] at d0 GS
      rw [hy] at d2 GS c1
      obtain ⟨Y, hY⟩ : ∃ Y : Int, (y : Int) = Y := ⟨_, rfl⟩
      rw [hY] at d2
      have y0 : 0 ≤ Y := by omega
      have y1 : Y < 18446744073709551616 := by omega
      have HY := hide hY
      clear hcl hb d1 ok ha hy c1 hY
      by_cases a1 : a = 1
      · subst a1
        by_cases h2 : Y ≤ 262144
        · by_cases h3 : 40 < Y
          · clear GS NO
            go_wp2_with fail
            first | exact YES.out | (go_ret; exact YES.out)
          · have h3' : Y ≤ 40 := by omega
            have e1 : n + Y = ((gsum X (i + 1).toNat : Nat) : Int) := by
              have g := GS.out
              unfold more9 at g
              rw [if_pos ⟨rfl, by have := HY.out; omega⟩] at g
              have := HN.out; have := HY.out; omega
            by_cases h4 : 40 < n + Y
            · clear GS NO HN e1 h3
              go_wp2_with fail
              first | exact YES.out | (go_ret; exact YES.out)
            · have h4' : n + Y ≤ 40 := by omega
              have N2 := hide e1
              clear GS HN e1 h3 h4
              go_wp2_with fail
              refine ⟨⟨n + Y, i + 1, by go_num, rfl, by omega, by omega, by omega, by omega, N2⟩, ?_⟩
              simp [intOf]; omega
        · have h2' : 262144 < Y := by omega
          have N2 := hide (show n = ((gsum X (i + 1).toNat : Nat) : Int) from by
            have g := GS.out
            unfold more9 at g
            rw [if_neg (fun z => by have := HY.out; omega)] at g
            have := HN.out; omega)
          have dn : decide (40 < n) = false := decide_eq_false (by omega)
          clear GS HN h2
          go_wp2_with fail
          refine ⟨⟨n, i + 1, rfl, rfl, by omega, by omega, by omega, by omega, N2⟩, ?_⟩
          simp [intOf]; omega
      · have da : (a == 1) = false := beq_eq_false_iff_ne.2 a1
        have N2 := hide (show n = ((gsum X (i + 1).toNat : Nat) : Int) from by
          have g := GS.out
          unfold more9 at g
          rw [if_neg (fun z => a1 z.1)] at g
          have := HN.out; omega)
        have dn : decide (40 < n) = false := decide_eq_false (by omega)
        clear GS HN a1
        go_wp2_with fail
        refine ⟨⟨n, i + 1, rfl, rfl, by omega, by omega, by omega, by omega, N2⟩, ?_⟩
        simp [intOf]; omega
    · have F0 := hide (NO.out LL.out (by have := HN.out; rw [show len = i.toNat by omega]; omega))
      have hd : decide (i < (len : Int)) = false := decide_eq_false hi
      clear HN NO YES hi
      go_wp2_with fail
      first | exact F0.out | (go_ret; exact F0.out)
end Go.Proofs.YtnpimmjkmclkpaaGreatDoor
