/- J32 of the proof of both laws: texts Kd, Ke, Kf, one behind the other. -/
import Derived.Test.YtnclicdnncgdiaaGreatDoorJ31
import Derived.Test.YtnclicdnncgdiaaGreatDoorJ22
import Derived.Lib.SmallJoins
/- Two trees and two pairs of caches beside one another: same: its contract. -/
namespace Go.Proofs.YtnclicdnncgdiaaGreatDoor
open Go.ChangeShapes Go.WideShapes Go.ChangeAt Go.RowKit Go.Proofs.Bt Go.Shelf Go.Proofs.Rx Go.Maps Go.Proofs.Pk
set_option linter.unusedVariables false
set_option linter.unusedSimpArgs false

section
variable {N : Nat} {O : Nat → Prop} {w W : World} {b : Bl} {Q : List (Nat × Nat)} {F : Nat → Prop} {o : Option Addr} {k : Nat} {st : Nat → Nat} {x y : Cd}
/-- An answer, and nothing is changed. -/
def Sm10 (N : Nat) (O : Nat → Prop) (w : World) (b : Bl) (Q : List (Nat × Nat)) (F : Nat → Prop) (o : Option Addr) (k : Nat) (st : Nat → Nat) (x y : Cd) (v : Value) (e : Ending) (X : World) : Prop := e = .returned v ∧ PS N O w X b Q F o k st x y
theorem tell_both (g : Gd st x) : ∃ t1 t2 t3 : Int, tellV x.B x.H x.G = .tuple #[.int .u64 t1, .int .u64 t2, .int .u64 t3] ∧ ∀ {W W' : World} {e : Ending}, TellR W x.Bq x.hs x.gn e W' → e = .returned (.tuple #[.int .u64 t1, .int .u64 t2, .int .u64 t3]) ∧ W' = W := by
  by_cases z : none64 x.hs
  · refine ⟨0, 0, 0, ?_, fun {W W' e} h => ?_⟩
    · unfold tellV
      rw [if_pos (H_none z)]
    · obtain ⟨(⟨_, h1⟩ | ⟨h1, _⟩), h2⟩ := h
      · exact ⟨h1, h2⟩
      · exact absurd z h1
  · refine ⟨(x.Bq : Nat), (x.H : Nat), (x.G : Nat), ?_, fun {W W' e} h => ?_⟩
    · unfold tellV
      rw [if_neg (H_some z), g.eq.resolve_left z]
    · obtain ⟨(⟨h1, _⟩ | ⟨_, h1⟩), h2⟩ := h
      · exact absurd h1 z
      · rw [word_wd, word_wd] at h1
        exact ⟨h1, h2⟩
set_option maxRecDepth 100000 in
set_option maxHeartbeats 4000000 in
theorem same10 (h : PS N O w W b Q F o k st x y) (hl : Q.length ≤ 1000000) :
    Calls Tryz.prog 10 #[.pointer (some ⟨b.tb, 0, none⟩), .pointer (some ⟨b.rb, 0, none⟩), .pointer (some ⟨b.cb, 0, none⟩), .pointer (some ⟨b.qb, 0, none⟩)] W fun e W' => e = .returned (.bool true) ∧ PS N O w W' b Q F o k st x y := by
  obtain ⟨R, hR⟩ : ∃ R : Ending → World → Prop, R = fun e W' => e = .returned (.bool true) ∧ PS N O w W' b Q F o k st x y := ⟨_, rfl⟩
  rw [← hR]
  have HR := hide (show ∀ X, PS N O w X b Q F o k st x y → R (.returned (.bool true)) X from fun X hX => by rw [hR]; exact ⟨rfl, hX⟩)
  obtain ⟨t1, t2, t3, e1, e2⟩ := tell_both h.gx
  have C1 := hide (fun X (hX : PS N O w X b Q F o k st x y) => (ccTell hX.c).mono (fun e X' ⟨he, j, hj⟩ => (show Sm10 N O w b Q F o k st x y (.tuple #[.int .u64 t1, .int .u64 t2, .int .u64 t3]) e X' from ⟨by rw [← e1]; exact he, hX.read (by rw [hj]; exact below_drewN X j)⟩)))
  have C2 := hide (fun X (hX : PS N O w X b Q F o k st x y) => (pcTell hX.q).mono (fun e X' ht => (show Sm10 N O w b Q F o k st x y (.tuple #[.int .u64 t1, .int .u64 t2, .int .u64 t3]) e X' from ⟨(e2 ht).1, by rw [(e2 ht).2]; exact hX⟩)))
  have C3 := hide (fun X (hX : PS N O w X b Q F o k st x y) => (ccEmpty hX.c).mono (fun e X' ⟨he, hj⟩ => (show Sm10 N O w b Q F o k st x y (.bool (decide (x.H = 0))) e X' from ⟨he, by rw [hj]; exact hX⟩)))
  have C4 := hide (fun X (hX : PS N O w X b Q F o k st x y) => (pcEmpty hX.q (decide (x.H = 0)) (by
    rw [decide_eq_true_eq]
    exact ⟨fun z => Classical.byContradiction fun u => H_some u z, fun z => H_none z⟩)).mono (fun e X' ⟨he, hj⟩ => (show Sm10 N O w b Q F o k st x y (.bool (decide (x.H = 0))) e X' from ⟨he, by rw [hj]; exact hX⟩)))
  have C5 := hide (fun X (hX : PS N O w X b Q F o k st x y) => (free9_any hX.t.tr).mono (fun e X' ⟨he, hj⟩ => (show Sm10 N O w b Q F o k st x y (.int .u64 (frT st : Nat)) e X' from ⟨he, hX.read hj⟩)))
  have C6 := hide (fun X (hX : PS N O w X b Q F o k st x y) => (r9_free hX.r hl).mono (fun e X' ⟨he, j, hj⟩ => (show Sm10 N O w b Q F o k st x y (.int .u64 (frT st : Nat)) e X' from ⟨he, hX.read (by rw [hj]; exact below_drewN X j)⟩)))
  have C7 := hide (fun X (hX : PS N O w X b Q F o k st x y) => (released9_any hX.t.tr).mono (fun e X' ⟨he, hj⟩ => (show Sm10 N O w b Q F o k st x y (.int .u64 (rlT st : Nat)) e X' from ⟨he, hX.read hj⟩)))
  have C8 := hide (fun X (hX : PS N O w X b Q F o k st x y) => (r9_released hX.r hl).mono (fun e X' ⟨he, j, hj⟩ => (show Sm10 N O w b Q F o k st x y (.int .u64 (rlT st : Nat)) e X' from ⟨he, hX.read (by rw [hj]; exact below_drewN X j)⟩)))
  obtain ⟨v, hv⟩ : ∃ v, decide (x.H = 0) = v := ⟨_, rfl⟩
  obtain ⟨fr, hfr⟩ : ∃ fr : Int, ((frT st : Nat) : Int) = fr := ⟨_, rfl⟩
  obtain ⟨rl, hrl⟩ : ∃ rl : Int, ((rlT st : Nat) : Int) = rl := ⟨_, rfl⟩
  rw [hv] at C3 C4
  rw [hfr] at C5 C6
  rw [hrl] at C7 C8
  have G := hide h
  clear hR h e1 e2 hv hfr hrl
  go_enter Tryz.func10, Tryz.ntmps10
  go_wp2_with fail
  refine (C1.out _ G.out).mono ?_
  rintro e X1 ⟨rfl, g1⟩
  have G1 := hide g1
  clear g1 G C1
  go_wp2_with fail
  refine (C2.out _ G1.out).mono ?_
  rintro e X2 ⟨rfl, g2⟩
  have G2 := hide g2
  clear g2 G1 C2
  go_wp2_with fail
  refine (C3.out _ G2.out).mono ?_
  rintro e Y0 ⟨rfl, g0⟩
  have H0 := hide g0
  clear g0 G2 C3
  go_wp2_with fail
  refine (C4.out _ H0.out).mono ?_
  rintro e Y1 ⟨rfl, g1⟩
  have H1 := hide g1
  clear g1 H0 C4
  go_wp2_with fail
  refine (C5.out _ H1.out).mono ?_
  rintro e Y2 ⟨rfl, g2⟩
  have H2 := hide g2
  clear g2 H1 C5
  go_wp2_with fail
  refine (C6.out _ H2.out).mono ?_
  rintro e Y3 ⟨rfl, g3⟩
  have H3 := hide g3
  clear g3 H2 C6
  go_wp2_with fail
  refine (C7.out _ H3.out).mono ?_
  rintro e Y4 ⟨rfl, g4⟩
  have H4 := hide g4
  clear g4 H3 C7
  go_wp2_with fail
  refine (C8.out _ H4.out).mono ?_
  rintro e Y5 ⟨rfl, g5⟩
  have H5 := hide g5
  clear g5 H4 C8
  go_wp2_with fail
  first | exact HR.out _ H5.out | (go_ret; exact HR.out _ H5.out)
end
end Go.Proofs.YtnclicdnncgdiaaGreatDoor

/- What comes in: lists of acts. -/
namespace Go.Proofs.YtnclicdnncgdiaaGreatDoor
open Go.ChangeShapes Go.WideShapes Go.ChangeAt Go.RowKit Go.Proofs.Bt Go.Shelf Go.WideMaps
set_option linter.unusedVariables false
set_option linter.unusedSimpArgs false

/-- Something that is done. -/
structure ActV where
  what : Int
  oth : Bool
  n : Int
  p : Nat
structure ActV.Ok (a : ActV) : Prop where
  a0 : -9223372036854775808 ≤ a.what
  a1 : a.what ≤ 9223372036854775807
  n0 : -9223372036854775808 ≤ a.n
  n1 : a.n ≤ 9223372036854775807
  p1 : a.p < 18446744073709551616
structure ActsAt (w : World) (o : Option Addr) (len cap : Nat) (X : Nat → ActV) : Prop where
  nil : o = none → len = 0 ∧ cap = 0
  cells : ∀ ad, o = some ad → ∀ i, i < len → w.cell? (ad.add (i * 4)) = some (.int .i64 (X i).what) ∧ w.cell? ((ad.add (i * 4)).add 1) = some (.bool (X i).oth) ∧ w.cell? ((ad.add (i * 4)).add 2) = some (.int .i64 (X i).n) ∧ w.cell? ((ad.add (i * 4)).add 3) = some (.int .u64 ((X i).p : Nat))
  ok : ∀ i, (X i).Ok
theorem ActsAt.at {w : World} {o : Option Addr} {len cap : Nat} {X : Nat → ActV} (h : ActsAt w o len cap X) {i : Nat} (hi : i < len) : ∃ b off, o = some ⟨b, off, none⟩ ∧ b < w.heap.size ∧ ∀ i, i < len → w.cell? ⟨b, off + i * 4, none⟩ = some (.int .i64 (X i).what) ∧ w.cell? ⟨b, off + i * 4 + 1, none⟩ = some (.bool (X i).oth) ∧ w.cell? ⟨b, off + i * 4 + 2, none⟩ = some (.int .i64 (X i).n) ∧ w.cell? ⟨b, off + i * 4 + 3, none⟩ = some (.int .u64 ((X i).p : Nat)) := by
  cases ho : o with
  | none => have := (h.nil ho).1; omega
  | some a =>
    obtain ⟨b, off, sp⟩ := a
    have c0 := (h.cells _ ho 0 (by omega)).1
    have hs : sp = none := act_spot (by simpa [Addr.add] using c0)
    subst hs
    have hb : b < w.heap.size := cell_lt (by simpa [Addr.add] using c0)
    refine ⟨b, off, rfl, hb, fun j hj => ?_⟩
    have := h.cells _ ho j hj
    rwa [addr_add0, addr_add0, addr_add0, addr_add0] at this
theorem cellsAct : Tryz.prog.cellsOf 39 = 4 := by kernel_rfl
theorem cellsB : Tryz.prog.cellsOf 4 = 1 := by kernel_rfl
theorem cells4 {w : World} {a : Addr} {cs : List Value} (h : w.cells? 0 a 4 = some cs) : ∃ c0 c1 c2 c3, cs = [c0, c1, c2, c3] ∧ w.cell? a = some c0 ∧ w.cell? (a.add 1) = some c1 ∧ w.cell? (a.add 2) = some c2 ∧ w.cell? (a.add 3) = some c3 := by
  unfold World.cells? at h
  rw [if_pos (Nat.zero_le _)] at h
  have e : a.add 0 = a := by simp [Addr.add]
  simp only [show List.range 4 = [0, 1, 2, 3] from rfl, List.mapM_cons, List.mapM_nil, e] at h
  cases h0 : w.cell? a with
  | none => rw [h0] at h; simp at h
  | some c0 =>
    cases h1 : w.cell? (a.add 1) with
    | none => rw [h0, h1] at h; simp at h
    | some c1 =>
      cases h2 : w.cell? (a.add 2) with
      | none => rw [h0, h1, h2] at h; simp at h
      | some c2 =>
        cases h3 : w.cell? (a.add 3) with
        | none => rw [h0, h1, h2, h3] at h; simp at h
        | some c3 =>
          rw [h0, h1, h2, h3] at h
          simp at h
          exact ⟨c0, c1, c2, c3, h.symm, rfl, rfl, rfl, rfl⟩
theorem act_of {H : Type} {enc : TypeId × Value → H} {W : World} {n : Nat} {c0 c1 c2 c3 : Value} {x : DataW H × List MemPlace} (h : DataW.trod enc Tryz.prog W 0 (fun _ => true) true n 39 [c0, c1, c2, c3] = some x) :
    ∃ a : ActV, a.Ok ∧ c0 = .int .i64 a.what ∧ c1 = .bool a.oth ∧ c2 = .int .i64 a.n ∧ c3 = .int .u64 (a.p : Nat) := by
  obtain ⟨y0, y1, y2, y3, m, _, _, h0, h1, h2, h3⟩ := Go.Joins.trod_struct4 Tryz.underlying39 h
  obtain ⟨n0, e0, _, w0⟩ := DataW.trod_int Tryz.underlying3 h0
  obtain ⟨n1, e1, _⟩ := DataW.trod_bool Tryz.underlying4 h1
  obtain ⟨n2, e2, _, w2⟩ := DataW.trod_int Tryz.underlying3 h2
  obtain ⟨n3, e3, _, w3⟩ := DataW.trod_int Tryz.underlying22 h3
  simp only [cellsI, cellsU, cellsB, List.drop_zero, List.drop_succ_cons, List.take_succ_cons, List.take_zero] at e0 e1 e2 e3
  have b0 := bounds_i64 w0
  have b2 := bounds_i64 w2
  have b3 := bounds_u64 w3
  refine ⟨⟨n0, n1, n2, n3.toNat⟩, ⟨b0.1, b0.2, b2.1, b2.2, ?_⟩, ?_, ?_, ?_, ?_⟩
  · show n3.toNat < _; omega
  · injection e0
  · injection e1
  · injection e2
  · show c3 = .int .u64 ((n3.toNat : Nat) : Int)
    rw [Int.toNat_of_nonneg b3.1]; injection e3
theorem acts_of {H : Type} {enc : TypeId × Value → H} {W : World} {o : Option Addr} {len cap : Nat} {d : DataW H} {p : List MemPlace} (h : DataW.Trod enc Tryz.prog W 0 (fun _ => true) true 23 (.slice o len cap) d p) : len ≤ maxLen ∧ len ≤ cap ∧ ∃ X, ActsAt W o len cap X := by
  obtain ⟨fuel, hf⟩ := h
  have ok0 : (⟨0, false, 0, 0⟩ : ActV).Ok := ⟨by decide, by decide, by decide, by decide, by decide⟩
  rcases Go.Deep.open_slice Tryz.underlying23 hf with ⟨hcs, hx⟩ | ⟨a, len', cap', m, n, D, Pl, hcs, _, hl, hm, hme, hx, hc⟩
  · simp [Value.cells] at hcs
    obtain ⟨rfl, rfl, rfl⟩ := hcs
    exact ⟨by decide, Nat.le_refl _, fun _ => ⟨0, false, 0, 0⟩, ⟨fun _ => ⟨rfl, rfl⟩, fun _ z => by (cases z), fun _ => ok0⟩⟩
  · simp [Value.cells] at hcs
    obtain ⟨rfl, rfl, rfl⟩ := hcs
    have hmc : m = cap := by simpa using hme
    rw [cellsAct] at hc
    have ex : ∀ i, ∃ X : ActV, X.Ok ∧ (i < len → W.cell? (a.add (i * 4)) = some (.int .i64 X.what) ∧ W.cell? ((a.add (i * 4)).add 1) = some (.bool X.oth) ∧ W.cell? ((a.add (i * 4)).add 2) = some (.int .i64 X.n) ∧ W.cell? ((a.add (i * 4)).add 3) = some (.int .u64 (X.p : Nat))) := fun i => by
      by_cases z : i < len
      · obtain ⟨cs', k1, k2⟩ := hc i (by omega)
        obtain ⟨c0, c1, c2, c3, rfl, e0, e1, e2, e3⟩ := cells4 k1
        obtain ⟨X, ok, rfl, rfl, rfl, rfl⟩ := act_of k2
        exact ⟨X, ok, fun _ => ⟨e0, e1, e2, e3⟩⟩
      · exact ⟨⟨0, false, 0, 0⟩, ok0, fun y => absurd y z⟩
    refine ⟨by omega, by omega, fun i => Classical.choose (ex i), ⟨fun z => by (cases z), fun ad e i hi => ?_, fun i => (Classical.choose_spec (ex i)).1⟩⟩
    obtain rfl : a = ad := by injection e
    exact (Classical.choose_spec (ex i)).2 hi
end Go.Proofs.YtnclicdnncgdiaaGreatDoor

/- CachePlays: whatever two caches of one tree do, and the tree beside them. -/
namespace Go.Proofs.YtnclicdnncgdiaaGreatDoor
open Go.ChangeShapes Go.WideShapes Go.ChangeAt Go.RowKit Go.Proofs.Bt Go.Shelf Go.Proofs.Rx Go.Maps Go.Proofs.Pk
set_option linter.unusedVariables false
set_option linter.unusedSimpArgs false

theorem mt_nil0 : Mt (fun _ => 0) [] := ⟨List.Pairwise.nil, fun x hx => absurd hx (by simp), List.Pairwise.nil, fun x hx => absurd hx (by simp), fun q hq => absurd rfl hq, fun q => Nat.zero_le _⟩
/-- A new one of the reference's trees. -/
theorem ref_new {W W' : World} {rb : Nat} (hW : W' = W.alloc (.cells #[.slice none 0 0] 29)) (hr : rb = W.heap.size) : RefAt (fun x => x = rb) W' rb (fun _ => 0) [] none 0 := by
  have f : W'.heap[rb]? = some (.cells #[.slice none 0 0] 29 (0, 0)) := by rw [hW, hr]; exact World.alloc_heap_new W _
  refine ⟨⟨?_, ?_, World.ownsRow_nil _ _ _ _, fun i hi => ?_, List.Pairwise.nil, fun p hp => absurd hp (by simp [pts])⟩, mt_nil0, fun x hx => ?_⟩
  · show W'.cell? ⟨rb, 0, none⟩ = _
    simp [World.cell?, f, pts]
  · simp [World.frozen?, f]
  · simp [pts] at hi
  · rcases hx with z | z | ⟨y, hy, _⟩
    · exact z
    · cases z
    · cases hy
theorem zc10 : Tryz.zeroCells35 = #[Value.int .u64 0] ++ Array.replicate 128 (Value.bool false) := by kernel_rfl
theorem pc_new {W : World} {b : Nat} (f : W.heap[b]? = some (.cells Tryz.zeroCells35 35 (0, 0))) : PcAt W b 0 (fun _ => false) (fun _ => false) := by
  rw [zc10] at f
  have fz : ∀ k, W.frozen? ⟨b, k, none⟩ = false := fun k => by simp [World.frozen?, f]
  have cl : ∀ k, 1 ≤ k → k < 129 → W.cell? ⟨b, k, none⟩ = some (.bool false) := fun k k1 k2 => by
    unfold World.cell?
    rw [f]
    show (#[Value.int .u64 0] ++ Array.replicate 128 (Value.bool false))[k]? = _
    rw [Array.getElem?_append_right (by simpa using k1), Array.getElem?_replicate, if_pos (by simp; omega)]
  refine ⟨?_, fz 0, ⟨fun k hk => cl _ (by omega) (by omega), fun k hk => fz _⟩, ⟨fun k hk => cl _ (by omega) (by omega), fun k hk => fz _⟩⟩
  unfold World.cell?
  rw [f]
  show (#[Value.int .u64 0] ++ Array.replicate 128 (Value.bool false))[0]? = _
  rw [Array.getElem?_append_left (by decide)]
  rfl
def cd0 : Cd := ⟨0, 0, fun _ => false, fun _ => false⟩
theorem cd0_none : none64 cd0.hs := fun _ _ => rfl
theorem cd0_H : cd0.H = 0 := H_none cd0_none
theorem cd0_G : cd0.G = 0 := zero_of_bits fun k => by rw [G_bit]; show (decide (k < 64) && (false && false)) = false; simp
theorem cd0_gd (st : Nat → Nat) : Gd st cd0 := ⟨.inl cd0_none, (show 0 + 64 ≤ 34359738368 by decide), (show 0 + 64 ≤ 34359738368 by decide), fun j hj h => by cases h⟩
/-- All that is made first. -/
theorem ps_new {N : Nat} {w w1 w2 w3 w4 w6 : World} {tb rb cb db qb pb : Nat} (t : T9 N (fun _ => False) w w1 tb (fun _ => 0)) (h2 : w2 = w1.alloc (.cells #[.slice none 0 0] 29)) (hrb : w1.heap.size = rb) (h3 : w3 = w2.alloc (.cells #[.int .u64 0, .int .u64 0, .int .u64 0] 54)) (hcb : w2.heap.size = cb) (h4 : w4 = w3.alloc (.cells #[.int .u64 0, .int .u64 0, .int .u64 0] 54)) (hdb : w3.heap.size = db)
    (h6 : w6 = (w4.alloc (.cells Tryz.zeroCells35 35)).alloc (.cells Tryz.zeroCells35 35)) (hqb : w4.heap.size = qb) (hpb : qb + 1 = pb) :
    PS N (fun z => z = cb ∨ z = db ∨ z = qb ∨ z = pb) w w6 ⟨tb, rb, cb, db, qb, pb⟩ [] (fun z => z = rb) none 0 (fun _ => 0) cd0 cd0 := by
  have b2 : Below w1.heap.size w1 w2 := by rw [h2]; exact grown1 w1 _
  have b3 : Below w2.heap.size w2 w3 := by rw [h3]; exact grown1 w2 _
  have b4 : Below w3.heap.size w3 w4 := by rw [h4]; exact grown1 w3 _
  have b6 : Below w4.heap.size w4 w6 := by rw [h6]; exact ((Below.refl _ w4).alloc (Nat.le_refl _) _).alloc (by simp) _
  have s2 : w2.heap.size = rb + 1 := by rw [h2, ← hrb]; simp
  have s3 : w3.heap.size = cb + 1 := by rw [h3, ← hcb]; simp
  have s4 : w4.heap.size = db + 1 := by rw [h4, ← hdb]; simp
  have s6 : w6.heap.size = qb + 2 := by rw [h6, ← hqb]; simp
  have ball : Below w1.heap.size w1 w6 := ((b2.trans (b3.mono (by omega))).trans (b4.mono (by omega))).trans (b6.mono (by omega))
  have r := ((((ref_new h2 hrb.symm).below b3).below b4).below b6)
  have c := ((CcAt.new h3 hcb.symm).below b4).below b6
  have d := (CcAt.new h4 hdb.symm).below b6
  have f1 : w6.heap[qb]? = some (.cells Tryz.zeroCells35 35 (0, 0)) := by rw [h6, alloc_at, if_neg (by simp; omega), alloc_at, if_pos hqb.symm]
  have f2 : w6.heap[pb]? = some (.cells Tryz.zeroCells35 35 (0, 0)) := by rw [h6, alloc_at, if_pos (by simp; omega)]
  refine ⟨t.more ball (fun z hz => ?_), r, fun z hz => ?_, ⟨.inl rfl, .inr (.inl rfl), .inr (.inr (.inl rfl)), .inr (.inr (.inr rfl))⟩, ?_, ?_, pc_new f1, pc_new f2, cd0_gd _, cd0_gd _, (fun i j hi hj h => by cases h), ?_⟩
  · exact .inr ⟨by omega, by omega⟩
  · subst hz; omega
  · rw [cd0_H, cd0_G]; exact c
  · rw [cd0_H, cd0_G]; exact d
  · refine ⟨?_, ?_, ?_, ?_, ?_, ?_⟩
    · show cb ≠ db; omega
    · show cb ≠ qb; omega
    · show cb ≠ pb; omega
    · show db ≠ qb; omega
    · show db ≠ pb; omega
    · show qb ≠ pb; omega
/-- The trees grow. -/
theorem PS.grown {N : Nat} {O : Nat → Prop} {w W W1 W2 : World} {b : Bl} {Q Q' : List (Nat × Nat)} {F : Nat → Prop} {o o' : Option Addr} {k k' : Nat} {st st' : Nat → Nat} {x y : Cd} (h : PS N O w W b Q F o k st x y) (t1 : T9 N (fun z => F z ∨ O z) w W1 b.tb st') (l1 : Left9 N (fun z => F z ∨ O z) W W1)
    (r2 : RefAt (fun z => F z ∨ (W1.heap.size ≤ z ∧ z < W2.heap.size)) W2 b.rb st' Q' o' k') (k2 : Kept F W1 W2) (hx : Gd st' x) (hy : Gd st' y) : PS N O w W2 b Q' (fun z => F z ∨ (W1.heap.size ≤ z ∧ z < W2.heap.size)) o' k' st' x y := by
  have q1 := (h.mid (left_c l1)).2
  have c1 := h.c.kept l1 (fun u => u.2 (.inr h.oc.1))
  have d1 := h.d.kept l1 (fun u => u.2 (.inr h.oc.2.1))
  have p1 := h.p.kept l1 (fun u => u.2 (.inr h.oc.2.2.2))
  have ot : ∀ z, O z → z < W1.heap.size := fun z hz => (t1.inOb (.inr hz)).2
  refine ⟨t1.grow k2 (fun z hz => ⟨.inl hz, (t1.inOb (.inl hz)).1⟩) (fun z hz => ?_), r2, fun z hz u => ?_, h.oc, c1.kept k2 (fun u => h.ap _ u h.oc.1), d1.kept k2 (fun u => h.ap _ u h.oc.2.1), q1.kept k2 (fun u => h.ap _ u h.oc.2.2.1), p1.kept k2 (fun u => h.ap _ u h.oc.2.2.2), hx, hy, h.xy, h.ne⟩
  · rcases hz with (u | u) | u
    · exact .inl (.inl u)
    · exact .inr u
    · exact .inl (.inr u)
  · rcases hz with v | v
    · exact h.ap z v u
    · have := ot z u; omega
set_option maxRecDepth 100000 in
set_option maxHeartbeats 4000000 in
theorem plays10 (w : World) (ht : TabW w) (ch : Int) (hch : (Lit.int .u64 ch).wf = true) (o : Option Addr) (len cap : Nat) (hA : len ≤ maxLen ∧ len ≤ cap ∧ ∃ X, ActsAt w o len cap X) :
    Calls Tryz.prog 3 #[.int .u64 ch, .slice o len cap] w fun e w' => e = .returned (.bool true) ∧ Below w.heap.size w w' := by
  obtain ⟨hm, hc, X, hX⟩ := hA
  obtain ⟨N, hN⟩ : ∃ N, w.heap.size = N := ⟨_, rfl⟩
  obtain ⟨R, hR⟩ : ∃ R : Ending → World → Prop, R = fun e w' => e = .returned (.bool true) ∧ Below w.heap.size w w' := ⟨_, rfl⟩
  rw [← hR]
  have FIN := hide (show ∀ W, Below N w W → R (.returned (.bool true)) W from fun W hW => by rw [hR]; exact ⟨rfl, by rw [hN]; exact hW⟩)
  have l0 : 0 ≤ (len : Int) := by omega
  have lm : (len : Int) ≤ 9223372036854775807 := by unfold maxLen at hm; omega
  have c0 := (bounds_u64 hch).1
  have c1 := (bounds_u64 hch).2
  have F0 := hide (FIN.out w (Below.refl _ _))
  have CN := hide (t9_new ht hN)
  have HX := hide hX
  have HN := hide hN
  clear hR hX hm hc hN ht hch
  by_cases hl : 150 < (len : Int)
  · have dl : decide (150 < (len : Int)) = true := decide_eq_true hl
    clear CN FIN HX HN
    go_enter Tryz.func3, Tryz.ntmps3
    go_wp2_with fail
    first | exact F0.out | (go_ret; exact F0.out)
  have dl : decide (150 < (len : Int)) = false := decide_eq_false hl
  by_cases h1 : ch < 1
  · have d1 : decide (ch < 1) = true := decide_eq_true h1
    clear CN FIN HX HN hl
    go_enter Tryz.func3, Tryz.ntmps3
    go_wp2_with fail
    first | exact F0.out | (go_ret; exact F0.out)
  have d1 : decide (ch < 1) = false := decide_eq_false h1
  by_cases h4 : 4 < ch
  · have d4 : decide (4 < ch) = true := decide_eq_true h4
    clear CN FIN HX HN hl h1
    go_enter Tryz.func3, Tryz.ntmps3
    go_wp2_with fail
    first | exact F0.out | (go_ret; exact F0.out)
  have d4 : decide (4 < ch) = false := decide_eq_false h4
  obtain ⟨C, hC⟩ : ∃ C : Nat, ch = (C : Int) := ⟨ch.toNat, by omega⟩
  subst hC
  have C1 : 1 ≤ C := by omega
  have C4 : C ≤ 4 := by omega
  have L1 : (len : Int) ≤ 150 := by omega
  clear F0 h1 h4 hl c0 c1
  go_enter Tryz.func3, Tryz.ntmps3
  go_wp2_with fail
  refine CN.out.mono ?_
  rintro e w1 ⟨tb, rfl, t1⟩
  have T1 := hide t1
  obtain ⟨w2, hw2⟩ : ∃ w2, w2 = w1.alloc (.cells #[.slice none 0 0] 29) := ⟨_, rfl⟩
  have HW2 := hide hw2
  obtain ⟨rb, hrb⟩ : ∃ rb, w1.heap.size = rb := ⟨_, rfl⟩
  have HRB := hide hrb
  clear t1 CN dl d1 d4 hw2 hrb
  go_wp2_with fail
  rw [← HW2.out, HRB.out]
  refine (ccNew w2).mono ?_
  rintro e w3 ⟨rfl, hw3⟩
  obtain ⟨cb, hcb⟩ : ∃ cb, w2.heap.size = cb := ⟨_, rfl⟩
  have HW3 := hide hw3
  have HCB := hide hcb
  rw [hcb]
  clear hw3 hcb
  go_wp2_with fail
  refine (ccNew w3).mono ?_
  rintro e w4 ⟨rfl, hw4⟩
  obtain ⟨db, hdb⟩ : ∃ db, w3.heap.size = db := ⟨_, rfl⟩
  have HW4 := hide hw4
  have HDB := hide hdb
  rw [hdb]
  clear hw4 hdb
  go_wp2_with fail
  obtain ⟨w6, hw6⟩ : ∃ w6, w6 = (w4.alloc (.cells Tryz.zeroCells35 35)).alloc (.cells Tryz.zeroCells35 35) := ⟨_, rfl⟩
  obtain ⟨qb, hqb⟩ : ∃ qb, w4.heap.size = qb := ⟨_, rfl⟩
  obtain ⟨pb, hpb⟩ : ∃ pb, qb + 1 = pb := ⟨_, rfl⟩
  obtain ⟨bl, hbl⟩ : ∃ bl : Bl, bl = ⟨tb, rb, cb, db, qb, pb⟩ := ⟨_, rfl⟩
  obtain ⟨O, hO⟩ : ∃ O : Nat → Prop, O = fun z => z = cb ∨ z = db ∨ z = qb ∨ z = pb := ⟨_, rfl⟩
  have P6 := ps_new T1.out HW2.out HRB.out HW3.out HCB.out HW4.out HDB.out hw6 hqb hpb
  rw [← hO, ← hbl] at P6
  obtain ⟨v, st', CL, CR⟩ := pair_grow (Q := []) mt_nil0 (by decide) 2 C (by decide) (by omega)
  have HCL := hide (CL P6.t)
  have HCR := hide (fun X (hX : RefAt (fun z => z = rb) X bl.rb (fun _ => 0) [] none 0) => CR hX)
  have e5 : bl.tb = tb ∧ bl.rb = rb ∧ bl.cb = cb ∧ bl.db = db ∧ bl.qb = qb ∧ bl.pb = pb := by rw [hbl]; exact ⟨rfl, rfl, rfl, rfl, rfl, rfl⟩
  simp only [Int.cast_ofNat_Int] at HCL HCR
  rw [← hw6, hqb, hpb]
  obtain ⟨rfl, rfl, rfl, rfl, rfl, rfl⟩ := e5
  have HP := hide P6
  clear CL CR P6 hw6 hqb hpb hbl hO HW2 HRB HW3 HCB HW4 HDB T1
  refine HCL.out.mono ?_
  rintro e w7 ⟨rfl, t7, l7⟩
  have C7 := hide (HCR.out w7 (HP.out.mid (left_c l7)).1)
  have T7 := hide t7
  have L7 := hide l7
  clear HCL HCR t7 l7
  go_wp2_with fail
  refine C7.out.mono ?_
  rintro e w8 ⟨rfl, ⟨Q, o8, k8, r8, hq8⟩, k2⟩
  have hl : Q.length ≤ 1000000 := by rw [if_pos (by omega)] at hq8; simp at hq8; omega
  obtain ⟨F, hF⟩ : ∃ F : Nat → Prop, F = fun z => z = bl.rb ∨ (w7.heap.size ≤ z ∧ z < w8.heap.size) := ⟨_, rfl⟩
  have I0 := hide (show PSE N O w w8 bl Q F o8 k8 from by
    rw [hF]
    exact ⟨st', cd0, cd0, HP.out.grown T7.out L7.out r8 k2 (cd0_gd _) (cd0_gd _)⟩)
  clear C7 T7 L7 r8 k2 HP hF hq8
  go_wp2_with fail
  go_loopw [11] (fun iv wr => ∃ i : Int, iv = .int .i64 i ∧ 0 ≤ i ∧ i ≤ len ∧ Hid (PSE N O w wr bl Q F o8 k8)) (fun iv _ => (len - intOf iv).toNat)
  case atStart => exact ⟨0, rfl, by omega, by omega, I0⟩
  case round =>
    clear I0
    obtain ⟨i, rfl, i0, i1, HE⟩ := hrel
    by_cases hi : i < len
    · obtain ⟨st, x, y, h⟩ := HE.out
      have HI := hide h
      obtain ⟨b, off, rfl, hb, hcl⟩ := HX.out.at (i := i.toNat) (by omega)
      obtain ⟨z0, z1, z2, z3⟩ := hcl i.toNat (by omega)
      have be := h.t.be.block b (by rw [← HN.out]; exact hb)
      have d0 := (cell_block be _).trans z0
      have d1 := (cell_block be _).trans z1
      have d2 := (cell_block be _).trans z2
      have d3 := (cell_block be _).trans z3
      have AOK := hide (HX.out.ok i.toNat)
      have hbN : b < N := by rw [← HN.out]; exact hb
      obtain ⟨A, hA⟩ : ∃ A, X i.toNat = A := ⟨_, rfl⟩
      rw [hA] at d0 d1 d2 d3 AOK
      have CEL := hide (show ∀ Z : World, Z.heap[b]? = wr.heap[b]? → (Z.cell? ⟨b, off + i.toNat * 4, none⟩ = some (.int .i64 A.what) ∧ Z.cell? ⟨b, off + i.toNat * 4 + 1, none⟩ = some (.bool A.oth) ∧ Z.cell? ⟨b, off + i.toNat * 4 + 2, none⟩ = some (.int .i64 A.n) ∧ Z.cell? ⟨b, off + i.toNat * 4 + 3, none⟩ = some (.int .u64 (A.p : Nat))) from fun Z e => ⟨(cell_block e _).trans d0, (cell_block e _).trans d1, (cell_block e _).trans d2, (cell_block e _).trans d3⟩)
      clear hcl hb z0 z1 z2 z3 be hA HE h
      by_cases h5 : A.what = 5
      · have q5 : (A.what == 5) = true := beq_iff_eq.2 h5
        have CO1 := hide (pcOwns HI.out.q HI.out.gx.q A.p AOK.out.p1)
        cases ho1 : owns64 x.Bq x.hs A.p with
        | true =>
          rw [ho1] at CO1
          have NX := hide (show ∀ j, PSE N O w (wr.drewN j) bl Q F o8 k8 from fun j => ⟨st, x, y, HI.out.read (below_drewN wr j)⟩)
          clear ho1 HI CEL h5
          go_wp2_with fail
          refine CO1.out.mono ?_
          rintro e u0 ⟨rfl, j, hj⟩
          rw [hj]
          have H3 := hide (NX.out j)
          clear CO1 NX hj d0 d1 d2 d3
          go_wp2_with fail
          go_roundw
          case rel => exact ⟨i + 1, by go_num, by omega, by omega, H3⟩
          case measure => simp [intOf]; omega
        | false =>
          rw [ho1] at CO1
          have HO1 := hide ho1
          go_wp2_with fail
          refine CO1.out.mono ?_
          rintro e u0 ⟨rfl, j, hj⟩
          have b0 : Below wr.heap.size wr u0 := by rw [hj]; exact below_drewN wr j
          have P0 := hide (HI.out.read b0)
          obtain ⟨f0, f1, f2, f3⟩ := CEL.out u0 (by rw [hj]; rfl)
          have CO2 := hide (pcOwns P0.out.p P0.out.gy.q A.p AOK.out.p1)
          clear CO1 hj b0 d0 d1 d2 d3 ho1
          cases ho2 : owns64 y.Bq y.hs A.p with
          | true =>
            rw [ho2] at CO2
            have NX := hide (show ∀ j, PSE N O w (u0.drewN j) bl Q F o8 k8 from fun j => ⟨st, x, y, P0.out.read (below_drewN u0 j)⟩)
            clear ho2 HI CEL h5 HO1 P0
            go_wp2_with fail
            refine CO2.out.mono ?_
            rintro e u9 ⟨rfl, j2, hj2⟩
            rw [hj2]
            have H3 := hide (NX.out j2)
            clear CO2 NX hj2 f0 f1 f2 f3
            go_wp2_with fail
            go_roundw
            case rel => exact ⟨i + 1, by go_num, by omega, by omega, H3⟩
            case measure => simp [intOf]; omega
          | false =>
            rw [ho2] at CO2
            have HO := hide (show A.what = 5 → owns64 x.Bq x.hs A.p = false ∧ owns64 y.Bq y.hs A.p = false from fun _ => ⟨HO1.out, ho2⟩)
            have CE2 := hide (show ∀ Z : World, Z.heap[b]? = u0.heap[b]? → (Z.cell? ⟨b, off + i.toNat * 4, none⟩ = some (.int .i64 A.what) ∧ Z.cell? ⟨b, off + i.toNat * 4 + 1, none⟩ = some (.bool A.oth) ∧ Z.cell? ⟨b, off + i.toNat * 4 + 2, none⟩ = some (.int .i64 A.n) ∧ Z.cell? ⟨b, off + i.toNat * 4 + 3, none⟩ = some (.int .u64 (A.p : Nat))) from fun Z e => ⟨(cell_block e _).trans f0, (cell_block e _).trans f1, (cell_block e _).trans f2, (cell_block e _).trans f3⟩)
            go_wp2_with fail
            refine CO2.out.mono ?_
            rintro e u9 ⟨rfl, j2, hj2⟩
            have b9 : Below u0.heap.size u0 u9 := by rw [hj2]; exact below_drewN u0 j2
            have P9 := hide (P0.out.read b9)
            obtain ⟨d0, d1, d2, d3⟩ := CE2.out u9 (by rw [hj2]; rfl)
            clear CO2 hj2 b9 f0 f1 f2 f3 ho2 CE2 CEL P0 HO1 h5
            cases hv : A.oth with
            | true =>
              rw [hv] at d1
              have CA := hide (show Calls Tryz.prog 9 #[.pointer (some ⟨bl.tb, 0, none⟩), .pointer (some ⟨bl.rb, 0, none⟩), .pointer (some ⟨bl.db, 0, none⟩), .pointer (some ⟨bl.pb, 0, none⟩), .agg #[.int .i64 A.what, .bool true, .int .i64 A.n, .int .u64 (A.p : Nat)]] u9 (fun e W' => e = .returned (.bool true) ∧ PSE N O w W' bl Q F o8 k8) from (act10 P9.out.swap hl A.what true A.n A.p AOK.out.p1 AOK.out.n0 AOK.out.n1 (fun z => ⟨(HO.out z).2, (HO.out z).1⟩)).mono fun e W' ⟨he, s', x', y', hs⟩ => ⟨he, s', y', x', hs.swap⟩)
              clear hv HI
              go_wp2_with fail
              refine CA.out.mono ?_
              rintro e u1 ⟨rfl, st1, x1, y1, h1⟩
              have CS1 := hide (same10 h1 hl)
              have CS2 := hide (fun Z (hZ : PS N O w Z bl Q F o8 k8 st1 x1 y1) => (show Calls Tryz.prog 10 #[.pointer (some ⟨bl.tb, 0, none⟩), .pointer (some ⟨bl.rb, 0, none⟩), .pointer (some ⟨bl.db, 0, none⟩), .pointer (some ⟨bl.pb, 0, none⟩)] Z (fun e Z' => e = .returned (.bool true) ∧ PSE N O w Z' bl Q F o8 k8) from (same10 hZ.swap hl).mono fun e Z' ⟨he, h2⟩ => ⟨he, st1, x1, y1, h2.swap⟩))
              clear CA h1 d0 d1 d2 d3
              go_wp2_with fail
              refine CS1.out.mono ?_
              rintro e u2 ⟨rfl, h2⟩
              have C2 := hide (CS2.out u2 h2)
              clear CS1 CS2 h2
              go_wp2_with fail
              refine C2.out.mono ?_
              rintro e u3 ⟨rfl, h3⟩
              have H3 := hide h3
              clear C2 h3
              go_wp2_with fail
              go_roundw
              case rel => exact ⟨i + 1, by go_num, by omega, by omega, H3⟩
              case measure => simp [intOf]; omega
            | false =>
              rw [hv] at d1
              have CA := hide (act10 P9.out hl A.what false A.n A.p AOK.out.p1 AOK.out.n0 AOK.out.n1 (fun z => HO.out z))
              clear hv HI
              go_wp2_with fail
              refine CA.out.mono ?_
              rintro e u1 ⟨rfl, st1, x1, y1, h1⟩
              have CS1 := hide (same10 h1 hl)
              have CS2 := hide (fun Z (hZ : PS N O w Z bl Q F o8 k8 st1 x1 y1) => (show Calls Tryz.prog 10 #[.pointer (some ⟨bl.tb, 0, none⟩), .pointer (some ⟨bl.rb, 0, none⟩), .pointer (some ⟨bl.db, 0, none⟩), .pointer (some ⟨bl.pb, 0, none⟩)] Z (fun e Z' => e = .returned (.bool true) ∧ PSE N O w Z' bl Q F o8 k8) from (same10 hZ.swap hl).mono fun e Z' ⟨he, h2⟩ => ⟨he, st1, x1, y1, h2.swap⟩))
              clear CA h1 d0 d1 d2 d3
              go_wp2_with fail
              refine CS1.out.mono ?_
              rintro e u2 ⟨rfl, h2⟩
              have C2 := hide (CS2.out u2 h2)
              clear CS1 CS2 h2
              go_wp2_with fail
              refine C2.out.mono ?_
              rintro e u3 ⟨rfl, h3⟩
              have H3 := hide h3
              clear C2 h3
              go_wp2_with fail
              go_roundw
              case rel => exact ⟨i + 1, by go_num, by omega, by omega, H3⟩
              case measure => simp [intOf]; omega
      · have q5 : (A.what == 5) = false := beq_eq_false_iff_ne.2 h5
        have HO := hide (show A.what = 5 → owns64 x.Bq x.hs A.p = false ∧ owns64 y.Bq y.hs A.p = false from fun z => absurd z h5)
        have P9 := HI
        clear CEL h5
        cases hv : A.oth with
        | true =>
          rw [hv] at d1
          have CA := hide (show Calls Tryz.prog 9 #[.pointer (some ⟨bl.tb, 0, none⟩), .pointer (some ⟨bl.rb, 0, none⟩), .pointer (some ⟨bl.db, 0, none⟩), .pointer (some ⟨bl.pb, 0, none⟩), .agg #[.int .i64 A.what, .bool true, .int .i64 A.n, .int .u64 (A.p : Nat)]] wr (fun e W' => e = .returned (.bool true) ∧ PSE N O w W' bl Q F o8 k8) from (act10 P9.out.swap hl A.what true A.n A.p AOK.out.p1 AOK.out.n0 AOK.out.n1 (fun z => ⟨(HO.out z).2, (HO.out z).1⟩)).mono fun e W' ⟨he, s', x', y', hs⟩ => ⟨he, s', y', x', hs.swap⟩)
          clear hv HI
          go_wp2_with fail
          refine CA.out.mono ?_
          rintro e u1 ⟨rfl, st1, x1, y1, h1⟩
          have CS1 := hide (same10 h1 hl)
          have CS2 := hide (fun Z (hZ : PS N O w Z bl Q F o8 k8 st1 x1 y1) => (show Calls Tryz.prog 10 #[.pointer (some ⟨bl.tb, 0, none⟩), .pointer (some ⟨bl.rb, 0, none⟩), .pointer (some ⟨bl.db, 0, none⟩), .pointer (some ⟨bl.pb, 0, none⟩)] Z (fun e Z' => e = .returned (.bool true) ∧ PSE N O w Z' bl Q F o8 k8) from (same10 hZ.swap hl).mono fun e Z' ⟨he, h2⟩ => ⟨he, st1, x1, y1, h2.swap⟩))
          clear CA h1 d0 d1 d2 d3
          go_wp2_with fail
          refine CS1.out.mono ?_
          rintro e u2 ⟨rfl, h2⟩
          have C2 := hide (CS2.out u2 h2)
          clear CS1 CS2 h2
          go_wp2_with fail
          refine C2.out.mono ?_
          rintro e u3 ⟨rfl, h3⟩
          have H3 := hide h3
          clear C2 h3
          go_wp2_with fail
          go_roundw
          case rel => exact ⟨i + 1, by go_num, by omega, by omega, H3⟩
          case measure => simp [intOf]; omega
        | false =>
          rw [hv] at d1
          have CA := hide (act10 P9.out hl A.what false A.n A.p AOK.out.p1 AOK.out.n0 AOK.out.n1 (fun z => HO.out z))
          clear hv HI
          go_wp2_with fail
          refine CA.out.mono ?_
          rintro e u1 ⟨rfl, st1, x1, y1, h1⟩
          have CS1 := hide (same10 h1 hl)
          have CS2 := hide (fun Z (hZ : PS N O w Z bl Q F o8 k8 st1 x1 y1) => (show Calls Tryz.prog 10 #[.pointer (some ⟨bl.tb, 0, none⟩), .pointer (some ⟨bl.rb, 0, none⟩), .pointer (some ⟨bl.db, 0, none⟩), .pointer (some ⟨bl.pb, 0, none⟩)] Z (fun e Z' => e = .returned (.bool true) ∧ PSE N O w Z' bl Q F o8 k8) from (same10 hZ.swap hl).mono fun e Z' ⟨he, h2⟩ => ⟨he, st1, x1, y1, h2.swap⟩))
          clear CA h1 d0 d1 d2 d3
          go_wp2_with fail
          refine CS1.out.mono ?_
          rintro e u2 ⟨rfl, h2⟩
          have C2 := hide (CS2.out u2 h2)
          clear CS1 CS2 h2
          go_wp2_with fail
          refine C2.out.mono ?_
          rintro e u3 ⟨rfl, h3⟩
          have H3 := hide h3
          clear C2 h3
          go_wp2_with fail
          go_roundw
          case rel => exact ⟨i + 1, by go_num, by omega, by omega, H3⟩
          case measure => simp [intOf]; omega
    · have hd : decide (i < (len : Int)) = false := decide_eq_false hi
      obtain ⟨st, x, y, h⟩ := HE.out
      have HI := hide h
      have CL1 := hide (fun Z (hZ : PS N O w Z bl Q F o8 k8 st x y) (q : Nat) (hq : q < 18446744073709551616) => (state_any hZ.t.tr q hq).mono (fun e Z' ⟨he, hj⟩ => (show Sm10 N O w bl Q F o8 k8 st x y (.tuple #[.bool (inU st q), .bool (fre st q), .bool (rel st q)]) e Z' from ⟨he, hZ.read hj⟩)))
      have CR1 := hide (fun Z (hZ : PS N O w Z bl Q F o8 k8 st x y) (q : Nat) (hq : q < 18446744073709551616) => (r9_state hZ.r hl q hq).mono (fun e Z' ⟨he, j, hj⟩ => (show Sm10 N O w bl Q F o8 k8 st x y (.tuple #[.bool (inU st q), .bool (fre st q), .bool (rel st q)]) e Z' from ⟨he, hZ.read (by rw [hj]; exact below_drewN Z j)⟩)))
      clear hi HE h
      go_wp2_with fail
      go_loopw [13] (fun kv wr2 => ∃ K : Int, kv = .int .u64 K ∧ 1024 ≤ K ∧ K ≤ 1024 + 512 * (C : Int) + 2 ∧ Hid (PS N O w wr2 bl Q F o8 k8 st x y)) (fun kv _ => (1024 + 512 * (C : Int) + 2 - intOf kv).toNat)
      case atStart => exact ⟨1024, rfl, by omega, by omega, HI⟩
      case round =>
        clear HI
        obtain ⟨K, rfl, k0, k1, HK⟩ := hrel
        by_cases hk : K < 1024 + 512 * (C : Int)
        · have CA := hide (CL1.out wr HK.out K.toNat (by omega))
          have CB := hide (fun Z (hZ : PS N O w Z bl Q F o8 k8 st x y) => CR1.out Z hZ K.toNat (by omega))
          rw [show ((K.toNat : Nat) : Int) = K by omega] at CA CB
          generalize inU st K.toNat = s1 at CA CB
          generalize fre st K.toNat = s2 at CA CB
          generalize rel st K.toNat = s3 at CA CB
          clear CL1 CR1 HK
          go_wp2_with fail
          refine CA.out.mono ?_
          rintro e v1 ⟨rfl, h1⟩
          have C2 := hide (CB.out v1 h1)
          clear CA CB h1
          go_wp2_with fail
          refine C2.out.mono ?_
          rintro e v2 ⟨rfl, h2⟩
          have H2 := hide h2
          clear C2 h2
          go_wp2_with fail
          go_roundw
          case rel => exact ⟨K + 3, by go_num, by omega, by omega, H2⟩
          case measure => simp [intOf]; omega
        · have CW := hide (awake10 HK.out.t.tab)
          have B3 := hide (And.intro HK.out.t.be HK.out.t.tr.lt.2.2)
          have dk : decide (K < 1024 + 512 * (C : Int)) = false := decide_eq_false hk
          clear hk HK CL1 CR1
          go_wp2_with fail
          refine CW.out.mono ?_
          rintro e v4 ⟨rfl, b4⟩
          have F0 := hide (FIN.out _ (B3.out.1.trans (b4.mono B3.out.2)))
          clear CW b4 FIN
          go_wp2_with fail
          first | exact F0.out | (go_ret; exact F0.out)
end Go.Proofs.YtnclicdnncgdiaaGreatDoor
