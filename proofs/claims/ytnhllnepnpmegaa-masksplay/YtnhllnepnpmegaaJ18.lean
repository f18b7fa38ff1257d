/- J18 of the proof of both laws: texts Rd, Ac, Tp, one behind the other. -/
import Derived.Test.YtnhllnepnpmegaaJ14
import Derived.Test.YtnhllnepnpmegaaJ16
import Derived.Test.YtnhllnepnpmegaaJ17
/- The reference's Read: contract. -/
namespace Go.Proofs.Ytnhllnepnpmegaa
open Go.ChangeShapes Go.WideShapes Go.ChangeAt Go.RowKit Go.Shelf Go.Proofs.Rx Go.Maps Go.Proofs.Bt
set_option linter.unusedVariables false
set_option linter.unusedSimpArgs false

attribute [local go_sem] Oper.semAt_some

def encB (b : Bool) : Value := .bool b
theorem bools_more {X2 : World} {base : Nat} {v : Value} {k : Nat} {t : List Bool} (h : X2.ownsRow base 4 1 v k (t.map encB)) (hk : k < 200000) (blk : Nat) (q : Bool) (n2 : X2.heap[blk]? = some (.cells #[.bool q] 4 (0, 0))) (hb : base ≤ X2.heap.size) (ty : TypeId) :
    ∃ g cap Y, (Builtin.append_ #[32, 32] ty #[v, .slice (some ⟨blk, 0, none⟩) 1 1]).run Try.prog X2 = .ok (.slice (some ⟨g, 0, none⟩) (k + 1) cap) Y ∧ Y.ownsRow base 4 1 (.slice (some ⟨g, 0, none⟩) (k + 1) cap) (k + 1) ((t ++ [q]).map encB) ∧ Kept (fun x => v.ownBlock = some x) X2 Y ∧ (v.ownBlock = some g ∨ X2.heap.size ≤ g) ∧ g < Y.heap.size := by
  obtain ⟨i0, hi0, hz0, hz1, hz2⟩ := info_parts infoB
  obtain ⟨g, cap, Y, r1, o1, g1, hat, hlt⟩ := run_append_lies (P := Try.prog) (w := X2) 32 ty base 4 i0 _ 1 1 Try.underlying32 hi0 hz0 hz1 hz2 rfl (by decide) v k (t.map encB) h ⟨blk, 0, none⟩ 1 1 [.bool q] rfl (World.news_of_block n2) (by intro u hu; simp at hu; rw [hu]; rfl) (by decide) (by unfold maxLen; omega) (by omega) hb _ rfl
  refine ⟨g, cap, Y, r1, ?_, Kept.of_grown g1 (fun j e => e), ?_, hlt⟩
  · rw [List.map_append]; exact o1
  · rcases hat with e | e
    · exact .inl e
    · exact .inr (by omega)
/-- What the reference's Read tells. -/
def RReadV (f : Nat → Bool) (a b : Nat) (W W' : World) (v : Value) : Prop := if readE a b = 0 then ∃ U cap, v = .slice (some ⟨U, 0, none⟩) (b / 8) cap ∧ W.heap.size ≤ U ∧ BoolsAt W' (some ⟨U, 0, none⟩) (b / 8) cap (fun k => f (a / 8 + k)) else v = .slice none 0 0
theorem row_bl {W : World} {M g cap k : Nat} {t : List Bool} {f : Nat → Bool} (h : W.ownsRow M 4 1 (.slice (some ⟨g, 0, none⟩) k cap) k (t.map encB)) (e : t = (List.range k).map f) : BoolsAt W (some ⟨g, 0, none⟩) k cap f :=
  ⟨fun z => (by cases z), fun ad ea i hi => by
    obtain rfl : (⟨g, 0, none⟩ : Addr) = ad := by injection ea
    rw [addr_add0, Nat.zero_add, h.cellAt i (by omega), e, List.map_map, List.getElem?_map, List.getElem?_range hi]
    rfl⟩
set_option maxRecDepth 100000 in
set_option maxHeartbeats 2000000 in
theorem rread_any {W : World} {r : Nat} {v : Value} {L : List Wg} (h : RgAt W r v L) (hL : L.length ≤ 1000000) (a b : Nat) (ha : a < 18446744073709551616) (hb : b < 18446744073709551616) (hbs : b ≤ 1000000 ∨ 1048576 < b) :
    Calls Try.prog 18 #[.pointer (some ⟨r, 0, none⟩), .int .u64 (a : Nat), .int .u64 (b : Nat)] W fun e W' => (∃ v, e = .returned (.tuple #[v, .int .i64 (readE a b)]) ∧ RReadV (rfn L) a b W W' v) ∧ Below W.heap.size W W' := by
  have CR := hide (refRight_any a b ha hb W)
  obtain ⟨R, hR⟩ : ∃ R : Ending → World → Prop, R = fun e W' => (∃ v, e = .returned (.tuple #[v, .int .i64 (readE a b)]) ∧ RReadV (rfn L) a b W W' v) ∧ Below W.heap.size W W' := ⟨_, rfl⟩
  rw [← hR]
  obtain ⟨A, hA⟩ : ∃ X : Int, (a : Int) = X := ⟨_, rfl⟩
  obtain ⟨B, hB⟩ : ∃ X : Int, (b : Int) = X := ⟨_, rfl⟩
  rw [hA, hB] at CR ⊢
  have a0 : 0 ≤ A := by omega
  have a1 : A < 18446744073709551616 := by omega
  have b0 : 0 ≤ B := by omega
  have b1 : B < 18446744073709551616 := by omega
  by_cases cr : Right a b
  · rw [decide_eq_true cr] at CR
    by_cases cl : 1048576 < b
    · have d : decide (1048576 < B) = true := decide_eq_true (by omega)
      have FF := hide (show R (.returned (.tuple #[.slice none 0 0, .int .i64 2])) W from by
        rw [hR]
        have e : readE a b = 2 := by unfold readE; rw [if_pos cr, if_pos cl]
        refine ⟨⟨_, by rw [e], ?_⟩, Below.refl _ _⟩
        unfold RReadV
        rw [e, if_neg (by decide)])
      clear hR h hL ha hb hbs hA hB cr cl
      go_enter Try.func18, Try.ntmps18
      go_wp2_with fail
      refine CR.out.mono ?_
      rintro e w' ⟨rfl, hw'⟩; rw [hw']; clear hw' w' CR
      go_wp2_with fail
      first | exact FF.out | (go_ret; exact FF.out)
    · have d : decide (1048576 < B) = false := decide_eq_false (by omega)
      have e : readE a b = 0 := by unfold readE; rw [if_pos cr, if_neg cl]
      obtain ⟨r1, r2, r3, r4, r5⟩ := cr
      have FF := hide (show ∀ U cap W', W.heap.size ≤ U → BoolsAt W' (some ⟨U, 0, none⟩) (b / 8) cap (fun k => rfn L (a / 8 + k)) → Below W.heap.size W W' → R (.returned (.tuple #[.slice (some ⟨U, 0, none⟩) (b / 8) cap, .int .i64 0])) W' from fun U cap W' hU hx hbl => by
        rw [hR]
        refine ⟨⟨_, by rw [e], ?_⟩, hbl⟩
        unfold RReadV
        rw [if_pos e]
        exact ⟨U, cap, rfl, hU, hx⟩)
      have CW := hide (show ∀ (W1 : World) (k : Nat) (Z : Int), Below W.heap.size W W1 → k < b / 8 → A + 8 * (k : Int) = Z → Calls Try.prog 29 #[.pointer (some ⟨r, 0, none⟩), .int .u64 Z] W1 fun e W' => e = .returned (.bool (rfn L (a / 8 + k))) ∧ Below W1.heap.size W1 W' from fun W1 k Z hbl hk hz => by
        have C := rword_any (h.below hbl) hL (a / 8 + k) (by omega)
        rw [show ((8 * (a / 8 + k) : Nat) : Int) = Z by omega] at C
        exact C)
      obtain ⟨N, hN⟩ : ∃ n, b / 8 = n := ⟨_, rfl⟩
      rw [hN] at FF CW
      have n1 : 1 ≤ N := by omega
      have n2 : N ≤ 131072 := by omega
      have HNB := hide (show B = 8 * (N : Int) by omega)
      have a2 : A ≤ 281474976710656 := by omega
      clear hR h hL ha hb hbs hA hB e r1 r2 r3 r4 r5 cl hN
      go_enter Try.func18, Try.ntmps18
      go_wp2_with fail
      refine CR.out.mono ?_
      rintro e w' ⟨rfl, hw'⟩; rw [hw']; clear hw' w' CR
      go_wp2_with fail
      go_loopw [8, 9] (fun vl vi wr => ∃ k : Nat, vi = .int .u64 (8 * (k : Int)) ∧ k ≤ N ∧ Hid (wr.ownsRow W.heap.size 4 1 vl k (((List.range k).map (fun j => rfn L (a / 8 + j))).map encB)) ∧ Hid (Below W.heap.size W wr)) (fun _ vi _ => N - (zi vi / 8).toNat)
      case atStart => exact ⟨0, rfl, Nat.zero_le _, hide (World.ownsRow_nil _ _ _ _), hide (Below.refl _ _)⟩
      case round =>
        obtain ⟨k, rfl, hk, HO, HB⟩ := hrel
        have k0 : (0 : Int) ≤ (k : Int) := by omega
        have k1 : (k : Int) ≤ 131072 := by omega
        by_cases c : k < N
        · have d2 : decide (8 * (k : Int) < B) = true := decide_eq_true (by have := HNB.out; omega)
          obtain ⟨Z, hZ⟩ : ∃ Z : Int, A + 8 * (k : Int) = Z := ⟨_, rfl⟩
          have C1 := hide (CW.out wr k Z HB.out c hZ)
          have wz : IntKind.u64.wrap (A + 8 * (k : Int)) = Z := by rw [IntKind.wrap_u64]; omega
          have e8 : IntKind.u64.wrap (8 * (k : Int) + 8) = 8 * (k : Int) + 8 := by rw [IntKind.wrap_u64]; omega
          have EQ := hide (show ((List.range (k + 1)).map (fun j => rfn L (a / 8 + j))) = ((List.range k).map (fun j => rfn L (a / 8 + j))) ++ [rfn L (a / 8 + k)] by rw [List.range_succ, List.map_append]; rfl)
          generalize ((List.range k).map (fun j => rfn L (a / 8 + j))) = t at *
          generalize rfn L (a / 8 + k) = q at *
          clear hZ
          go_wp2_with fail
          refine C1.out.mono ?_
          rintro e W3 ⟨rfl, b3⟩
          have h3 := owns_kept (owns_kept HO.out (Kept.of_below (F := fun _ => False) b3) (fun _ _ f => f)) (Kept.of_below (F := fun _ => False) (below_alloc W3 (.cells #[.bool q] 4))) (fun _ _ f => f)
          have B3 := HB.out.trans (b3.mono HB.out.size)
          have B4 := B3.trans ((below_alloc W3 (.cells #[.bool q] 4)).mono B3.size)
          obtain ⟨g, cap, Y, r4, o4, kp, -, -⟩ := bools_more h3 (by omega) W3.heap.size q (World.alloc_heap_new _ _) B4.size 32
          have O4 := hide o4
          have B5 := hide (below_kept B4 kp (fun x hx => (h3.lt x hx).1) B4.size)
          have R4 := hide r4
          clear b3 h3 B3 B4 o4 kp r4 C1 HO HB CW FF
          go_wp2_with (first | (at_builtin; refine list_append_run rfl (.tmp 21) (.tmp 27) 32 rfl rfl rfl R4.out ?_))
          exact ⟨⟨k + 1, by rw [show 8 * ((k + 1 : Nat) : Int) = 8 * (k : Int) + 8 by omega], by omega, by rw [EQ.out]; exact O4, B5⟩, by simp [zi]; omega⟩
        · have d2 : decide (8 * (k : Int) < B) = false := decide_eq_false (by have := HNB.out; omega)
          obtain rfl : k = N := by omega
          have ho := HO.out
          rcases ho.2 with ⟨x1, x2⟩ | ⟨g, cap, cur, rfl, x3, _⟩
          · exfalso; omega
          · have FG := hide (FF.out g cap wr x3 (row_bl ho rfl) HB.out)
            clear ho HO HB FF CW c x3
            go_wp2_with fail
            first | exact FG.out | (go_ret; exact FG.out)
  · rw [decide_eq_false cr] at CR
    have FF := hide (show R (.returned (.tuple #[.slice none 0 0, .int .i64 1])) W from by
      rw [hR]
      have e : readE a b = 1 := by unfold readE; rw [if_neg cr]
      refine ⟨⟨_, by rw [e], ?_⟩, Below.refl _ _⟩
      unfold RReadV
      rw [e, if_neg (by decide)])
    clear hR h hL ha hb hbs hA hB cr
    go_enter Try.func18, Try.ntmps18
    go_wp2_with fail
    refine CR.out.mono ?_
    rintro e w' ⟨rfl, hw'⟩; rw [hw']; clear hw' w' CR
    go_wp2_with fail
    first | exact FF.out | (go_ret; exact FF.out)
end Go.Proofs.Ytnhllnepnpmegaa

/- What comes in: acts. -/
namespace Go.Proofs.Ytnhllnepnpmegaa
open Go.ChangeShapes Go.WideShapes Go.ChangeAt Go.RowKit Go.Shelf Go.WideMaps
set_option linter.unusedVariables false
set_option linter.unusedSimpArgs false

/-- Something that is done. -/
structure ActV where
  what : Int
  a : Nat
  b : Nat
  wd : Int
  o : Option Addr
  l : Nat
  c : Nat
  X : Nat → Bool
  n : Nat
structure ActV.Ok (a : ActV) : Prop where
  a0 : -9223372036854775808 ≤ a.what
  a1 : a.what ≤ 9223372036854775807
  w0 : -9223372036854775808 ≤ a.wd
  w1 : a.wd ≤ 9223372036854775807
  ab : a.a < 18446744073709551616
  bb : a.b < 18446744073709551616
  nb : a.n < 18446744073709551616
  lb : a.l ≤ maxLen
structure ActsAt (w : World) (o : Option Addr) (len cap : Nat) (X : Nat → ActV) : Prop where
  nil : o = none → len = 0 ∧ cap = 0
  cells : ∀ ad, o = some ad → ∀ i, i < len → w.cell? (ad.add (i * 6)) = some (.int .i64 (X i).what) ∧ w.cell? ((ad.add (i * 6)).add 1) = some (.int .u64 ((X i).a : Nat)) ∧ w.cell? ((ad.add (i * 6)).add 2) = some (.int .u64 ((X i).b : Nat)) ∧ w.cell? ((ad.add (i * 6)).add 3) = some (.int .i64 (X i).wd) ∧ w.cell? ((ad.add (i * 6)).add 4) = some (.slice (X i).o (X i).l (X i).c) ∧ w.cell? ((ad.add (i * 6)).add 5) = some (.int .u64 ((X i).n : Nat))
  ms : ∀ i, BoolsAt w (X i).o (X i).l (X i).c (X i).X
  ok : ∀ i, (X i).Ok
theorem ActsAt.at {w : World} {o : Option Addr} {len cap : Nat} {X : Nat → ActV} (h : ActsAt w o len cap X) {i : Nat} (hi : i < len) : ∃ b off, o = some ⟨b, off, none⟩ ∧ b < w.heap.size ∧ ∀ i, i < len → w.cell? ⟨b, off + i * 6, none⟩ = some (.int .i64 (X i).what) ∧ w.cell? ⟨b, off + i * 6 + 1, none⟩ = some (.int .u64 ((X i).a : Nat)) ∧ w.cell? ⟨b, off + i * 6 + 2, none⟩ = some (.int .u64 ((X i).b : Nat)) ∧ w.cell? ⟨b, off + i * 6 + 3, none⟩ = some (.int .i64 (X i).wd) ∧ w.cell? ⟨b, off + i * 6 + 4, none⟩ = some (.slice (X i).o (X i).l (X i).c) ∧ w.cell? ⟨b, off + i * 6 + 5, none⟩ = some (.int .u64 ((X i).n : Nat)) := by
  cases ho : o with
  | none => have := (h.nil ho).1; omega
  | some a =>
    obtain ⟨b, off, sp⟩ := a
    have c0 := (h.cells _ ho 0 (by omega)).1
    have hs : sp = none := act_spot (by simpa [Addr.add] using c0)
    subst hs
    have hb : b < w.heap.size := cell_lt (by simpa [Addr.add] using c0)
    refine ⟨b, off, rfl, hb, fun j hj => ?_⟩
    have := h.cells _ ho j hj
    rwa [addr_add0, addr_add0, addr_add0, addr_add0, addr_add0, addr_add0] at this
theorem cellsAct : Try.prog.cellsOf 36 = 6 := by kernel_rfl
theorem cellsTy : Try.prog.cellsOf 34 = 2 := by kernel_rfl
theorem cells6 {w : World} {a : Addr} {cs : List Value} (h : w.cells? 0 a 6 = some cs) : ∃ c0 c1 c2 c3 c4 c5, cs = [c0, c1, c2, c3, c4, c5] ∧ w.cell? a = some c0 ∧ w.cell? (a.add 1) = some c1 ∧ w.cell? (a.add 2) = some c2 ∧ w.cell? (a.add 3) = some c3 ∧ w.cell? (a.add 4) = some c4 ∧ w.cell? (a.add 5) = some c5 := by
  unfold World.cells? at h
  rw [if_pos (Nat.zero_le _)] at h
  have e : a.add 0 = a := by simp [Addr.add]
  simp only [show List.range 6 = [0, 1, 2, 3, 4, 5] from rfl, List.mapM_cons, List.mapM_nil, e] at h
  cases h0 : w.cell? a with
  | none => rw [h0] at h; simp at h
  | some c0 =>
    cases h1 : w.cell? (a.add 1) with
    | none => rw [h0, h1] at h; simp at h
    | some c1 =>
      cases h2 : w.cell? (a.add 2) with
      | none => rw [h0, h1, h2] at h; simp at h
      | some c2 =>
        cases h3 : w.cell? (a.add 3) with
        | none => rw [h0, h1, h2, h3] at h; simp at h
        | some c3 =>
          cases h4 : w.cell? (a.add 4) with
          | none => rw [h0, h1, h2, h3, h4] at h; simp at h
          | some c4 =>
            cases h5 : w.cell? (a.add 5) with
            | none => rw [h0, h1, h2, h3, h4, h5] at h; simp at h
            | some c5 =>
              rw [h0, h1, h2, h3, h4, h5] at h
              simp at h
              exact ⟨c0, c1, c2, c3, c4, c5, h.symm, rfl, rfl, rfl, rfl, rfl, rfl⟩
theorem trod_struct5 {H : Type} {enc : TypeId × Value → H} {P : Program} {w : World} {base : Nat} {spare : Nat → Bool} {held : Bool} {t : TypeId} {f0 f1 f2 f3 f4 : Field} {fuel : Nat} {cs : List Value} {x : DataW H × List MemPlace} (ht : P.underlying t = some (.struct #[f0, f1, f2, f3, f4])) (h : DataW.trod enc P w base spare held fuel t cs = some x) :
    ∃ y0 y1 y2 y3 y4 n, DataW.trod enc P w base spare held n f0.type ((cs.drop f0.offset).take (P.cellsOf f0.type)) = some y0 ∧ DataW.trod enc P w base spare held n f1.type ((cs.drop f1.offset).take (P.cellsOf f1.type)) = some y1 ∧ DataW.trod enc P w base spare held n f2.type ((cs.drop f2.offset).take (P.cellsOf f2.type)) = some y2 ∧ DataW.trod enc P w base spare held n f3.type ((cs.drop f3.offset).take (P.cellsOf f3.type)) = some y3 ∧ DataW.trod enc P w base spare held n f4.type ((cs.drop f4.offset).take (P.cellsOf f4.type)) = some y4 := by
  obtain ⟨xs, n, _, rfl, hl, hlen, hf⟩ := DataW.trod_struct ht h
  match xs, hlen with
  | [y0, y1, y2, y3, y4], _ => exact ⟨y0, y1, y2, y3, y4, n, by simpa using hf 0 f0 rfl, by simpa using hf 1 f1 rfl, by simpa using hf 2 f2 rfl, by simpa using hf 3 f3 rfl, by simpa using hf 4 f4 rfl⟩
theorem trod_struct2 {H : Type} {enc : TypeId × Value → H} {P : Program} {w : World} {base : Nat} {spare : Nat → Bool} {held : Bool} {t : TypeId} {f0 f1 : Field} {fuel : Nat} {cs : List Value} {x : DataW H × List MemPlace} (ht : P.underlying t = some (.struct #[f0, f1])) (h : DataW.trod enc P w base spare held fuel t cs = some x) :
    ∃ y0 y1 n, DataW.trod enc P w base spare held n f0.type ((cs.drop f0.offset).take (P.cellsOf f0.type)) = some y0 ∧ DataW.trod enc P w base spare held n f1.type ((cs.drop f1.offset).take (P.cellsOf f1.type)) = some y1 := by
  obtain ⟨xs, n, _, rfl, hl, hlen, hf⟩ := DataW.trod_struct ht h
  match xs, hlen with
  | [y0, y1], _ => exact ⟨y0, y1, n, by simpa using hf 0 f0 rfl, by simpa using hf 1 f1 rfl⟩
theorem cellsLB2 : Try.prog.cellsOf 32 = 1 := by kernel_rfl
theorem act_of {H : Type} {enc : TypeId × Value → H} {W : World} {n : Nat} {c0 c1 c2 c3 c4 c5 : Value} {x : DataW H × List MemPlace} (h : DataW.trod enc Try.prog W 0 (fun _ => true) true n 36 [c0, c1, c2, c3, c4, c5] = some x) :
    ∃ a : ActV, (a.Ok ∧ BoolsAt W a.o a.l a.c a.X) ∧ c0 = .int .i64 a.what ∧ c1 = .int .u64 (a.a : Nat) ∧ c2 = .int .u64 (a.b : Nat) ∧ c3 = .int .i64 a.wd ∧ c4 = .slice a.o a.l a.c ∧ c5 = .int .u64 (a.n : Nat) := by
  obtain ⟨y0, y1, y2, y3, y4, m, h0, h1, h2, h3, h4⟩ := trod_struct5 Try.underlying36 h
  obtain ⟨n0, e0, _, w0⟩ := DataW.trod_int Try.underlying3 h0
  obtain ⟨n1, e1, _, w1⟩ := DataW.trod_int Try.underlying31 h1
  obtain ⟨n2, e2, _, w2⟩ := DataW.trod_int Try.underlying31 h2
  obtain ⟨n4, e4, _, w4⟩ := DataW.trod_int Try.underlying31 h4
  simp only [aI, cellsU, cellsTy, List.drop_zero, List.drop_succ_cons, List.take_succ_cons, List.take_zero] at e0 e1 e2 e4 h3
  obtain ⟨z0, z1, m2, g0, g1⟩ := trod_struct2 Try.underlying34 h3
  obtain ⟨n3, e3, _, w3⟩ := DataW.trod_int Try.underlying3 g0
  obtain ⟨o, l, c, X, e5, hl, hlc, hb⟩ := bools_cell g1
  simp only [aI, cellsLB2, List.drop_zero, List.drop_succ_cons, List.take_succ_cons, List.take_zero] at e3 e5
  have b0 := bounds_i64 w0
  have b1 := bounds_u64 w1
  have b2 := bounds_u64 w2
  have b3 := bounds_i64 w3
  have b4 := bounds_u64 w4
  refine ⟨⟨n0, n1.toNat, n2.toNat, n3, o, l, c, X, n4.toNat⟩, ⟨⟨b0.1, b0.2, b3.1, b3.2, ?_, ?_, ?_, hl⟩, hb⟩, by injection e0, ?_, ?_, by injection e3, by injection e5, ?_⟩
  · show n1.toNat < _; omega
  · show n2.toNat < _; omega
  · show n4.toNat < _; omega
  · show c1 = .int .u64 ((n1.toNat : Nat) : Int)
    rw [Int.toNat_of_nonneg b1.1]; injection e1
  · show c2 = .int .u64 ((n2.toNat : Nat) : Int)
    rw [Int.toNat_of_nonneg b2.1]; injection e2
  · show c5 = .int .u64 ((n4.toNat : Nat) : Int)
    rw [Int.toNat_of_nonneg b4.1]; injection e4
def act0 : ActV := ⟨0, 0, 0, 0, none, 0, 0, fun _ => false, 0⟩
theorem acts_of {H : Type} {enc : TypeId × Value → H} {W : World} {o : Option Addr} {len cap : Nat} {d : DataW H} {p : List MemPlace} (h : DataW.Trod enc Try.prog W 0 (fun _ => true) true 22 (.slice o len cap) d p) : len ≤ maxLen ∧ len ≤ cap ∧ ∃ X, ActsAt W o len cap X := by
  obtain ⟨fuel, hf⟩ := h
  have ok0 : act0.Ok := ⟨by decide, by decide, by decide, by decide, by decide, by decide, by decide, by decide⟩
  rcases Go.Deep.open_slice Try.underlying22 hf with ⟨hcs, hx⟩ | ⟨a, len', cap', m, n, D, Pl, hcs, _, hl, hm, hme, hx, hc⟩
  · simp [Value.cells] at hcs
    obtain ⟨rfl, rfl, rfl⟩ := hcs
    exact ⟨by decide, Nat.le_refl _, fun _ => act0, ⟨fun _ => ⟨rfl, rfl⟩, fun _ z => by (cases z), fun _ => bools_none W, fun _ => ok0⟩⟩
  · simp [Value.cells] at hcs
    obtain ⟨rfl, rfl, rfl⟩ := hcs
    have hmc : m = cap := by simpa using hme
    rw [cellsAct] at hc
    have ex : ∀ i, ∃ X : ActV, (X.Ok ∧ BoolsAt W X.o X.l X.c X.X) ∧ (i < len → W.cell? (a.add (i * 6)) = some (.int .i64 X.what) ∧ W.cell? ((a.add (i * 6)).add 1) = some (.int .u64 (X.a : Nat)) ∧ W.cell? ((a.add (i * 6)).add 2) = some (.int .u64 (X.b : Nat)) ∧ W.cell? ((a.add (i * 6)).add 3) = some (.int .i64 X.wd) ∧ W.cell? ((a.add (i * 6)).add 4) = some (.slice X.o X.l X.c) ∧ W.cell? ((a.add (i * 6)).add 5) = some (.int .u64 (X.n : Nat))) := fun i => by
      by_cases z : i < len
      · obtain ⟨cs', k1, k2⟩ := hc i (by omega)
        obtain ⟨c0, c1, c2, c3, c4, c5, rfl, e0, e1, e2, e3, e4, e5⟩ := cells6 k1
        obtain ⟨X, ok, rfl, rfl, rfl, rfl, rfl, rfl⟩ := act_of k2
        exact ⟨X, ok, fun _ => ⟨e0, e1, e2, e3, e4, e5⟩⟩
      · exact ⟨act0, ⟨ok0, bools_none W⟩, fun y => absurd y z⟩
    refine ⟨by omega, by omega, fun i => Classical.choose (ex i), ⟨fun z => by (cases z), fun ad e i hi => ?_, fun i => (Classical.choose_spec (ex i)).1.2, fun i => (Classical.choose_spec (ex i)).1.1⟩⟩
    obtain rfl : a = ad := by injection e
    exact (Classical.choose_spec (ex i)).2 hi
end Go.Proofs.Ytnhllnepnpmegaa

/- The reference among other things: at most so many writings; Clear, Read, Pointers. -/
namespace Go.Proofs.Ytnhllnepnpmegaa
open Go.ChangeShapes Go.WideShapes Go.ChangeAt Go.RowKit Go.Shelf Go.Proofs.Rx Go.Maps Go.Proofs.Bt
set_option linter.unusedVariables false
set_option linter.unusedSimpArgs false

/-- The reference with at most K writings. -/
def tRl (r : Nat) (f : Nat → Bool) (K : Nat) : Thing := ⟨fun W F => ∃ k, k ≤ K ∧ (tRg r f k).P W F, fun ⟨k, hk, h⟩ kp n => ⟨k, hk, (tRg r f k).kept h kp n⟩, fun ⟨k, hk, h⟩ => (tRg r f k).lt h⟩
section
variable {N : Nat} {w W W' : World} {l : List Thing} {r K : Nat} {f : Nat → Bool}
theorem Sep.rclear (h : Sep N w W l) (i : Nat) (hi : i < l.length) (e : l[i] = tRl r f K) (hK : K < 1000000) (a b : Nat) (ha : a < 18446744073709551616) (hb : b < 18446744073709551616) :
    Calls Try.prog 17 #[.pointer (some ⟨r, 0, none⟩), .int .u64 (a : Nat), .int .u64 (b : Nat)] W fun e W' => e = .returned (.int .i64 (clearE a b)) ∧ Sep N w W' (l.set i (tRl r (clearF f a b) (K + 1))) :=
  h.step i hi _ (R := fun e _ => e = .returned (.int .i64 (clearE a b))) (fun F hF => by
    rw [e] at hF
    obtain ⟨k, hk, hF⟩ := hF
    exact (rclear_any hF (by omega) a b ha hb).mono fun _ _ ⟨x, k', hk', F', y, z⟩ => ⟨x, F', ⟨k', by omega, y⟩, z⟩)
theorem Sep.rpoints (h : Sep N w W l) (i : Nat) (hi : i < l.length) (e : l[i] = tRl r f K) (hK : K < 1000000) (a b : Nat) (ha : a < 18446744073709551616) (hb : b < 18446744073709551616) :
    Calls Try.prog 19 #[.pointer (some ⟨r, 0, none⟩), .int .u64 (a : Nat), .int .u64 (b : Nat)] W fun e W' => e = .returned (.tuple #[.int .u64 (pointsV f a b : Nat), .int .i64 (clearE a b)]) ∧ Below W.heap.size W W' ∧ Sep N w W' l := by
  obtain ⟨F, hF⟩ := h.have i hi
  rw [e] at hF
  obtain ⟨k, hk, v, L, hr, hf, hk2, hF⟩ := hF
  rw [← hf]
  exact (rpoints_any hr (by omega) a b ha hb).mono fun _ _ ⟨x, y⟩ => ⟨x, y, h.read y⟩
theorem Sep.rread (h : Sep N w W l) (i : Nat) (hi : i < l.length) (e : l[i] = tRl r f K) (hK : K < 1000000) (a b : Nat) (ha : a < 18446744073709551616) (hb : b < 18446744073709551616) (hbs : b ≤ 1000000 ∨ 1048576 < b) :
    Calls Try.prog 18 #[.pointer (some ⟨r, 0, none⟩), .int .u64 (a : Nat), .int .u64 (b : Nat)] W fun e W' => ∃ v, e = .returned (.tuple #[v, .int .i64 (readE a b)]) ∧ RReadV f a b W W' v ∧ Below W.heap.size W W' ∧ Sep N w W' l := by
  obtain ⟨F, hF⟩ := h.have i hi
  rw [e] at hF
  obtain ⟨k, hk, v, L, hr, hf, hk2, hF⟩ := hF
  rw [← hf]
  exact (rread_any hr (by omega) a b ha hb hbs).mono fun _ _ ⟨⟨v, x, y⟩, z⟩ => ⟨v, x, y, z, h.read z⟩
end
end Go.Proofs.Ytnhllnepnpmegaa
