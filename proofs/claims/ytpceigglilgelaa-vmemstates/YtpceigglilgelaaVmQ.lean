/- The landed package's 'place'. -/
import Derived.Test.YtpceigglilgelaaVmP
namespace Go.Proofs.Ytpceigglilgelaa
open Go.ChangeShapes Go.WideShapes Go.ChangeAt Go.RowKit Go.Proofs.Sp

/-- The world is as it was but for one cell of b (and what is new). -/
structure Cell1 (b k : Nat) (w w' : World) (v : Value) : Prop where
  os : w'.os = w.os
  tape : w'.tape = w.tape
  output : w'.output = w.output
  size : w.heap.size ≤ w'.heap.size
  block : ∀ x, x < w.heap.size → x ≠ b → w'.heap[x]? = w.heap[x]?
  cell : ∀ j, j ≠ k → w'.cell? ⟨b, j, none⟩ = w.cell? ⟨b, j, none⟩
  here : w'.cell? ⟨b, k, none⟩ = some v
  fz : ∀ j, w'.frozen? ⟨b, j, none⟩ = w.frozen? ⟨b, j, none⟩
theorem Cell1.start {b k : Nat} {w : World} {v : Value} (h : w.cell? ⟨b, k, none⟩ = some v) : Cell1 b k w w v := ⟨rfl, rfl, rfl, Nat.le_refl _, fun _ _ _ => rfl, fun _ _ => rfl, h, fun _ => rfl⟩
theorem Cell1.put {b k : Nat} {w : World} {v v' : Value} (h : w.cell? ⟨b, k, none⟩ = some v) : Cell1 b k w (w.setCell ⟨b, k, none⟩ v') v' :=
  ⟨rfl, rfl, rfl, by simp, fun x _ hne => Below.heap_setCell _ _ _ _ (by simpa using hne), fun j hj => World.cell?_setCell_other _ _ _ _ (by intro e; have := congrArg Addr.off e; simp at this; omega), World.cell?_setCell_same _ _ _ h, fun j => World.frozen?_setCell _ _ _ _⟩
theorem Cell1.below {b k : Nat} {w w' w2 : World} {v : Value} (h : Cell1 b k w w' v) (hb : b < w.heap.size) (hl : Below w'.heap.size w' w2) : Cell1 b k w w2 v := by
  have hs := h.size
  refine ⟨hl.os.trans h.os, hl.tape.trans h.tape, hl.output.trans h.output, Nat.le_trans hs hl.size, fun x hx hne => by rw [hl.block x (by omega)]; exact h.block x hx hne, fun j hj => ?_, ?_, fun j => ?_⟩
  · rw [hl.cell (p := ⟨b, j, none⟩) (show b < _ by omega)]; exact h.cell j hj
  · rw [hl.cell (p := ⟨b, k, none⟩) (show b < _ by omega)]; exact h.here
  · rw [hl.frozen (p := ⟨b, j, none⟩) (show b < _ by omega)]; exact h.fz j
theorem Cell1.listAt {b k o g cap : Nat} {w w' : World} {v : Value} {R : List (Nat × Nat)} (h : Cell1 b k w w' v) (hL : ListAt w b o g cap R) (hg : g ≠ b) (ho : o ≠ k) : ListAt w' b o g cap R :=
  ⟨by rw [h.cell o ho]; exact hL.list, fun i hi => by rw [World.cell?_of_block (h.block g (cell_lt (hL.first i hi)) hg)]; exact hL.first i hi, fun i hi => by rw [World.cell?_of_block (h.block g (cell_lt (hL.state i hi)) hg)]; exact hL.state i hi⟩
theorem Cell1.slB {b k g : Nat} {w w' : World} {v u : Value} {xs : List Value} (h : Cell1 b k w w' v) (hs : SlB w u xs g) (hg : g ≠ b) : SlB w' u xs g := hs.kept h.size (fun hl => h.block g hl hg)

theorem asked_first (S : Sp) (pages x : Nat) (hp : 0 < pages) : firstFrom S x pages = some x ↔ free S pages x :=
  ⟨fun h => (first_some h).1, fun h => first_at hp h (Nat.le_refl _) (fun j h1 h2 => by omega)⟩
theorem opt2_some (q : Nat) : opt2 (some q) = .tuple #[.int .u64 (q : Int), .bool true] := rfl
theorem opt2_none : opt2 none = .tuple #[.int .u64 0, .bool false] := rfl
/-- What 'place' answers. -/
def placeA (S : Sp) (hint pages : Nat) : Option Nat := (asked S pages).or ((firstFrom S hint pages).or (firstFrom S 0 pages))

set_option maxRecDepth 100000 in
set_option maxHeartbeats 2000000 in
theorem place_core (b g g0 cap : Nat) (v0 : Value) (R : List (Nat × Nat)) (S : Sp) (hint pages : Int) (h0 : 0 ≤ hint) (h0' : hint < 18446744073709551616) (hp : 0 < pages) (hp' : pages ≤ 134217728) (hp5 : pages % 512 = 0) (hn : R.length ≤ 70368744177664) (w : World) (hL : ListAt w b 3 g cap R) (hs : Seg S.st 0 R 34359738368) (hA : Alt R) (hc : ∀ p, S.st p = 0 ↔ S.st (p / 512 * 512) = 0)
    (hv : w.cell? ⟨b, 0, none⟩ = some v0) (hf : w.frozen? ⟨b, 0, none⟩ = false) (hsl : SlB w v0 (u64s S.places) g0) (hpl : ∀ x ∈ S.places, x < 18446744073709551616) (hg : g ≠ b) (hg0 : g0 ≠ b) :
    Calls Try.prog 29 #[.pointer (some ⟨b, 0, none⟩), .int .u64 hint, .int .u64 pages] w fun e w' => e = .returned (opt2 (placeA S hint.toNat pages.toNat)) ∧ ∃ v', Cell1 b 0 w w' v' ∧ SlB w' v' (u64s S.places.tail) g0 := by
  have hbl := cell_lt hv
  have FC := hide (fun (x : Int) (x0 : 0 ≤ x) (x1 : x < 18446744073709551616) (W : World) (hW : ListAt W b 3 g cap R) => free_core b 3 g cap R S x pages x0 x1 hp hp' hp5 hn W hW hs hA hc)
  have HL := hide hL
  have HSL := hide hsl
  have HPL := hide hpl
  have AF := hide (asked_first S pages.toNat)
  clear hL hs hA hc hsl hpl
  go_enter Try.func29, Try.ntmps29
  go_wp2_with fail
  refine (next_u64 b 0 g0 v0 S.places w hv hf HSL.out).mono ?_
  rintro e w1 ⟨rfl, hnx⟩
  obtain ⟨v1, c1, s1⟩ : ∃ v1, Cell1 b 0 w w1 v1 ∧ SlB w1 v1 (u64s S.places.tail) g0 := by
    rcases hnx with ⟨hnil, rfl⟩ | ⟨v', rfl, hs'⟩
    · exact ⟨v0, Cell1.start hv, by have := HSL.out; rw [hnil] at this ⊢; exact this⟩
    · exact ⟨v', Cell1.put hv, (Cell1.put (v' := v') hv).slB hs' hg0⟩
  have C1 := hide c1
  have S1 := hide s1
  clear c1 s1 hnx HSL
  cases hpl : S.places with
  | nil =>
    have ha : asked S pages.toNat = none := by unfold asked; rw [hpl]; rfl
    clear hpl HPL
    have HA := hide ha
    clear ha
    have fc := FC.out hint h0 h0' w1 (C1.out.listAt HL.out hg (by decide))
    cases hq : firstFrom S hint.toNat pages.toNat with
    | some q =>
      rw [hq, opt2_some] at fc
      have fin : Hid (placeA S hint.toNat pages.toNat = some q) := by
        have : placeA S hint.toNat pages.toNat = some q := by unfold placeA; rw [HA.out, hq]; rfl
        exact this
      have FCC := hide fc
      clear fc hq
      go_wp2_with fail
      refine FCC.out.mono ?_
      rintro e w2 ⟨rfl, b2⟩
      clear FCC
      go_wp2_with fail
      go_ret2
      exact ⟨by rw [fin.out]; rfl, _, C1.out.below hbl b2, S1.out.kept b2.size (fun hl => b2.block _ hl)⟩
    | none =>
      rw [hq, opt2_none] at fc
      have FCC := hide fc
      have HQ := hide hq
      clear fc hq
      go_wp2_with fail
      refine FCC.out.mono ?_
      rintro e w2 ⟨rfl, b2⟩
      clear FCC
      go_wp2_with fail
      have c2 := C1.out.below hbl b2
      have fc2 := FC.out 0 (by omega) (by omega) w2 (c2.listAt HL.out hg (by decide))
      have s2 := S1.out.kept b2.size (fun hl => b2.block _ hl)
      have fin : Hid (placeA S hint.toNat pages.toNat = firstFrom S (0 : Int).toNat pages.toNat) := by
        have : placeA S hint.toNat pages.toNat = firstFrom S (0 : Int).toNat pages.toNat := by unfold placeA; rw [HA.out, HQ.out]; rfl
        exact this
      refine fc2.mono ?_
      rintro e w3 ⟨rfl, b3⟩
      have C3 := hide (c2.below hbl b3)
      have S3 := hide (s2.kept b3.size (fun hl => b3.block _ hl))
      clear c2 fc2 s2
      generalize hz : firstFrom S (0 : Int).toNat pages.toNat = z at *
      cases z with
      | some q =>
        rw [opt2_some]
        go_wp2_with fail
        go_ret2
        exact ⟨by rw [fin.out]; rfl, _, C3.out, S3.out⟩
      | none =>
        rw [opt2_none]
        go_wp2_with fail
        go_ret2
        exact ⟨by rw [fin.out]; rfl, _, C3.out, S3.out⟩
  | cons x r =>
    have hx := HPL.out x (by rw [hpl]; exact List.mem_cons_self ..)
    have hask : asked S pages.toNat = if free S pages.toNat x then some x else none := by unfold asked; rw [hpl]; rfl
    have HASK := hide hask
    clear hpl HPL hask
    have fx := FC.out (x : Int) (by omega) (by omega) w1 (C1.out.listAt HL.out hg (by decide))
    rw [Int.toNat_natCast] at fx
    have af := AF.out x (by omega)
    cases hq : firstFrom S x pages.toNat with
    | some q =>
      rw [hq, opt2_some] at fx
      rw [hq] at af
      have FXX := hide fx
      have AFX := hide af
      clear fx hq af
      by_cases hqx : q = x
      · subst hqx
        have hb : ((q : Int) == (q : Int)) = true := by simp
        have fin : Hid (placeA S hint.toNat pages.toNat = some q) := by
          have : placeA S hint.toNat pages.toNat = some q := by
            unfold placeA
            rw [HASK.out, if_pos (AFX.out.1 rfl)]; rfl
          exact this
        go_wp2_with fail
        refine FXX.out.mono ?_
        rintro e w2 ⟨rfl, b2⟩
        clear FXX AFX
        go_wp2_with fail
        go_ret2
        exact ⟨by rw [fin.out]; rfl, _, C1.out.below hbl b2, S1.out.kept b2.size (fun hl => b2.block _ hl)⟩
      · have hb : ((q : Int) == (x : Int)) = false := beq_eq_false_iff_ne.2 (by omega)
        have ha : asked S pages.toNat = none := by rw [HASK.out, if_neg (fun z => hqx (by have := AFX.out.2 z; simpa using this))]
        go_wp2_with fail
        refine FXX.out.mono ?_
        rintro e w2 ⟨rfl, b2⟩
        clear FXX AFX
        go_wp2_with fail
        have C2 := hide (C1.out.below hbl b2)
        have S2 := hide (S1.out.kept b2.size (fun hl => b2.block _ hl))
        clear b2
        have HA := hide ha
        clear ha
        have fc := FC.out hint h0 h0' w2 (C2.out.listAt HL.out hg (by decide))
        cases hq : firstFrom S hint.toNat pages.toNat with
        | some q =>
          rw [hq, opt2_some] at fc
          have fin : Hid (placeA S hint.toNat pages.toNat = some q) := by
            have : placeA S hint.toNat pages.toNat = some q := by unfold placeA; rw [HA.out, hq]; rfl
            exact this
          have FCC := hide fc
          clear fc hq
          go_wp2_with fail
          refine FCC.out.mono ?_
          rintro e w2x ⟨rfl, b2x⟩
          clear FCC
          go_wp2_with fail
          go_ret2
          exact ⟨by rw [fin.out]; rfl, _, C2.out.below hbl b2x, S2.out.kept b2x.size (fun hl => b2x.block _ hl)⟩
        | none =>
          rw [hq, opt2_none] at fc
          have FCC := hide fc
          have HQ := hide hq
          clear fc hq
          go_wp2_with fail
          refine FCC.out.mono ?_
          rintro e w2x ⟨rfl, b2x⟩
          clear FCC
          go_wp2_with fail
          have c2 := C2.out.below hbl b2x
          have fc2 := FC.out 0 (by omega) (by omega) w2x (c2.listAt HL.out hg (by decide))
          have s2 := S2.out.kept b2x.size (fun hl => b2x.block _ hl)
          have fin : Hid (placeA S hint.toNat pages.toNat = firstFrom S (0 : Int).toNat pages.toNat) := by
            have : placeA S hint.toNat pages.toNat = firstFrom S (0 : Int).toNat pages.toNat := by unfold placeA; rw [HA.out, HQ.out]; rfl
            exact this
          refine fc2.mono ?_
          rintro e w3 ⟨rfl, b3⟩
          have C3 := hide (c2.below hbl b3)
          have S3 := hide (s2.kept b3.size (fun hl => b3.block _ hl))
          clear c2 fc2 s2
          generalize hz : firstFrom S (0 : Int).toNat pages.toNat = z at *
          cases z with
          | some q =>
            rw [opt2_some]
            go_wp2_with fail
            go_ret2
            exact ⟨by rw [fin.out]; rfl, _, C3.out, S3.out⟩
          | none =>
            rw [opt2_none]
            go_wp2_with fail
            go_ret2
            exact ⟨by rw [fin.out]; rfl, _, C3.out, S3.out⟩
    | none =>
      rw [hq, opt2_none] at fx
      rw [hq] at af
      have ha : asked S pages.toNat = none := by rw [HASK.out, if_neg (fun z => by have := af.2 z; simp at this)]
      have FXX := hide fx
      clear fx hq af
      go_wp2_with fail
      refine FXX.out.mono ?_
      rintro e w2 ⟨rfl, b2⟩
      clear FXX
      go_wp2_with fail
      have C2 := hide (C1.out.below hbl b2)
      have S2 := hide (S1.out.kept b2.size (fun hl => b2.block _ hl))
      clear b2
      have HA := hide ha
      clear ha
      have fc := FC.out hint h0 h0' w2 (C2.out.listAt HL.out hg (by decide))
      cases hq : firstFrom S hint.toNat pages.toNat with
      | some q =>
        rw [hq, opt2_some] at fc
        have fin : Hid (placeA S hint.toNat pages.toNat = some q) := by
          have : placeA S hint.toNat pages.toNat = some q := by unfold placeA; rw [HA.out, hq]; rfl
          exact this
        have FCC := hide fc
        clear fc hq
        go_wp2_with fail
        refine FCC.out.mono ?_
        rintro e w2x ⟨rfl, b2x⟩
        clear FCC
        go_wp2_with fail
        go_ret2
        exact ⟨by rw [fin.out]; rfl, _, C2.out.below hbl b2x, S2.out.kept b2x.size (fun hl => b2x.block _ hl)⟩
      | none =>
        rw [hq, opt2_none] at fc
        have FCC := hide fc
        have HQ := hide hq
        clear fc hq
        go_wp2_with fail
        refine FCC.out.mono ?_
        rintro e w2x ⟨rfl, b2x⟩
        clear FCC
        go_wp2_with fail
        have c2 := C2.out.below hbl b2x
        have fc2 := FC.out 0 (by omega) (by omega) w2x (c2.listAt HL.out hg (by decide))
        have s2 := S2.out.kept b2x.size (fun hl => b2x.block _ hl)
        have fin : Hid (placeA S hint.toNat pages.toNat = firstFrom S (0 : Int).toNat pages.toNat) := by
          have : placeA S hint.toNat pages.toNat = firstFrom S (0 : Int).toNat pages.toNat := by unfold placeA; rw [HA.out, HQ.out]; rfl
          exact this
        refine fc2.mono ?_
        rintro e w3 ⟨rfl, b3⟩
        have C3 := hide (c2.below hbl b3)
        have S3 := hide (s2.kept b3.size (fun hl => b3.block _ hl))
        clear c2 fc2 s2
        generalize hz : firstFrom S (0 : Int).toNat pages.toNat = z at *
        cases z with
        | some q =>
          rw [opt2_some]
          go_wp2_with fail
          go_ret2
          exact ⟨by rw [fin.out]; rfl, _, C3.out, S3.out⟩
        | none =>
          rw [opt2_none]
          go_wp2_with fail
          go_ret2
          exact ⟨by rw [fin.out]; rfl, _, C3.out, S3.out⟩
end Go.Proofs.Ytpceigglilgelaa
