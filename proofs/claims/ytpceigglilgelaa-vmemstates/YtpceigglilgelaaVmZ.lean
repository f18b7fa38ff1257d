/- The landed package's words: what a change leaves; store, fill. -/
import Derived.Test.YtpceigglilgelaaVmY
namespace Go.Proofs.Ytpceigglilgelaa
open Go.ChangeShapes Go.WideShapes Go.ChangeAt Go.RowKit Go.Proofs.Sp Go.Maps
set_option linter.unusedVariables false
set_option linter.unusedSimpArgs false

/-- The blocks of the words. -/
def WFoot (bp bf : Nat) (MP : Nat → Nat) (x : Nat) : Prop := x = bp ∨ x = bf ∨ ∃ q, MP q = x + 1
/-- The words are W now; pages of Z that had nothing have nothing. -/
structure WNow (w w' : World) (b bp bf n : Nat) (MP MF : Nat → Nat) (Z : Nat → Prop) (W : Nat → Nat → Nat) (MP' MF' : Nat → Nat) (A' : Nat → Nat → Nat) : Prop where
  wm : WordsM w' b bp bf n MP' MF' A'
  at_ : ∀ p k, k < 1024 → wordAt MP' MF' A' p k = W p k
  fr : FrB (WFoot bp bf MP) w w'
  old : ∀ q, MP' q ≠ 0 → (∃ r, MP r = MP' q) ∨ w.heap.size ≤ MP' q - 1
  non : ∀ q, Z q → MP q = 0 → MF q = 0 → MP' q = 0 ∧ MF' q = 0
def WPost (w w' : World) (b bp bf n : Nat) (MP MF : Nat → Nat) (Z : Nat → Prop) (W : Nat → Nat → Nat) : Prop := ∃ MP' MF' A', WNow w w' b bp bf n MP MF Z W MP' MF' A'
theorem WNow.refl {w : World} {b bp bf n : Nat} {MP MF : Nat → Nat} {A : Nat → Nat → Nat} (h : WordsM w b bp bf n MP MF A) (Z : Nat → Prop) : WNow w w b bp bf n MP MF Z (wordAt MP MF A) MP MF A :=
  ⟨h, fun _ _ _ => rfl, FrB.refl _ _, fun q _ => Or.inl ⟨q, rfl⟩, fun _ _ a c => ⟨a, c⟩⟩
theorem WordsM.mono {w : World} {b bp bf n n' : Nat} {MP MF : Nat → Nat} {A : Nat → Nat → Nat} (h : WordsM w b bp bf n MP MF A) (hn : n ≤ n') : WordsM w b bp bf n' MP MF A := ⟨h.c8, h.c9, h.mp.mono hn, h.mf.mono hn, h.arr, h.one, h.sep, h.ne⟩
theorem WordsM.foot {w : World} {b bp bf n : Nat} {MP MF : Nat → Nat} {A : Nat → Nat → Nat} (h : WordsM w b bp bf n MP MF A) {x : Nat} (hx : WFoot bp bf MP x) : x < w.heap.size ∧ x ≠ b := by
  rcases hx with rfl | rfl | ⟨q, hq⟩
  · exact ⟨h.mp.lt, h.ne.1⟩
  · exact ⟨h.mf.lt, h.ne.2.1⟩
  · have := (h.arr q (by omega)).lt
    have s := (h.sep q (by omega)).1
    rw [hq] at this s
    exact ⟨by omega, by omega⟩
theorem WNow.step {w w' w'' : World} {b bp bf n n' : Nat} {MP MF MP' MF' MP'' MF'' : Nat → Nat} {A' A'' : Nat → Nat → Nat} {Z Z' : Nat → Prop} {W W' : Nat → Nat → Nat} (h : WNow w w' b bp bf n MP MF Z W MP' MF' A') (k : WNow w' w'' b bp bf n' MP' MF' Z' W' MP'' MF'' A'') :
    WNow w w'' b bp bf n' MP MF (fun q => Z q ∧ Z' q) W' MP'' MF'' A'' := by
  refine ⟨k.wm, k.at_, ?_, fun q hq => ?_, fun q hz a c => ?_⟩
  · refine ⟨k.fr.os.trans h.fr.os, k.fr.tape.trans h.fr.tape, k.fr.output.trans h.fr.output, Nat.le_trans h.fr.size k.fr.size, fun x hx hn => ?_⟩
    rw [k.fr.block x (Nat.lt_of_lt_of_le hx h.fr.size)]
    · exact h.fr.block x hx hn
    · intro z
      rcases z with rfl | rfl | ⟨r, hr⟩
      · exact hn (Or.inl rfl)
      · exact hn (Or.inr (Or.inl rfl))
      · rcases h.old r (by omega) with ⟨s, hs⟩ | hs
        · exact hn (Or.inr (Or.inr ⟨s, by omega⟩))
        · omega
  · rcases k.old q hq with ⟨r, hr⟩ | hr
    · rw [← hr]
      exact h.old r (by omega)
    · exact Or.inr (Nat.le_trans h.fr.size hr)
  · obtain ⟨a', c'⟩ := h.non q hz.1 a c
    exact k.non q hz.2 a' c'
theorem WNow.weak {w w' : World} {b bp bf n n' : Nat} {MP MF : Nat → Nat} {Z Z' : Nat → Prop} {W W' : Nat → Nat → Nat} {MP' MF' : Nat → Nat} {A' : Nat → Nat → Nat} (h : WNow w w' b bp bf n MP MF Z W MP' MF' A') (hn : n ≤ n') (hz : ∀ q, Z' q → Z q) (hw : ∀ p k, k < 1024 → W p k = W' p k) : WNow w w' b bp bf n' MP MF Z' W' MP' MF' A' :=
  ⟨h.wm.mono hn, fun p k hk => (h.at_ p k hk).trans (hw p k hk), h.fr, h.old, fun q z => h.non q (hz q z)⟩
theorem array_core (b bp bf n p : Nat) (MP MF : Nat → Nat) (A : Nat → Nat → Nat) (w : World) (h : WordsM w b bp bf n MP MF A) (hp : p < 18446744073709551616) (hn : n ≤ 4398046511104) :
    Calls Try.prog 77 #[.pointer (some ⟨b, 8, none⟩), .int .u64 (p : Int)] w fun e w' => ∃ a MP' MF' A', e = .returned (.pointer (some ⟨a, 0, none⟩)) ∧ Hid (MP' p = a + 1) ∧ Hid (WNow w w' b bp bf (n + 1) MP MF (fun q => q ≠ p) (wordAt MP MF A) MP' MF' A') := by
  by_cases hz : MP p = 0
  · by_cases hx : MF p = 0
    · refine (array_zero b bp bf n p MP MF A w h hp hz hx hn).mono ?_
      rintro e w' ⟨rfl, h1, h2⟩
      refine ⟨w.heap.size, _, _, _, rfl, ?_, hide ⟨h1, fun q k hk => ?_, h2.mono (fun x _ e => by rcases e with e | e; exact Or.inl e; exact Or.inr (Or.inl e)), fun q hq => ?_, fun q hz a c => ⟨(if_neg hz).trans a, c⟩⟩⟩
      · exact hide (if_pos rfl)
      · unfold wordAt
        by_cases c : q = p
        · subst c; simp [hz, hx]
        · simp [c]
      · by_cases c : q = p
        · right; rw [if_pos c]; omega
        · left; exact ⟨q, by rw [if_neg c]⟩
    · refine (array_fill b bp bf n p _ MP MF A w h hp hz rfl hx hn).mono ?_
      rintro e w' ⟨rfl, h1, h2⟩
      refine ⟨w.heap.size, _, _, _, rfl, ?_, hide ⟨h1, fun q k hk => ?_, h2.mono (fun x _ e => by rcases e with e | e; exact Or.inl e; exact Or.inr (Or.inl e)), fun q hq => ?_, fun q hz a c => ⟨(if_neg hz).trans a, (if_neg hz).trans c⟩⟩⟩
      · exact hide (if_pos rfl)
      · unfold wordAt
        by_cases c : q = p
        · subst c; simp [hz]
        · simp [c]
      · by_cases c : q = p
        · right; rw [if_pos c]; omega
        · left; exact ⟨q, by rw [if_neg c]⟩
  · obtain ⟨a, ha⟩ : ∃ a, MP p = a + 1 := ⟨MP p - 1, by omega⟩
    refine (array_has b bp bf n p a MP MF A w h hp ha).mono ?_
    rintro e w' ⟨rfl, hw⟩
    subst hw
    exact ⟨_, _, _, _, rfl, hide ha, hide ((WNow.refl h _).weak (by omega) (fun _ h => h) (fun _ _ _ => rfl))⟩
/-- Behind a word of a page's array was set. -/
theorem WNow.put {w w' : World} {b bp bf n : Nat} {MP MF : Nat → Nat} {Z : Nat → Prop} {W : Nat → Nat → Nat} {MP' MF' : Nat → Nat} {A' : Nat → Nat → Nat} (h : WNow w w' b bp bf n MP MF Z W MP' MF' A') {p a : Nat} (ha : MP' p = a + 1) {k : Nat} (hk : k < 1024) (x : Nat) {f : Nat → Nat} {w'' : World} (hf : ∀ j, j < 1024 → f j = if j = k then x else A' p j)
    (hw : w'' = w'.setCell ⟨a, k, none⟩ (.int .u64 (x : Int))) : WNow w w'' b bp bf n MP MF Z (fun q j => if q = p ∧ j = k then x else W q j) MP' MF' (fun q => if q = p then f else A' q) := by
  have ar := h.wm.arr p (by omega)
  rw [ha, Nat.add_sub_cancel] at ar
  have sp := h.wm.sep p (by omega)
  rw [ha, Nat.add_sub_cancel] at sp
  have nb : ∀ y, y ≠ a → w''.heap[y]? = w'.heap[y]? := fun y hy => by rw [hw]; exact Below.heap_setCell _ _ _ _ (fun e => hy (by simpa using e))
  refine ⟨⟨?_, ?_, h.wm.mp.kept (nb bp (fun e => sp.2.1 e.symm)), h.wm.mf.kept (nb bf (fun e => sp.2.2 e.symm)), fun q hq => ?_, h.wm.one, h.wm.sep, h.wm.ne⟩, fun q j hj => ?_, ?_, h.old, h.non⟩
  · rw [World.cell?_of_block (nb b (fun e => sp.1 e.symm))]; exact h.wm.c8
  · rw [World.cell?_of_block (nb b (fun e => sp.1 e.symm))]; exact h.wm.c9
  · by_cases c : q = p
    · subst c
      simp only [if_true]
      rw [ha, Nat.add_sub_cancel, hw]
      obtain ⟨arr, q1, q2, q3⟩ := ar.put k x hk
      exact ⟨arr, q1, q2, fun j hj => by have := q3 j hj; rw [this, hf j hj]⟩
    · simp only [if_neg c]
      refine (h.wm.arr q hq).kept (nb _ (fun e => c (h.wm.one q p hq (by omega))))
  · have h0 := h.at_ q j hj
    unfold wordAt at h0 ⊢
    by_cases c : q = p
    · subst c
      have : MP' q ≠ 0 := by omega
      rw [if_neg this] at h0
      simp only [if_neg this, if_true, true_and]
      rw [hf j hj, h0]
    · simp only [c, if_false, false_and]
      exact h0
  · have : FrB (WFoot bp bf MP) w w'' := by
      rw [hw]
      refine h.fr.set ?_ _
      rcases h.old p (by omega) with ⟨r, hr⟩ | hr
      · exact Or.inl (Or.inr (Or.inr ⟨r, by show MP r = a + 1; omega⟩))
      · right; show _ ≤ a; omega
    exact this
set_option maxRecDepth 100000 in
set_option maxHeartbeats 2000000 in
theorem wstore_core (b bp bf n : Nat) (MP MF : Nat → Nat) (A : Nat → Nat → Nat) (w : World) (h : WordsM w b bp bf n MP MF A) (hn : n ≤ 4398046511104) (a : Int) (ha : 0 ≤ a) (ha' : a < 18446744073709551616) (x : Nat) (hx : x < 18446744073709551616) :
    Calls Try.prog 50 #[.pointer (some ⟨b, 8, none⟩), .int .u64 a, .int .u64 (x : Int)] w fun e w' => e = .returned (.tuple #[]) ∧ Hid (WPost w w' b bp bf (n + 1) MP MF (fun q => q ≠ a.toNat / 8192) (fun q j => if q = a.toNat / 8192 ∧ j = a.toNat % 8192 / 8 then x else wordAt MP MF A q j)) := by
  obtain ⟨p, hpe⟩ : ∃ p : Nat, p = a.toNat / 8192 := ⟨_, rfl⟩
  obtain ⟨k, hke⟩ : ∃ k : Nat, k = a.toNat % 8192 / 8 := ⟨_, rfl⟩
  have hp1 : (a / 8192 : Int) = (p : Int) := by omega
  have hk1 : (a % 8192 / 8 : Int) = (k : Int) := by omega
  have hk2 : k < 1024 := by omega
  have hpl : p < 18446744073709551616 := by omega
  rw [← hpe, ← hke]
  have HP := hide hp1
  have HK := hide hk1
  have hk3 : (k : Int) < 1024 := by omega
  have AC := hide (array_core b bp bf n p MP MF A w h hpl hn)
  clear h hpe hke hp1 hk1
  go_enter Try.func50, Try.ntmps50
  go_wp2_with (first
    | (go_at_call 67; refine (split_core a ha ha' _).mono ?_; rintro e w' ⟨rfl, rfl⟩; rw [HP.out, HK.out])
    | (go_at_call 77; refine AC.out.mono ?_; rintro e w' ⟨y, MP', MF', A', rfl, hy, hN⟩; have hc := (by have := hN.out.wm.arr p (by rw [hy.out]; omega); rw [hy.out, Nat.add_sub_cancel] at this; exact And.intro (this.cell k hk2) (this.fz k)); obtain ⟨hc, hfz⟩ := hc))
  go_end0
  exact ⟨rfl, hide ⟨_, _, _, hN.out.put hy.out hk2 x (f := fun j => if j = k then x else A' p j) (fun _ _ => rfl) rfl⟩⟩
set_option maxHeartbeats 1000000 in
theorem wfill_core (b bp bf n p x : Nat) (MP MF : Nat → Nat) (A : Nat → Nat → Nat) (w : World) (h : WordsM w b bp bf n MP MF A) (hn : n ≤ 4398046511104) (hp : p < 18446744073709551616) (hx : x < 18446744073709551616) (hz : MP p = 0) (hz2 : MF p = 0) :
    Calls Try.prog 64 #[.pointer (some ⟨b, 8, none⟩), .int .u64 (p : Int), .int .u64 (x : Int)] w fun e w' => e = .returned (.tuple #[]) ∧ Hid (∃ MF', WNow w w' b bp bf (n + 1) MP MF (fun q => q ≠ p) (fun q j => if q = p then x else wordAt MP MF A q j) MP MF' A) := by
  have c9 := h.c9
  by_cases h0 : x = 0
  · subst h0
    have FIN : Hid (∃ MF', WNow w w b bp bf (n + 1) MP MF (fun q => q ≠ p) (fun q j => if q = p then 0 else wordAt MP MF A q j) MP MF' A) := by
      refine hide ⟨MF, (WNow.refl h _).weak (by omega) (fun _ h => h) (fun q k _ => ?_)⟩
      by_cases c : q = p
      · subst c; rw [if_pos rfl]; unfold wordAt; rw [if_pos hz, hz2]
      · rw [if_neg c]
    clear h
    go_enter Try.func64, Try.ntmps64
    go_wp2_with fail
    go_end0
    exact ⟨rfl, FIN⟩
  · obtain ⟨w2, hup, m2, g2⟩ := h.mf.put Try.underlying60 (by unfold maxLen; omega) p hp (v := .int .u64 (x : Int)) (x := x) (ps := []) rfl
    have bx : ((x : Int) != 0) = true := by rw [bne_iff_ne]; omega
    have FIN : Hid (∃ MF', WNow w w2 b bp bf (n + 1) MP MF (fun q => q ≠ p) (fun q j => if q = p then x else wordAt MP MF A q j) MP MF' A) := by
      have hbl := cell_lt c9
      have nb : ∀ y, y < w.heap.size → y ≠ bf → w2.heap[y]? = w.heap[y]? := fun y hy hn => g2.block y hy (by simpa using hn)
      refine hide ⟨_, ⟨?_, ?_, (h.mp.kept (nb bp h.mp.lt h.ne.2.2)).mono (by omega), m2, fun q hq => ?_, h.one, h.sep, h.ne⟩, fun q j hj => ?_, (FrB.grown g2).mono (fun x _ e => Or.inr (Or.inl e)), fun q _ => Or.inl ⟨q, rfl⟩, fun q c a d => ⟨a, by rw [if_neg c]; exact d⟩⟩
      · rw [World.cell?_of_block (nb b hbl (fun e => h.ne.2.1 e.symm))]; exact h.c8
      · rw [World.cell?_of_block (nb b hbl (fun e => h.ne.2.1 e.symm))]; exact h.c9
      · have ar := h.arr q hq
        exact ar.kept (nb _ ar.lt (h.sep q hq).2.2)
      · unfold wordAt
        by_cases c : q = p
        · subst c; simp [hz]
        · simp [c]
    clear h m2 g2
    go_enter Try.func64, Try.ntmps64
    go_wp2_with fail
    go_end0
    exact ⟨rfl, FIN⟩
end Go.Proofs.Ytpceigglilgelaa
