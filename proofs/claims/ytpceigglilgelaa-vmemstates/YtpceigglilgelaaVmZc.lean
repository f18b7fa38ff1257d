/- The landed package's words: forget, zero. -/
import Derived.Test.YtpceigglilgelaaVmZb
namespace Go.Proofs.Ytpceigglilgelaa
open Go.ChangeShapes Go.WideShapes Go.ChangeAt Go.RowKit Go.Proofs.Sp Go.Maps

theorem words_cut {w w1 w2 : World} {b bp bf n : Nat} {MP MF : Nat → Nat} {A : Nat → Nat → Nat} (h : WordsM w b bp bf n MP MF A) {s t : Nat} (g1 : w.grownBy w1 (some bp)) (m1 : MapIs w1 ptrElem bp n (cutM MP s t)) (g2 : w1.grownBy w2 (some bf)) (m2 : MapIs w2 numElem bf n (cutM MF s t)) :
    WNow w w2 b bp bf n MP MF (fun _ => True) (fun q j => if s ≤ q ∧ q < t then 0 else wordAt MP MF A q j) (cutM MP s t) (cutM MF s t) A := by
  have hbl := cell_lt h.c8
  have l1 := g1.size
  have nb : ∀ y, y < w.heap.size → y ≠ bp → y ≠ bf → w2.heap[y]? = w.heap[y]? := fun y hy n1 n2 => by rw [g2.block y (by omega) (by simpa using n2)]; exact g1.block y hy (by simpa using n1)
  have hc : ∀ q, cutM MP s t q ≠ 0 → cutM MP s t q = MP q := fun q hq => by
    unfold cutM at hq ⊢
    by_cases c : s ≤ q ∧ q < t
    · rw [if_pos c] at hq; omega
    · rw [if_neg c]
  refine ⟨⟨?_, ?_, ?_, m2, fun q hq => ?_, fun q r hq hqr => ?_, fun q hq => ?_, h.ne⟩, fun q j hj => ?_, ?_, fun q hq => Or.inl ⟨q, (hc q hq).symm⟩, fun q _ a c => ?_⟩
  · rw [World.cell?_of_block (nb b hbl (fun e => h.ne.1 e.symm) (fun e => h.ne.2.1 e.symm))]; exact h.c8
  · rw [World.cell?_of_block (nb b hbl (fun e => h.ne.1 e.symm) (fun e => h.ne.2.1 e.symm))]; exact h.c9
  · exact m1.kept (g2.block bp m1.lt (by simpa using h.ne.2.2))
  · have e := hc q hq
    rw [e] at hq ⊢
    have ar := h.arr q hq
    exact ar.kept (nb _ ar.lt (h.sep q hq).2.1 (h.sep q hq).2.2)
  · have e1 := hc q hq
    have e2 := hc r (by omega)
    exact h.one q r (by omega) (by omega)
  · have e := hc q hq
    rw [e] at hq ⊢
    exact h.sep q hq
  · unfold wordAt cutM
    by_cases c : s ≤ q ∧ q < t
    · simp [c]
    · simp [c]
  · refine ⟨g2.os.trans g1.os, g2.tape.trans g1.tape, g2.output.trans g1.output, Nat.le_trans g1.size g2.size, fun x hx hn => nb x hx (fun e => hn (Or.inl e)) (fun e => hn (Or.inr (Or.inl e)))⟩
  · unfold cutM
    simp [a, c]
set_option maxHeartbeats 1000000 in
theorem forget_cut (b bp bf n : Nat) (MP MF : Nat → Nat) (A : Nat → Nat → Nat) (w : World) (h : WordsM w b bp bf n MP MF A) (hn : n ≤ 4398046511104) (s t : Int) (hs : 0 ≤ s) (hst : s ≤ t) (ht : t < 9223372036854775808) :
    Calls Try.prog 40 #[.pointer (some ⟨b, 8, none⟩), .int .u64 s, .int .u64 t] w fun e w' => e = .returned (.tuple #[]) ∧ Hid (WNow w w' b bp bf n MP MF (fun _ => True) (fun q j => if s.toNat ≤ q ∧ q < t.toNat then 0 else wordAt MP MF A q j) (cutM MP s.toNat t.toNat) (cutM MF s.toNat t.toNat) A) := by
  have c8 := h.c8
  have c9 := h.c9
  have hbl := cell_lt h.c8
  have D1 := hide (drop_ptr bp n MP w h.mp hn s t hs hst ht)
  have H := hide h
  clear h
  obtain ⟨PO, hPO⟩ : ∃ PO : World → Prop, PO = fun w' => WNow w w' b bp bf n MP MF (fun _ => True) (fun q j => if s.toNat ≤ q ∧ q < t.toNat then 0 else wordAt MP MF A q j) (cutM MP s.toNat t.toNat) (cutM MF s.toNat t.toNat) A := ⟨_, rfl⟩
  have PE := hide hPO
  have := congrFun hPO
  suffices Calls Try.prog 40 #[.pointer (some ⟨b, 8, none⟩), .int .u64 s, .int .u64 t] w fun e w' => e = .returned (.tuple #[]) ∧ Hid (PO w') by rw [hPO] at this; exact this
  clear this hPO
  go_enter Try.func40, Try.ntmps40
  go_wp2_with (first
    | (go_at_call 68; refine D1.out.mono ?_; rintro e w1 ⟨rfl, hM1, hG1⟩; have hb9 : w1.cell? ⟨b, 9, none⟩ = some (.map (some bf)) := (by rw [World.cell?_of_block (hG1.out.block b hbl (by have := H.out.ne.1; simp; omega))]; exact c9))
    | (go_at_call 69; refine (drop_num bf n MF _ (H.out.mf.kept (hG1.out.block bf H.out.mf.lt (by have := H.out.ne.2.2; simp; omega))) hn s t hs hst ht).mono ?_; rintro e w2 ⟨rfl, hM2, hG2⟩))
  go_end0
  exact ⟨rfl, hide (by rw [PE.out]; exact words_cut H.out hG1.out hM1.out hG2.out hM2.out)⟩
theorem forget_core (b bp bf n : Nat) (MP MF : Nat → Nat) (A : Nat → Nat → Nat) (w : World) (h : WordsM w b bp bf n MP MF A) (hn : n ≤ 4398046511104) (s t : Int) (hs : 0 ≤ s) (hst : s ≤ t) (ht : t < 9223372036854775808) :
    Calls Try.prog 40 #[.pointer (some ⟨b, 8, none⟩), .int .u64 s, .int .u64 t] w fun e w' => e = .returned (.tuple #[]) ∧ Hid (WPost w w' b bp bf n MP MF (fun _ => True) (fun q j => if s.toNat ≤ q ∧ q < t.toNat then 0 else wordAt MP MF A q j)) :=
  (forget_cut b bp bf n MP MF A w h hn s t hs hst ht).mono fun _ _ ⟨h1, h2⟩ => ⟨h1, hide ⟨_, _, _, h2.out⟩⟩
end Go.Proofs.Ytpceigglilgelaa
