/- Commit at the face. -/
import Derived.Test.YtpceigglilgelaaVmVc
namespace Go.Proofs.Ytpceigglilgelaa
open Go.ChangeShapes Go.WideShapes Go.ChangeAt Go.RowKit Go.Proofs.Sp

theorem readyN_split (S : Sp) (page n : Nat) : ∀ m, readyN S page (n + m) = readyN (readyN S page n) (page + n) m
  | 0 => rfl
  | m + 1 => by
    show readyOne (readyN S page (n + m)) (page + (n + m)) = readyOne (readyN (readyN S page n) (page + n) m) (page + n + m)
    rw [readyN_split S page n m, Nat.add_assoc]
theorem readyN_id (S : Sp) (page : Nat) : ∀ n, (∀ i, i < n → S.st (page + i) = 2) → readyN S page n = S
  | 0, _ => rfl
  | n + 1, h => by
    show readyOne (readyN S page n) (page + n) = S
    rw [readyN_id S page n (fun i hi => h i (by omega))]
    unfold readyOne
    rw [if_pos (h n (by omega))]
theorem cover_none {f : Nat → Nat} {a e : Nat} {Ps : List (Nat × Nat × Nat)} (h : Cover f a Ps e) : (Ps.any fun x => ((x.2.2 : Int) == 0)) = false ↔ ∀ p, a ≤ p → p < e → f p ≠ 0 := by
  rw [← h.all (fun s => s ≠ 0)]
  simp
structure CommitAt (w wr : World) (b : Nat) (S : Sp) (g0 g1 g2 g cap : Nat) (R : List (Nat × Nat)) (bp bf n : Nat) (MP : Nat → Nat) (A : Nat → Nat → Nat) (page c nk : Nat) (MFk : Nat → Nat) : Prop where
  lies : Lies wr b S.places S.refuse (readyN S page (c - page)).fills S.st g0 g1 g2 g cap R bp bf nk MP MFk A
  moves : Moves (Foot b g0 g1 g2 g bp bf S.places S.refuse S.fills MP) (Foot b g0 g1 g2 g bp bf S.places S.refuse (readyN S page (c - page)).fills MP) w wr
  nle : nk ≤ n + (c - page)
  at_ : ∀ p j, j < 1024 → (readyN S page (c - page)).st p = 2 → (readyN S page (c - page)).wd (p * 8192 + j * 8) = wordAt MP MFk A p j
  non : ∀ p, (readyN S page (c - page)).st p ≠ 2 → MP p = 0 ∧ MFk p = 0
  fi : ∀ x ∈ (readyN S page (c - page)).fills, x < 18446744073709551616
variable {w wr w1 w2 : World} {b : Nat} {S : Sp} {g0 g1 g2 g cap : Nat} {R : List (Nat × Nat)} {bp bf n : Nat} {MP MF : Nat → Nat} {A : Nat → Nat → Nat} {page c d nk K : Nat} {MFk : Nat → Nat}
theorem CommitAt.start (h : Lies w b S.places S.refuse S.fills S.st g0 g1 g2 g cap R bp bf n MP MF A) (k : Fits S K R n MP MF A) (page : Nat) : CommitAt w w b S g0 g1 g2 g cap R bp bf n MP A page page n MF := by
  have e : readyN S page (page - page) = S := by rw [Nat.sub_self]; rfl
  refine ⟨?_, ?_, by omega, ?_, ?_, ?_⟩ <;> rw [e]
  · exact h
  · exact Moves.refl _ _
  · exact k.at_
  · exact k.non
  · exact k.fi
theorem CommitAt.below (h : CommitAt w wr b S g0 g1 g2 g cap R bp bf n MP A page c nk MFk) (k : Below wr.heap.size wr w1) : CommitAt w w1 b S g0 g1 g2 g cap R bp bf n MP A page c nk MFk :=
  ⟨h.lies.below k, h.moves.trans (Moves.below k), h.nle, h.at_, h.non, h.fi⟩
theorem CommitAt.step (hc : page ≤ c) (hd : c ≤ d) : readyN S page (d - page) = readyN (readyN S page (c - page)) c (d - c) := by
  rw [show d - page = (c - page) + (d - c) by omega, readyN_split, show page + (c - page) = c by omega]
theorem CommitAt.st (hc : page ≤ c) {p : Nat} (hp : c ≤ p) : (readyN S page (c - page)).st p = S.st p := by
  rw [readyN_st, if_neg (by omega)]
theorem CommitAt.ready (h : CommitAt w wr b S g0 g1 g2 g cap R bp bf n MP A page c nk MFk) (hc : page ≤ c) (hd : c ≤ d) (hs : ∀ p, c ≤ p → p < d → S.st p = 2) : CommitAt w wr b S g0 g1 g2 g cap R bp bf n MP A page d nk MFk := by
  have e : readyN S page (d - page) = readyN S page (c - page) := by
    rw [CommitAt.step hc hd]
    exact readyN_id _ _ _ (fun i hi => by rw [CommitAt.st hc (by omega)]; exact hs _ (by omega) (by omega))
  have nl := h.nle
  refine ⟨?_, ?_, by omega, ?_, ?_, ?_⟩ <;> rw [e]
  · exact h.lies
  · exact h.moves
  · exact h.at_
  · exact h.non
  · exact h.fi
theorem CommitAt.fresh (h : CommitAt w wr b S g0 g1 g2 g cap R bp bf n MP A page c nk MFk) (hc : page ≤ c) (hd : c ≤ d) (hs : ∀ p, c ≤ p → p < d → S.st p = 1) : CommitAt w wr b S g0 g1 g2 g cap R bp bf n MP A page d nk MFk := by
  have e := CommitAt.step (S := S) hc hd
  obtain ⟨e1, e2⟩ := readyN_new (readyN S page (c - page)) c (d - c) (fun i hi => by rw [CommitAt.st hc (by omega)]; exact hs _ (by omega) (by omega))
  have e3 := readyN_st (readyN S page (c - page)) c (d - c)
  rw [← e] at e1 e2 e3
  have nl := h.nle
  refine ⟨by rw [e1]; exact h.lies, by rw [e1]; exact h.moves, by omega, fun p j hj hp => ?_, fun p hp => ?_, by rw [e1]; exact h.fi⟩
  · rw [e2, show (p * 8192 + j * 8) / 8192 = p by omega]
    by_cases z : c ≤ p ∧ p < c + (d - c)
    · rw [if_pos z]
      obtain ⟨a1, a2⟩ := h.non p (by rw [CommitAt.st hc z.1, hs p z.1 (by omega)]; decide)
      simp [wordAt, a1, a2]
    · rw [if_neg z]
      rw [e3, if_neg z] at hp
      exact h.at_ p j hj hp
  · rw [e3] at hp
    by_cases z : c ≤ p ∧ p < c + (d - c)
    · rw [if_pos z] at hp; exact absurd rfl hp
    · rw [if_neg z] at hp; exact h.non p hp
theorem CommitAt.again {nf : Nat} {MF' : Nat → Nat} (h : CommitAt w wr b S g0 g1 g2 g cap R bp bf n MP A page c nk MFk) (hc : page ≤ c) (hd : c ≤ d) (hs : ∀ p, c ≤ p → p < d → S.st p = 3)
    (k : FillAt wr w1 b S.places S.refuse (readyN S page (c - page)).fills S.st g0 g1 g2 g cap R bp bf nk MP MFk A c (d - c) nf MF') : CommitAt w w1 b S g0 g1 g2 g cap R bp bf n MP A page d nf MF' := by
  have e := CommitAt.step (S := S) hc hd
  obtain ⟨e1, e2⟩ := readyN_again (readyN S page (c - page)) c (d - c) (fun i hi => by rw [CommitAt.st hc (by omega)]; exact hs _ (by omega) (by omega))
  have e3 := readyN_st (readyN S page (c - page)) c (d - c)
  rw [← e] at e1 e2 e3
  have nl := h.nle
  have kl := k.nle
  refine ⟨by rw [e1]; exact k.lies, by rw [e1]; exact h.moves.trans k.moves, by omega, fun p j hj hp => ?_, fun p hp => ?_, by rw [e1]; exact fun x hx => h.fi x (List.mem_of_mem_drop hx)⟩
  · rw [e2, show (p * 8192 + j * 8) / 8192 = p by omega, k.at_ p j hj]
    by_cases z : c ≤ p ∧ p < c + (d - c)
    · rw [if_pos z, if_pos z]
    · rw [if_neg z, if_neg z]
      rw [e3, if_neg z] at hp
      exact h.at_ p j hj hp
  · rw [e3] at hp
    by_cases z : c ≤ p ∧ p < c + (d - c)
    · rw [if_pos z] at hp; exact absurd rfl hp
    · rw [if_neg z] at hp
      obtain ⟨a1, a2⟩ := h.non p hp
      exact ⟨a1, k.non p (by omega) a1 a2⟩
/-- All parts are done, and the rows are set. -/
theorem commit_fits {K' : Nat} {R' : List (Nat × Nat)} (k : Fits S K R n MP MF A) (h : CommitAt w wr b S g0 g1 g2 g cap R bp bf n MP A page (page + c) nk MFk) (hs : ∀ q, page ≤ q → q < page + c → S.st q ≠ 0) (hR : R'.length ≤ R.length + 2) (hK : K + c + 1 ≤ K') (hc : 0 < c) :
    Fits (readyN S page c) K' R' nk MP MFk A := by
  have e : page + c - page = c := by omega
  have st := readyN_st S page c
  have ha := h.at_
  have hn := h.non
  have hf := h.fi
  have nl := h.nle
  rw [e] at ha hn hf nl
  have kl := k.nl
  have kr := k.rl
  have e0 : ∀ q, (readyN S page c).st q = 0 ↔ S.st q = 0 := fun q => by
    rw [st]
    by_cases z : page ≤ q ∧ q < page + c
    · rw [if_pos z]; have := hs q z.1 z.2; omega
    · rw [if_neg z]
  refine ⟨k.wf.ready ((row_all (P := fun x => x ≠ 0)).2 hs), fun p => ?_, ?_, ha, hn, ?_, hf, by omega, by omega⟩
  · rw [e0, e0]; exact k.chunk p
  · rw [e0]; exact k.zero
  · rw [(readyN_keeps S page c).2.1]; exact k.pl
end Go.Proofs.Ytpceigglilgelaa
