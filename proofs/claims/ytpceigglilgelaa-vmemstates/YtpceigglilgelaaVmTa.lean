/- The landed package's invariant; and the lists of what the system will answer. -/
import Derived.Test.YtpceigglilgelaaVmT
namespace Go.Proofs.Ytpceigglilgelaa
open Go.ChangeShapes Go.WideShapes Go.ChangeAt Go.RowKit Go.Proofs.Sp

variable {w w' : World} {b : Nat} {pl : List Nat} {re : List Bool} {fi : List Nat} {f : Nat → Nat} {g0 g1 g2 g cap : Nat} {R : List (Nat × Nat)} {bp bf n : Nat} {MP MF : Nat → Nat} {A : Nat → Nat → Nat}
theorem Cell1.moves {k : Nat} {v : Value} {F F' : Nat → Prop} (h : Cell1 b k w w' v) (hb : F b) (hF : ∀ x, F' x → F x) : Moves F F' w w' :=
  ⟨⟨h.os, h.tape, h.output, h.size, fun x hx hn => h.block x hx (fun e => hn (e ▸ hb))⟩, fun x hx => Or.inl (hF x hx)⟩
theorem tail_ne {α : Type} {l : List α} (h : l.tail ≠ []) : l ≠ [] := fun z => h (by rw [z]; rfl)
theorem Lies.place (h : Lies w b pl re fi f g0 g1 g2 g cap R bp bf n MP MF A) {v : Value} (k : Cell1 b 0 w w' v) (hv : SlB w' v (u64s pl.tail) g0) :
    Lies w' b pl.tail re fi f g0 g1 g2 g cap R bp bf n MP MF A ∧ Moves (Foot b g0 g1 g2 g bp bf pl re fi MP) (Foot b g0 g1 g2 g bp bf pl.tail re fi MP) w w' := by
  obtain ⟨v1, c1, k1⟩ := h.s1
  obtain ⟨v2, c2, k2⟩ := h.s2
  have hgl := h.rows.glt
  refine ⟨⟨⟨v, k.here, hv⟩, ⟨v1, (k.cell 1 (by omega)).trans c1, k.slB k1 h.n1⟩, ⟨v2, (k.cell 2 (by omega)).trans c2, k.slB k2 h.n2⟩, h.rows.kept (fun j j1 j2 => k.cell j (by omega)) k.fz (k.block g hgl h.rows.ne), h.words.kept (k.cell 8 (by omega)) (k.cell 9 (by omega)) (fun x hx => k.block x (h.words.foot hx).1 (h.words.foot hx).2), h.n0, h.n1, h.n2, fun z => h.d0 (tail_ne z), h.d1, h.d2, h.dg⟩, k.moves (Or.inl rfl) ?_⟩
  rintro x (hx | hx | hx | hx | hx | hx)
  · exact Or.inl hx
  · exact Or.inr (Or.inl ⟨tail_ne hx.1, hx.2⟩)
  · exact Or.inr (Or.inr (Or.inl hx))
  · exact Or.inr (Or.inr (Or.inr (Or.inl hx)))
  · exact Or.inr (Or.inr (Or.inr (Or.inr (Or.inl hx))))
  · exact Or.inr (Or.inr (Or.inr (Or.inr (Or.inr hx))))
theorem Lies.refuse (h : Lies w b pl re fi f g0 g1 g2 g cap R bp bf n MP MF A) {v : Value} (k : Cell1 b 1 w w' v) (hv : SlB w' v (bools re.tail) g1) :
    Lies w' b pl re.tail fi f g0 g1 g2 g cap R bp bf n MP MF A ∧ Moves (Foot b g0 g1 g2 g bp bf pl re fi MP) (Foot b g0 g1 g2 g bp bf pl re.tail fi MP) w w' := by
  obtain ⟨v0, c0, k0⟩ := h.s0
  obtain ⟨v2, c2, k2⟩ := h.s2
  have hgl := h.rows.glt
  refine ⟨⟨⟨v0, (k.cell 0 (by omega)).trans c0, k.slB k0 h.n0⟩, ⟨v, k.here, hv⟩, ⟨v2, (k.cell 2 (by omega)).trans c2, k.slB k2 h.n2⟩, h.rows.kept (fun j j1 j2 => k.cell j (by omega)) k.fz (k.block g hgl h.rows.ne), h.words.kept (k.cell 8 (by omega)) (k.cell 9 (by omega)) (fun x hx => k.block x (h.words.foot hx).1 (h.words.foot hx).2), h.n0, h.n1, h.n2, h.d0, fun z => h.d1 (tail_ne z), h.d2, h.dg⟩, k.moves (Or.inl rfl) ?_⟩
  rintro x (hx | hx | hx | hx | hx | hx)
  · exact Or.inl hx
  · exact Or.inr (Or.inl hx)
  · exact Or.inr (Or.inr (Or.inl ⟨tail_ne hx.1, hx.2⟩))
  · exact Or.inr (Or.inr (Or.inr (Or.inl hx)))
  · exact Or.inr (Or.inr (Or.inr (Or.inr (Or.inl hx))))
  · exact Or.inr (Or.inr (Or.inr (Or.inr (Or.inr hx))))
theorem Lies.fill (h : Lies w b pl re fi f g0 g1 g2 g cap R bp bf n MP MF A) {v : Value} (k : Cell1 b 2 w w' v) (hv : SlB w' v (u64s fi.tail) g2) :
    Lies w' b pl re fi.tail f g0 g1 g2 g cap R bp bf n MP MF A ∧ Moves (Foot b g0 g1 g2 g bp bf pl re fi MP) (Foot b g0 g1 g2 g bp bf pl re fi.tail MP) w w' := by
  obtain ⟨v0, c0, k0⟩ := h.s0
  obtain ⟨v1, c1, k1⟩ := h.s1
  have hgl := h.rows.glt
  refine ⟨⟨⟨v0, (k.cell 0 (by omega)).trans c0, k.slB k0 h.n0⟩, ⟨v1, (k.cell 1 (by omega)).trans c1, k.slB k1 h.n1⟩, ⟨v, k.here, hv⟩, h.rows.kept (fun j j1 j2 => k.cell j (by omega)) k.fz (k.block g hgl h.rows.ne), h.words.kept (k.cell 8 (by omega)) (k.cell 9 (by omega)) (fun x hx => k.block x (h.words.foot hx).1 (h.words.foot hx).2), h.n0, h.n1, h.n2, h.d0, h.d1, fun z => h.d2 (tail_ne z), h.dg⟩, k.moves (Or.inl rfl) ?_⟩
  rintro x (hx | hx | hx | hx | hx | hx)
  · exact Or.inl hx
  · exact Or.inr (Or.inl hx)
  · exact Or.inr (Or.inr (Or.inl hx))
  · exact Or.inr (Or.inr (Or.inr (Or.inl ⟨tail_ne hx.1, hx.2⟩)))
  · exact Or.inr (Or.inr (Or.inr (Or.inr (Or.inl hx))))
  · exact Or.inr (Or.inr (Or.inr (Or.inr (Or.inr hx))))
/-- The next of the refusals has been taken. -/
theorem took_bool {k gg : Nat} {l : List Bool} {v : Value} (hv : w.cell? ⟨b, k, none⟩ = some v) (h : (l = [] ∧ w' = w) ∨ ∃ v', w' = w.setCell ⟨b, k, none⟩ v' ∧ SlB w v' (bools l.tail) gg) (hs : SlB w v (bools l) gg) (hg : gg ≠ b) : ∃ v', Cell1 b k w w' v' ∧ SlB w' v' (bools l.tail) gg := by
  rcases h with ⟨rfl, rfl⟩ | ⟨v', rfl, h⟩
  · exact ⟨v, Cell1.start hv, hs⟩
  · exact ⟨v', Cell1.put hv, (Cell1.put (v' := v') hv).slB h hg⟩
theorem took_u64 {k gg : Nat} {l : List Nat} {v : Value} (hv : w.cell? ⟨b, k, none⟩ = some v) (h : (l = [] ∧ w' = w) ∨ ∃ v', w' = w.setCell ⟨b, k, none⟩ v' ∧ SlB w v' (u64s l.tail) gg) (hs : SlB w v (u64s l) gg) (hg : gg ≠ b) : ∃ v', Cell1 b k w w' v' ∧ SlB w' v' (u64s l.tail) gg := by
  rcases h with ⟨rfl, rfl⟩ | ⟨v', rfl, h⟩
  · exact ⟨v, Cell1.start hv, hs⟩
  · exact ⟨v', Cell1.put hv, (Cell1.put (v' := v') hv).slB h hg⟩

/-- What the memory says of the space. -/
structure Fits (S : Sp) (K : Nat) (R : List (Nat × Nat)) (n : Nat) (MP MF : Nat → Nat) (A : Nat → Nat → Nat) : Prop where
  wf : WF S
  chunk : ∀ p, S.st p = 0 ↔ S.st (p / 512 * 512) = 0
  zero : S.st 0 = 0
  at_ : ∀ p j, j < 1024 → S.st p = 2 → S.wd (p * 8192 + j * 8) = wordAt MP MF A p j
  non : ∀ p, S.st p ≠ 2 → MP p = 0 ∧ MF p = 0
  pl : ∀ x ∈ S.places, x < 18446744073709551616
  fi : ∀ x ∈ S.fills, x < 18446744073709551616
  rl : R.length ≤ 1 + K
  nl : n ≤ 2 * K
theorem Fits.high {S : Sp} {K : Nat} (h : Fits S K R n MP MF A) (p : Nat) (hp : 34359738368 ≤ p) : S.st p = 0 := by
  cases z : S.st p with
  | zero => rfl
  | succ k => have := h.wf.below p ((h.wf.mem p).1 (by omega)); omega
/-- The invariant. -/
def VI : Inv := fun w m S F K => ∃ b g0 g1 g2 g cap R bp bf n MP MF A, m = ⟨b, 0, none⟩ ∧ F = Foot b g0 g1 g2 g bp bf S.places S.refuse S.fills MP ∧
  Lies w b S.places S.refuse S.fills S.st g0 g1 g2 g cap R bp bf n MP MF A ∧ Fits S K R n MP MF A
theorem VI.wf {w : World} {m : Addr} {S : Sp} {F : Nat → Prop} {K : Nat} (h : VI w m S F K) : WF S := by
  obtain ⟨b, g0, g1, g2, g, cap, R, bp, bf, n, MP, MF, A, _, _, _, k⟩ := h
  exact k.wf
theorem VI.lt {w : World} {m : Addr} {S : Sp} {F : Nat → Prop} {K : Nat} (h : VI w m S F K) (x : Nat) (hx : F x) : x < w.heap.size := by
  obtain ⟨b, g0, g1, g2, g, cap, R, bp, bf, n, MP, MF, A, _, rfl, l, k⟩ := h
  exact l.lt hx
theorem VI.kept {w w' : World} {m : Addr} {S : Sp} {F : Nat → Prop} {K : Nat} (h : VI w m S F K) (hs : w.heap.size ≤ w'.heap.size) (hk : ∀ x, F x → w'.heap[x]? = w.heap[x]?) : VI w' m S F K := by
  obtain ⟨b, g0, g1, g2, g, cap, R, bp, bf, n, MP, MF, A, e, rfl, l, k⟩ := h
  exact ⟨b, g0, g1, g2, g, cap, R, bp, bf, n, MP, MF, A, e, rfl, l.kept hs hk, k⟩
theorem VI.below {w w' : World} {m : Addr} {S : Sp} {F : Nat → Prop} {K : Nat} (h : VI w m S F K) (hk : Below w.heap.size w w') : Step VI F w w' m S K :=
  ⟨F, h.kept hk.size (fun x hx => hk.block x (h.lt x hx)), ⟨hk.os, hk.tape, hk.output, hk.size, fun x hx _ => hk.block x hx⟩, fun _ h => Or.inl h⟩
theorem VI.step {w w' : World} {F' : Nat → Prop} {m : Addr} {S : Sp} {F : Nat → Prop} {K : Nat} (h : Moves F F' w w') (k : VI w' m S F' K) : Step VI F w w' m S K :=
  ⟨F', k, ⟨h.fr.os, h.fr.tape, h.fr.output, h.fr.size, h.fr.block⟩, h.new⟩

theorem vstate {w : World} {m : Addr} {S : Sp} {F : Nat → Prop} {K : Nat} (a : Int) (ha : two64 a) (h : VI w m S F K) (hK : K ≤ lim) :
    Calls Try.prog vm.state #[.pointer (some m), .int .u64 a] w fun e w' => e = .returned (.int .i64 (S.st a.toNat : Nat)) ∧ Step VI F w w' m S K := by
  have V := hide h
  obtain ⟨b, g0, g1, g2, g, cap, R, bp, bf, n, MP, MF, A, rfl, e, l, k⟩ := h
  have h0 := ha.1
  have HL := hide l.rows.listAt
  have HS := hide l.rows.seg
  have HZ := hide k.high
  have rl := k.rl
  have hn : R.length ≤ 70368744177664 := by unfold lim at hK; omega
  clear l k e rl
  show Calls Try.prog 23 _ w _
  go_enter Try.func23, Try.ntmps23
  go_wp2_with fail
  refine (state_core b 3 g cap R S.st a h0 hn w HL.out HS.out HZ.out).mono ?_
  rintro e w' ⟨rfl, B1⟩
  go_wp2_with fail
  go_ret
  exact ⟨rfl, V.out.below B1⟩
end Go.Proofs.Ytpceigglilgelaa
