/- J09 of the proof of both laws: texts VmX, VmY, VmZ, one behind the other. -/
import Derived.Test.YtlfcnaalkjpgnaaJ08
/- The landed package's words: a page's array, which is made if there is none. -/
namespace Go.Proofs.Ytlfcnaalkjpgnaa
open Go.ChangeShapes Go.WideShapes Go.ChangeAt Go.RowKit Go.Proofs.Sp Go.Maps

theorem zeros1024 : Try.zeroCells113 = Array.replicate 1024 (.int .u64 0) := by kernel_rfl
theorem arr_zero (w : World) : ArrAt (w.alloc (.cells Try.zeroCells113 113)) w.heap.size (fun _ => 0) := by
  refine ⟨List.replicate 1024 (.int .u64 0), ?_, List.length_replicate, fun k hk => ?_⟩
  · rw [heap_alloc_new, zeros1024]
    rfl
  · rw [List.getElem?_replicate, if_pos hk]; rfl
theorem ArrAt.put {w : World} {a : Nat} {f : Nat → Nat} (h : ArrAt w a f) (k x : Nat) (hk : k < 1024) : ArrAt (w.setCell ⟨a, k, none⟩ (.int .u64 (x : Int))) a (fun j => if j = k then x else f j) := by
  obtain ⟨arr, h1, h2, h3⟩ := h
  refine ⟨arr.set k (.int .u64 (x : Int)), ?_, by simpa using h2, fun j hj => ?_⟩
  · rw [setCell_eq_setRow w a k arr.toArray _ (0, 0) _ h1, setRow_heap w a _ _ _ _ h1]
    congr 2
    simp
  · show _ = some (Value.int .u64 ((if j = k then x else f j : Nat) : Int))
    by_cases c : j = k
    · subst c; rw [if_pos rfl, List.getElem?_set_self (by omega)]
    · rw [if_neg c, List.getElem?_set_ne (fun z => c z.symm)]; exact h3 j hj
theorem ArrAt.kept {w w' : World} {a : Nat} {f : Nat → Nat} (h : ArrAt w a f) (hb : w'.heap[a]? = w.heap[a]?) : ArrAt w' a f := by
  obtain ⟨arr, h1, h2⟩ := h
  exact ⟨arr, hb.trans h1, h2⟩
theorem ArrAt.lt {w : World} {a : Nat} {f : Nat → Nat} (h : ArrAt w a f) : a < w.heap.size := by
  obtain ⟨arr, h1, _⟩ := h
  exact (Array.getElem?_eq_some_iff.1 h1).1
/-- Nothing old has turned but these blocks. -/
structure FrB (X : Nat → Prop) (w w' : World) : Prop where
  os : w'.os = w.os
  tape : w'.tape = w.tape
  output : w'.output = w.output
  size : w.heap.size ≤ w'.heap.size
  block : ∀ x, x < w.heap.size → ¬ X x → w'.heap[x]? = w.heap[x]?
theorem FrB.refl (X : Nat → Prop) (w : World) : FrB X w w := ⟨rfl, rfl, rfl, Nat.le_refl _, fun _ _ _ => rfl⟩
theorem FrB.trans {X : Nat → Prop} {a b c : World} (h : FrB X a b) (k : FrB X b c) : FrB X a c :=
  ⟨k.os.trans h.os, k.tape.trans h.tape, k.output.trans h.output, Nat.le_trans h.size k.size, fun x hx hn => by rw [k.block x (Nat.lt_of_lt_of_le hx h.size) hn]; exact h.block x hx hn⟩
theorem FrB.mono {X Y : Nat → Prop} {a b : World} (h : FrB X a b) (hy : ∀ x, x < a.heap.size → X x → Y x) : FrB Y a b := ⟨h.os, h.tape, h.output, h.size, fun x hx hn => h.block x hx (fun z => hn (hy x hx z))⟩
theorem FrB.grown {w w' : World} {b : Nat} (h : w.grownBy w' (some b)) : FrB (fun x => x = b) w w' := ⟨h.os, h.tape, h.output, h.size, fun x hx hn => h.block x hx (by simpa using hn)⟩
theorem FrB.set {X : Nat → Prop} {a w : World} (h : FrB X a w) {p : Addr} (hp : X p.block ∨ a.heap.size ≤ p.block) (u : Value) : FrB X a (w.setCell p u) :=
  ⟨h.os, h.tape, h.output, by simpa using h.size, fun x hx hn => by
    rw [Below.heap_setCell _ _ _ _ (fun e => by subst e; rcases hp with hp | hp; exact hn hp; omega)]
    exact h.block x hx hn⟩
theorem FrB.alloc {X : Nat → Prop} {a w : World} (h : FrB X a w) (o : Obj) : FrB X a (w.alloc o) :=
  ⟨h.os, h.tape, h.output, by have := h.size; simp; omega, fun x hx hn => by rw [Below.heap_alloc w o x (Nat.lt_of_lt_of_le hx h.size)]; exact h.block x hx hn⟩

set_option maxRecDepth 100000 in
set_option maxHeartbeats 2000000 in
/-- A page's array, where there is one. -/
theorem array_has (b bp bf n p a : Nat) (MP MF : Nat → Nat) (A : Nat → Nat → Nat) (w : World) (h : WordsM w b bp bf n MP MF A) (hp : p < 18446744073709551616) (ha : MP p = a + 1) :
    Calls Try.prog 73 #[.pointer (some ⟨b, 8, none⟩), .int .u64 (p : Int)] w fun e w' => e = .returned (.pointer (some ⟨a, 0, none⟩)) ∧ w' = w := by
  have c8 := h.c8
  obtain ⟨v, hrun, hv⟩ := look_ptr h.mp p hp
  rcases hv with ⟨hz, _⟩ | ⟨x, hx, rfl⟩
  · omega
  · obtain rfl : x = a := by omega
    clear h hx
    go_enter Try.func73, Try.ntmps73
    go_wp2_with fail
    go_ret
    exact ⟨rfl, rfl⟩
theorem FrB.cell {X : Nat → Prop} {w w' : World} (h : FrB X w w') {b k : Nat} (hb : b < w.heap.size) (hx : ¬ X b) : w'.cell? ⟨b, k, none⟩ = w.cell? ⟨b, k, none⟩ := World.cell?_of_block (h.block b hb hx)
/-- Behind a page's array was made. -/
theorem words_made {w w' : World} {b bp bf n p a : Nat} {MP MF MF' : Nat → Nat} {A : Nat → Nat → Nat} {f : Nat → Nat} (h : WordsM w b bp bf n MP MF A) (hz : MP p = 0) (hf : FrB (fun x => x = bp ∨ x = bf) w w') (hm : MapIs w' ptrElem bp (n + 1) (fun q => if q = p then a + 1 else MP q)) (hn : MapIs w' numElem bf (n + 1) MF') (ha : ArrAt w' a f) (hal : w.heap.size ≤ a) :
    WordsM w' b bp bf (n + 1) (fun q => if q = p then a + 1 else MP q) MF' (fun q => if q = p then f else A q) := by
  have hbl := cell_lt h.c8
  obtain ⟨n1, n2, n3⟩ := h.ne
  have l1 := h.mp.lt
  have l2 := h.mf.lt
  refine ⟨?_, ?_, hm, hn, fun q hq => ?_, fun q r hq hqr => ?_, fun q hq => ?_, h.ne⟩
  · rw [hf.cell hbl (by rintro (e | e); exact n1 e.symm; exact n2 e.symm)]; exact h.c8
  · rw [hf.cell hbl (by rintro (e | e); exact n1 e.symm; exact n2 e.symm)]; exact h.c9
  · by_cases c : q = p
    · subst c
      simp only [if_true] at hq ⊢
      simpa using ha
    · simp only [if_neg c] at hq ⊢
      have ar := h.arr q hq
      obtain ⟨s1, s2, s3⟩ := h.sep q hq
      exact ar.kept (hf.block _ ar.lt (by rintro (e | e); exact s2 e; exact s3 e))
  · by_cases c : q = p
    · by_cases d : r = p
      · rw [c, d]
      · simp only [if_pos c, if_neg d] at hq hqr
        have ar := (h.arr r (by omega)).lt
        omega
    · by_cases d : r = p
      · simp only [if_neg c, if_pos d] at hq hqr
        have ar := (h.arr q hq).lt
        omega
      · simp only [if_neg c, if_neg d] at hq hqr
        exact h.one q r hq hqr
  · by_cases c : q = p
    · simp only [if_pos c] at hq ⊢
      exact ⟨by omega, by omega, by omega⟩
    · simp only [if_neg c] at hq ⊢
      exact h.sep q hq
set_option maxRecDepth 100000 in
set_option maxHeartbeats 2000000 in
/-- .. where there is none, and all words are 0. -/
theorem array_zero (b bp bf n p : Nat) (MP MF : Nat → Nat) (A : Nat → Nat → Nat) (w : World) (h : WordsM w b bp bf n MP MF A) (hp : p < 18446744073709551616) (hz : MP p = 0) (hz2 : MF p = 0) (hn : n ≤ 4398046511104) :
    Calls Try.prog 73 #[.pointer (some ⟨b, 8, none⟩), .int .u64 (p : Int)] w fun e w' => e = .returned (.pointer (some ⟨w.heap.size, 0, none⟩)) ∧ WordsM w' b bp bf (n + 1) (fun q => if q = p then w.heap.size + 1 else MP q) MF (fun q => if q = p then (fun _ => 0) else A q) ∧ FrB (fun x => x = bp ∨ x = bf) w w' := by
  have c8 := h.c8
  have c9 := h.c9
  have hbl := cell_lt c8
  obtain ⟨v, hrun, hv⟩ := look_ptr h.mp p hp
  rcases hv with ⟨_, rfl⟩ | ⟨x, hx, _⟩
  · have l1 := h.mp.lt
    have l2 := h.mf.lt
    have mf1 : MapIs (w.alloc (.cells Try.zeroCells113 113)) numElem bf n MF := h.mf.kept (Below.heap_alloc w _ bf l2)
    have mp1 : MapIs (w.alloc (.cells Try.zeroCells113 113)) ptrElem bp n MP := h.mp.kept (Below.heap_alloc w _ bp l1)
    have hnum : (Instr.lookup 48 (.map (some bf)) (.int .u64 (p : Int)) false).run Try.prog (w.alloc (.cells Try.zeroCells113 113)) = .ok (.int .u64 0) (w.alloc (.cells Try.zeroCells113 113)) := by
      have := look_num mf1 p hp
      rw [hz2] at this
      exact this
    obtain ⟨w2, hup, m2, g2⟩ := mp1.put Try.underlying47 (by unfold maxLen; omega) p hp (v := .pointer (some ⟨w.heap.size, 0, none⟩)) (x := w.heap.size + 1) (ps := []) (by simp [ptrElem, dat])
    have fr : FrB (fun x => x = bp ∨ x = bf) w w2 := ((FrB.refl _ w).alloc _).trans ((FrB.grown g2).mono (fun x _ e => Or.inl e))
    have ar2 : ArrAt w2 w.heap.size (fun _ => 0) := (arr_zero w).kept (g2.block _ (by simp) (by simp; omega))
    have mf2 : MapIs w2 numElem bf (n + 1) MF := (mf1.kept (g2.block _ (by simp; omega) (by have := h.ne.2.2; simp; omega))).mono (by omega)
    have FIN := hide (And.intro (words_made h hz fr m2 mf2 ar2 (Nat.le_refl _)) fr)
    clear h mf1 mp1 m2 g2 fr ar2 mf2
    go_enter Try.func73, Try.ntmps73
    go_wp2_with fail
    go_ret
    exact ⟨rfl, FIN.out⟩
  · omega
end Go.Proofs.Ytlfcnaalkjpgnaa

/- The landed package's words: a page's array, made of its fill; store; fill. -/
namespace Go.Proofs.Ytlfcnaalkjpgnaa
open Go.ChangeShapes Go.WideShapes Go.ChangeAt Go.RowKit Go.Proofs.Sp Go.Maps

set_option maxRecDepth 100000 in
set_option maxHeartbeats 2000000 in
theorem array_fill (b bp bf n p x : Nat) (MP MF : Nat → Nat) (A : Nat → Nat → Nat) (w : World) (h : WordsM w b bp bf n MP MF A) (hp : p < 18446744073709551616) (hz : MP p = 0) (hx : MF p = x) (hx0 : x ≠ 0) (hn : n ≤ 4398046511104) :
    Calls Try.prog 73 #[.pointer (some ⟨b, 8, none⟩), .int .u64 (p : Int)] w fun e w' => e = .returned (.pointer (some ⟨w.heap.size, 0, none⟩)) ∧ WordsM w' b bp bf (n + 1) (fun q => if q = p then w.heap.size + 1 else MP q) (fun q => if q = p then 0 else MF q) (fun q => if q = p then (fun _ => x) else A q) ∧ FrB (fun x => x = bp ∨ x = bf) w w' := by
  have c8 := h.c8
  have c9 := h.c9
  have hbl := cell_lt c8
  obtain ⟨v, hrun, hv⟩ := look_ptr h.mp p hp
  rcases hv with ⟨_, rfl⟩ | ⟨y, hy, _⟩
  · have l1 := h.mp.lt
    have l2 := h.mf.lt
    have mf1 : MapIs (w.alloc (.cells Try.zeroCells113 113)) numElem bf n MF := h.mf.kept (Below.heap_alloc w _ bf l2)
    have hnum := look_num mf1 p hp
    rw [hx] at hnum
    have bx : ((x : Int) != 0) = true := by rw [bne_iff_ne]; omega
    have az := arr_zero w
    have AZ := hide az
    have H := hide h
    clear h mf1 az
    go_enter Try.func73, Try.ntmps73
    go_wp2_with fail
    go_loopw [27] (fun iv wr => ∃ k : Nat, iv = .int .i64 (k : Int) ∧ k ≤ 1024 ∧ Hid (ArrAt wr w.heap.size (fun j => if j < k then x else 0)) ∧ FrB (fun _ => False) w wr) (fun iv _ => 1024 - (intOf iv).toNat)
    case atStart => exact ⟨0, rfl, by omega, hide (by have := AZ.out; simpa using this), (FrB.refl _ w).alloc _⟩
    case round =>
      obtain ⟨k, rfl, hk, hA, hF⟩ := hrel
      have hbr : wr.cell? ⟨b, 8, none⟩ = some (.map (some bp)) := by rw [hF.cell hbl (fun z => z)]; exact c8
      have hb9 : wr.cell? ⟨b, 9, none⟩ = some (.map (some bf)) := by rw [hF.cell hbl (fun z => z)]; exact c9
      by_cases hlt : k < 1024
      · have hc := hA.out.cell k hlt
        have hfz := hA.out.fz k
        have nxt := hA.out.put k x hlt
        have NX : Hid (ArrAt (wr.setCell ⟨w.heap.size, k, none⟩ (.int .u64 (x : Int))) w.heap.size (fun j => if j < k + 1 then x else 0)) := by
          have e : (fun j => if j < k + 1 then x else 0) = (fun j => if j = k then x else if j < k then x else 0) := by
            funext j
            by_cases c : j = k
            · rw [if_pos c, if_pos (by omega)]
            · rw [if_neg c]
              by_cases d : j < k
              · rw [if_pos d, if_pos (by omega)]
              · rw [if_neg d, if_neg (by omega)]
          rw [e]; exact nxt
        have k1 : (k : Int) < 1024 := by omega
        clear nxt
        go_wp2_with fail
        go_roundw
        case rel => exact ⟨k + 1, by go_num, by omega, NX, hF.set (Or.inr (Nat.le_refl _)) _⟩
        case measure => simp [intOf]; omega
      · obtain rfl : k = 1024 := by omega
        have hh := H.out
        have mf1 : MapIs wr numElem bf n MF := hh.mf.kept (hF.block bf l2 (fun z => z))
        have mp1 : MapIs wr ptrElem bp n MP := hh.mp.kept (hF.block bp l1 (fun z => z))
        obtain ⟨w2, hdel, m2, g2⟩ := mf1.del (ty := 0) Try.underlying48 p hp
        have l3 := hF.size
        have hla := hA.out.lt
        have mp2 : MapIs w2 ptrElem bp n MP := mp1.kept (g2.block bp (by omega) (by have := hh.ne.2.2; simp; omega))
        obtain ⟨w3, hup, m3, g3⟩ := mp2.put Try.underlying47 (by unfold maxLen; omega) p hp (v := .pointer (some ⟨w.heap.size, 0, none⟩)) (x := w.heap.size + 1) (ps := []) (by simp [ptrElem, dat])
        have l4 := g2.size
        have fr : FrB (fun x => x = bp ∨ x = bf) w w3 := ((hF.mono (fun x _ e => e.elim)).trans ((FrB.grown g2).mono (fun x _ e => Or.inr e))).trans ((FrB.grown g3).mono (fun x _ e => Or.inl e))
        have ar3 : ArrAt w3 w.heap.size (fun _ => x) := by
          have a2 := (hA.out.kept (g2.block _ hla (by simp; omega))).kept (g3.block _ (by omega) (by simp; omega))
          obtain ⟨arr, q1, q2, q3⟩ := a2
          exact ⟨arr, q1, q2, fun j hj => by have := q3 j hj; simp only [if_pos hj] at this; exact this⟩
        have mf3 : MapIs w3 numElem bf (n + 1) (fun q => if q = p then 0 else MF q) := (m2.kept (g3.block _ (by omega) (by have := hh.ne.2.2; simp; omega))).mono (by omega)
        have FIN := hide (And.intro (words_made hh hz fr m3 mf3 ar3 (Nat.le_refl _)) fr)
        have hb2 : w2.cell? ⟨b, 8, none⟩ = some (.map (some bp)) := by rw [World.cell?_of_block (g2.block b (by omega) (by have := hh.ne.2.1; simp; omega))]; exact hbr
        clear mf1 mp1 m2 g2 mp2 m3 g3 fr ar3 mf3 hh hA
        go_wp2_with fail
        go_ret
        exact ⟨rfl, FIN.out⟩
  · omega
end Go.Proofs.Ytlfcnaalkjpgnaa

/- The landed package's words: what a change leaves; store, fill. -/
namespace Go.Proofs.Ytlfcnaalkjpgnaa
open Go.ChangeShapes Go.WideShapes Go.ChangeAt Go.RowKit Go.Proofs.Sp Go.Maps
set_option linter.unusedVariables false
set_option linter.unusedSimpArgs false

/-- The blocks of the words. -/
def WFoot (bp bf : Nat) (MP : Nat → Nat) (x : Nat) : Prop := x = bp ∨ x = bf ∨ ∃ q, MP q = x + 1
/-- The words are W now; pages of Z that had nothing have nothing. -/
structure WNow (w w' : World) (b bp bf n : Nat) (MP MF : Nat → Nat) (Z : Nat → Prop) (W : Nat → Nat → Nat) (MP' MF' : Nat → Nat) (A' : Nat → Nat → Nat) : Prop where
  wm : WordsM w' b bp bf n MP' MF' A'
  at_ : ∀ p k, k < 1024 → wordAt MP' MF' A' p k = W p k
  fr : FrB (WFoot bp bf MP) w w'
  old : ∀ q, MP' q ≠ 0 → (∃ r, MP r = MP' q) ∨ w.heap.size ≤ MP' q - 1
  non : ∀ q, Z q → MP q = 0 → MF q = 0 → MP' q = 0 ∧ MF' q = 0
def WPost (w w' : World) (b bp bf n : Nat) (MP MF : Nat → Nat) (Z : Nat → Prop) (W : Nat → Nat → Nat) : Prop := ∃ MP' MF' A', WNow w w' b bp bf n MP MF Z W MP' MF' A'
theorem WNow.refl {w : World} {b bp bf n : Nat} {MP MF : Nat → Nat} {A : Nat → Nat → Nat} (h : WordsM w b bp bf n MP MF A) (Z : Nat → Prop) : WNow w w b bp bf n MP MF Z (wordAt MP MF A) MP MF A :=
  ⟨h, fun _ _ _ => rfl, FrB.refl _ _, fun q _ => Or.inl ⟨q, rfl⟩, fun _ _ a c => ⟨a, c⟩⟩
theorem WordsM.mono {w : World} {b bp bf n n' : Nat} {MP MF : Nat → Nat} {A : Nat → Nat → Nat} (h : WordsM w b bp bf n MP MF A) (hn : n ≤ n') : WordsM w b bp bf n' MP MF A := ⟨h.c8, h.c9, h.mp.mono hn, h.mf.mono hn, h.arr, h.one, h.sep, h.ne⟩
theorem WordsM.foot {w : World} {b bp bf n : Nat} {MP MF : Nat → Nat} {A : Nat → Nat → Nat} (h : WordsM w b bp bf n MP MF A) {x : Nat} (hx : WFoot bp bf MP x) : x < w.heap.size ∧ x ≠ b := by
  rcases hx with rfl | rfl | ⟨q, hq⟩
  · exact ⟨h.mp.lt, h.ne.1⟩
  · exact ⟨h.mf.lt, h.ne.2.1⟩
  · have := (h.arr q (by omega)).lt
    have s := (h.sep q (by omega)).1
    rw [hq] at this s
    exact ⟨by omega, by omega⟩
theorem WNow.step {w w' w'' : World} {b bp bf n n' : Nat} {MP MF MP' MF' MP'' MF'' : Nat → Nat} {A' A'' : Nat → Nat → Nat} {Z Z' : Nat → Prop} {W W' : Nat → Nat → Nat} (h : WNow w w' b bp bf n MP MF Z W MP' MF' A') (k : WNow w' w'' b bp bf n' MP' MF' Z' W' MP'' MF'' A'') :
    WNow w w'' b bp bf n' MP MF (fun q => Z q ∧ Z' q) W' MP'' MF'' A'' := by
  refine ⟨k.wm, k.at_, ?_, fun q hq => ?_, fun q hz a c => ?_⟩
  · refine ⟨k.fr.os.trans h.fr.os, k.fr.tape.trans h.fr.tape, k.fr.output.trans h.fr.output, Nat.le_trans h.fr.size k.fr.size, fun x hx hn => ?_⟩
    rw [k.fr.block x (Nat.lt_of_lt_of_le hx h.fr.size)]
    · exact h.fr.block x hx hn
    · intro z
      rcases z with rfl | rfl | ⟨r, hr⟩
      · exact hn (Or.inl rfl)
      · exact hn (Or.inr (Or.inl rfl))
      · rcases h.old r (by omega) with ⟨s, hs⟩ | hs
        · exact hn (Or.inr (Or.inr ⟨s, by omega⟩))
        · omega
  · rcases k.old q hq with ⟨r, hr⟩ | hr
    · rw [← hr]
      exact h.old r (by omega)
    · exact Or.inr (Nat.le_trans h.fr.size hr)
  · obtain ⟨a', c'⟩ := h.non q hz.1 a c
    exact k.non q hz.2 a' c'
theorem WNow.weak {w w' : World} {b bp bf n n' : Nat} {MP MF : Nat → Nat} {Z Z' : Nat → Prop} {W W' : Nat → Nat → Nat} {MP' MF' : Nat → Nat} {A' : Nat → Nat → Nat} (h : WNow w w' b bp bf n MP MF Z W MP' MF' A') (hn : n ≤ n') (hz : ∀ q, Z' q → Z q) (hw : ∀ p k, k < 1024 → W p k = W' p k) : WNow w w' b bp bf n' MP MF Z' W' MP' MF' A' :=
  ⟨h.wm.mono hn, fun p k hk => (h.at_ p k hk).trans (hw p k hk), h.fr, h.old, fun q z => h.non q (hz q z)⟩
theorem array_core (b bp bf n p : Nat) (MP MF : Nat → Nat) (A : Nat → Nat → Nat) (w : World) (h : WordsM w b bp bf n MP MF A) (hp : p < 18446744073709551616) (hn : n ≤ 4398046511104) :
    Calls Try.prog 73 #[.pointer (some ⟨b, 8, none⟩), .int .u64 (p : Int)] w fun e w' => ∃ a MP' MF' A', e = .returned (.pointer (some ⟨a, 0, none⟩)) ∧ Hid (MP' p = a + 1) ∧ Hid (WNow w w' b bp bf (n + 1) MP MF (fun q => q ≠ p) (wordAt MP MF A) MP' MF' A') := by
  by_cases hz : MP p = 0
  · by_cases hx : MF p = 0
    · refine (array_zero b bp bf n p MP MF A w h hp hz hx hn).mono ?_
      rintro e w' ⟨rfl, h1, h2⟩
      refine ⟨w.heap.size, _, _, _, rfl, ?_, hide ⟨h1, fun q k hk => ?_, h2.mono (fun x _ e => by rcases e with e | e; exact Or.inl e; exact Or.inr (Or.inl e)), fun q hq => ?_, fun q hz a c => ⟨(if_neg hz).trans a, c⟩⟩⟩
      · exact hide (if_pos rfl)
      · unfold wordAt
        by_cases c : q = p
        · subst c; simp [hz, hx]
        · simp [c]
      · by_cases c : q = p
        · right; rw [if_pos c]; omega
        · left; exact ⟨q, by rw [if_neg c]⟩
    · refine (array_fill b bp bf n p _ MP MF A w h hp hz rfl hx hn).mono ?_
      rintro e w' ⟨rfl, h1, h2⟩
      refine ⟨w.heap.size, _, _, _, rfl, ?_, hide ⟨h1, fun q k hk => ?_, h2.mono (fun x _ e => by rcases e with e | e; exact Or.inl e; exact Or.inr (Or.inl e)), fun q hq => ?_, fun q hz a c => ⟨(if_neg hz).trans a, (if_neg hz).trans c⟩⟩⟩
      · exact hide (if_pos rfl)
      · unfold wordAt
        by_cases c : q = p
        · subst c; simp [hz]
        · simp [c]
      · by_cases c : q = p
        · right; rw [if_pos c]; omega
        · left; exact ⟨q, by rw [if_neg c]⟩
  · obtain ⟨a, ha⟩ : ∃ a, MP p = a + 1 := ⟨MP p - 1, by omega⟩
    refine (array_has b bp bf n p a MP MF A w h hp ha).mono ?_
    rintro e w' ⟨rfl, hw⟩
    subst hw
    exact ⟨_, _, _, _, rfl, hide ha, hide ((WNow.refl h _).weak (by omega) (fun _ h => h) (fun _ _ _ => rfl))⟩
/-- Behind a word of a page's array was set. -/
theorem WNow.put {w w' : World} {b bp bf n : Nat} {MP MF : Nat → Nat} {Z : Nat → Prop} {W : Nat → Nat → Nat} {MP' MF' : Nat → Nat} {A' : Nat → Nat → Nat} (h : WNow w w' b bp bf n MP MF Z W MP' MF' A') {p a : Nat} (ha : MP' p = a + 1) {k : Nat} (hk : k < 1024) (x : Nat) {f : Nat → Nat} {w'' : World} (hf : ∀ j, j < 1024 → f j = if j = k then x else A' p j)
    (hw : w'' = w'.setCell ⟨a, k, none⟩ (.int .u64 (x : Int))) : WNow w w'' b bp bf n MP MF Z (fun q j => if q = p ∧ j = k then x else W q j) MP' MF' (fun q => if q = p then f else A' q) := by
  have ar := h.wm.arr p (by omega)
  rw [ha, Nat.add_sub_cancel] at ar
  have sp := h.wm.sep p (by omega)
  rw [ha, Nat.add_sub_cancel] at sp
  have nb : ∀ y, y ≠ a → w''.heap[y]? = w'.heap[y]? := fun y hy => by rw [hw]; exact Below.heap_setCell _ _ _ _ (fun e => hy (by simpa using e))
  refine ⟨⟨?_, ?_, h.wm.mp.kept (nb bp (fun e => sp.2.1 e.symm)), h.wm.mf.kept (nb bf (fun e => sp.2.2 e.symm)), fun q hq => ?_, h.wm.one, h.wm.sep, h.wm.ne⟩, fun q j hj => ?_, ?_, h.old, h.non⟩
  · rw [World.cell?_of_block (nb b (fun e => sp.1 e.symm))]; exact h.wm.c8
  · rw [World.cell?_of_block (nb b (fun e => sp.1 e.symm))]; exact h.wm.c9
  · by_cases c : q = p
    · subst c
      simp only [if_true]
      rw [ha, Nat.add_sub_cancel, hw]
      obtain ⟨arr, q1, q2, q3⟩ := ar.put k x hk
      exact ⟨arr, q1, q2, fun j hj => by have := q3 j hj; rw [this, hf j hj]⟩
    · simp only [if_neg c]
      refine (h.wm.arr q hq).kept (nb _ (fun e => c (h.wm.one q p hq (by omega))))
  · have h0 := h.at_ q j hj
    unfold wordAt at h0 ⊢
    by_cases c : q = p
    · subst c
      have : MP' q ≠ 0 := by omega
      rw [if_neg this] at h0
      simp only [if_neg this, if_true, true_and]
      rw [hf j hj, h0]
    · simp only [c, if_false, false_and]
      exact h0
  · have : FrB (WFoot bp bf MP) w w'' := by
      rw [hw]
      refine h.fr.set ?_ _
      rcases h.old p (by omega) with ⟨r, hr⟩ | hr
      · exact Or.inl (Or.inr (Or.inr ⟨r, by show MP r = a + 1; omega⟩))
      · right; show _ ≤ a; omega
    exact this
set_option maxRecDepth 100000 in
set_option maxHeartbeats 2000000 in
theorem wstore_core (b bp bf n : Nat) (MP MF : Nat → Nat) (A : Nat → Nat → Nat) (w : World) (h : WordsM w b bp bf n MP MF A) (hn : n ≤ 4398046511104) (a : Int) (ha : 0 ≤ a) (ha' : a < 18446744073709551616) (x : Nat) (hx : x < 18446744073709551616) :
    Calls Try.prog 53 #[.pointer (some ⟨b, 8, none⟩), .int .u64 a, .int .u64 (x : Int)] w fun e w' => e = .returned (.tuple #[]) ∧ Hid (WPost w w' b bp bf (n + 1) MP MF (fun q => q ≠ a.toNat / 8192) (fun q j => if q = a.toNat / 8192 ∧ j = a.toNat % 8192 / 8 then x else wordAt MP MF A q j)) := by
  obtain ⟨p, hpe⟩ : ∃ p : Nat, p = a.toNat / 8192 := ⟨_, rfl⟩
  obtain ⟨k, hke⟩ : ∃ k : Nat, k = a.toNat % 8192 / 8 := ⟨_, rfl⟩
  have hp1 : (a / 8192 : Int) = (p : Int) := by omega
  have hk1 : (a % 8192 / 8 : Int) = (k : Int) := by omega
  have hk2 : k < 1024 := by omega
  have hpl : p < 18446744073709551616 := by omega
  rw [← hpe, ← hke]
  have HP := hide hp1
  have HK := hide hk1
  have hk3 : (k : Int) < 1024 := by omega
  have AC := hide (array_core b bp bf n p MP MF A w h hpl hn)
  clear h hpe hke hp1 hk1
  go_enter Try.func53, Try.ntmps53
  go_wp2_with (first
    | (go_at_call 72; refine (split_core a ha ha' _).mono ?_; rintro e w' ⟨rfl, rfl⟩; rw [HP.out, HK.out])
    | (go_at_call 73; refine AC.out.mono ?_; rintro e w' ⟨y, MP', MF', A', rfl, hy, hN⟩; have hc := (by have := hN.out.wm.arr p (by rw [hy.out]; omega); rw [hy.out, Nat.add_sub_cancel] at this; exact And.intro (this.cell k hk2) (this.fz k)); obtain ⟨hc, hfz⟩ := hc))
  go_end0
  exact ⟨rfl, hide ⟨_, _, _, hN.out.put hy.out hk2 x (f := fun j => if j = k then x else A' p j) (fun _ _ => rfl) rfl⟩⟩
set_option maxHeartbeats 1000000 in
theorem wfill_core (b bp bf n p x : Nat) (MP MF : Nat → Nat) (A : Nat → Nat → Nat) (w : World) (h : WordsM w b bp bf n MP MF A) (hn : n ≤ 4398046511104) (hp : p < 18446744073709551616) (hx : x < 18446744073709551616) (hz : MP p = 0) (hz2 : MF p = 0) :
    Calls Try.prog 67 #[.pointer (some ⟨b, 8, none⟩), .int .u64 (p : Int), .int .u64 (x : Int)] w fun e w' => e = .returned (.tuple #[]) ∧ Hid (∃ MF', WNow w w' b bp bf (n + 1) MP MF (fun q => q ≠ p) (fun q j => if q = p then x else wordAt MP MF A q j) MP MF' A) := by
  have c9 := h.c9
  by_cases h0 : x = 0
  · subst h0
    have FIN : Hid (∃ MF', WNow w w b bp bf (n + 1) MP MF (fun q => q ≠ p) (fun q j => if q = p then 0 else wordAt MP MF A q j) MP MF' A) := by
      refine hide ⟨MF, (WNow.refl h _).weak (by omega) (fun _ h => h) (fun q k _ => ?_)⟩
      by_cases c : q = p
      · subst c; rw [if_pos rfl]; unfold wordAt; rw [if_pos hz, hz2]
      · rw [if_neg c]
    clear h
    go_enter Try.func67, Try.ntmps67
    go_wp2_with fail
    go_end0
    exact ⟨rfl, FIN⟩
  · obtain ⟨w2, hup, m2, g2⟩ := h.mf.put Try.underlying48 (by unfold maxLen; omega) p hp (v := .int .u64 (x : Int)) (x := x) (ps := []) rfl
    have bx : ((x : Int) != 0) = true := by rw [bne_iff_ne]; omega
    have FIN : Hid (∃ MF', WNow w w2 b bp bf (n + 1) MP MF (fun q => q ≠ p) (fun q j => if q = p then x else wordAt MP MF A q j) MP MF' A) := by
      have hbl := cell_lt c9
      have nb : ∀ y, y < w.heap.size → y ≠ bf → w2.heap[y]? = w.heap[y]? := fun y hy hn => g2.block y hy (by simpa using hn)
      refine hide ⟨_, ⟨?_, ?_, (h.mp.kept (nb bp h.mp.lt h.ne.2.2)).mono (by omega), m2, fun q hq => ?_, h.one, h.sep, h.ne⟩, fun q j hj => ?_, (FrB.grown g2).mono (fun x _ e => Or.inr (Or.inl e)), fun q _ => Or.inl ⟨q, rfl⟩, fun q c a d => ⟨a, by rw [if_neg c]; exact d⟩⟩
      · rw [World.cell?_of_block (nb b hbl (fun e => h.ne.2.1 e.symm))]; exact h.c8
      · rw [World.cell?_of_block (nb b hbl (fun e => h.ne.2.1 e.symm))]; exact h.c9
      · have ar := h.arr q hq
        exact ar.kept (nb _ ar.lt (h.sep q hq).2.2)
      · unfold wordAt
        by_cases c : q = p
        · subst c; simp [hz]
        · simp [c]
    clear h m2 g2
    go_enter Try.func67, Try.ntmps67
    go_wp2_with fail
    go_end0
    exact ⟨rfl, FIN⟩
end Go.Proofs.Ytlfcnaalkjpgnaa
