/- The landed package's words: a page's array, which is made if there is none. -/
import Derived.Test.YtpceigglilgelaaVmW
namespace Go.Proofs.Ytpceigglilgelaa
open Go.ChangeShapes Go.WideShapes Go.ChangeAt Go.RowKit Go.Proofs.Sp Go.Maps

theorem zeros1024 : Try.zeroCells118 = Array.replicate 1024 (.int .u64 0) := by kernel_rfl
theorem arr_zero (w : World) : ArrAt (w.alloc (.cells Try.zeroCells118 118)) w.heap.size (fun _ => 0) := by
  refine ⟨List.replicate 1024 (.int .u64 0), ?_, List.length_replicate, fun k hk => ?_⟩
  · rw [heap_alloc_new, zeros1024]
    rfl
  · rw [List.getElem?_replicate, if_pos hk]; rfl
theorem ArrAt.put {w : World} {a : Nat} {f : Nat → Nat} (h : ArrAt w a f) (k x : Nat) (hk : k < 1024) : ArrAt (w.setCell ⟨a, k, none⟩ (.int .u64 (x : Int))) a (fun j => if j = k then x else f j) := by
  obtain ⟨arr, h1, h2, h3⟩ := h
  refine ⟨arr.set k (.int .u64 (x : Int)), ?_, by simpa using h2, fun j hj => ?_⟩
  · rw [setCell_eq_setRow w a k arr.toArray _ (0, 0) _ h1, setRow_heap w a _ _ _ _ h1]
    congr 2
    simp
  · show _ = some (Value.int .u64 ((if j = k then x else f j : Nat) : Int))
    by_cases c : j = k
    · subst c; rw [if_pos rfl, List.getElem?_set_self (by omega)]
    · rw [if_neg c, List.getElem?_set_ne (fun z => c z.symm)]; exact h3 j hj
theorem ArrAt.kept {w w' : World} {a : Nat} {f : Nat → Nat} (h : ArrAt w a f) (hb : w'.heap[a]? = w.heap[a]?) : ArrAt w' a f := by
  obtain ⟨arr, h1, h2⟩ := h
  exact ⟨arr, hb.trans h1, h2⟩
theorem ArrAt.lt {w : World} {a : Nat} {f : Nat → Nat} (h : ArrAt w a f) : a < w.heap.size := by
  obtain ⟨arr, h1, _⟩ := h
  exact (Array.getElem?_eq_some_iff.1 h1).1
/-- Nothing old has turned but these blocks. -/
structure FrB (X : Nat → Prop) (w w' : World) : Prop where
  os : w'.os = w.os
  tape : w'.tape = w.tape
  output : w'.output = w.output
  size : w.heap.size ≤ w'.heap.size
  block : ∀ x, x < w.heap.size → ¬ X x → w'.heap[x]? = w.heap[x]?
theorem FrB.refl (X : Nat → Prop) (w : World) : FrB X w w := ⟨rfl, rfl, rfl, Nat.le_refl _, fun _ _ _ => rfl⟩
theorem FrB.trans {X : Nat → Prop} {a b c : World} (h : FrB X a b) (k : FrB X b c) : FrB X a c :=
  ⟨k.os.trans h.os, k.tape.trans h.tape, k.output.trans h.output, Nat.le_trans h.size k.size, fun x hx hn => by rw [k.block x (Nat.lt_of_lt_of_le hx h.size) hn]; exact h.block x hx hn⟩
theorem FrB.mono {X Y : Nat → Prop} {a b : World} (h : FrB X a b) (hy : ∀ x, x < a.heap.size → X x → Y x) : FrB Y a b := ⟨h.os, h.tape, h.output, h.size, fun x hx hn => h.block x hx (fun z => hn (hy x hx z))⟩
theorem FrB.grown {w w' : World} {b : Nat} (h : w.grownBy w' (some b)) : FrB (fun x => x = b) w w' := ⟨h.os, h.tape, h.output, h.size, fun x hx hn => h.block x hx (by simpa using hn)⟩
theorem FrB.set {X : Nat → Prop} {a w : World} (h : FrB X a w) {p : Addr} (hp : X p.block ∨ a.heap.size ≤ p.block) (u : Value) : FrB X a (w.setCell p u) :=
  ⟨h.os, h.tape, h.output, by simpa using h.size, fun x hx hn => by
    rw [Below.heap_setCell _ _ _ _ (fun e => by subst e; rcases hp with hp | hp; exact hn hp; omega)]
    exact h.block x hx hn⟩
theorem FrB.alloc {X : Nat → Prop} {a w : World} (h : FrB X a w) (o : Obj) : FrB X a (w.alloc o) :=
  ⟨h.os, h.tape, h.output, by have := h.size; simp; omega, fun x hx hn => by rw [Below.heap_alloc w o x (Nat.lt_of_lt_of_le hx h.size)]; exact h.block x hx hn⟩

set_option maxRecDepth 100000 in
set_option maxHeartbeats 2000000 in
/-- A page's array, where there is one. -/
theorem array_has (b bp bf n p a : Nat) (MP MF : Nat → Nat) (A : Nat → Nat → Nat) (w : World) (h : WordsM w b bp bf n MP MF A) (hp : p < 18446744073709551616) (ha : MP p = a + 1) :
    Calls Try.prog 77 #[.pointer (some ⟨b, 8, none⟩), .int .u64 (p : Int)] w fun e w' => e = .returned (.pointer (some ⟨a, 0, none⟩)) ∧ w' = w := by
  have c8 := h.c8
  obtain ⟨v, hrun, hv⟩ := look_ptr h.mp p hp
  rcases hv with ⟨hz, _⟩ | ⟨x, hx, rfl⟩
  · omega
  · obtain rfl : x = a := by omega
    clear h hx
    go_enter Try.func77, Try.ntmps77
    go_wp2_with fail
    go_ret
    exact ⟨rfl, rfl⟩
theorem FrB.cell {X : Nat → Prop} {w w' : World} (h : FrB X w w') {b k : Nat} (hb : b < w.heap.size) (hx : ¬ X b) : w'.cell? ⟨b, k, none⟩ = w.cell? ⟨b, k, none⟩ := World.cell?_of_block (h.block b hb hx)
/-- Behind a page's array was made. -/
theorem words_made {w w' : World} {b bp bf n p a : Nat} {MP MF MF' : Nat → Nat} {A : Nat → Nat → Nat} {f : Nat → Nat} (h : WordsM w b bp bf n MP MF A) (hz : MP p = 0) (hf : FrB (fun x => x = bp ∨ x = bf) w w') (hm : MapIs w' ptrElem bp (n + 1) (fun q => if q = p then a + 1 else MP q)) (hn : MapIs w' numElem bf (n + 1) MF') (ha : ArrAt w' a f) (hal : w.heap.size ≤ a) :
    WordsM w' b bp bf (n + 1) (fun q => if q = p then a + 1 else MP q) MF' (fun q => if q = p then f else A q) := by
  have hbl := cell_lt h.c8
  obtain ⟨n1, n2, n3⟩ := h.ne
  have l1 := h.mp.lt
  have l2 := h.mf.lt
  refine ⟨?_, ?_, hm, hn, fun q hq => ?_, fun q r hq hqr => ?_, fun q hq => ?_, h.ne⟩
  · rw [hf.cell hbl (by rintro (e | e); exact n1 e.symm; exact n2 e.symm)]; exact h.c8
  · rw [hf.cell hbl (by rintro (e | e); exact n1 e.symm; exact n2 e.symm)]; exact h.c9
  · by_cases c : q = p
    · subst c
      simp only [if_true] at hq ⊢
      simpa using ha
    · simp only [if_neg c] at hq ⊢
      have ar := h.arr q hq
      obtain ⟨s1, s2, s3⟩ := h.sep q hq
      exact ar.kept (hf.block _ ar.lt (by rintro (e | e); exact s2 e; exact s3 e))
  · by_cases c : q = p
    · by_cases d : r = p
      · rw [c, d]
      · simp only [if_pos c, if_neg d] at hq hqr
        have ar := (h.arr r (by omega)).lt
        omega
    · by_cases d : r = p
      · simp only [if_neg c, if_pos d] at hq hqr
        have ar := (h.arr q hq).lt
        omega
      · simp only [if_neg c, if_neg d] at hq hqr
        exact h.one q r hq hqr
  · by_cases c : q = p
    · simp only [if_pos c] at hq ⊢
      exact ⟨by omega, by omega, by omega⟩
    · simp only [if_neg c] at hq ⊢
      exact h.sep q hq
set_option maxRecDepth 100000 in
set_option maxHeartbeats 2000000 in
/-- .. where there is none, and all words are 0. -/
theorem array_zero (b bp bf n p : Nat) (MP MF : Nat → Nat) (A : Nat → Nat → Nat) (w : World) (h : WordsM w b bp bf n MP MF A) (hp : p < 18446744073709551616) (hz : MP p = 0) (hz2 : MF p = 0) (hn : n ≤ 4398046511104) :
    Calls Try.prog 77 #[.pointer (some ⟨b, 8, none⟩), .int .u64 (p : Int)] w fun e w' => e = .returned (.pointer (some ⟨w.heap.size, 0, none⟩)) ∧ WordsM w' b bp bf (n + 1) (fun q => if q = p then w.heap.size + 1 else MP q) MF (fun q => if q = p then (fun _ => 0) else A q) ∧ FrB (fun x => x = bp ∨ x = bf) w w' := by
  have c8 := h.c8
  have c9 := h.c9
  have hbl := cell_lt c8
  obtain ⟨v, hrun, hv⟩ := look_ptr h.mp p hp
  rcases hv with ⟨_, rfl⟩ | ⟨x, hx, _⟩
  · have l1 := h.mp.lt
    have l2 := h.mf.lt
    have mf1 : MapIs (w.alloc (.cells Try.zeroCells118 118)) numElem bf n MF := h.mf.kept (Below.heap_alloc w _ bf l2)
    have mp1 : MapIs (w.alloc (.cells Try.zeroCells118 118)) ptrElem bp n MP := h.mp.kept (Below.heap_alloc w _ bp l1)
    have hnum : (Instr.lookup 60 (.map (some bf)) (.int .u64 (p : Int)) false).run Try.prog (w.alloc (.cells Try.zeroCells118 118)) = .ok (.int .u64 0) (w.alloc (.cells Try.zeroCells118 118)) := by
      have := look_num mf1 p hp
      rw [hz2] at this
      exact this
    obtain ⟨w2, hup, m2, g2⟩ := mp1.put Try.underlying59 (by unfold maxLen; omega) p hp (v := .pointer (some ⟨w.heap.size, 0, none⟩)) (x := w.heap.size + 1) (ps := []) (by simp [ptrElem, dat])
    have fr : FrB (fun x => x = bp ∨ x = bf) w w2 := ((FrB.refl _ w).alloc _).trans ((FrB.grown g2).mono (fun x _ e => Or.inl e))
    have ar2 : ArrAt w2 w.heap.size (fun _ => 0) := (arr_zero w).kept (g2.block _ (by simp) (by simp; omega))
    have mf2 : MapIs w2 numElem bf (n + 1) MF := (mf1.kept (g2.block _ (by simp; omega) (by have := h.ne.2.2; simp; omega))).mono (by omega)
    have FIN := hide (And.intro (words_made h hz fr m2 mf2 ar2 (Nat.le_refl _)) fr)
    clear h mf1 mp1 m2 g2 fr ar2 mf2
    go_enter Try.func77, Try.ntmps77
    go_wp2_with fail
    go_ret
    exact ⟨rfl, FIN.out⟩
  · omega
end Go.Proofs.Ytpceigglilgelaa
