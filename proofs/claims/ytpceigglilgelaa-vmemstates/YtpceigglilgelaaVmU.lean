/- Load, Store and Zero at the face. -/
import Derived.Test.YtpceigglilgelaaVmTa
import Derived.Test.YtpceigglilgelaaVmZd
namespace Go.Proofs.Ytpceigglilgelaa
open Go.ChangeShapes Go.WideShapes Go.ChangeAt Go.RowKit Go.Proofs.Sp

/-- Four boxes behind what is old. -/
abbrev box3 (w : World) (v1 v2 v3 : Value) : World := ((w.alloc (.cells #[v1] 24)).alloc (.cells #[v2] 23)).alloc (.cells #[v3] 23)
abbrev box4 (w : World) (v1 v2 v3 v4 : Value) : World := (box3 w v1 v2 v3).alloc (.cells #[v4] 29)
theorem box_size (w : World) (v1 v2 v3 : Value) : (box3 w v1 v2 v3).heap.size = w.heap.size + 3 := by simp
theorem box_below (w : World) (v1 v2 v3 v4 : Value) : Below w.heap.size w (box4 w v1 v2 v3 v4) :=
  ((((Below.refl _ _).alloc (Nat.le_refl _) _).alloc (by simp) _).alloc (by simp; omega) _).alloc (by simp; omega) _
theorem box_cells (w : World) (v1 v2 v3 v4 : Value) : (box4 w v1 v2 v3 v4).cell? ⟨w.heap.size, 0, none⟩ = some v1 ∧ (box4 w v1 v2 v3 v4).cell? ⟨w.heap.size + 1, 0, none⟩ = some v2 ∧ (box4 w v1 v2 v3 v4).cell? ⟨w.heap.size + 2, 0, none⟩ = some v3 ∧ (box4 w v1 v2 v3 v4).cell? ⟨w.heap.size + 3, 0, none⟩ = some v4 ∧
    (box4 w v1 v2 v3 v4).frozen? ⟨w.heap.size + 2, 0, none⟩ = false ∧ (box4 w v1 v2 v3 v4).frozen? ⟨w.heap.size + 3, 0, none⟩ = false ∧ (box4 w v1 v2 v3 v4).heap.size = w.heap.size + 4 := by
  refine ⟨?_, ?_, ?_, ?_, ?_, ?_, ?_⟩ <;> simp [go_sem]
theorem set_other {w : World} {x y k j : Nat} (v : Value) (h : x ≠ y) : (w.setCell ⟨y, k, none⟩ v).cell? ⟨x, j, none⟩ = w.cell? ⟨x, j, none⟩ := World.cell?_setCell_other _ _ _ _ (by intro e; exact h (congrArg Addr.block e).symm)
theorem below_set {w w2 : World} (h : Below w.heap.size w w2) {x k : Nat} (hx : w.heap.size ≤ x) (v : Value) : Below w.heap.size w (w2.setCell ⟨x, k, none⟩ v) :=
  ⟨h.os, h.tape, h.output, by simpa using h.size, fun y hy => by rw [Below.heap_setCell _ _ _ _ (by simp; omega)]; exact h.block y hy⟩
theorem below_alloc {w w2 : World} (h : Below w.heap.size w w2) (o : Obj) : Below w.heap.size w (w2.alloc o) := h.alloc h.size o
theorem ent37 (args : Array Value) (w : World) : (callFunc 37 args).run Try.prog w = .ok (.enter 37 args) w := rfl
theorem ent49 (args : Array Value) (w : World) : (callFunc 49 args).run Try.prog w = .ok (.enter 49 args) w := rfl
theorem ent51 (args : Array Value) (w : World) : (callFunc 51 args).run Try.prog w = .ok (.enter 51 args) w := rfl
/-- What a fault leaves. -/
theorem guard_fault {w : World} {v1 v2 v3 : Value} {f : FuncId} {cp : Array Value} {c : Int} (hent : ∀ (args : Array Value) (w : World), (callFunc f args).run Try.prog w = .ok (.enter f args) w)
    (hw : Calls Try.prog f cp (box4 w v1 v2 v3 (.int .i64 0)) fun e w' => e = .panicked [{ v := .iface 99 (.agg #[.int .i64 c]), recovered := false }] ∧ Below (box4 w v1 v2 v3 (.int .i64 0)).heap.size (box4 w v1 v2 v3 (.int .i64 0)) w') :
    Calls Try.prog 36 #[.func (.func f) #[] cp] (box3 w v1 v2 v3) fun e w' => e = .returned (.int .i64 c) ∧ Below w.heap.size w w' ∧ w'.cell? ⟨w.heap.size + 1 + 1, 0, none⟩ = some v3 ∧ w'.frozen? ⟨w.heap.size + 1 + 1, 0, none⟩ = false := by
  obtain ⟨b1, b2, b3, b4, b5, b6, b7⟩ := box_cells w v1 v2 v3 (.int .i64 0)
  have bb := box_below w v1 v2 v3 (.int .i64 0)
  have bs := box_size w v1 v2 v3
  refine (guard_bad f cp c (box3 w v1 v2 v3) _ hent hw (fun w2 k => ?_)).mono ?_
  · rw [bs]
    exact ⟨(k.cell (p := ⟨w.heap.size + 3, 0, none⟩) (by show w.heap.size + 3 < _; omega)).trans b4, (k.frozen (p := ⟨w.heap.size + 3, 0, none⟩) (by show w.heap.size + 3 < _; omega)).trans b6⟩
  · rintro e w' ⟨rfl, w2, k, rfl⟩
    rw [bs]
    have ks := k.size
    have kb := bb.trans (k.mono bb.size)
    refine ⟨rfl, below_alloc (below_set kb (by omega) _) _, ?_, ?_⟩
    · rw [show w.heap.size + 1 + 1 = w.heap.size + 2 by omega]
      rw [World.cell?_of_block (Below.heap_alloc _ _ (w.heap.size + 2) (by simp; omega)), set_other _ (by omega), k.cell (p := ⟨w.heap.size + 2, 0, none⟩) (by show w.heap.size + 2 < _; omega)]
      exact b3
    · rw [show w.heap.size + 1 + 1 = w.heap.size + 2 by omega]
      rw [fz_of_block (Below.heap_alloc _ _ (w.heap.size + 2) (by simp; omega)), World.frozen?_setCell, k.frozen (p := ⟨w.heap.size + 2, 0, none⟩) (by show w.heap.size + 2 < _; omega)]
      exact b5
theorem load_guard {w : World} {b : Nat} {S : Sp} {F : Nat → Prop} {K : Nat} (a : Int) (ha : two64 a) (h : VI w ⟨b, 0, none⟩ S F K) (hK : K ≤ lim) :
    Calls Try.prog 36 #[.func (.func 37) #[] #[.pointer (some ⟨w.heap.size, 0, none⟩), .pointer (some ⟨w.heap.size + 1, 0, none⟩), .pointer (some ⟨w.heap.size + 1 + 1, 0, none⟩)]] (box3 w (.pointer (some ⟨b, 0, none⟩)) (.int .u64 a) (.int .u64 0)) fun e w' =>
      e = .returned (.int .i64 ((loadS S a.toNat).2 : Nat)) ∧ Below w.heap.size w w' ∧ w'.cell? ⟨w.heap.size + 1 + 1, 0, none⟩ = some (.int .u64 ((loadS S a.toNat).1 : Nat)) ∧ w'.frozen? ⟨w.heap.size + 1 + 1, 0, none⟩ = false := by
  obtain ⟨b', g0, g1, g2, g, cap, R, bp, bf, n, MP, MF, A, e, rfl, l, k⟩ := h
  obtain rfl : b = b' := congrArg Addr.block e
  clear e
  have h0 := ha.1
  have h1 := ha.2
  have rl := k.rl
  have hn : R.length ≤ 70368744177664 := by unfold lim at hK; omega
  obtain ⟨b1, b2, b3, b4, b5, b6, b7⟩ := box_cells w (.pointer (some ⟨b, 0, none⟩)) (.int .u64 a) (.int .u64 0) (.int .i64 0)
  have bb := box_below w (.pointer (some ⟨b, 0, none⟩)) (.int .u64 a) (.int .u64 0) (.int .i64 0)
  have bs := box_size w (.pointer (some ⟨b, 0, none⟩)) (.int .u64 a) (.int .u64 0)
  have b7' : ((box3 w (.pointer (some ⟨b, 0, none⟩)) (.int .u64 a) (.int .u64 0)).alloc (.cells #[.int .i64 0] 29)).heap.size = w.heap.size + 4 := b7
  have L := l.below bb
  by_cases e1 : a % 8 = 0
  · by_cases e2 : S.st (a / 8192).toNat = 2
    · have hl : loadS S a.toNat = (S.wd a.toNat, 0) := by
        unfold loadS
        rw [if_neg (by omega), if_neg (by rw [show a.toNat / 8192 = (a / 8192).toNat by omega, e2]; simp)]
      rw [hl]
      have hx : S.wd a.toNat = wordAt MP MF A (a.toNat / 8192) (a.toNat % 8192 / 8) := by
        have := k.at_ (a.toNat / 8192) (a.toNat % 8192 / 8) (by omega) (by rw [show a.toNat / 8192 = (a / 8192).toNat by omega]; exact e2)
        rw [← this]
        congr 1
        omega
      refine (guard_ok _ _ _ _ ent37 (load1_ok b w.heap.size (w.heap.size + 1) (w.heap.size + 1 + 1) g cap bp bf n R S.st MP MF A a h0 h1 hn _ L.rows.listAt L.rows.seg k.high L.words b1 b2 b3 b5 (by omega) (by omega) e1 e2) ?_).mono ?_
      · rintro w' ⟨w2, kk, rfl⟩
        have ks := kk.size
        rw [bs, set_other _ (by omega), World.frozen?_setCell]
        exact ⟨(kk.cell (p := ⟨w.heap.size + 3, 0, none⟩) (by show w.heap.size + 3 < _; omega)).trans b4, (kk.frozen (p := ⟨w.heap.size + 3, 0, none⟩) (by show w.heap.size + 3 < _; omega)).trans b6⟩
      · rintro e w' ⟨rfl, w2', ⟨w2, kk, rfl⟩, rfl⟩
        have ks := kk.size
        have kb := bb.trans (kk.mono bb.size)
        rw [bs]
        refine ⟨rfl, below_set (below_set kb (by omega) _) (by omega) _, ?_, ?_⟩
        · rw [set_other _ (by omega), hx]
          exact World.cell?_setCell_same _ _ _ ((kk.cell (p := ⟨w.heap.size + 2, 0, none⟩) (by show w.heap.size + 2 < _; omega)).trans b3)
        · rw [World.frozen?_setCell, World.frozen?_setCell]
          exact (kk.frozen (p := ⟨w.heap.size + 2, 0, none⟩) (by show w.heap.size + 2 < _; omega)).trans b5
    · have hl : loadS S a.toNat = (0, 12) := by
        unfold loadS
        rw [if_neg (by omega), if_pos (by rw [show a.toNat / 8192 = (a / 8192).toNat by omega]; exact e2)]
      rw [hl]
      exact guard_fault ent37 (load1_bad b w.heap.size (w.heap.size + 1) (w.heap.size + 1 + 1) a 12 _ b1 b2 (touch_bad b g cap R S.st a h0 h1 hn _ L.rows.listAt L.rows.seg k.high e1 e2))
  · have hl : loadS S a.toNat = (0, 11) := by
      unfold loadS
      rw [if_pos (by omega)]
    rw [hl]
    exact guard_fault ent37 (load1_bad b w.heap.size (w.heap.size + 1) (w.heap.size + 1 + 1) a 11 _ b1 b2 (touch_odd b a h0 h1 _ e1))
theorem vload {w : World} {m : Addr} {S : Sp} {F : Nat → Prop} {K : Nat} (a : Int) (ha : two64 a) (h : VI w m S F K) (hK : K ≤ lim) :
    Calls Try.prog vm.load #[.pointer (some m), .int .u64 a] w fun e w' => e = .returned (.tuple #[.int .u64 ((loadS S a.toNat).1 : Nat), .int .i64 ((loadS S a.toNat).2 : Nat)]) ∧ Step VI F w w' m S K := by
  have hmf : ∀ (fn : Fn) (first cap : Array Value) (w : World), (Instr.makeFunc fn first cap).run Try.prog w = .ok (.func fn first cap) w := fun _ _ _ _ => rfl
  have V := hide h
  obtain ⟨b, g0, g1, g2, g, cap, R, bp, bf, n, MP, MF, A, rfl, e, l, k⟩ := h
  have G := hide (load_guard a ha V.out hK)
  clear e l k
  show Calls Try.prog 12 _ w _
  go_enter Try.func12, Try.ntmps12
  go_wp2_with fail
  refine G.out.mono ?_
  rintro e w5 ⟨rfl, B5, c5, f5⟩
  have HB := hide B5
  clear B5 G
  go_wp2_with fail
  simp [bodyPost, results, Try.results12, go_sem, c5]
  exact V.out.below (below_set HB.out (by omega) _)

/-! ### Store, Zero -/
theorem Moves.set {F F' : Nat → Prop} {w w' : World} (h : Moves F F' w w') {x k : Nat} (hx : w.heap.size ≤ x) (v : Value) : Moves F F' w (w'.setCell ⟨x, k, none⟩ v) :=
  ⟨⟨h.fr.os, h.fr.tape, h.fr.output, by simpa using h.fr.size, fun y hy hn => by rw [Below.heap_setCell _ _ _ _ (by simp; omega)]; exact h.fr.block y hy hn⟩, h.new⟩
theorem Fits.turn {S : Sp} {K K' n n' b bp bf : Nat} {w w' : World} {R : List (Nat × Nat)} {MP MF MP' MF' : Nat → Nat} {A A' : Nat → Nat → Nat} {Z : Nat → Prop} {W : Nat → Nat → Nat} (wd' : Nat → Nat) (h : Fits S K R n MP MF A) (k : WNow w w' b bp bf n' MP MF Z W MP' MF' A')
    (hz : ∀ p, S.st p ≠ 2 → Z p) (hwd : ∀ p j, j < 1024 → S.st p = 2 → wd' (p * 8192 + j * 8) = W p j) (hn : n' ≤ 2 * K') (hK : K ≤ K') : Fits { S with wd := wd' } K' R n' MP' MF' A' :=
  ⟨⟨h.wf.rising, h.wf.below, h.wf.mem, h.wf.le3⟩, h.chunk, h.zero, fun p j hj hp => (hwd p j hj hp).trans (k.at_ p j hj).symm, fun p hp => k.non p (hz p hp) (h.non p hp).1 (h.non p hp).2, h.pl, h.fi, by have := h.rl; omega, hn⟩
theorem Fits.more {S : Sp} {K K' n : Nat} {R : List (Nat × Nat)} {MP MF : Nat → Nat} {A : Nat → Nat → Nat} (h : Fits S K R n MP MF A) (hK : K ≤ K') : Fits S K' R n MP MF A :=
  ⟨h.wf, h.chunk, h.zero, h.at_, h.non, h.pl, h.fi, by have := h.rl; omega, by have := h.nl; omega⟩
theorem VI.more {w : World} {m : Addr} {S : Sp} {F : Nat → Prop} {K K' : Nat} (h : VI w m S F K) (hK : K ≤ K') : VI w m S F K' := by
  obtain ⟨b, g0, g1, g2, g, cap, R, bp, bf, n, MP, MF, A, e, e2, l, k⟩ := h
  exact ⟨b, g0, g1, g2, g, cap, R, bp, bf, n, MP, MF, A, e, e2, l, k.more hK⟩
/-- The words have turned under the guard. -/
theorem words_done {w w2 w' : World} {b g0 g1 g2 g cap bp bf n n' K K' : Nat} {R : List (Nat × Nat)} {S : Sp} {MP MF : Nat → Nat} {A : Nat → Nat → Nat} {Z : Nat → Prop} {W : Nat → Nat → Nat} (wd' : Nat → Nat) (x : Nat) (v : Value)
    (l : Lies w b S.places S.refuse S.fills S.st g0 g1 g2 g cap R bp bf n MP MF A) (f : Fits S K R n MP MF A) (kk : Below w.heap.size w w2) (hP : WPost w2 w' b bp bf n' MP MF Z W) (hx : w.heap.size ≤ x) (hx2 : x < w2.heap.size)
    (hz : ∀ p, S.st p ≠ 2 → Z p) (hwd : ∀ p j, j < 1024 → S.st p = 2 → wd' (p * 8192 + j * 8) = W p j) (hn : n' ≤ 2 * K') (hK : K ≤ K') :
    Step VI (Foot b g0 g1 g2 g bp bf S.places S.refuse S.fills MP) w (w'.setCell ⟨x, 0, none⟩ v) ⟨b, 0, none⟩ { S with wd := wd' } K' := by
  obtain ⟨MP', MF', A', k⟩ := hP
  obtain ⟨l', m⟩ := (l.below kk).turn k
  have m' : Moves (Foot b g0 g1 g2 g bp bf S.places S.refuse S.fills MP) (Foot b g0 g1 g2 g bp bf S.places S.refuse S.fills MP') w w' := (Moves.below kk).trans m
  refine VI.step (m'.set hx v) ⟨b, g0, g1, g2, g, cap, R, bp, bf, n', MP', MF', A', rfl, rfl, l'.kept (by simp) (fun y hy => ?_), f.turn wd' k hz hwd hn hK⟩
  refine Below.heap_setCell _ _ _ _ (fun e => ?_)
  simp at e
  subst e
  rcases m.new _ hy with z | z
  · have := l.lt z; omega
  · omega
theorem store_guard {w : World} {b : Nat} {S : Sp} {F : Nat → Prop} {K : Nat} (a c : Int) (ha : two64 a) (hc : two64 c) (h : VI w ⟨b, 0, none⟩ S F K) (hK : K ≤ lim) :
    Calls Try.prog 36 #[.func (.func 49) #[] #[.pointer (some ⟨w.heap.size, 0, none⟩), .pointer (some ⟨w.heap.size + 1, 0, none⟩), .pointer (some ⟨w.heap.size + 1 + 1, 0, none⟩)]] (box3 w (.pointer (some ⟨b, 0, none⟩)) (.int .u64 a) (.int .u64 c)) fun e w' =>
      e = .returned (.int .i64 ((storeS S a.toNat c.toNat).1 : Nat)) ∧ Step VI F w w' ⟨b, 0, none⟩ (storeS S a.toNat c.toNat).2 (K + 1) := by
  have V := h
  obtain ⟨b', g0, g1, g2, g, cap, R, bp, bf, n, MP, MF, A, e, rfl, l, k⟩ := h
  obtain rfl : b = b' := congrArg Addr.block e
  clear e
  have h0 := ha.1
  have h1 := ha.2
  have c0 := hc.1
  have c1 := hc.2
  have rl := k.rl
  have nl := k.nl
  have hn : R.length ≤ 70368744177664 := by unfold lim at hK; omega
  have hn2 : n ≤ 4398046511104 := by unfold lim at hK; omega
  obtain ⟨b1, b2, b3, b4, b5, b6, b7⟩ := box_cells w (.pointer (some ⟨b, 0, none⟩)) (.int .u64 a) (.int .u64 c) (.int .i64 0)
  have bb := box_below w (.pointer (some ⟨b, 0, none⟩)) (.int .u64 a) (.int .u64 c) (.int .i64 0)
  have bs := box_size w (.pointer (some ⟨b, 0, none⟩)) (.int .u64 a) (.int .u64 c)
  have b7' : ((box3 w (.pointer (some ⟨b, 0, none⟩)) (.int .u64 a) (.int .u64 c)).alloc (.cells #[.int .i64 0] 29)).heap.size = w.heap.size + 4 := b7
  have L := l.below bb
  by_cases e1 : a % 8 = 0
  · by_cases e2 : S.st (a / 8192).toNat = 2
    · have hl : storeS S a.toNat c.toNat = (0, { S with wd := fun x => if x = a.toNat then c.toNat else S.wd x }) := by
        unfold storeS
        rw [if_neg (by omega), if_neg (by rw [show a.toNat / 8192 = (a / 8192).toNat by omega, e2]; simp)]
      rw [hl]
      refine (guard_ok _ _ _ _ ent49 (store1_ok b w.heap.size (w.heap.size + 1) (w.heap.size + 1 + 1) bp bf n MP MF A a c.toNat h0 h1 (by omega) hn2 _ L.words b1 b2 (by rw [show ((c.toNat : Nat) : Int) = c by omega]; exact b3) (touch_ok b g cap R S.st a h0 h1 hn _ L.rows.listAt L.rows.seg k.high e1 e2)) ?_).mono ?_
      · rintro w' ⟨w2, kk, MP', MF', A', hP⟩
        have ks := kk.size
        have hw : ¬ WFoot bp bf MP (w.heap.size + 3) := fun z => by have := (l.words.foot z).1; omega
        rw [bs]
        exact ⟨(hP.fr.cell (by omega) hw).trans ((kk.cell (p := ⟨w.heap.size + 3, 0, none⟩) (by show w.heap.size + 3 < _; omega)).trans b4), (fz_of_block (hP.fr.block _ (by omega) hw)).trans ((kk.frozen (p := ⟨w.heap.size + 3, 0, none⟩) (by show w.heap.size + 3 < _; omega)).trans b6)⟩
      · rintro e w' ⟨rfl, w3, ⟨w2, kk, hP⟩, rfl⟩
        have ks := kk.size
        have kb := bb.trans (kk.mono bb.size)
        rw [bs]
        refine ⟨rfl, words_done _ _ _ l k kb hP (by omega) (by omega) (fun p hp e => hp (by rw [e, show a.toNat / 8192 = (a / 8192).toNat by omega]; exact e2)) (fun p j hj hp => ?_) (by omega) (by omega)⟩
        show (if p * 8192 + j * 8 = a.toNat then c.toNat else S.wd (p * 8192 + j * 8)) = _
        by_cases z : p = a.toNat / 8192 ∧ j = a.toNat % 8192 / 8
        · rw [if_pos z, if_pos (by omega)]
        · rw [if_neg z, if_neg (by omega)]
          exact k.at_ p j hj hp
    · have hl : storeS S a.toNat c.toNat = (12, S) := by
        unfold storeS
        rw [if_neg (by omega), if_pos (by rw [show a.toNat / 8192 = (a / 8192).toNat by omega]; exact e2)]
      rw [hl]
      exact (guard_fault ent49 (store1_bad b w.heap.size (w.heap.size + 1) (w.heap.size + 1 + 1) a 12 _ b1 b2 (touch_bad b g cap R S.st a h0 h1 hn _ L.rows.listAt L.rows.seg k.high e1 e2))).mono fun e w' ⟨h1, h2, _⟩ => ⟨h1, (V.more (by omega)).below h2⟩
  · have hl : storeS S a.toNat c.toNat = (11, S) := by
      unfold storeS
      rw [if_pos (by omega)]
    rw [hl]
    exact (guard_fault ent49 (store1_bad b w.heap.size (w.heap.size + 1) (w.heap.size + 1 + 1) a 11 _ b1 b2 (touch_odd b a h0 h1 _ e1))).mono fun e w' ⟨h1, h2, _⟩ => ⟨h1, (V.more (by omega)).below h2⟩
theorem vstore {w : World} {m : Addr} {S : Sp} {F : Nat → Prop} {K : Nat} (a c : Int) (ha : two64 a) (hc : two64 c) (h : VI w m S F K) (hK : K ≤ lim) :
    Calls Try.prog vm.store #[.pointer (some m), .int .u64 a, .int .u64 c] w fun e w' => e = .returned (.int .i64 ((storeS S a.toNat c.toNat).1 : Nat)) ∧ Step VI F w w' m (storeS S a.toNat c.toNat).2 (K + 1) := by
  have hmf : ∀ (fn : Fn) (first cap : Array Value) (w : World), (Instr.makeFunc fn first cap).run Try.prog w = .ok (.func fn first cap) w := fun _ _ _ _ => rfl
  have V := hide h
  obtain ⟨b, g0, g1, g2, g, cap, R, bp, bf, n, MP, MF, A, rfl, e, l, k⟩ := h
  have G := hide (store_guard a c ha hc V.out hK)
  obtain ⟨PO, hPO⟩ : ∃ PO : World → Prop, PO = fun w' => Step VI F w w' ⟨b, 0, none⟩ (storeS S a.toNat c.toNat).2 (K + 1) := ⟨_, rfl⟩
  obtain ⟨x, hx⟩ : ∃ x : Nat, x = (storeS S a.toNat c.toNat).1 := ⟨_, rfl⟩
  suffices Calls Try.prog 21 #[.pointer (some ⟨b, 0, none⟩), .int .u64 a, .int .u64 c] w fun e w' => e = .returned (.int .i64 (x : Int)) ∧ PO w' by rw [hPO, hx] at this; exact this
  have G2 := hide (G.out.mono (R' := fun e w' => e = .returned (.int .i64 (x : Int)) ∧ PO w') (fun e w' h => by rw [hPO, hx]; exact h))
  clear e l k G hPO hx V
  go_enter Try.func21, Try.ntmps21
  go_wp2_with fail
  refine G2.out.mono ?_
  rintro e w5 ⟨rfl, h5⟩
  have H5 := hide h5
  clear h5 G2
  go_wp2_with fail
  go_ret
  exact ⟨rfl, H5.out⟩

theorem part_same (p f : Int) (q : Nat) (w : World) : Calls Try.prog 78 #[.pointer (some ⟨q, 8, none⟩), .int .u64 p, .int .u64 f, .int .u64 f] w fun e w' => e = .returned (.tuple #[]) ∧ w' = w := by
  go_enter Try.func78, Try.ntmps78
  go_wp2_with fail
  ((try simp only [Exit.inBlock, Exit.then]); refine bodyPost_ret (results_none rfl _ _ _) rfl ?_)
  exact ⟨rfl, rfl⟩
theorem wzero_none (b : Nat) (a : Int) (ha : 0 ≤ a) (ha' : a < 18446744073709551616) (w : World) : Calls Try.prog 53 #[.pointer (some ⟨b, 8, none⟩), .int .u64 a, .int .u64 0] w fun e w' => e = .returned (.tuple #[]) ∧ w' = w := by
  go_enter Try.func53, Try.ntmps53
  go_wp2_with (first
    | (go_at_call 67; refine (split_core a ha ha' _).mono ?_; rintro e w' ⟨rfl, hw'⟩; rw [hw']; clear hw' w'))
  refine (part_same _ _ b _).mono ?_
  rintro e w' ⟨rfl, hw'⟩
  rw [hw']
  clear hw' w'
  go_wp2_with fail
  ((try simp only [Exit.inBlock, Exit.then]); refine bodyPost_ret (results_none rfl _ _ _) rfl ?_)
  exact ⟨rfl, rfl⟩
theorem ready_low {S : Sp} {a c : Nat} (h : allReady S a c) (hc : 0 < c) (hh : ∀ p, 34359738368 ≤ p → S.st p = 0) : a + c ≤ 281474976710656 := by
  rw [all_rows hc] at h
  have := h ((a + c - 1) / 8192) (by omega) (by omega)
  by_cases z : 34359738368 ≤ (a + c - 1) / 8192
  · rw [hh _ z] at this; cases this
  · omega
theorem zero_guard {w : World} {b : Nat} {S : Sp} {F : Nat → Prop} {K : Nat} (a c : Int) (ha : two64 a) (hc : two64 c) (h : VI w ⟨b, 0, none⟩ S F K) (hK : K ≤ lim) :
    Calls Try.prog 36 #[.func (.func 51) #[] #[.pointer (some ⟨w.heap.size, 0, none⟩), .pointer (some ⟨w.heap.size + 1, 0, none⟩), .pointer (some ⟨w.heap.size + 1 + 1, 0, none⟩)]] (box3 w (.pointer (some ⟨b, 0, none⟩)) (.int .u64 a) (.int .u64 c)) fun e w' =>
      e = .returned (.int .i64 ((zeroS S a.toNat c.toNat).1 : Nat)) ∧ Step VI F w w' ⟨b, 0, none⟩ (zeroS S a.toNat c.toNat).2 (K + cost (zeroS S a.toNat c.toNat).1 c.toNat) := by
  have V := h
  obtain ⟨b', g0, g1, g2, g, cap, R, bp, bf, n, MP, MF, A, e, rfl, l, k⟩ := h
  obtain rfl : b = b' := congrArg Addr.block e
  clear e
  have h0 := ha.1
  have h1 := ha.2
  have c0 := hc.1
  have c1 := hc.2
  have rl := k.rl
  have nl := k.nl
  have hn : R.length ≤ 2199023255552 := by unfold lim at hK; omega
  have hn2 : n ≤ 2199023255552 := by unfold lim at hK; omega
  obtain ⟨b1, b2, b3, b4, b5, b6, b7⟩ := box_cells w (.pointer (some ⟨b, 0, none⟩)) (.int .u64 a) (.int .u64 c) (.int .i64 0)
  have bb := box_below w (.pointer (some ⟨b, 0, none⟩)) (.int .u64 a) (.int .u64 c) (.int .i64 0)
  have bs := box_size w (.pointer (some ⟨b, 0, none⟩)) (.int .u64 a) (.int .u64 c)
  have b7' : ((box3 w (.pointer (some ⟨b, 0, none⟩)) (.int .u64 a) (.int .u64 c)).alloc (.cells #[.int .i64 0] 29)).heap.size = w.heap.size + 4 := b7
  have L := l.below bb
  by_cases e1 : a % 8 = 0 ∧ c % 8 = 0
  · by_cases cz : c = 0
    · subst cz
      have hl : zeroS S a.toNat (0 : Int).toNat = (0, S) := by
        unfold zeroS
        rw [if_neg (by simp; omega), if_pos (show Int.toNat 0 = 0 by rfl)]
      rw [hl]
      refine (guard_ok _ _ _ _ ent51 (zero1_ok b w.heap.size (w.heap.size + 1) (w.heap.size + 1 + 1) bp bf n MP MF A a 0 (fun w w' => w' = w) _ L.words b1 b2 b3 (tall_ok b g cap R S a 0 h0 h1 c0 c1 hn _ L.rows.listAt L.rows.seg e1.1 e1.2 (Or.inl rfl)) (fun w _ => wzero_none b a h0 h1 w)) ?_).mono ?_
      · rintro w' ⟨w2, kk, rfl⟩
        have ks := kk.size
        rw [bs]
        exact ⟨(kk.cell (p := ⟨w.heap.size + 3, 0, none⟩) (by show w.heap.size + 3 < _; omega)).trans b4, (kk.frozen (p := ⟨w.heap.size + 3, 0, none⟩) (by show w.heap.size + 3 < _; omega)).trans b6⟩
      · rintro e w' ⟨rfl, w3, ⟨w2, kk, rfl⟩, rfl⟩
        have kb := bb.trans (kk.mono bb.size)
        rw [bs]
        exact ⟨rfl, (V.more (by simp [cost])).below (below_set kb (by omega) _)⟩
    · by_cases e2 : allReady S a.toNat c.toNat
      · have hl : zeroS S a.toNat c.toNat = (0, { S with wd := fun x => if a.toNat ≤ x ∧ x < a.toNat + c.toNat then 0 else S.wd x }) := by
          unfold zeroS
          rw [if_neg (by omega), if_neg (by omega), if_neg (by exact fun z => z e2)]
        rw [hl]
        have low := ready_low e2 (by omega) k.high
        refine (guard_ok _ _ _ _ ent51 (zero1_ok b w.heap.size (w.heap.size + 1) (w.heap.size + 1 + 1) bp bf n MP MF A a c (fun w w' => Hid (WPost w w' b bp bf (n + 2) MP MF (fun _ => True) (zeroW a.toNat (a.toNat + c.toNat) (wordAt MP MF A)))) _ L.words b1 b2 b3 (tall_ok b g cap R S a c h0 h1 c0 c1 hn _ L.rows.listAt L.rows.seg e1.1 e1.2 (Or.inr ⟨by omega, e2⟩)) (fun w hw => wzero_core b bp bf n MP MF A w hw hn2 a c h0 c0 (by omega) e1.1 e1.2)) ?_).mono ?_
        · rintro w' ⟨w2, kk, hP⟩
          obtain ⟨MP', MF', A', hP⟩ := hP.out
          have ks := kk.size
          have hw : ¬ WFoot bp bf MP (w.heap.size + 3) := fun z => by have := (l.words.foot z).1; omega
          rw [bs]
          exact ⟨(hP.fr.cell (by omega) hw).trans ((kk.cell (p := ⟨w.heap.size + 3, 0, none⟩) (by show w.heap.size + 3 < _; omega)).trans b4), (fz_of_block (hP.fr.block _ (by omega) hw)).trans ((kk.frozen (p := ⟨w.heap.size + 3, 0, none⟩) (by show w.heap.size + 3 < _; omega)).trans b6)⟩
        · rintro e w' ⟨rfl, w3, ⟨w2, kk, hP⟩, rfl⟩
          have ks := kk.size
          have kb := bb.trans (kk.mono bb.size)
          rw [bs]
          refine ⟨rfl, words_done _ _ _ l k kb hP.out (by omega) (by omega) (fun _ _ => trivial) (fun p j hj hp => ?_) (by simp [cost]; omega) (by omega)⟩
          show (if a.toNat ≤ p * 8192 + j * 8 ∧ p * 8192 + j * 8 < a.toNat + c.toNat then 0 else S.wd (p * 8192 + j * 8)) = _
          unfold zeroW
          by_cases z : a.toNat ≤ p * 8192 + j * 8 ∧ p * 8192 + j * 8 < a.toNat + c.toNat
          · rw [if_pos z, if_pos z]
          · rw [if_neg z, if_neg z]
            exact k.at_ p j hj hp
      · have hl : zeroS S a.toNat c.toNat = (12, S) := by
          unfold zeroS
          rw [if_neg (by omega), if_neg (by omega), if_pos e2]
        rw [hl]
        exact (guard_fault ent51 (zero1_bad b w.heap.size (w.heap.size + 1) (w.heap.size + 1 + 1) a c 12 _ b1 b2 b3 (tall_bad b g cap R S a c h0 h1 c0 c1 hn _ L.rows.listAt L.rows.seg e1.1 e1.2 cz (fun z => e2 z.2)))).mono fun e w' ⟨h1, h2, _⟩ => ⟨h1, (V.more (by omega)).below h2⟩
  · have hl : zeroS S a.toNat c.toNat = (11, S) := by
      unfold zeroS
      rw [if_pos (by omega)]
    rw [hl]
    exact (guard_fault ent51 (zero1_bad b w.heap.size (w.heap.size + 1) (w.heap.size + 1 + 1) a c 11 _ b1 b2 b3 (tall_odd b a c h0 h1 c0 c1 _ e1))).mono fun e w' ⟨h1, h2, _⟩ => ⟨h1, (V.more (by omega)).below h2⟩
theorem vzero {w : World} {m : Addr} {S : Sp} {F : Nat → Prop} {K : Nat} (a c : Int) (ha : two64 a) (hc : two64 c) (h : VI w m S F K) (hK : K ≤ lim) :
    Calls Try.prog vm.zero #[.pointer (some m), .int .u64 a, .int .u64 c] w fun e w' => e = .returned (.int .i64 ((zeroS S a.toNat c.toNat).1 : Nat)) ∧ Step VI F w w' m (zeroS S a.toNat c.toNat).2 (K + cost (zeroS S a.toNat c.toNat).1 c.toNat) := by
  have hmf : ∀ (fn : Fn) (first cap : Array Value) (w : World), (Instr.makeFunc fn first cap).run Try.prog w = .ok (.func fn first cap) w := fun _ _ _ _ => rfl
  have V := hide h
  obtain ⟨b, g0, g1, g2, g, cap, R, bp, bf, n, MP, MF, A, rfl, e, l, k⟩ := h
  have G := hide (zero_guard a c ha hc V.out hK)
  obtain ⟨PO, hPO⟩ : ∃ PO : World → Prop, PO = fun w' => Step VI F w w' ⟨b, 0, none⟩ (zeroS S a.toNat c.toNat).2 (K + cost (zeroS S a.toNat c.toNat).1 c.toNat) := ⟨_, rfl⟩
  obtain ⟨x, hx⟩ : ∃ x : Nat, x = (zeroS S a.toNat c.toNat).1 := ⟨_, rfl⟩
  suffices Calls Try.prog 22 #[.pointer (some ⟨b, 0, none⟩), .int .u64 a, .int .u64 c] w fun e w' => e = .returned (.int .i64 (x : Int)) ∧ PO w' by rw [hPO, hx] at this; exact this
  have G2 := hide (G.out.mono (R' := fun e w' => e = .returned (.int .i64 (x : Int)) ∧ PO w') (fun e w' h => by rw [hPO, hx]; exact h))
  clear e l k G hPO hx V
  go_enter Try.func22, Try.ntmps22
  go_wp2_with fail
  refine G2.out.mono ?_
  rintro e w5 ⟨rfl, h5⟩
  have H5 := hide h5
  clear h5 G2
  go_wp2_with fail
  go_ret
  exact ⟨rfl, H5.out⟩
end Go.Proofs.Ytpceigglilgelaa
