/- J13 of the proof of both laws: texts VmZd, VmU, VmK, one behind the other. -/
import Derived.Test.YtlfcnaalkjpgnaaJ12
import Derived.Test.YtlfcnaalkjpgnaaJ11
import Derived.Test.YtlfcnaalkjpgnaaJ07
import Derived.Deep.CutRange
import Derived.Deep.Cut
/- The landed package's words: zero. -/
namespace Go.Proofs.Ytlfcnaalkjpgnaa
open Go.ChangeShapes Go.WideShapes Go.ChangeAt Go.RowKit Go.Proofs.Sp Go.Maps
set_option linter.unusedVariables false
set_option linter.unusedSimpArgs false

/-- Where the words lie that are set to 0. -/
def zeroW (a t : Nat) (W : Nat → Nat → Nat) (q j : Nat) : Nat := if a ≤ q * 8192 + j * 8 ∧ q * 8192 + j * 8 < t then 0 else W q j
theorem in1 {a t p f l u q j : Nat} (ha : a = p * 8192 + f * 8) (ht : t = l * 8192 + u * 8) (hf : f < 1024) (hu : u < 1024) (hj : j < 1024) (e : p = l) : (a ≤ q * 8192 + j * 8 ∧ q * 8192 + j * 8 < t) ↔ (q = p ∧ f ≤ j ∧ j < u) := by omega
theorem in2 {a t p f l u q j : Nat} (ha : a = p * 8192 + f * 8) (ht : t = l * 8192 + u * 8) (hf : f < 1024) (hu : u < 1024) (hj : j < 1024) (e : p < l) (h0 : f = 0) : (a ≤ q * 8192 + j * 8 ∧ q * 8192 + j * 8 < t) ↔ ((p ≤ q ∧ q < l) ∨ (q = l ∧ j < u)) := by omega
theorem in3 {a t p f l u q j : Nat} (ha : a = p * 8192 + f * 8) (ht : t = l * 8192 + u * 8) (hf : f < 1024) (hu : u < 1024) (hj : j < 1024) (e : p < l) : (a ≤ q * 8192 + j * 8 ∧ q * 8192 + j * 8 < t) ↔ ((q = p ∧ f ≤ j) ∨ (p + 1 ≤ q ∧ q < l) ∨ (q = l ∧ j < u)) := by omega
/-- One step behind another: what the words are then. -/
theorem WPost.step {w w' w'' : World} {b bp bf n n' : Nat} {MP MF MP' MF' : Nat → Nat} {A' : Nat → Nat → Nat} {W W' : Nat → Nat → Nat} {V : (Nat → Nat → Nat) → Nat → Nat → Nat} (h : WNow w w' b bp bf n MP MF (fun _ => True) W MP' MF' A') (k : WPost w' w'' b bp bf n' MP' MF' (fun _ => True) (V (wordAt MP' MF' A'))) (hV : ∀ X q j, j < 1024 → X q j = W q j → V X q j = W' q j) :
    WPost w w'' b bp bf n' MP MF (fun _ => True) W' := by
  obtain ⟨MP2, MF2, A2, k⟩ := k
  exact ⟨MP2, MF2, A2, (h.step k).weak (Nat.le_refl _) (fun _ _ => ⟨trivial, trivial⟩) (fun q j hj => hV _ q j hj (h.at_ q j hj))⟩
set_option maxRecDepth 100000 in
set_option maxHeartbeats 4000000 in
theorem wzero_core (b bp bf n : Nat) (MP MF : Nat → Nat) (A : Nat → Nat → Nat) (w : World) (h : WordsM w b bp bf n MP MF A) (hn : n ≤ 2199023255552) (a c : Int) (ha : 0 ≤ a) (hc : 0 ≤ c) (hac : a + c ≤ 281474976710656) (h8 : a % 8 = 0) (c8' : c % 8 = 0) :
    Calls Try.prog 56 #[.pointer (some ⟨b, 8, none⟩), .int .u64 a, .int .u64 c] w fun e w' => e = .returned (.tuple #[]) ∧ Hid (WPost w w' b bp bf (n + 2) MP MF (fun _ => True) (zeroW a.toNat (a.toNat + c.toNat) (wordAt MP MF A))) := by
  obtain ⟨p, hpe⟩ : ∃ p : Nat, p = a.toNat / 8192 := ⟨_, rfl⟩
  obtain ⟨f, hfe⟩ : ∃ f : Nat, f = a.toNat % 8192 / 8 := ⟨_, rfl⟩
  obtain ⟨l, hle⟩ : ∃ l : Nat, l = (a + c).toNat / 8192 := ⟨_, rfl⟩
  obtain ⟨u, hue⟩ : ∃ u : Nat, u = (a + c).toNat % 8192 / 8 := ⟨_, rfl⟩
  have P1 := hide (show (a / 8192 : Int) = (p : Int) by omega)
  have P2 := hide (show (a % 8192 / 8 : Int) = (f : Int) by omega)
  have P3 := hide (show ((a + c) / 8192 : Int) = (l : Int) by omega)
  have P4 := hide (show ((a + c) % 8192 / 8 : Int) = (u : Int) by omega)
  have E1 : Hid (a.toNat = p * 8192 + f * 8) := hide (by omega)
  have E2 : Hid (a.toNat + c.toNat = l * 8192 + u * 8) := hide (by omega)
  have hf : f < 1024 := by omega
  have hu : u < 1024 := by omega
  have hpl : p ≤ l := by omega
  have hl : l ≤ 34359738368 := by omega
  have hpu : p = l → f ≤ u := by omega
  obtain ⟨PO, hPO⟩ : ∃ PO : World → Prop, PO = fun w' => WPost w w' b bp bf (n + 2) MP MF (fun _ => True) (zeroW a.toNat (a.toNat + c.toNat) (wordAt MP MF A)) := ⟨_, rfl⟩
  suffices Calls Try.prog 56 #[.pointer (some ⟨b, 8, none⟩), .int .u64 a, .int .u64 c] w fun e w' => e = .returned (.tuple #[]) ∧ Hid (PO w') by rw [hPO] at this; exact this
  have FIN : Hid (∀ w', WPost w w' b bp bf (n + 2) MP MF (fun _ => True) (zeroW a.toNat (a.toNat + c.toNat) (wordAt MP MF A)) → PO w') := hide (fun w' h => by rw [hPO]; exact h)
  clear hPO hpe hfe hle hue
  have H := hide h
  clear h
  by_cases e : p = l
  · subst e
    have hfu := hpu rfl
    go_enter Try.func56, Try.ntmps56
    go_wp2_with (first
      | (go_at_call 72; refine (split_core a ha (by omega) _).mono ?_; rintro e w' ⟨rfl, rfl⟩; rw [P1.out, P2.out])
      | (go_at_call 72; refine (split_core (a + c) (by omega) (by omega) _).mono ?_; rintro e w' ⟨rfl, rfl⟩; rw [P3.out, P4.out])
      | (go_at_call 74; refine (wpart_core b bp bf n p f u MP MF A _ H.out (by omega) (by omega) hfu (by omega)).mono ?_; rintro e w' ⟨rfl, hP⟩))
    ((try simp only [Exit.inBlock, Exit.then]); refine bodyPost_ret (results_none rfl _ _ _) rfl ?_)
    exact ⟨rfl, hide (FIN.out _ (by
      obtain ⟨MP', MF', A', k⟩ := hP.out
      refine ⟨MP', MF', A', k.weak (by omega) (fun _ h => h) (fun q j hj => ?_)⟩
      unfold zeroW
      simp only [in1 E1.out E2.out hf hu hj rfl]))⟩
  · have hlt : p < l := by omega
    have ne : ((p : Int) == (l : Int)) = false := by simp; omega
    clear e hpu
    by_cases f0 : f = 0
    · subst f0
      go_enter Try.func56, Try.ntmps56
      go_wp2_with (first
        | (go_at_call 72; refine (split_core a ha (by omega) _).mono ?_; rintro e w' ⟨rfl, rfl⟩; rw [P1.out, P2.out])
        | (go_at_call 72; refine (split_core (a + c) (by omega) (by omega) _).mono ?_; rintro e w' ⟨rfl, rfl⟩; rw [P3.out, P4.out])
        | (go_at_call 45; refine (forget_core b bp bf n MP MF A _ H.out (by omega) (p : Int) (l : Int) (by omega) (by omega) (by omega)).mono ?_; rintro e w' ⟨rfl, hP⟩; obtain ⟨MP', MF', A', k⟩ := hP.out; have K1 := hide k; clear k hP)
        | (go_at_call 74; refine (wpart_core b bp bf n l 0 u MP' MF' A' _ K1.out.wm (by omega) (by omega) (by omega) (by omega)).mono ?_; rintro e w' ⟨rfl, hP⟩))
      go_end0
      exact ⟨rfl, hide (FIN.out _ (by
        have := WPost.step (W' := zeroW a.toNat (a.toNat + c.toNat) (wordAt MP MF A)) (V := fun X q j => if q = l ∧ 0 ≤ j ∧ j < u then 0 else X q j) K1.out hP.out (fun X q j hj hX => by
          simp only [hX]
          unfold zeroW
          simp only [in2 E1.out E2.out (by omega) hu hj hlt rfl, Int.toNat_natCast]
          by_cases c1 : q = l ∧ j < u
          · rw [if_pos ⟨c1.1, by omega, c1.2⟩, if_pos (Or.inr c1)]
          · rw [if_neg (fun z => c1 ⟨z.1, z.2.2⟩)]
            by_cases c2 : p ≤ q ∧ q < l
            · rw [if_pos c2, if_pos (Or.inl c2)]
            · rw [if_neg c2, if_neg (fun z => z.elim c2 c1)])
        obtain ⟨a1, a2, a3, k⟩ := this
        exact ⟨a1, a2, a3, k.weak (by omega) (fun _ h => h) (fun _ _ _ => rfl)⟩))⟩
    · have f1 : ((f : Int) != 0) = true := by rw [bne_iff_ne]; omega
      have W1 := hide (fun w h => wpart_core b bp bf n p f 1024 MP MF A w h (by omega) (by omega) (by omega) (by omega))
      go_enter Try.func56, Try.ntmps56
      go_wp2_with (first
        | (go_at_call 72; refine (split_core a ha (by omega) _).mono ?_; rintro e w' ⟨rfl, rfl⟩; rw [P1.out, P2.out])
        | (go_at_call 72; refine (split_core (a + c) (by omega) (by omega) _).mono ?_; rintro e w' ⟨rfl, rfl⟩; rw [P3.out, P4.out]))
      refine (W1.out _ H.out).mono ?_
      rintro e w' ⟨rfl, hP⟩
      obtain ⟨MP', MF', A', k⟩ := hP.out
      have K1 := hide k
      clear k hP W1
      go_wp2_with (first
        | (go_at_call 45; refine (forget_core b bp bf (n + 1) MP' MF' A' _ K1.out.wm (by omega) ((p : Int) + 1) (l : Int) (by omega) (by omega) (by omega)).mono ?_; rintro e w' ⟨rfl, hP⟩; obtain ⟨MP2, MF2, A2, k⟩ := hP.out; have K2 := hide (K1.out.step k); clear k hP))
      refine (wpart_core b bp bf (n + 1) l 0 u MP2 MF2 A2 _ K2.out.wm (by omega) (by omega) (by omega) (by omega)).mono ?_
      rintro e w' ⟨rfl, hP⟩
      go_wp2_with fail
      go_end0
      exact ⟨rfl, hide (FIN.out _ (by
        have k2 := (K2.out.weak (Z' := fun _ => True) (W' := fun q j => if p + 1 ≤ q ∧ q < l then 0 else if q = p ∧ f ≤ j ∧ j < 1024 then 0 else wordAt MP MF A q j) (Nat.le_refl _) (fun _ _ => ⟨trivial, trivial⟩) (fun q j hj => by
          have := K1.out.at_ q j hj
          rw [this, show ((p : Int) + 1).toNat = p + 1 by omega, Int.toNat_natCast]))
        exact WPost.step (W' := zeroW a.toNat (a.toNat + c.toNat) (wordAt MP MF A)) (V := fun X q j => if q = l ∧ 0 ≤ j ∧ j < u then 0 else X q j) k2 hP.out (fun X q j hj hX => by
          simp only [hX]
          unfold zeroW
          simp only [in3 E1.out E2.out hf hu hj hlt]
          by_cases c1 : q = l ∧ j < u
          · rw [if_pos ⟨c1.1, by omega, c1.2⟩, if_pos (Or.inr (Or.inr c1))]
          · rw [if_neg (fun z => c1 ⟨z.1, z.2.2⟩)]
            by_cases c2 : p + 1 ≤ q ∧ q < l
            · rw [if_pos c2, if_pos (Or.inr (Or.inl c2))]
            · rw [if_neg c2]
              by_cases c3 : q = p ∧ f ≤ j
              · rw [if_pos ⟨c3.1, c3.2, hj⟩, if_pos (Or.inl c3)]
              · rw [if_neg (fun z => c3 ⟨z.1, z.2.1⟩), if_neg (fun z => z.elim c3 (fun z => z.elim c2 c1))])))⟩
end Go.Proofs.Ytlfcnaalkjpgnaa

/- Load, Store and Zero at the face. -/
namespace Go.Proofs.Ytlfcnaalkjpgnaa
open Go.ChangeShapes Go.WideShapes Go.ChangeAt Go.RowKit Go.Proofs.Sp

/-- Four boxes behind what is old. -/
abbrev box3 (w : World) (v1 v2 v3 : Value) : World := ((w.alloc (.cells #[v1] 29)).alloc (.cells #[v2] 33)).alloc (.cells #[v3] 33)
abbrev box4 (w : World) (v1 v2 v3 v4 : Value) : World := (box3 w v1 v2 v3).alloc (.cells #[v4] 58)
theorem box_size (w : World) (v1 v2 v3 : Value) : (box3 w v1 v2 v3).heap.size = w.heap.size + 3 := by simp
theorem box_below (w : World) (v1 v2 v3 v4 : Value) : Below w.heap.size w (box4 w v1 v2 v3 v4) :=
  ((((Below.refl _ _).alloc (Nat.le_refl _) _).alloc (by simp) _).alloc (by simp; omega) _).alloc (by simp; omega) _
theorem box_cells (w : World) (v1 v2 v3 v4 : Value) : (box4 w v1 v2 v3 v4).cell? ⟨w.heap.size, 0, none⟩ = some v1 ∧ (box4 w v1 v2 v3 v4).cell? ⟨w.heap.size + 1, 0, none⟩ = some v2 ∧ (box4 w v1 v2 v3 v4).cell? ⟨w.heap.size + 2, 0, none⟩ = some v3 ∧ (box4 w v1 v2 v3 v4).cell? ⟨w.heap.size + 3, 0, none⟩ = some v4 ∧
    (box4 w v1 v2 v3 v4).frozen? ⟨w.heap.size + 2, 0, none⟩ = false ∧ (box4 w v1 v2 v3 v4).frozen? ⟨w.heap.size + 3, 0, none⟩ = false ∧ (box4 w v1 v2 v3 v4).heap.size = w.heap.size + 4 := by
  refine ⟨?_, ?_, ?_, ?_, ?_, ?_, ?_⟩ <;> simp [go_sem]
theorem set_other {w : World} {x y k j : Nat} (v : Value) (h : x ≠ y) : (w.setCell ⟨y, k, none⟩ v).cell? ⟨x, j, none⟩ = w.cell? ⟨x, j, none⟩ := World.cell?_setCell_other _ _ _ _ (by intro e; exact h (congrArg Addr.block e).symm)
theorem below_set {w w2 : World} (h : Below w.heap.size w w2) {x k : Nat} (hx : w.heap.size ≤ x) (v : Value) : Below w.heap.size w (w2.setCell ⟨x, k, none⟩ v) :=
  ⟨h.os, h.tape, h.output, by simpa using h.size, fun y hy => by rw [Below.heap_setCell _ _ _ _ (by simp; omega)]; exact h.block y hy⟩
theorem below_alloc {w w2 : World} (h : Below w.heap.size w w2) (o : Obj) : Below w.heap.size w (w2.alloc o) := h.alloc h.size o
theorem ent37 (args : Array Value) (w : World) : (callFunc 48 args).run Try.prog w = .ok (.enter 48 args) w := rfl
theorem ent49 (args : Array Value) (w : World) : (callFunc 52 args).run Try.prog w = .ok (.enter 52 args) w := rfl
theorem ent51 (args : Array Value) (w : World) : (callFunc 54 args).run Try.prog w = .ok (.enter 54 args) w := rfl
/-- What a fault leaves. -/
theorem guard_fault {w : World} {v1 v2 v3 : Value} {f : FuncId} {cp : Array Value} {c : Int} (hent : ∀ (args : Array Value) (w : World), (callFunc f args).run Try.prog w = .ok (.enter f args) w)
    (hw : Calls Try.prog f cp (box4 w v1 v2 v3 (.int .i64 0)) fun e w' => e = .panicked [{ v := .iface 100 (.agg #[.int .i64 c]), recovered := false }] ∧ Below (box4 w v1 v2 v3 (.int .i64 0)).heap.size (box4 w v1 v2 v3 (.int .i64 0)) w') :
    Calls Try.prog 47 #[.func (.func f) #[] cp] (box3 w v1 v2 v3) fun e w' => e = .returned (.int .i64 c) ∧ Below w.heap.size w w' ∧ w'.cell? ⟨w.heap.size + 1 + 1, 0, none⟩ = some v3 ∧ w'.frozen? ⟨w.heap.size + 1 + 1, 0, none⟩ = false := by
  obtain ⟨b1, b2, b3, b4, b5, b6, b7⟩ := box_cells w v1 v2 v3 (.int .i64 0)
  have bb := box_below w v1 v2 v3 (.int .i64 0)
  have bs := box_size w v1 v2 v3
  refine (guard_bad f cp c (box3 w v1 v2 v3) _ hent hw (fun w2 k => ?_)).mono ?_
  · rw [bs]
    exact ⟨(k.cell (p := ⟨w.heap.size + 3, 0, none⟩) (by show w.heap.size + 3 < _; omega)).trans b4, (k.frozen (p := ⟨w.heap.size + 3, 0, none⟩) (by show w.heap.size + 3 < _; omega)).trans b6⟩
  · rintro e w' ⟨rfl, w2, k, rfl⟩
    rw [bs]
    have ks := k.size
    have kb := bb.trans (k.mono bb.size)
    refine ⟨rfl, below_alloc (below_set kb (by omega) _) _, ?_, ?_⟩
    · rw [show w.heap.size + 1 + 1 = w.heap.size + 2 by omega]
      rw [World.cell?_of_block (Below.heap_alloc _ _ (w.heap.size + 2) (by simp; omega)), set_other _ (by omega), k.cell (p := ⟨w.heap.size + 2, 0, none⟩) (by show w.heap.size + 2 < _; omega)]
      exact b3
    · rw [show w.heap.size + 1 + 1 = w.heap.size + 2 by omega]
      rw [fz_of_block (Below.heap_alloc _ _ (w.heap.size + 2) (by simp; omega)), World.frozen?_setCell, k.frozen (p := ⟨w.heap.size + 2, 0, none⟩) (by show w.heap.size + 2 < _; omega)]
      exact b5
theorem load_guard {w : World} {b : Nat} {S : Sp} {F : Nat → Prop} {K : Nat} (a : Int) (ha : two64 a) (h : VI w ⟨b, 0, none⟩ S F K) (hK : K ≤ lim) :
    Calls Try.prog 47 #[.func (.func 48) #[] #[.pointer (some ⟨w.heap.size, 0, none⟩), .pointer (some ⟨w.heap.size + 1, 0, none⟩), .pointer (some ⟨w.heap.size + 1 + 1, 0, none⟩)]] (box3 w (.pointer (some ⟨b, 0, none⟩)) (.int .u64 a) (.int .u64 0)) fun e w' =>
      e = .returned (.int .i64 ((loadS S a.toNat).2 : Nat)) ∧ Below w.heap.size w w' ∧ w'.cell? ⟨w.heap.size + 1 + 1, 0, none⟩ = some (.int .u64 ((loadS S a.toNat).1 : Nat)) ∧ w'.frozen? ⟨w.heap.size + 1 + 1, 0, none⟩ = false := by
  obtain ⟨b', g0, g1, g2, g, cap, R, bp, bf, n, MP, MF, A, e, rfl, l, k⟩ := h
  obtain rfl : b = b' := congrArg Addr.block e
  clear e
  have h0 := ha.1
  have h1 := ha.2
  have rl := k.rl
  have hn : R.length ≤ 70368744177664 := by unfold lim at hK; omega
  obtain ⟨b1, b2, b3, b4, b5, b6, b7⟩ := box_cells w (.pointer (some ⟨b, 0, none⟩)) (.int .u64 a) (.int .u64 0) (.int .i64 0)
  have bb := box_below w (.pointer (some ⟨b, 0, none⟩)) (.int .u64 a) (.int .u64 0) (.int .i64 0)
  have bs := box_size w (.pointer (some ⟨b, 0, none⟩)) (.int .u64 a) (.int .u64 0)
  have b7' : ((box3 w (.pointer (some ⟨b, 0, none⟩)) (.int .u64 a) (.int .u64 0)).alloc (.cells #[.int .i64 0] 58)).heap.size = w.heap.size + 4 := b7
  have L := l.below bb
  by_cases e1 : a % 8 = 0
  · by_cases e2 : S.st (a / 8192).toNat = 2
    · have hl : loadS S a.toNat = (S.wd a.toNat, 0) := by
        unfold loadS
        rw [if_neg (by omega), if_neg (by rw [show a.toNat / 8192 = (a / 8192).toNat by omega, e2]; simp)]
      rw [hl]
      have hx : S.wd a.toNat = wordAt MP MF A (a.toNat / 8192) (a.toNat % 8192 / 8) := by
        have := k.at_ (a.toNat / 8192) (a.toNat % 8192 / 8) (by omega) (by rw [show a.toNat / 8192 = (a / 8192).toNat by omega]; exact e2)
        rw [← this]
        congr 1
        omega
      refine (guard_ok _ _ _ _ ent37 (load1_ok b w.heap.size (w.heap.size + 1) (w.heap.size + 1 + 1) g cap bp bf n R S.st MP MF A a h0 h1 hn _ L.rows.listAt L.rows.seg k.high L.words b1 b2 b3 b5 (by omega) (by omega) e1 e2) ?_).mono ?_
      · rintro w' ⟨w2, kk, rfl⟩
        have ks := kk.size
        rw [bs, set_other _ (by omega), World.frozen?_setCell]
        exact ⟨(kk.cell (p := ⟨w.heap.size + 3, 0, none⟩) (by show w.heap.size + 3 < _; omega)).trans b4, (kk.frozen (p := ⟨w.heap.size + 3, 0, none⟩) (by show w.heap.size + 3 < _; omega)).trans b6⟩
      · rintro e w' ⟨rfl, w2', ⟨w2, kk, rfl⟩, rfl⟩
        have ks := kk.size
        have kb := bb.trans (kk.mono bb.size)
        rw [bs]
        refine ⟨rfl, below_set (below_set kb (by omega) _) (by omega) _, ?_, ?_⟩
        · rw [set_other _ (by omega), hx]
          exact World.cell?_setCell_same _ _ _ ((kk.cell (p := ⟨w.heap.size + 2, 0, none⟩) (by show w.heap.size + 2 < _; omega)).trans b3)
        · rw [World.frozen?_setCell, World.frozen?_setCell]
          exact (kk.frozen (p := ⟨w.heap.size + 2, 0, none⟩) (by show w.heap.size + 2 < _; omega)).trans b5
    · have hl : loadS S a.toNat = (0, 12) := by
        unfold loadS
        rw [if_neg (by omega), if_pos (by rw [show a.toNat / 8192 = (a / 8192).toNat by omega]; exact e2)]
      rw [hl]
      exact guard_fault ent37 (load1_bad b w.heap.size (w.heap.size + 1) (w.heap.size + 1 + 1) a 12 _ b1 b2 (touch_bad b g cap R S.st a h0 h1 hn _ L.rows.listAt L.rows.seg k.high e1 e2))
  · have hl : loadS S a.toNat = (0, 11) := by
      unfold loadS
      rw [if_pos (by omega)]
    rw [hl]
    exact guard_fault ent37 (load1_bad b w.heap.size (w.heap.size + 1) (w.heap.size + 1 + 1) a 11 _ b1 b2 (touch_odd b a h0 h1 _ e1))
theorem vload {w : World} {m : Addr} {S : Sp} {F : Nat → Prop} {K : Nat} (a : Int) (ha : two64 a) (h : VI w m S F K) (hK : K ≤ lim) :
    Calls Try.prog vm.load #[.pointer (some m), .int .u64 a] w fun e w' => e = .returned (.tuple #[.int .u64 ((loadS S a.toNat).1 : Nat), .int .i64 ((loadS S a.toNat).2 : Nat)]) ∧ Step VI F w w' m S K := by
  have hmf : ∀ (fn : Fn) (first cap : Array Value) (w : World), (Instr.makeFunc fn first cap).run Try.prog w = .ok (.func fn first cap) w := fun _ _ _ _ => rfl
  have V := hide h
  obtain ⟨b, g0, g1, g2, g, cap, R, bp, bf, n, MP, MF, A, rfl, e, l, k⟩ := h
  have G := hide (load_guard a ha V.out hK)
  clear e l k
  show Calls Try.prog 22 _ w _
  go_enter Try.func22, Try.ntmps22
  go_wp2_with fail
  refine G.out.mono ?_
  rintro e w5 ⟨rfl, B5, c5, f5⟩
  have HB := hide B5
  clear B5 G
  go_wp2_with fail
  simp [bodyPost, results, Try.results22, go_sem, c5]
  exact V.out.below (below_set HB.out (by omega) _)

/-! ### Store, Zero -/
theorem Moves.set {F F' : Nat → Prop} {w w' : World} (h : Moves F F' w w') {x k : Nat} (hx : w.heap.size ≤ x) (v : Value) : Moves F F' w (w'.setCell ⟨x, k, none⟩ v) :=
  ⟨⟨h.fr.os, h.fr.tape, h.fr.output, by simpa using h.fr.size, fun y hy hn => by rw [Below.heap_setCell _ _ _ _ (by simp; omega)]; exact h.fr.block y hy hn⟩, h.new⟩
theorem Fits.turn {S : Sp} {K K' n n' b bp bf : Nat} {w w' : World} {R : List (Nat × Nat)} {MP MF MP' MF' : Nat → Nat} {A A' : Nat → Nat → Nat} {Z : Nat → Prop} {W : Nat → Nat → Nat} (wd' : Nat → Nat) (h : Fits S K R n MP MF A) (k : WNow w w' b bp bf n' MP MF Z W MP' MF' A')
    (hz : ∀ p, S.st p ≠ 2 → Z p) (hwd : ∀ p j, j < 1024 → S.st p = 2 → wd' (p * 8192 + j * 8) = W p j) (hn : n' ≤ 2 * K') (hK : K ≤ K') : Fits { S with wd := wd' } K' R n' MP' MF' A' :=
  ⟨⟨h.wf.rising, h.wf.below, h.wf.mem, h.wf.le3⟩, h.chunk, h.zero, fun p j hj hp => (hwd p j hj hp).trans (k.at_ p j hj).symm, fun p hp => k.non p (hz p hp) (h.non p hp).1 (h.non p hp).2, h.pl, h.fi, by have := h.rl; omega, hn⟩
theorem Fits.more {S : Sp} {K K' n : Nat} {R : List (Nat × Nat)} {MP MF : Nat → Nat} {A : Nat → Nat → Nat} (h : Fits S K R n MP MF A) (hK : K ≤ K') : Fits S K' R n MP MF A :=
  ⟨h.wf, h.chunk, h.zero, h.at_, h.non, h.pl, h.fi, by have := h.rl; omega, by have := h.nl; omega⟩
theorem VI.more {w : World} {m : Addr} {S : Sp} {F : Nat → Prop} {K K' : Nat} (h : VI w m S F K) (hK : K ≤ K') : VI w m S F K' := by
  obtain ⟨b, g0, g1, g2, g, cap, R, bp, bf, n, MP, MF, A, e, e2, l, k⟩ := h
  exact ⟨b, g0, g1, g2, g, cap, R, bp, bf, n, MP, MF, A, e, e2, l, k.more hK⟩
/-- The words have turned under the guard. -/
theorem words_done {w w2 w' : World} {b g0 g1 g2 g cap bp bf n n' K K' : Nat} {R : List (Nat × Nat)} {S : Sp} {MP MF : Nat → Nat} {A : Nat → Nat → Nat} {Z : Nat → Prop} {W : Nat → Nat → Nat} (wd' : Nat → Nat) (x : Nat) (v : Value)
    (l : Lies w b S.places S.refuse S.fills S.st g0 g1 g2 g cap R bp bf n MP MF A) (f : Fits S K R n MP MF A) (kk : Below w.heap.size w w2) (hP : WPost w2 w' b bp bf n' MP MF Z W) (hx : w.heap.size ≤ x) (hx2 : x < w2.heap.size)
    (hz : ∀ p, S.st p ≠ 2 → Z p) (hwd : ∀ p j, j < 1024 → S.st p = 2 → wd' (p * 8192 + j * 8) = W p j) (hn : n' ≤ 2 * K') (hK : K ≤ K') :
    Step VI (Foot b g0 g1 g2 g bp bf S.places S.refuse S.fills MP) w (w'.setCell ⟨x, 0, none⟩ v) ⟨b, 0, none⟩ { S with wd := wd' } K' := by
  obtain ⟨MP', MF', A', k⟩ := hP
  obtain ⟨l', m⟩ := (l.below kk).turn k
  have m' : Moves (Foot b g0 g1 g2 g bp bf S.places S.refuse S.fills MP) (Foot b g0 g1 g2 g bp bf S.places S.refuse S.fills MP') w w' := (Moves.below kk).trans m
  refine VI.step (m'.set hx v) ⟨b, g0, g1, g2, g, cap, R, bp, bf, n', MP', MF', A', rfl, rfl, l'.kept (by simp) (fun y hy => ?_), f.turn wd' k hz hwd hn hK⟩
  refine Below.heap_setCell _ _ _ _ (fun e => ?_)
  simp at e
  subst e
  rcases m.new _ hy with z | z
  · have := l.lt z; omega
  · omega
theorem store_guard {w : World} {b : Nat} {S : Sp} {F : Nat → Prop} {K : Nat} (a c : Int) (ha : two64 a) (hc : two64 c) (h : VI w ⟨b, 0, none⟩ S F K) (hK : K ≤ lim) :
    Calls Try.prog 47 #[.func (.func 52) #[] #[.pointer (some ⟨w.heap.size, 0, none⟩), .pointer (some ⟨w.heap.size + 1, 0, none⟩), .pointer (some ⟨w.heap.size + 1 + 1, 0, none⟩)]] (box3 w (.pointer (some ⟨b, 0, none⟩)) (.int .u64 a) (.int .u64 c)) fun e w' =>
      e = .returned (.int .i64 ((storeS S a.toNat c.toNat).1 : Nat)) ∧ Step VI F w w' ⟨b, 0, none⟩ (storeS S a.toNat c.toNat).2 (K + 1) := by
  have V := h
  obtain ⟨b', g0, g1, g2, g, cap, R, bp, bf, n, MP, MF, A, e, rfl, l, k⟩ := h
  obtain rfl : b = b' := congrArg Addr.block e
  clear e
  have h0 := ha.1
  have h1 := ha.2
  have c0 := hc.1
  have c1 := hc.2
  have rl := k.rl
  have nl := k.nl
  have hn : R.length ≤ 70368744177664 := by unfold lim at hK; omega
  have hn2 : n ≤ 4398046511104 := by unfold lim at hK; omega
  obtain ⟨b1, b2, b3, b4, b5, b6, b7⟩ := box_cells w (.pointer (some ⟨b, 0, none⟩)) (.int .u64 a) (.int .u64 c) (.int .i64 0)
  have bb := box_below w (.pointer (some ⟨b, 0, none⟩)) (.int .u64 a) (.int .u64 c) (.int .i64 0)
  have bs := box_size w (.pointer (some ⟨b, 0, none⟩)) (.int .u64 a) (.int .u64 c)
  have b7' : ((box3 w (.pointer (some ⟨b, 0, none⟩)) (.int .u64 a) (.int .u64 c)).alloc (.cells #[.int .i64 0] 58)).heap.size = w.heap.size + 4 := b7
  have L := l.below bb
  by_cases e1 : a % 8 = 0
  · by_cases e2 : S.st (a / 8192).toNat = 2
    · have hl : storeS S a.toNat c.toNat = (0, { S with wd := fun x => if x = a.toNat then c.toNat else S.wd x }) := by
        unfold storeS
        rw [if_neg (by omega), if_neg (by rw [show a.toNat / 8192 = (a / 8192).toNat by omega, e2]; simp)]
      rw [hl]
      refine (guard_ok _ _ _ _ ent49 (store1_ok b w.heap.size (w.heap.size + 1) (w.heap.size + 1 + 1) bp bf n MP MF A a c.toNat h0 h1 (by omega) hn2 _ L.words b1 b2 (by rw [show ((c.toNat : Nat) : Int) = c by omega]; exact b3) (touch_ok b g cap R S.st a h0 h1 hn _ L.rows.listAt L.rows.seg k.high e1 e2)) ?_).mono ?_
      · rintro w' ⟨w2, kk, MP', MF', A', hP⟩
        have ks := kk.size
        have hw : ¬ WFoot bp bf MP (w.heap.size + 3) := fun z => by have := (l.words.foot z).1; omega
        rw [bs]
        exact ⟨(hP.fr.cell (by omega) hw).trans ((kk.cell (p := ⟨w.heap.size + 3, 0, none⟩) (by show w.heap.size + 3 < _; omega)).trans b4), (fz_of_block (hP.fr.block _ (by omega) hw)).trans ((kk.frozen (p := ⟨w.heap.size + 3, 0, none⟩) (by show w.heap.size + 3 < _; omega)).trans b6)⟩
      · rintro e w' ⟨rfl, w3, ⟨w2, kk, hP⟩, rfl⟩
        have ks := kk.size
        have kb := bb.trans (kk.mono bb.size)
        rw [bs]
        refine ⟨rfl, words_done _ _ _ l k kb hP (by omega) (by omega) (fun p hp e => hp (by rw [e, show a.toNat / 8192 = (a / 8192).toNat by omega]; exact e2)) (fun p j hj hp => ?_) (by omega) (by omega)⟩
        show (if p * 8192 + j * 8 = a.toNat then c.toNat else S.wd (p * 8192 + j * 8)) = _
        by_cases z : p = a.toNat / 8192 ∧ j = a.toNat % 8192 / 8
        · rw [if_pos z, if_pos (by omega)]
        · rw [if_neg z, if_neg (by omega)]
          exact k.at_ p j hj hp
    · have hl : storeS S a.toNat c.toNat = (12, S) := by
        unfold storeS
        rw [if_neg (by omega), if_pos (by rw [show a.toNat / 8192 = (a / 8192).toNat by omega]; exact e2)]
      rw [hl]
      exact (guard_fault ent49 (store1_bad b w.heap.size (w.heap.size + 1) (w.heap.size + 1 + 1) a 12 _ b1 b2 (touch_bad b g cap R S.st a h0 h1 hn _ L.rows.listAt L.rows.seg k.high e1 e2))).mono fun e w' ⟨h1, h2, _⟩ => ⟨h1, (V.more (by omega)).below h2⟩
  · have hl : storeS S a.toNat c.toNat = (11, S) := by
      unfold storeS
      rw [if_pos (by omega)]
    rw [hl]
    exact (guard_fault ent49 (store1_bad b w.heap.size (w.heap.size + 1) (w.heap.size + 1 + 1) a 11 _ b1 b2 (touch_odd b a h0 h1 _ e1))).mono fun e w' ⟨h1, h2, _⟩ => ⟨h1, (V.more (by omega)).below h2⟩
theorem vstore {w : World} {m : Addr} {S : Sp} {F : Nat → Prop} {K : Nat} (a c : Int) (ha : two64 a) (hc : two64 c) (h : VI w m S F K) (hK : K ≤ lim) :
    Calls Try.prog vm.store #[.pointer (some m), .int .u64 a, .int .u64 c] w fun e w' => e = .returned (.int .i64 ((storeS S a.toNat c.toNat).1 : Nat)) ∧ Step VI F w w' m (storeS S a.toNat c.toNat).2 (K + 1) := by
  have hmf : ∀ (fn : Fn) (first cap : Array Value) (w : World), (Instr.makeFunc fn first cap).run Try.prog w = .ok (.func fn first cap) w := fun _ _ _ _ => rfl
  have V := hide h
  obtain ⟨b, g0, g1, g2, g, cap, R, bp, bf, n, MP, MF, A, rfl, e, l, k⟩ := h
  have G := hide (store_guard a c ha hc V.out hK)
  obtain ⟨PO, hPO⟩ : ∃ PO : World → Prop, PO = fun w' => Step VI F w w' ⟨b, 0, none⟩ (storeS S a.toNat c.toNat).2 (K + 1) := ⟨_, rfl⟩
  obtain ⟨x, hx⟩ : ∃ x : Nat, x = (storeS S a.toNat c.toNat).1 := ⟨_, rfl⟩
  suffices Calls Try.prog 24 #[.pointer (some ⟨b, 0, none⟩), .int .u64 a, .int .u64 c] w fun e w' => e = .returned (.int .i64 (x : Int)) ∧ PO w' by rw [hPO, hx] at this; exact this
  have G2 := hide (G.out.mono (R' := fun e w' => e = .returned (.int .i64 (x : Int)) ∧ PO w') (fun e w' h => by rw [hPO, hx]; exact h))
  clear e l k G hPO hx V
  go_enter Try.func24, Try.ntmps24
  go_wp2_with fail
  refine G2.out.mono ?_
  rintro e w5 ⟨rfl, h5⟩
  have H5 := hide h5
  clear h5 G2
  go_wp2_with fail
  go_ret
  exact ⟨rfl, H5.out⟩

theorem part_same (p f : Int) (q : Nat) (w : World) : Calls Try.prog 74 #[.pointer (some ⟨q, 8, none⟩), .int .u64 p, .int .u64 f, .int .u64 f] w fun e w' => e = .returned (.tuple #[]) ∧ w' = w := by
  go_enter Try.func74, Try.ntmps74
  go_wp2_with fail
  ((try simp only [Exit.inBlock, Exit.then]); refine bodyPost_ret (results_none rfl _ _ _) rfl ?_)
  exact ⟨rfl, rfl⟩
theorem wzero_none (b : Nat) (a : Int) (ha : 0 ≤ a) (ha' : a < 18446744073709551616) (w : World) : Calls Try.prog 56 #[.pointer (some ⟨b, 8, none⟩), .int .u64 a, .int .u64 0] w fun e w' => e = .returned (.tuple #[]) ∧ w' = w := by
  go_enter Try.func56, Try.ntmps56
  go_wp2_with (first
    | (go_at_call 72; refine (split_core a ha ha' _).mono ?_; rintro e w' ⟨rfl, hw'⟩; rw [hw']; clear hw' w'))
  refine (part_same _ _ b _).mono ?_
  rintro e w' ⟨rfl, hw'⟩
  rw [hw']
  clear hw' w'
  go_wp2_with fail
  ((try simp only [Exit.inBlock, Exit.then]); refine bodyPost_ret (results_none rfl _ _ _) rfl ?_)
  exact ⟨rfl, rfl⟩
theorem ready_low {S : Sp} {a c : Nat} (h : allReady S a c) (hc : 0 < c) (hh : ∀ p, 34359738368 ≤ p → S.st p = 0) : a + c ≤ 281474976710656 := by
  rw [all_rows hc] at h
  have := h ((a + c - 1) / 8192) (by omega) (by omega)
  by_cases z : 34359738368 ≤ (a + c - 1) / 8192
  · rw [hh _ z] at this; cases this
  · omega
theorem zero_guard {w : World} {b : Nat} {S : Sp} {F : Nat → Prop} {K : Nat} (a c : Int) (ha : two64 a) (hc : two64 c) (h : VI w ⟨b, 0, none⟩ S F K) (hK : K ≤ lim) :
    Calls Try.prog 47 #[.func (.func 54) #[] #[.pointer (some ⟨w.heap.size, 0, none⟩), .pointer (some ⟨w.heap.size + 1, 0, none⟩), .pointer (some ⟨w.heap.size + 1 + 1, 0, none⟩)]] (box3 w (.pointer (some ⟨b, 0, none⟩)) (.int .u64 a) (.int .u64 c)) fun e w' =>
      e = .returned (.int .i64 ((zeroS S a.toNat c.toNat).1 : Nat)) ∧ Step VI F w w' ⟨b, 0, none⟩ (zeroS S a.toNat c.toNat).2 (K + cost (zeroS S a.toNat c.toNat).1 c.toNat) := by
  have V := h
  obtain ⟨b', g0, g1, g2, g, cap, R, bp, bf, n, MP, MF, A, e, rfl, l, k⟩ := h
  obtain rfl : b = b' := congrArg Addr.block e
  clear e
  have h0 := ha.1
  have h1 := ha.2
  have c0 := hc.1
  have c1 := hc.2
  have rl := k.rl
  have nl := k.nl
  have hn : R.length ≤ 2199023255552 := by unfold lim at hK; omega
  have hn2 : n ≤ 2199023255552 := by unfold lim at hK; omega
  obtain ⟨b1, b2, b3, b4, b5, b6, b7⟩ := box_cells w (.pointer (some ⟨b, 0, none⟩)) (.int .u64 a) (.int .u64 c) (.int .i64 0)
  have bb := box_below w (.pointer (some ⟨b, 0, none⟩)) (.int .u64 a) (.int .u64 c) (.int .i64 0)
  have bs := box_size w (.pointer (some ⟨b, 0, none⟩)) (.int .u64 a) (.int .u64 c)
  have b7' : ((box3 w (.pointer (some ⟨b, 0, none⟩)) (.int .u64 a) (.int .u64 c)).alloc (.cells #[.int .i64 0] 58)).heap.size = w.heap.size + 4 := b7
  have L := l.below bb
  by_cases e1 : a % 8 = 0 ∧ c % 8 = 0
  · by_cases cz : c = 0
    · subst cz
      have hl : zeroS S a.toNat (0 : Int).toNat = (0, S) := by
        unfold zeroS
        rw [if_neg (by simp; omega), if_pos (show Int.toNat 0 = 0 by rfl)]
      rw [hl]
      refine (guard_ok _ _ _ _ ent51 (zero1_ok b w.heap.size (w.heap.size + 1) (w.heap.size + 1 + 1) bp bf n MP MF A a 0 (fun w w' => w' = w) _ L.words b1 b2 b3 (tall_ok b g cap R S a 0 h0 h1 c0 c1 hn _ L.rows.listAt L.rows.seg e1.1 e1.2 (Or.inl rfl)) (fun w _ => wzero_none b a h0 h1 w)) ?_).mono ?_
      · rintro w' ⟨w2, kk, rfl⟩
        have ks := kk.size
        rw [bs]
        exact ⟨(kk.cell (p := ⟨w.heap.size + 3, 0, none⟩) (by show w.heap.size + 3 < _; omega)).trans b4, (kk.frozen (p := ⟨w.heap.size + 3, 0, none⟩) (by show w.heap.size + 3 < _; omega)).trans b6⟩
      · rintro e w' ⟨rfl, w3, ⟨w2, kk, rfl⟩, rfl⟩
        have kb := bb.trans (kk.mono bb.size)
        rw [bs]
        exact ⟨rfl, (V.more (by simp [cost])).below (below_set kb (by omega) _)⟩
    · by_cases e2 : allReady S a.toNat c.toNat
      · have hl : zeroS S a.toNat c.toNat = (0, { S with wd := fun x => if a.toNat ≤ x ∧ x < a.toNat + c.toNat then 0 else S.wd x }) := by
          unfold zeroS
          rw [if_neg (by omega), if_neg (by omega), if_neg (by exact fun z => z e2)]
        rw [hl]
        have low := ready_low e2 (by omega) k.high
        refine (guard_ok _ _ _ _ ent51 (zero1_ok b w.heap.size (w.heap.size + 1) (w.heap.size + 1 + 1) bp bf n MP MF A a c (fun w w' => Hid (WPost w w' b bp bf (n + 2) MP MF (fun _ => True) (zeroW a.toNat (a.toNat + c.toNat) (wordAt MP MF A)))) _ L.words b1 b2 b3 (tall_ok b g cap R S a c h0 h1 c0 c1 hn _ L.rows.listAt L.rows.seg e1.1 e1.2 (Or.inr ⟨by omega, e2⟩)) (fun w hw => wzero_core b bp bf n MP MF A w hw hn2 a c h0 c0 (by omega) e1.1 e1.2)) ?_).mono ?_
        · rintro w' ⟨w2, kk, hP⟩
          obtain ⟨MP', MF', A', hP⟩ := hP.out
          have ks := kk.size
          have hw : ¬ WFoot bp bf MP (w.heap.size + 3) := fun z => by have := (l.words.foot z).1; omega
          rw [bs]
          exact ⟨(hP.fr.cell (by omega) hw).trans ((kk.cell (p := ⟨w.heap.size + 3, 0, none⟩) (by show w.heap.size + 3 < _; omega)).trans b4), (fz_of_block (hP.fr.block _ (by omega) hw)).trans ((kk.frozen (p := ⟨w.heap.size + 3, 0, none⟩) (by show w.heap.size + 3 < _; omega)).trans b6)⟩
        · rintro e w' ⟨rfl, w3, ⟨w2, kk, hP⟩, rfl⟩
          have ks := kk.size
          have kb := bb.trans (kk.mono bb.size)
          rw [bs]
          refine ⟨rfl, words_done _ _ _ l k kb hP.out (by omega) (by omega) (fun _ _ => trivial) (fun p j hj hp => ?_) (by simp [cost]; omega) (by omega)⟩
          show (if a.toNat ≤ p * 8192 + j * 8 ∧ p * 8192 + j * 8 < a.toNat + c.toNat then 0 else S.wd (p * 8192 + j * 8)) = _
          unfold zeroW
          by_cases z : a.toNat ≤ p * 8192 + j * 8 ∧ p * 8192 + j * 8 < a.toNat + c.toNat
          · rw [if_pos z, if_pos z]
          · rw [if_neg z, if_neg z]
            exact k.at_ p j hj hp
      · have hl : zeroS S a.toNat c.toNat = (12, S) := by
          unfold zeroS
          rw [if_neg (by omega), if_neg (by omega), if_pos e2]
        rw [hl]
        exact (guard_fault ent51 (zero1_bad b w.heap.size (w.heap.size + 1) (w.heap.size + 1 + 1) a c 12 _ b1 b2 b3 (tall_bad b g cap R S a c h0 h1 c0 c1 hn _ L.rows.listAt L.rows.seg e1.1 e1.2 cz (fun z => e2 z.2)))).mono fun e w' ⟨h1, h2, _⟩ => ⟨h1, (V.more (by omega)).below h2⟩
  · have hl : zeroS S a.toNat c.toNat = (11, S) := by
      unfold zeroS
      rw [if_pos (by omega)]
    rw [hl]
    exact (guard_fault ent51 (zero1_bad b w.heap.size (w.heap.size + 1) (w.heap.size + 1 + 1) a c 11 _ b1 b2 b3 (tall_odd b a c h0 h1 c0 c1 _ e1))).mono fun e w' ⟨h1, h2, _⟩ => ⟨h1, (V.more (by omega)).below h2⟩
theorem vzero {w : World} {m : Addr} {S : Sp} {F : Nat → Prop} {K : Nat} (a c : Int) (ha : two64 a) (hc : two64 c) (h : VI w m S F K) (hK : K ≤ lim) :
    Calls Try.prog vm.zero #[.pointer (some m), .int .u64 a, .int .u64 c] w fun e w' => e = .returned (.int .i64 ((zeroS S a.toNat c.toNat).1 : Nat)) ∧ Step VI F w w' m (zeroS S a.toNat c.toNat).2 (K + cost (zeroS S a.toNat c.toNat).1 c.toNat) := by
  have hmf : ∀ (fn : Fn) (first cap : Array Value) (w : World), (Instr.makeFunc fn first cap).run Try.prog w = .ok (.func fn first cap) w := fun _ _ _ _ => rfl
  have V := hide h
  obtain ⟨b, g0, g1, g2, g, cap, R, bp, bf, n, MP, MF, A, rfl, e, l, k⟩ := h
  have G := hide (zero_guard a c ha hc V.out hK)
  obtain ⟨PO, hPO⟩ : ∃ PO : World → Prop, PO = fun w' => Step VI F w w' ⟨b, 0, none⟩ (zeroS S a.toNat c.toNat).2 (K + cost (zeroS S a.toNat c.toNat).1 c.toNat) := ⟨_, rfl⟩
  obtain ⟨x, hx⟩ : ∃ x : Nat, x = (zeroS S a.toNat c.toNat).1 := ⟨_, rfl⟩
  suffices Calls Try.prog 26 #[.pointer (some ⟨b, 0, none⟩), .int .u64 a, .int .u64 c] w fun e w' => e = .returned (.int .i64 (x : Int)) ∧ PO w' by rw [hPO, hx] at this; exact this
  have G2 := hide (G.out.mono (R' := fun e w' => e = .returned (.int .i64 (x : Int)) ∧ PO w') (fun e w' h => by rw [hPO, hx]; exact h))
  clear e l k G hPO hx V
  go_enter Try.func26, Try.ntmps26
  go_wp2_with fail
  refine G2.out.mono ?_
  rintro e w5 ⟨rfl, h5⟩
  have H5 := hide h5
  clear h5 G2
  go_wp2_with fail
  go_ret
  exact ⟨rfl, H5.out⟩
end Go.Proofs.Ytlfcnaalkjpgnaa

/- The landed package's 'set': pages are given a state. -/
namespace Go.Proofs.Ytlfcnaalkjpgnaa
open Go.ChangeShapes Go.WideShapes Go.ChangeAt Go.RowKit Go.Proofs.Sp

set_option maxRecDepth 100000 in
set_option maxHeartbeats 4000000 in
theorem set_core (b o g cap : Nat) (R : List (Nat × Nat)) (f : Nat → Nat) (p q : Int) (s : Nat) (hp : 0 < p) (hpq : p < q) (hq : q ≤ 34359738368) (hs3 : s ≤ 3) (hn : R.length ≤ 1099511627777) (w : World) (hM : RowsM w b o g cap R f) :
    Calls Try.prog 34 #[.pointer (some ⟨b, o, none⟩), .int .u64 p, .int .u64 q, .int .i64 (s : Int)] w fun e w' => e = .returned (.tuple #[]) ∧ SetPost b o g R (putSt f p.toNat q.toNat s) w w' := by
  have hL := hM.listAt
  have hseg := hM.seg
  have hl := hL.list
  have hbl := cell_lt hl
  have HM := hide hM
  have HL := hide hL
  have hfz := hM.fz
  clear hM hL
  go_enter Try.func34, Try.ntmps34
  go_wp2_with fail
  refine (parts_core b o g cap R f p q (by omega) hpq hq (by omega) w HL.out HM.out.seg).mono ?_
  rintro e w1 ⟨v, Ps, rfl, hP, hcov, hplen, hpb, b1⟩
  have hne : Ps ≠ [] := by
    rintro rfl
    have : p.toNat = q.toNat := hcov
    omega
  rcases hP with ⟨_, h0⟩ | ⟨gp, cp, rfl, hgp, hPc⟩
  · exact absurd h0 hne
  have hgpw : w.heap.size ≤ gp := hpb gp rfl
  have cw0 : CW b o w1 w1 (fun k => cntI f 0 34359738368 k - cntI f p.toNat (p.toNat - p.toNat) k) := CW.start fun k hk => by
    rw [b1.cell (p := ⟨b, o + 1 + k, none⟩) hbl, HM.out.cnt k hk]
    have : cntI f p.toNat (p.toNat - p.toNat) k = 0 := by rw [Nat.sub_self]; rfl
    rw [this, Nat.sub_zero]
  have cs0 : CState f p.toNat q.toNat Ps 0 p.toNat := ⟨by rw [List.drop_zero]; exact hcov, Nat.le_refl _⟩
  have CW0 := hide cw0
  have CS0 := hide cs0
  have HP := hide hPc
  have hb1 : b < w1.heap.size := Nat.lt_of_lt_of_le hbl b1.size
  have HFZ := hide hfz
  clear cw0 cs0 hPc hcov hne hpb hfz hseg
  go_wp2_with fail
  go_loopw [20] (fun iv wr => ∃ (k c : Nat), iv = .int .i64 (k : Int) ∧ k ≤ Ps.length ∧ Hid (CState f p.toNat q.toNat Ps k c) ∧ Hid (CW b o w1 wr (fun j => cntI f 0 34359738368 j - cntI f p.toNat (c - p.toNat) j))) (fun iv _ => Ps.length - (intOf iv).toNat)
  case atStart => exact ⟨0, p.toNat, rfl, Nat.zero_le _, CS0, CW0⟩
  case round =>
    obtain ⟨k, c, rfl, hk, hS, hC⟩ := hrel
    clear CS0 CW0
    by_cases hlt : k < Ps.length
    · obtain ⟨s1, s2, s3, s4, nx⟩ := hS.out.next hlt
      obtain ⟨c1, c2, c3⟩ := HP.out k hlt
      have hngb : gp ≠ b := by omega
      rw [← hC.out.old hgp (Or.inl hngb)] at c1 c2 c3
      obtain ⟨d, hd⟩ : ∃ d, d = Ps[k].2.1 := ⟨_, rfl⟩
      obtain ⟨t, ht⟩ : ∃ t, t = Ps[k].2.2 := ⟨_, rfl⟩
      rw [s1] at c1
      rw [← hd] at c2 s2 s3 s4 nx
      rw [← ht] at c3 s4
      have ht3 : t ≤ 3 := by rw [← s4 c (Nat.le_refl _) s2]; exact HM.out.le3 c
      have NX := hide nx
      have S4 := hide s4
      have hcn := hC.out.cnt t (by omega)
      have hf0 : wr.frozen? ⟨b, o + 1 + t, none⟩ = false := by rw [hC.out.fz, b1.frozen (p := ⟨b, o + 1 + t, none⟩) hbl]; exact HFZ.out _
      obtain ⟨z, hz⟩ : ∃ z, z = cntI f 0 34359738368 t - cntI f p.toNat (c - p.toNat) t := ⟨_, rfl⟩
      rw [← hz] at hcn
      have hbr : b < wr.heap.size := Nat.lt_of_lt_of_le hb1 hC.out.size
      have HZ := hide hz
      clear nx s4 s1 hd ht hz
      have ht0 : (0 : Int) ≤ (t : Int) := by omega
      have ht4 : (t : Int) < 4 := by omega
      go_wp2_with fail
      refine still_tail 16 (by kernel_rfl) (by kernel_rfl) ?_
      simp only [List.take_succ_cons, List.take_zero, List.drop_succ_cons, List.drop_zero]
      repeat still_step
      refine wpStill_nil ?_
      go_wp2_with fail
      refine ⟨⟨k + 1, d, by go_num, by omega, NX, ?_⟩, by simp [intOf]; omega⟩
      have hz := HZ.out
      have tk := fun j => taken (k := j) hS.out.fc (Nat.le_of_lt s2) S4.out
      have tt := tk t
      rw [if_pos rfl] at tt
      have sub := cntI_sub f p.toNat (d - p.toNat) 34359738368 t (by have := hS.out.fc; omega)
      have lim := cntI_lim f t
      rw [u64_nat _ (z - (d - c)) (by omega) (by omega)]
      have cw := ((hC.out.put t (by omega) (z - (d - c))).below hb1 (((Below.refl _ _).alloc (Nat.le_refl _) (Obj.cells #[Value.int IntKind.u64 (c : Int), Value.int IntKind.u64 (d : Int), Value.int IntKind.i64 (t : Int)] 81)).drew))
      exact cw.ext fun j hj => by
        by_cases e : j = t
        · subst e; rw [if_pos rfl]; omega
        · rw [if_neg e]
          have := tk j
          rw [if_neg (fun z => e z.symm)] at this
          omega
    · have hke : k = Ps.length := by omega
      have hce : c = q.toNat := by
        have := hS.out.rest
        rw [hke, List.drop_length] at this
        exact this
      subst hke hce
      have hCW := hC.out
      have hcn := hCW.cnt s (by omega)
      have hf0 : wr.frozen? ⟨b, o + 1 + s, none⟩ = false := by rw [hCW.fz, b1.frozen (p := ⟨b, o + 1 + s, none⟩) hbl]; exact HFZ.out _
      obtain ⟨z, hz⟩ : ∃ z, z = cntI f 0 34359738368 s - cntI f p.toNat (q.toNat - p.toNat) s := ⟨_, rfl⟩
      rw [← hz] at hcn
      have HZ := hide hz
      have hbr : b < wr.heap.size := Nat.lt_of_lt_of_le hb1 hCW.size
      clear hCW hz hS hk hlt
      have ht0 : (0 : Int) ≤ (s : Int) := by omega
      have ht4 : (s : Int) < 4 := by omega
      go_wp2_with fail
      refine still_tail 13 (by kernel_rfl) (by kernel_rfl) ?_
      simp only [List.take_succ_cons, List.take_zero, List.drop_succ_cons, List.drop_zero]
      repeat still_step
      refine wpStill_nil ?_
      go_wp2_with fail
      obtain ⟨w2, hw2, cw2⟩ : ∃ w2, w2 = (wr.setCell ⟨b, o + 1 + s, none⟩ (Value.int IntKind.u64 (IntKind.u64.wrap ((z : Int) + (q - p))))).drew ∧ CW b o w1 w2 (fun j => cntI (putSt f p.toNat q.toNat s) 0 34359738368 j) := by
        refine ⟨_, rfl, ?_⟩
        have hz := HZ.out
        have cs := fun j => cnt_set f p.toNat (q.toNat - p.toNat) s 34359738368 j (by omega)
        rw [show p.toNat + (q.toNat - p.toNat) = q.toNat by omega] at cs
        have css := cs s
        rw [if_pos rfl] at css
        have sub := fun j => cntI_sub f p.toNat (q.toNat - p.toNat) 34359738368 j (by omega)
        have lim := cntI_lim (putSt f p.toNat q.toNat s) s
        have subs := sub s
        rw [u64_nat _ (z + (q.toNat - p.toNat)) (by omega) (by omega)]
        have cw := (hC.out.put s (by omega) (z + (q.toNat - p.toNat))).below hb1 (Below.refl _ _).drew
        refine cw.ext fun j hj => ?_
        by_cases e : j = s
        · subst e; rw [if_pos rfl]; omega
        · rw [if_neg e]
          have h1 := cs j
          have h2 := sub j
          rw [if_neg (fun z => e z.symm)] at h1
          omega
      rw [← hw2]
      clear hw2 hcn hf0 HZ hC HP hgp
      obtain ⟨i, hi, i1, i2⟩ := HM.out.seg.at p.toNat (by omega) (by omega)
      obtain ⟨j, hj, j1, j2⟩ := HM.out.seg.at (q - 1).toNat (by omega) (by omega)
      have L2 := hide (cw2.listAt (HL.out.below b1) HM.out.ne)
      have I12 := hide (And.intro i1 i2)
      have J12 := hide (And.intro j1 j2)
      have CW2 := hide cw2
      clear cw2 i1 i2 j1 j2
      refine (at_core b o g cap R f p (by omega) (by omega) (by omega) w2 L2.out HM.out.seg i hi I12.out.1 I12.out.2).mono ?_
      rintro e w3 ⟨rfl, b3⟩
      go_wp2_with fail
      refine (at_core b o g cap R f (q - 1) (by omega) (by omega) (by omega) w3 (L2.out.below b3) HM.out.seg j hj J12.out.1 J12.out.2).mono ?_
      rintro e w4 ⟨rfl, b4⟩
      have cw4 := (CW2.out.below hb1 b3).below hb1 b4
      have l4 := cw4.listAt (HL.out.below b1) HM.out.ne
      have sj := l4.state j hj
      have fi := l4.first i hi
      have ll := l4.list
      have ec := end_core b o g cap R (j : Int) (by omega) (by omega) (by omega)
      rw [show ((j : Int).toNat + 1) = j + 1 by omega] at ec
      have EC := hide ec
      have L4 := hide l4
      have CW4 := hide cw4
      clear cw4 l4 ec L2 CW2 b3 b4
      obtain ⟨sb, hsb⟩ : ∃ sb, sb = R[j].2 := ⟨_, rfl⟩
      obtain ⟨y, hy⟩ : ∃ y, y = startR R 34359738368 (j + 1) := ⟨_, rfl⟩
      obtain ⟨fi1, hfi1⟩ : ∃ fi1, fi1 = R[i].1 := ⟨_, rfl⟩
      rw [← hsb] at sj
      rw [← hfi1] at fi
      rw [← hy] at EC
      have HSB := hide hsb
      have HY := hide hy
      have HFI := hide hfi1
      clear hsb hy hfi1
      have k0 : (0 : Int) ≤ (j : Int) := by omega
      have k1 : (j : Int) < (R.length : Int) := by omega
      go_wp2_with fail
      generalize hu : (j : Int) + 1 = u
      have k2 : IntKind.i64.wrap (u - 1) = (j : Int) := by rw [← hu, IntKind.wrap_i64]; omega
      have HU := hide hu
      clear hu
      go_region_held3 (fun w' => w'.cell? ⟨b, o, none⟩ = some (.slice (some ⟨g, 0, none⟩) R.length cap) ∧ w'.cell? ⟨g, j * 2 + 1, none⟩ = some (.int .i64 (sb : Int))) (go_keep) (first
        | (go_at_call 62; refine (EC.out _ (L4.out.drewN 1)).mono ?_; rintro e w' ⟨rfl, rfl⟩))
      rw [← HU.out]
      clear k2 HU EC
      go_upto_if 86 with fail
      go_cut [10] from 15 (fun s10 wc => ∃ e : Nat, s10 = .int .i64 ((e : Int) + 1) ∧ wc = w4.drewN 1 ∧ e < R.length ∧ Hid (e + 1 = if R[i].1 < p.toNat then i + 1 else i))
      case first =>
        by_cases hA : (fi1 : Int) < p
        · go_wp2_with fail
          go_meet
          case rel => exact ⟨i, by go_num, rfl, hi, hide (by rw [← HFI.out, if_pos (by omega)])⟩
        · have hi0 : 0 < i := by
            by_cases z : i = 0
            · subst z
              have := HM.out.seg.start
              rw [startR_lt hi] at this
              have := HFI.out
              omega
            · omega
          go_wp2_with fail
          go_meet
          case rel => exact ⟨i - 1, by rw [show ((i - 1 : Nat) : Int) + 1 = (i : Int) by omega], rfl, by omega, hide (by rw [← HFI.out, if_neg (by omega)]; omega)⟩
      case rest =>
        obtain ⟨e, rfl, rfl, he, HE⟩ := hcut
        obtain ⟨ii, hii, hz0, hz1, hz2⟩ := info_parts infoR
        have se := L4.out.state e he
        obtain ⟨sp, hsp⟩ : ∃ sp, sp = R[e].2 := ⟨_, rfl⟩
        rw [← hsp] at se
        have HSP := hide hsp
        clear hsp
        have k3 : (0 : Int) ≤ (e : Int) := by omega
        have k4 : (e : Int) < (R.length : Int) := by omega
        have k5 : (((e : Int) + 1) == 0) = false := beq_eq_false_iff_ne.2 (by omega)
        have hfr0 : FreshB (w4.drewN 1) (.slice none 0 0) [] w4.heap.size := Or.inl ⟨rfl, rfl⟩
        have FR0 := hide hfr0
        clear hfr0
        go_upto_if 103 with fail
        go_cut [14] from 15 (fun s14 wc => ∃ F1 : List (Nat × Nat), Below w4.heap.size w4 wc ∧ Hid (FreshB wc s14 F1 w4.heap.size) ∧ Hid (F1 = if sp ≠ s then [(p.toNat, s)] else []))
        case first =>
          by_cases hB : sp = s
          · have hB' : ((sp : Int) != (s : Int)) = false := by rw [hB]; simp
            go_wp2_with fail
            go_meet
            case rel => exact ⟨[], below_drewN (Below.refl _ _) 1, FR0, hide (by rw [if_neg (fun z => z hB)])⟩
          · have hB' : ((sp : Int) != (s : Int)) = true := by rw [bne_iff_ne]; omega
            go_wp2_with (first | (at_builtin; refine wpList_append_lies _ rfl (.tmp 104) (.tmp 108) 42 rfl 0 70 ii _ 2 16 Try.underlying42 hii hz0 hz1 hz2 rfl (by decide) (.slice none 0 0) 0 [] rfl (World.ownsRow_nil _ _ _ _) ⟨w4.heap.size, 0, none⟩ 1 1 [.int .u64 p, .int .i64 (s : Int)] rfl rfl (World.news_of_block (B := w4.heap.size) (heap_alloc_new (w4.drewN 1) _)) (by simp [Value.oneCell']) (by decide) (by decide) (by decide) (Nat.zero_le _) _ rfl ?_; intro g1 cap1 w5 hown1 hgrow1 hat1 hlt1))
            have hfr1 : FreshB ((w4.drewN 1).alloc (Obj.cells #[Value.int .u64 p, Value.int .i64 (s : Int)] 70)) (.slice none 0 0) [] w4.heap.size := Or.inl ⟨rfl, rfl⟩
            have bel : Below w4.heap.size w4 w5 := FreshB.below hfr1 hgrow1 ((below_drewN (Below.refl _ _) 1).alloc (Nat.le_refl _) _) (by simp)
            have fr1 : Hid (FreshB w5 (.slice (some ⟨g1, 0, none⟩) (0 + 1) cap1) [(p.toNat, s)] w4.heap.size) := FreshB.push (F := []) (a := p.toNat) hfr1 (by omega) hown1 hat1 (by simp)
            have e1 : Hid ([(p.toNat, s)] = if sp ≠ s then [(p.toNat, s)] else []) := hide (by rw [if_pos hB])
            clear hown1 hgrow1 hat1 hlt1 hfr1
            go_meet
            case rel => exact ⟨[(p.toNat, s)], bel, fr1, e1⟩
        case rest =>
          obtain ⟨F1, bc, HF1, HE1⟩ := hcut
          have hl1 : F1.length ≤ 1 := by rw [HE1.out]; split <;> simp
          have hF1E := hide (show F1 = if e + 1 = 0 ∨ (R[e + 1 - 1]?.map (·.2)) ≠ some s then [(p.toNat, s)] else [] by
            rw [HE1.out, show e + 1 - 1 = e by omega, List.getElem?_eq_getElem he]
            by_cases z : sp = s
            · rw [if_neg (fun x => x z), if_neg (by rintro (x | x); omega; exact x (by simp [← HSP.out, z]))]
            · rw [if_pos z, if_pos (Or.inr (by simp [← HSP.out]; exact z))])
          have hwc := bc.size
          clear FR0
          by_cases hr : q < (y : Int)
          · have hr' : decide (q < (y : Int)) = true := by simpa using hr
            rw [hr']
            clear hr'
            go_upto_if 115 with fail
            go_cut [14] from 15 (fun s14 wd => ∃ F2 : List (Nat × Nat), F2.length ≤ 1 ∧ Below w4.heap.size w4 wd ∧ Hid (FreshB wd s14 (F1 ++ F2) w4.heap.size) ∧ Hid (F2 = if q.toNat < startR R 34359738368 (j + 1) ∧ R[j].2 ≠ s then [(q.toNat, R[j].2)] else []))
            case first =>
              by_cases hC : sb = s
              · have hC' : ((sb : Int) != (s : Int)) = false := by rw [hC]; simp
                have e2 : Hid (([] : List (Nat × Nat)) = if q.toNat < startR R 34359738368 (j + 1) ∧ R[j].2 ≠ s then [(q.toNat, R[j].2)] else []) := hide (by rw [← HSB.out, if_neg (fun z => z.2 hC)])
                have fr2 : Hid (FreshB wc u14 (F1 ++ []) w4.heap.size) := by rw [List.append_nil]; exact HF1
                go_wp2_with fail
                go_meet
                case rel => exact ⟨[], by simp, bc, fr2, e2⟩
              · have hC' : ((sb : Int) != (s : Int)) = true := by rw [bne_iff_ne]; omega
                have hal : FreshB (wc.alloc (Obj.cells #[Value.int .u64 q, Value.int .i64 (sb : Int)] 70)) u14 F1 w4.heap.size := HF1.out.alloc _
                have HAL := hide hal
                have e2 : Hid ([(q.toNat, sb)] = if q.toNat < startR R 34359738368 (j + 1) ∧ R[j].2 ≠ s then [(q.toNat, R[j].2)] else []) := hide (by rw [← HSB.out, ← HY.out, if_pos ⟨by omega, hC⟩])
                clear hal
                go_wp2_with (first | (at_builtin; refine wpList_append_lies _ rfl (.tmp 116) (.tmp 120) 42 rfl 0 70 ii _ 2 16 Try.underlying42 hii hz0 hz1 hz2 rfl (by decide) u14 F1.length (flat2 F1) rfl HAL.out.owns ⟨wc.heap.size, 0, none⟩ 1 1 [.int .u64 q, .int .i64 (sb : Int)] rfl rfl (World.news_of_block (B := wc.heap.size) (heap_alloc_new wc _)) (by simp [Value.oneCell']) (by decide) (by unfold maxLen; omega) (by omega) (Nat.zero_le _) _ rfl ?_; intro g1 cap1 w5 hown1 hgrow1 hat1 hlt1))
                have bel : Below w4.heap.size w4 w5 := FreshB.below HAL.out hgrow1 (bc.alloc hwc _) (by simp; omega)
                have fr1 : Hid (FreshB w5 (.slice (some ⟨g1, 0, none⟩) (F1.length + 1) cap1) (F1 ++ [(q.toNat, sb)]) w4.heap.size) := FreshB.push (a := q.toNat) HAL.out (by omega) hown1 hat1 (by simp; omega)
                clear hown1 hgrow1 hat1 hlt1 HAL
                go_meet
                case rel => exact ⟨[(q.toNat, sb)], by simp, bel, fr1, e2⟩
            case rest =>
              obtain ⟨F2, hl2, bd, HF2, HE2⟩ := hcut
              have hto := hide (show j + 1 = if ¬ q.toNat < startR R 34359738368 (j + 1) ∧ (R[j + 1]?.map (·.2)) = some s then j + 2 else j + 1 by rw [← HY.out, if_neg (fun z => z.1 (by omega))])
              obtain ⟨llx, fzx, bx, rc⟩ := set_ready HM.out hbl b1 CW4.out bd hn (p := p.toNat) (q := q.toNat) (s := s) (by omega) hi I12.out.1 I12.out.2 hj (by have := J12.out.1; omega) (by have := J12.out.2; omega) HE.out hF1E.out hto.out HE2.out HF2.out
              have RC := hide rc
              clear rc ll
              go_wp2_with fail
              rw [show (e : Int) + 1 = ((e + 1 : Nat) : Int) by omega, show (j : Int) + 1 = ((j + 1 : Nat) : Int) by omega]
              refine RC.out.mono ?_
              rintro ee w7 ⟨v7, rfl, hnow⟩
              obtain ⟨c7, f7⟩ := now_cell (k := o) hnow bx HM.out.ne
              rw [llx] at c7
              rw [fzx] at f7
              obtain ⟨g7, cp7, n7, hv7⟩ := now_form hnow
              subst hv7
              have FIN := hide (set_fin HM.out hbl b1 CW4.out bd (p := p.toNat) (q := q.toNat) (s := s) (by omega) hs3 hi I12.out.1 I12.out.2 hj (by have := J12.out.1; omega) (by have := J12.out.2; omega) HE.out hF1E.out hto.out HE2.out hnow)
              clear RC hnow llx fzx
              go_wp2_with fail
              go_end0
              exact ⟨rfl, FIN.out⟩
          · have hr' : decide (q < (y : Int)) = false := by simpa using hr
            rw [hr']
            clear hr'
            have HE2 := hide (show ([] : List (Nat × Nat)) = if q.toNat < startR R 34359738368 (j + 1) ∧ R[j].2 ≠ s then [(q.toNat, R[j].2)] else [] by rw [← HY.out, if_neg (fun z => hr (by omega))])
            have HF2 : Hid (FreshB wc u14 (F1 ++ []) w4.heap.size) := by rw [List.append_nil]; exact HF1
            by_cases hl : j + 1 < R.length
            · have sn := L4.out.state (j + 1) hl
              rw [← bc.cell (p := ⟨g, (j + 1) * 2 + 1, none⟩) (cell_lt sn)] at sn
              obtain ⟨sx, hsx⟩ : ∃ sx, sx = R[j + 1].2 := ⟨_, rfl⟩
              rw [← hsx] at sn
              have HSX := hide hsx
              clear hsx
              have l1' : (j : Int) + 1 < (R.length : Int) := by omega
              by_cases hD : sx = s
              · have hD' : ((sx : Int) == (s : Int)) = true := by rw [hD]; simp
                have hto := hide (show j + 2 = if ¬ q.toNat < startR R 34359738368 (j + 1) ∧ (R[j + 1]?.map (·.2)) = some s then j + 2 else j + 1 by rw [← HY.out, List.getElem?_eq_getElem hl, if_pos ⟨by omega, by simp [← HSX.out, hD]⟩])
                obtain ⟨llx, fzx, bx, rc⟩ := set_ready HM.out hbl b1 CW4.out bc hn (p := p.toNat) (q := q.toNat) (s := s) (by omega) hi I12.out.1 I12.out.2 hj (by have := J12.out.1; omega) (by have := J12.out.2; omega) HE.out hF1E.out hto.out HE2.out HF2.out
                have RC := hide rc
                clear rc ll
                go_wp2_with fail
                rw [show (e : Int) + 1 = ((e + 1 : Nat) : Int) by omega, show (j : Int) + 1 + 1 = ((j + 2 : Nat) : Int) by omega]
                refine RC.out.mono ?_
                rintro ee w7 ⟨v7, rfl, hnow⟩
                obtain ⟨c7, f7⟩ := now_cell (k := o) hnow bx HM.out.ne
                rw [llx] at c7
                rw [fzx] at f7
                obtain ⟨g7, cp7, n7, hv7⟩ := now_form hnow
                subst hv7
                have FIN := hide (set_fin HM.out hbl b1 CW4.out bc (p := p.toNat) (q := q.toNat) (s := s) (by omega) hs3 hi I12.out.1 I12.out.2 hj (by have := J12.out.1; omega) (by have := J12.out.2; omega) HE.out hF1E.out hto.out HE2.out hnow)
                clear RC hnow llx fzx
                go_wp2_with fail
                go_end0
                exact ⟨rfl, FIN.out⟩
              · have hD' : ((sx : Int) == (s : Int)) = false := beq_eq_false_iff_ne.2 (by omega)
                have hto := hide (show j + 1 = if ¬ q.toNat < startR R 34359738368 (j + 1) ∧ (R[j + 1]?.map (·.2)) = some s then j + 2 else j + 1 by rw [List.getElem?_eq_getElem hl, if_neg (fun z => hD (by simpa [← HSX.out] using z.2))])
                obtain ⟨llx, fzx, bx, rc⟩ := set_ready HM.out hbl b1 CW4.out bc hn (p := p.toNat) (q := q.toNat) (s := s) (by omega) hi I12.out.1 I12.out.2 hj (by have := J12.out.1; omega) (by have := J12.out.2; omega) HE.out hF1E.out hto.out HE2.out HF2.out
                have RC := hide rc
                clear rc ll
                go_wp2_with fail
                rw [show (e : Int) + 1 = ((e + 1 : Nat) : Int) by omega, show (j : Int) + 1 = ((j + 1 : Nat) : Int) by omega]
                refine RC.out.mono ?_
                rintro ee w7 ⟨v7, rfl, hnow⟩
                obtain ⟨c7, f7⟩ := now_cell (k := o) hnow bx HM.out.ne
                rw [llx] at c7
                rw [fzx] at f7
                obtain ⟨g7, cp7, n7, hv7⟩ := now_form hnow
                subst hv7
                have FIN := hide (set_fin HM.out hbl b1 CW4.out bc (p := p.toNat) (q := q.toNat) (s := s) (by omega) hs3 hi I12.out.1 I12.out.2 hj (by have := J12.out.1; omega) (by have := J12.out.2; omega) HE.out hF1E.out hto.out HE2.out hnow)
                clear RC hnow llx fzx
                go_wp2_with fail
                go_end0
                exact ⟨rfl, FIN.out⟩
            · have l1' : ¬ (j : Int) + 1 < (R.length : Int) := by omega
              have l2' : decide ((j : Int) + 1 < (R.length : Int)) = false := by simpa using l1'
              have hto := hide (show j + 1 = if ¬ q.toNat < startR R 34359738368 (j + 1) ∧ (R[j + 1]?.map (·.2)) = some s then j + 2 else j + 1 by rw [List.getElem?_eq_none (by omega), if_neg (fun z => by simpa using z.2)])
              obtain ⟨llx, fzx, bx, rc⟩ := set_ready HM.out hbl b1 CW4.out bc hn (p := p.toNat) (q := q.toNat) (s := s) (by omega) hi I12.out.1 I12.out.2 hj (by have := J12.out.1; omega) (by have := J12.out.2; omega) HE.out hF1E.out hto.out HE2.out HF2.out
              have RC := hide rc
              clear rc ll
              go_wp2_with fail
              rw [show (e : Int) + 1 = ((e + 1 : Nat) : Int) by omega, show (j : Int) + 1 = ((j + 1 : Nat) : Int) by omega]
              refine RC.out.mono ?_
              rintro ee w7 ⟨v7, rfl, hnow⟩
              obtain ⟨c7, f7⟩ := now_cell (k := o) hnow bx HM.out.ne
              rw [llx] at c7
              rw [fzx] at f7
              obtain ⟨g7, cp7, n7, hv7⟩ := now_form hnow
              subst hv7
              have FIN := hide (set_fin HM.out hbl b1 CW4.out bc (p := p.toNat) (q := q.toNat) (s := s) (by omega) hs3 hi I12.out.1 I12.out.2 hj (by have := J12.out.1; omega) (by have := J12.out.2; omega) HE.out hF1E.out hto.out HE2.out hnow)
              clear RC hnow llx fzx
              go_wp2_with fail
              go_end0
              exact ⟨rfl, FIN.out⟩
end Go.Proofs.Ytlfcnaalkjpgnaa
