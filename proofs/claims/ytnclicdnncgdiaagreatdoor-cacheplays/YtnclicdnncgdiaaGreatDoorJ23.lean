/- J23 of the proof of both laws: texts Zk, Zn, Pc, one behind the other. -/
import Derived.Test.YtnclicdnncgdiaaGreatDoorJ22
/- The reference's tree: Alloc: its contract. -/
namespace Go.Proofs.YtnclicdnncgdiaaGreatDoor
open Go.ChangeShapes Go.WideShapes Go.ChangeAt Go.RowKit Go.Proofs.Bt Go.Shelf Go.Proofs.Rx Go.Maps Go.Proofs.Pk
set_option linter.unusedVariables false
set_option linter.unusedSimpArgs false

section
variable {F : Nat → Prop} {W : World} {rb : Nat} {st : Nat → Nat} {Q : List (Nat × Nat)} {o : Option Addr} {c : Nat}
theorem r9_Find (h : RefAt F W rb st Q o c) (hl : Q.length ≤ 1000000) (n p : Nat) (hn : n < 18446744073709551616) (h1 : 1 ≤ n) (hf : First st n p) :
    Calls Tryz.prog 55 #[.pointer (some ⟨rb, 0, none⟩), .int .u64 (n : Nat)] W (RfL F W rb st Q o c (.tuple #[.int .u64 (p : Nat), .bool true])) := by
  have := findR_any h hl (n : Nat) (by omega) (by omega)
  rw [Int.toNat_natCast] at this
  refine this.mono ?_
  rintro e w' ⟨(⟨q, hq, _, he⟩ | ⟨hno, he⟩), hk⟩
  · rw [First_one hq hf] at he
    exact ⟨he, h.same hk⟩
  · exact absurd hf.1 (hno.resolve_left (by omega) p)
theorem r9_Find_no (h : RefAt F W rb st Q o c) (hl : Q.length ≤ 1000000) (n : Nat) (hn : n < 18446744073709551616) (hf : n = 0 ∨ ∀ p, ¬ Run st p n) :
    Calls Tryz.prog 55 #[.pointer (some ⟨rb, 0, none⟩), .int .u64 (n : Nat)] W (RfL F W rb st Q o c (.tuple #[.int .u64 0, .bool false])) := by
  have := findR_any h hl (n : Nat) (by omega) (by omega)
  rw [Int.toNat_natCast] at this
  refine this.mono ?_
  rintro e w' ⟨(⟨q, hq, h1, he⟩ | ⟨hno, he⟩), hk⟩
  · exact absurd hq.1 (hf.resolve_left (by omega) q)
  · exact ⟨he, h.same hk⟩
set_option maxRecDepth 100000 in
theorem r9_alloc_zero (h : RefAt F W rb st Q o c) :
    Calls Tryz.prog 25 #[.pointer (some ⟨rb, 0, none⟩), .int .u64 0] W (RfL F W rb st Q o c (.tuple #[.int .u64 0, .int .u64 0, .int .i64 1])) := by
  obtain ⟨R, hR⟩ : ∃ R, R = RfL F W rb st Q o c (.tuple #[.int .u64 0, .int .u64 0, .int .i64 1]) := ⟨_, rfl⟩
  rw [← hR]
  have FI := hide (show R (.returned (.tuple #[.int .u64 0, .int .u64 0, .int .i64 1])) W from by rw [hR]; exact ⟨rfl, h, Kept.refl _ _⟩)
  clear hR h
  go_enter Tryz.func25, Tryz.ntmps25
  go_wp2_with fail
  first | exact FI.out | (refine bodyPost_ret (results_tmp3 Tryz.results25 _ _ _) rfl ?_; exact FI.out)
set_option maxRecDepth 100000 in
theorem r9_alloc_no (h : RefAt F W rb st Q o c) (hl : Q.length ≤ 1000000) (n : Nat) (hn : n < 18446744073709551616) (h1 : 1 ≤ n) (hf : ∀ p, ¬ Run st p n) :
    Calls Tryz.prog 25 #[.pointer (some ⟨rb, 0, none⟩), .int .u64 (n : Nat)] W (RfL F W rb st Q o c (.tuple #[.int .u64 0, .int .u64 0, .int .i64 30])) := by
  obtain ⟨R, hR⟩ : ∃ R, R = RfL F W rb st Q o c (.tuple #[.int .u64 0, .int .u64 0, .int .i64 30]) := ⟨_, rfl⟩
  rw [← hR]
  have HR := hide hR
  have CF := hide (r9_Find_no h hl n hn (.inr hf))
  have d0 : ((n : Int) == 0) = false := beq_eq_false_iff_ne.2 (by omega)
  clear hR h hf h1
  go_enter Tryz.func25, Tryz.ntmps25
  go_wp2_with fail
  refine CF.out.mono ?_
  rintro e w1 ⟨rfl, h1, k1⟩
  have FI := hide (show R (.returned (.tuple #[.int .u64 0, .int .u64 0, .int .i64 30])) w1 from by rw [HR.out]; exact ⟨rfl, h1, k1⟩)
  clear CF h1 k1 HR
  go_wp2_with fail
  first | exact FI.out | (refine bodyPost_ret (results_tmp3 Tryz.results25 _ _ _) rfl ?_; exact FI.out)
set_option maxRecDepth 100000 in
theorem r9_alloc (h : RefAt F W rb st Q o c) (hl : Q.length ≤ 1000000) (n p : Nat) (hn : n < 18446744073709551616) (h1 : 1 ≤ n) (hf : First st n p) :
    Calls Tryz.prog 25 #[.pointer (some ⟨rb, 0, none⟩), .int .u64 (n : Nat)] W (RfL F W rb (setSt st p (p + n) 1) Q o c (.tuple #[.int .u64 (p : Nat), .int .u64 ((tl st p n).r : Nat), .int .i64 0])) := by
  obtain ⟨R, hR⟩ : ∃ R, R = RfL F W rb (setSt st p (p + n) 1) Q o c (.tuple #[.int .u64 (p : Nat), .int .u64 ((tl st p n).r : Nat), .int .i64 0]) := ⟨_, rfl⟩
  rw [← hR]
  have HR := hide hR
  have CF := hide (r9_Find h hl n p hn h1 hf)
  obtain ⟨q1, q2, q3⟩ := run_tl hf.1 h1 (fun q hq => h.mt.big hq)
  have CT := hide (fun X (hX : RefAt F X rb st Q o c) => r9_take hX hl p n ⟨h1, q1, q2⟩ q3)
  have d0 : ((n : Int) == 0) = false := beq_eq_false_iff_ne.2 (by omega)
  obtain ⟨g, hg⟩ : ∃ g, (tl st p n).r = g := ⟨_, rfl⟩
  rw [hg] at CT HR
  clear hR h hf h1 q1 q2 q3 hg
  go_enter Tryz.func25, Tryz.ntmps25
  go_wp2_with fail
  refine CF.out.mono ?_
  rintro e w1 ⟨rfl, h1, k1⟩
  have C2 := hide (CT.out w1 h1)
  have K1 := hide k1
  clear CF h1 k1 CT
  go_wp2_with fail
  refine C2.out.mono ?_
  rintro e w2 ⟨rfl, h2, k2⟩
  have FI := hide (show R (.returned (.tuple #[.int .u64 (p : Nat), .int .u64 (g : Nat), .int .i64 0])) w2 from by rw [HR.out]; exact ⟨rfl, h2, K1.out.trans k2 (fun _ _ z => z)⟩)
  clear C2 h2 k2 HR K1
  go_wp2_with fail
  first | exact FI.out | (refine bodyPost_ret (results_tmp3 Tryz.results25 _ _ _) rfl ?_; exact FI.out)
end
end Go.Proofs.YtnclicdnncgdiaaGreatDoor

/- The reference's tree: First: its contract. -/
namespace Go.Proofs.YtnclicdnncgdiaaGreatDoor
open Go.ChangeShapes Go.WideShapes Go.ChangeAt Go.RowKit Go.Proofs.Bt Go.Shelf Go.Proofs.Rx Go.Maps Go.Proofs.Pk
set_option linter.unusedVariables false
set_option linter.unusedSimpArgs false

section
variable {F : Nat → Prop} {W : World} {rb : Nat} {st : Nat → Nat} {Q : List (Nat × Nat)} {o : Option Addr} {c : Nat}
theorem r9_First (h : RefAt F W rb st Q o c) (hl : Q.length ≤ 1000000) :
    Calls Tryz.prog 48 #[.pointer (some ⟨rb, 0, none⟩)] W (FindRf st 1 W) := by
  have CF := hide (findR_any h hl 1 (by omega) (by omega))
  rw [show (1 : Int).toNat = 1 from rfl] at CF
  obtain ⟨R, hR⟩ : ∃ R, R = FindRf st 1 W := ⟨_, rfl⟩
  rw [← hR]
  have HR := hide hR
  clear hR h
  go_enter Tryz.func48, Tryz.ntmps48
  go_wp2_with fail
  refine CF.out.mono ?_
  rintro e w' ⟨(⟨p, hp, h1, rfl⟩ | ⟨hno, rfl⟩), k, hk⟩
  · have FI := hide (show R (.returned (.tuple #[.int .u64 (p : Nat), .bool true])) w' from by rw [HR.out]; exact ⟨.inl ⟨p, hp, h1, rfl⟩, k, hk⟩)
    clear CF hp h1 hk HR
    go_wp2_with fail
    exact FI.out
  · have FI := hide (show R (.returned (.tuple #[.int .u64 0, .bool false])) w' from by rw [HR.out]; exact ⟨.inr ⟨hno, rfl⟩, k, hk⟩)
    clear CF hno hk HR
    go_wp2_with fail
    exact FI.out
end
end Go.Proofs.YtnclicdnncgdiaaGreatDoor

/- The reference's cache: how it lies; Empty, Owns, Tell: contracts. -/
namespace Go.Proofs.YtnclicdnncgdiaaGreatDoor
open Go.ChangeShapes Go.WideShapes Go.ChangeAt Go.RowKit Go.Proofs.Bt Go.Shelf Go.Proofs.Rx Go.Maps Go.Proofs.Pk
set_option linter.unusedVariables false
set_option linter.unusedSimpArgs false

/-- 64 truths in a block, from a place on. -/
structure Bl64 (W : World) (b ro : Nat) (f : Nat → Bool) : Prop where
  cell : ∀ k, k < 64 → W.cell? ⟨b, ro + k, none⟩ = some (.bool (f k))
  fz : ∀ k, k < 64 → W.frozen? ⟨b, ro + k, none⟩ = false
theorem Bl64.block {W W' : World} {b ro : Nat} {f : Nat → Bool} (h : Bl64 W b ro f) (e : W'.heap[b]? = W.heap[b]?) : Bl64 W' b ro f := ⟨fun k hk => (cell_block e _).trans (h.cell k hk), fun k hk => (fz_block e).trans (h.fz k hk)⟩
theorem Bl64.set {W : World} {b ro : Nat} {f : Nat → Bool} (h : Bl64 W b ro f) (k : Nat) (hk : k < 64) (x : Bool) : Bl64 (W.setCell ⟨b, ro + k, none⟩ (.bool x)) b ro (fun j => if j = k then x else f j) := by
  refine ⟨fun j hj => ?_, fun j hj => by rw [World.frozen?_setCell]; exact h.fz j hj⟩
  by_cases e : j = k
  · subst e
    rw [if_pos rfl]
    exact World.cell?_setCell_same _ _ _ (h.cell j hj)
  · rw [if_neg e, World.cell?_setCell_other _ _ _ _ (by intro z; have := congrArg Addr.off z; simp at this; omega)]
    exact h.cell j hj
theorem Bl64.other {W : World} {b ro : Nat} {f : Nat → Bool} (h : Bl64 W b ro f) (k : Nat) (v : Value) (hk : k < ro ∨ ro + 64 ≤ k) : Bl64 (W.setCell ⟨b, k, none⟩ v) b ro f :=
  ⟨fun j hj => by rw [World.cell?_setCell_other _ _ _ _ (by intro z; have := congrArg Addr.off z; simp at this; omega)]; exact h.cell j hj, fun j hj => by rw [World.frozen?_setCell]; exact h.fz j hj⟩
theorem Bl64.congr {W : World} {b ro : Nat} {f f' : Nat → Bool} (h : Bl64 W b ro f) (e : ∀ k, k < 64 → f k = f' k) : Bl64 W b ro f' := ⟨fun k hk => by rw [← e k hk]; exact h.cell k hk, h.fz⟩
/-- The reference's cache in a block: the block's first page, which pages it has, which are released. -/
structure PcAt (W : World) (b : Nat) (B : Nat) (hs gn : Nat → Bool) : Prop where
  c0 : W.cell? ⟨b, 0, none⟩ = some (.int .u64 (B : Nat))
  z0 : W.frozen? ⟨b, 0, none⟩ = false
  hs : Bl64 W b 1 hs
  gn : Bl64 W b 65 gn
theorem PcAt.block {W W' : World} {b B : Nat} {hs gn : Nat → Bool} (h : PcAt W b B hs gn) (e : W'.heap[b]? = W.heap[b]?) : PcAt W' b B hs gn := ⟨(cell_block e _).trans h.c0, (fz_block e).trans h.z0, h.hs.block e, h.gn.block e⟩
theorem PcAt.lt {W : World} {b B : Nat} {hs gn : Nat → Bool} (h : PcAt W b B hs gn) : b < W.heap.size := World.block_lt_of_cell? W ⟨b, 0, none⟩ h.c0
theorem PcAt.kept {F : Nat → Prop} {W W' : World} {b B : Nat} {hs gn : Nat → Bool} (h : PcAt W b B hs gn) (k : Kept F W W') (hF : ¬ F b) : PcAt W' b B hs gn := h.block (k.block b h.lt hF)
theorem PcAt.below {W W' : World} {b B : Nat} {hs gn : Nat → Bool} (h : PcAt W b B hs gn) (k : Below W.heap.size W W') : PcAt W' b B hs gn := h.block (k.block b h.lt)
theorem PcAt.setH {W : World} {b B : Nat} {hs gn : Nat → Bool} (h : PcAt W b B hs gn) (k : Nat) (hk : k < 64) (x : Bool) : PcAt (W.setCell ⟨b, 1 + k, none⟩ (.bool x)) b B (fun j => if j = k then x else hs j) gn :=
  ⟨by rw [World.cell?_setCell_other _ _ _ _ (by intro z; have := congrArg Addr.off z; simp at this)]; exact h.c0, by rw [World.frozen?_setCell]; exact h.z0, h.hs.set k hk x, h.gn.other _ _ (by omega)⟩
theorem PcAt.setG {W : World} {b B : Nat} {hs gn : Nat → Bool} (h : PcAt W b B hs gn) (k : Nat) (hk : k < 64) (x : Bool) : PcAt (W.setCell ⟨b, 65 + k, none⟩ (.bool x)) b B hs (fun j => if j = k then x else gn j) :=
  ⟨by rw [World.cell?_setCell_other _ _ _ _ (by intro z; have := congrArg Addr.off z; simp at this)]; exact h.c0, by rw [World.frozen?_setCell]; exact h.z0, h.hs.other _ _ (by omega), h.gn.set k hk x⟩
theorem PcAt.setB {W : World} {b B : Nat} {hs gn : Nat → Bool} (h : PcAt W b B hs gn) (B' : Nat) : PcAt (W.setCell ⟨b, 0, none⟩ (.int .u64 (B' : Nat))) b B' hs gn :=
  ⟨World.cell?_setCell_same _ _ _ h.c0, by rw [World.frozen?_setCell]; exact h.z0, h.hs.other _ _ (by omega), h.gn.other _ _ (by omega)⟩
/-- Has it none? -/
def none64 (hs : Nat → Bool) : Prop := ∀ k, k < 64 → hs k = false
set_option maxRecDepth 100000 in
theorem pcEmpty {W : World} {b B : Nat} {hs gn : Nat → Bool} (h : PcAt W b B hs gn) (x : Bool) (hx : x = true ↔ none64 hs) :
    Calls Tryz.prog 34 #[.pointer (some ⟨b, 0, none⟩)] W fun e w' => e = .returned (.bool x) ∧ w' = W := by
  obtain ⟨R, hR⟩ : ∃ R : Ending → World → Prop, R = fun e w' => e = .returned (.bool x) ∧ w' = W := ⟨_, rfl⟩
  rw [← hR]
  have YES := hide (show none64 hs → R (.returned (.bool true)) W from fun z => by rw [hR, hx.2 z]; exact ⟨rfl, rfl⟩)
  have NO := hide (show ¬ none64 hs → R (.returned (.bool false)) W from fun z => by
    have : x = false := by cases x with | true => exact absurd (hx.1 rfl) z | false => rfl
    rw [hR, this]; exact ⟨rfl, rfl⟩)
  have HH := hide h
  clear hR h hx
  go_enter Tryz.func34, Tryz.ntmps34
  go_wp2_with fail
  go_loop [3] (fun v => ∃ i : Int, v = .int .i64 i ∧ 0 ≤ i ∧ i ≤ 64 ∧ Hid (∀ k, k < i.toNat → hs k = false)) (fun v => (64 - intOf v).toNat)
  case atStart => exact ⟨0, rfl, by omega, by omega, hide (fun k hk => by simp at hk)⟩
  case round =>
    obtain ⟨i, rfl, i0, i1, HI⟩ := hrel
    by_cases hi : i < 64
    · have c1 := HH.out.hs.cell i.toNat (by omega)
      cases hv : hs i.toNat with
      | true =>
        rw [hv] at c1
        have F0 := hide (NO.out (fun z => by rw [z i.toNat (by omega)] at hv; cases hv))
        clear hv HI YES NO
        go_wp2_with fail
        first | exact F0.out | (go_ret; exact F0.out)
      | false =>
        rw [hv] at c1
        have H2 := hide (show ∀ k, k < (i + 1).toNat → hs k = false from fun k hk => by
          by_cases e : k = i.toNat
          · rw [e]; exact hv
          · exact HI.out k (by omega))
        clear hv HI
        go_wp2_with fail
        refine ⟨⟨i + 1, rfl, by omega, by omega, H2⟩, ?_⟩
        simp [intOf]; omega
    · have F0 := hide (YES.out (fun k hk => HI.out k (by omega)))
      have hd : decide (i < 64) = false := decide_eq_false hi
      clear hi HI YES NO
      go_wp2_with fail
      first | exact F0.out | (go_ret; exact F0.out)
end Go.Proofs.YtnclicdnncgdiaaGreatDoor
