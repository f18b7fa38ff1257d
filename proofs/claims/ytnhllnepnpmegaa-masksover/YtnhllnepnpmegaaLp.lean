/- Package masks: how masks lie; layPart: contract. -/
import Derived.Test.YtnhllnepnpmegaaGi
import Derived.Test.YtnhllnepnpmegaaFo2
namespace Go.Proofs.Ytnhllnepnpmegaa
open Go.ChangeShapes Go.WideShapes Go.ChangeAt Go.RowKit Go.Shelf Go.Proofs.Rx Go.Maps Go.Proofs.Bt
set_option linter.unusedVariables false
set_option linter.unusedSimpArgs false

attribute [local go_sem] Oper.semAt_some

theorem FormAt.types {W : World} {T : Nat} {u : Value} {g : Nat → Bool} {fb : List Nat} (h : FormAt W T u g fb) : ∀ z ∈ fb, ∃ t vs, Bk W z t vs ∧ (t = 84 ∨ t = 76 ∨ t = 31) := by
  cases h with
  | none => intro z hz; cases hz
  | place b hb h =>
    intro z hz
    simp at hz
    obtain ⟨vs, b', _⟩ := h.ex
    exact ⟨_, vs, by rw [hz]; exact b', .inl rfl⟩
  | things b sb fi wds m mb h =>
    intro z hz
    simp at hz
    rcases hz with rfl | rfl
    · exact ⟨_, _, h.bk, .inr (.inl rfl)⟩
    · obtain ⟨vs, b', _⟩ := h.row.ex
      exact ⟨_, vs, b', .inr (.inr rfl)⟩
theorem bk_type {W : World} {z t t' : Nat} {vs vs' : Array Value} (h : Bk W z t vs) (k : Bk W z t' vs') : t = t' := by
  unfold Bk at h k
  rw [h] at k
  injection k with k
  injection k
/-- Masks at block m. -/
structure MkAt (W : World) (m : Nat) (t : Tr) : Prop where
  bk : Bk W m 53 #[t.ptr]
  ok : TrOk W t
section
variable {W W' : World} {m : Nat} {t : Tr}
theorem MkAt.notB (h : MkAt W m t) : ¬ inB t.list m := fun ⟨x, hx, e⟩ => by
  obtain ⟨vs, hv⟩ := h.ok.at_.type x hx
  rw [e] at hv
  exact absurd (bk_type h.bk hv) (by decide)
theorem MkAt.notF (h : MkAt W m t) {T : Nat} {u : Value} {g : Nat → Bool} {fb : List Nat} (hf : FormAt W T u g fb) : ∀ z ∈ fb, ¬ (z = m ∨ inB t.list z) := fun z hz hin => by
  obtain ⟨ty, vs, hv, ht⟩ := hf.types z hz
  rcases hin with rfl | ⟨x, hx, e⟩
  · have := bk_type h.bk hv
    rw [← this] at ht
    exact absurd ht (by decide)
  · obtain ⟨vs', hv'⟩ := h.ok.at_.type x hx
    rw [e] at hv'
    have := bk_type hv' hv
    rw [← this] at ht
    exact absurd ht (by decide)
theorem MkAt.below (h : MkAt W m t) (k : Below W.heap.size W W') : MkAt W' m t := ⟨h.bk.below k, h.ok.below k⟩
end
/-- What laying leaves. -/
def LayR (m : Nat) (t : Tr) (first en : Nat) (g : Nat → Bool) (fb : List Nat) (W : World) (e : Ending) (W' : World) : Prop := e = .returned (.tuple #[]) ∧ ∃ t', MkAt W' m t' ∧ (∀ w, fnOf t'.list w = if first ≤ w ∧ w < en then g w else fnOf t.list w) ∧
  (∀ x ∈ t'.list, (inB t.list x.b ∨ W.heap.size ≤ x.b) ∧ ((∃ y ∈ t.list, y.fb = x.fb) ∨ x.fb = fb ∨ ∀ z ∈ x.fb, W.heap.size ≤ z)) ∧ Kept (fun z => z = m ∨ inB t.list z) W W'
/-- A put and its store. -/
theorem lay_put {W0 W W1 : World} {m : Nat} {t t' : Tr} {first en : Nat} {g : Nat → Bool} {T : Nat} {u : Value} {g2 : Nat → Bool} {fb fb2 : List Nat} {f1 e1 : Nat} (h0 : MkAt W0 m t) (k0 : Below W0.heap.size W0 W) (h2 : PutR t f1 e1 (T, u, g2, fb2) W (.returned t'.ptr) W1)
    (hg : ∀ w, (if f1 ≤ w ∧ w < e1 then g2 w else fnOf t.list w) = if first ≤ w ∧ w < en then g w else fnOf t.list w) (hb : fb2 = fb ∨ ∀ z ∈ fb2, W0.heap.size ≤ z) : ∀ q, t'.ptr = .pointer q → LayR m t first en g fb W0 (.returned (.tuple #[])) (W1.setCell ⟨m, 0, none⟩ (.pointer q)) := by
  intro q hq
  obtain ⟨s, es, ok, fn, fr, k⟩ := h2
  have h := h0.below k0
  have sz := k0.size
  have bk1 : Bk W1 m 53 #[t.ptr] := h.bk.kept k h.notB
  have ks := kept_set (F := fun z => z = m) W1 m 0 (.pointer q) rfl
  have ptr : s.ptr = .pointer q := by injection es with es; rw [← es, hq]
  have nm : ∀ x ∈ s.list, ¬ x.b = m := fun x hx e => by
    obtain ⟨vs, hv⟩ := ok.at_.type x hx
    rw [e] at hv
    exact absurd (bk_type bk1 hv) (by decide)
  have nf : ∀ x ∈ s.list, ∀ z ∈ x.fb, ¬ z = m := fun x hx z hz e => by
    obtain ⟨ty, vs, hv, ht⟩ := FormAt.types (ok.fm x hx) z hz
    rw [e] at hv
    have := bk_type bk1 hv
    rw [← this] at ht
    exact absurd ht (by decide)
  refine ⟨rfl, s, ⟨?_, ok.kept ks nm nf⟩, fun w => by rw [fn w]; exact hg w, fun x hx => ?_, ?_⟩
  · have := bk1.set 0 (.pointer q)
    rw [ptr]; exact this
  · obtain ⟨a, b⟩ := fr x hx
    refine ⟨a.imp (fun h => h) (fun h => Nat.le_trans sz h), ?_⟩
    rcases b with ⟨y, hy, ey⟩ | b
    · exact .inl ⟨y, hy, by have := congrArg (fun q => q.2.2.2) ey; exact this⟩
    · have e : x.fb = fb2 := congrArg (fun q => q.2.2.2) b
      rw [e]
      exact .inr hb
  · exact ((Kept.of_below k0).trans (k.mono fun z hz => .inr hz) (fun _ _ h => h)).trans (ks.mono fun z hz => .inl hz) (fun _ _ h => h)
/-- The bits of a window, of one form in a row, else of what is there. -/
def winF (g f : Nat → Bool) (wi first en x : Nat) : Bool := if first ≤ wi + x ∧ wi + x < en then g (wi + x) else f (wi + x)
theorem win_strip (g f f0 : Nat → Bool) (wi first en i : Nat) (hi : i < 8) (hs : ∀ x, x < 512 → f0 (wi + x) = f (wi + x)) (hw : wi % 64 = 0) :
    andn (wd (fun k => f0 (64 * (wi / 64 + i) + k)) 64) (prt (wi / 64 + i) first en) ||| (wd (fun k => g (64 * (wi / 64 + i) + k)) 64 &&& prt (wi / 64 + i) first en) = wd (fun k => winF g f wi first en (64 * i + k)) 64 := by
  rw [wd_mix]
  refine wd_congr fun k hk => ?_
  unfold winF
  rw [show 64 * (wi / 64 + i) + k = wi + (64 * i + k) by omega]
  split
  · rfl
  · exact hs _ (by omega)
theorem strips_word {X : Nat → Bool} {i : Nat} (j : Nat) : strips (cutF X (64 * (i + 1))) j = if j = i then .int .u64 ((wd (fun k => X (64 * i + k)) 64 : Nat) : Int) else strips (cutF X (64 * i)) j := by
  unfold strips
  split
  · rename_i h
    subst h
    congr 2
    exact wd_congr fun k hk => by unfold cutF; rw [decide_eq_true (by omega)]; rfl
  · rename_i h
    congr 2
    exact wd_congr fun k hk => by
      unfold cutF
      congr 1
      rw [Bool.eq_iff_iff]; simp; omega
end Go.Proofs.Ytnhllnepnpmegaa
