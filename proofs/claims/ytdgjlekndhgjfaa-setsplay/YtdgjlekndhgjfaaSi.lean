/- Package sets: New: contract. -/
import Derived.Test.YtdgjlekndhgjfaaSh
import Derived.Carry
namespace Go.Proofs.Ytdgjlekndhgjfaa
open Go.ChangeShapes Go.WideShapes Go.ChangeAt Go.RowKit Go.Shelf Go.Proofs.Rx Go.Maps Go.Proofs.Hm
set_option linter.unusedVariables false
set_option linter.unusedSimpArgs false

attribute [local go_sem] Oper.semAt_some

def sideV (mb : Nat) : Array Value := #[.slice none 0 0, cmpV, .func (.func 32) #[] #[], .map (some mb)]
theorem load_side {W : World} {b : Nat} {x y z u : Value} (h : Bk W b 58 #[x, y, z, u]) : (loadVar 58 ⟨b, 0, none⟩).run Try.prog W = .ok (.agg #[x, y, z, u]) W := by
  have e0 := h.cell 0 _ rfl
  have e1 := h.cell 1 _ rfl
  have e2 := h.cell 2 _ rfl
  have e3 := h.cell 3 _ rfl
  simp [go_sem, Nat.add_assoc, e0, e1, e2, e3, Result.andThen]
/-- An empty map. -/
def Emp (W : World) (b : Nat) : Prop := W.heap[b]? = some (.map #[] 0)
theorem Emp.lt {W : World} {b : Nat} (h : Emp W b) : b < W.heap.size := (Array.getElem?_eq_some_iff.1 h).1
theorem Emp.below {W W' : World} {b : Nat} (h : Emp W b) (k : Below W.heap.size W W') : Emp W' b := (k.block b h.lt).trans h
theorem Emp.made (W : World) : Emp (W.alloc (.map #[] 0)) W.heap.size := World.alloc_heap_new W _
theorem Emp.map {κ : Type} {k : TypeId} {α : Type} {W : World} {b : Nat} (h : Emp W b) (T : KeyT κ k) (E : Enc α) : MapK T E W b 0 (fun _ => none) := by
  obtain ⟨D, ⟨es, clock, h1, h2⟩, r⟩ := MapK.made T E W
  refine ⟨D, ⟨es, clock, ?_, h2⟩, r⟩
  rw [World.alloc_heap_new] at h1
  exact h.trans h1
theorem newSide_any (W : World) : Calls Try.prog 17 #[] W fun e W' => ∃ mb, e = .returned (.agg (sideV mb)) ∧ Below W.heap.size W W' ∧ W.heap.size ≤ mb ∧ Emp W' mb := by
  obtain ⟨WA, hWA⟩ : ∃ WA, W.alloc (.cells #[.slice none 0 0, .nilFunc, .nilFunc, .map none] 58) = WA := ⟨_, rfl⟩
  have kb : Bk WA W.heap.size 58 #[.slice none 0 0, .nilFunc, .nilFunc, .map none] := by rw [← hWA]; exact World.alloc_heap_new W _
  have bA : Below W.heap.size W WA := by rw [← hWA]; exact below_alloc W _
  obtain ⟨ab, hab⟩ : ∃ ab, W.heap.size = ab := ⟨_, rfl⟩
  rw [hab] at kb bA ⊢
  have CB := hide (byBase_any WA 32)
  have HH := hide (And.intro hab hWA)
  have KB := hide kb
  have BA := hide bA
  unfold Hv cmpV at CB
  unfold sideV cmpV
  clear hab hWA bA kb
  go_enter Try.func17, Try.ntmps17
  go_upto_region 1 with fail
  rw [HH.out.2, HH.out.1]
  go_wp2_with fail
  refine CB.out.mono ?_
  rintro e W1 ⟨rfl, b1⟩
  obtain ⟨W2, hW2⟩ : ∃ W2, W1.alloc (.map #[] 0) = W2 := ⟨_, rfl⟩
  have b2 : Below WA.heap.size WA W2 := by rw [← hW2]; exact b1.trans ((below_alloc W1 _).mono b1.size)
  have em : Emp W2 W1.heap.size := by rw [← hW2]; exact Emp.made W1
  have kb := KB.out.below b2
  have y0 := kb.cell 0 _ rfl
  have y1 := kb.cell 1 _ rfl
  have y2 := kb.cell 2 _ rfl
  have y3 := kb.cell 3 _ rfl
  have z0 := kb.fz 0
  have z1 := kb.fz 1
  have z2 := kb.fz 2
  have z3 := kb.fz 3
  have k1 := kb.set 0 (.slice none 0 0)
  have k2 := k1.set 1 cmpV
  have k3 := k2.set 2 (.func (.func 32) #[] #[])
  have u1 := k1.cell 1 _ rfl
  have v1 := k1.fz 1
  have u2 := k2.cell 2 _ rfl
  have v2 := k2.fz 2
  have u3 := k3.cell 3 _ rfl
  have v3 := k3.fz 3
  have k4 := k3.set 3 (.map (some W1.heap.size))
  have f0 : Below ab W W2 := BA.out.trans (b2.mono (Nat.le_of_lt KB.out.lt))
  have f1 := f0.setCell (p := ⟨ab, 0, none⟩) (Nat.le_refl ab) (.slice none 0 0)
  have f2 := f1.setCell (p := ⟨ab, 1, none⟩) (Nat.le_refl ab) cmpV
  have f3 := f2.setCell (p := ⟨ab, 2, none⟩) (Nat.le_refl ab) (.func (.func 32) #[] #[])
  have FB := f3.setCell (p := ⟨ab, 3, none⟩) (Nat.le_refl ab) (.map (some W1.heap.size))
  have hne : ab ≠ W1.heap.size := by have := KB.out.lt; have := b1.size; omega
  have EM : Emp ((((W2.setCell ⟨ab, 0, none⟩ (.slice none 0 0)).setCell ⟨ab, 1, none⟩ cmpV).setCell ⟨ab, 2, none⟩ (.func (.func 32) #[] #[])).setCell ⟨ab, 3, none⟩ (.map (some W1.heap.size))) W1.heap.size :=
    (Below.heap_setCell _ _ _ _ (fun e => hne e.symm)).trans ((Below.heap_setCell _ _ _ _ (fun e => hne e.symm)).trans ((Below.heap_setCell _ _ _ _ (fun e => hne e.symm)).trans ((Below.heap_setCell _ _ _ _ (fun e => hne e.symm)).trans em)))
  have LE : ab ≤ W1.heap.size := by have := KB.out.lt; have := b1.size; omega
  unfold cmpV at k2 k3 k4 u2 v2 u3 v3 FB EM
  subst hW2
  have K4 := hide k4
  have FBH := hide FB
  have EMH := hide EM
  have LEH := hide LE
  clear CB KB BA b1 b2 em kb k1 k2 k3 k4 f0 f1 f2 f3 FB EM LE hne HH
  have mk : ∀ (t : TypeId) (w : World), (Instr.makeMap t none).run Try.prog w = .ok (.map (some w.heap.size)) (w.alloc (.map #[] 0)) := fun t w => run_makeMap t w
  go_wp2_with fail
  exact bodyPost_ret (results_c Try.results17 _ _ ⟨ab, 0, none⟩ _ rfl (load_side K4.out)) rfl ⟨_, rfl, FBH.out, LEH.out, EMH.out⟩
/-- Sets that have none. -/
def newG (b0 b1 m0 m1 : Nat) : Gh := ⟨[], fun _ => ⟨0, 0, ⟨0, false, false⟩, 0⟩, fun _ _ => 0, fun _ _ => .slice none 0 0, fun _ _ => [], fun _ o => o.isNone, fun _ _ => 0, b0, b1, fun d => if d = 0 then m0 else m1, fun _ => none, fun _ => none, 0⟩
theorem new_parts {W : World} {s b0 b1 m0 m1 : Nat} (hs : Bk W s 62 (setsV (newG b0 b1 m0 m1))) (e0 : Emp W b0) (e1 : Emp W b1) (f0 : Emp W m0) (f1 : Emp W m1) (hd : b0 < b1 ∧ b1 < m0 ∧ m0 < m1) : Parts W s 0 (newG b0 b1 m0 m1) ∧ Rel 0 (newG b0 b1 m0 m1) [] := by
  have on0 : ∀ d k, (newG b0 b1 m0 m1).on d (some k) = true → False := fun d k e => by cases e
  have mbd : ∀ d, d < 2 → (newG b0 b1 m0 m1).mb d = m0 ∨ (newG b0 b1 m0 m1).mb d = m1 := fun d hd => by
    show (if d = 0 then m0 else m1) = m0 ∨ (if d = 0 then m0 else m1) = m1
    split
    · exact .inl rfl
    · exact .inr rfl
  refine ⟨⟨hs, fun m hm => (by cases hm), fun d k _ e => (on0 d k e).elim, fun d o _ _ => ⟨rfl, .inl ⟨rfl, rfl⟩⟩, e0.map keyI encPt, e1.map keyN encNo, fun d h => ?_, ⟨fun m hm => (by cases hm), fun d o _ _ m hm => (by cases hm), fun d o _ _ => List.nodup_nil, fun d o _ _ j hj => (by cases hj), fun d o _ _ j _ hj => (by cases hj), fun d _ => rfl, fun d k _ _ _ _ e => (on0 d k e).elim, fun d o d' o' g _ _ _ _ e => (by cases e), ?_, ?_, ?_⟩⟩, ⟨List.nodup_nil, rfl, by show 0 < 2; omega, fun m hm => (by cases hm), fun d o _ _ m hm => (by cases hm), fun d k _ => ⟨fun e => (on0 d k e).elim, fun ⟨m, hm, _⟩ => (by cases hm)⟩, fun i m => ⟨fun e => (by cases e), fun ⟨hm, _⟩ => (by cases hm)⟩, fun b => ⟨fun e => (by cases e), fun ⟨m, hm, _⟩ => (by cases hm)⟩, fun m m' hm => (by cases hm), fun m hm => (by cases hm), Nat.le_refl _⟩⟩
  · have e : (fun k => if (newG b0 b1 m0 m1).on d (some k) = true then some ((newG b0 b1 m0 m1).kb d k) else none) = (fun _ => none) := by
      funext k
      rfl
    rw [e]
    rcases mbd d h with u | u
    · rw [u]; exact f0.map keyK encPt
    · rw [u]; exact f1.map keyK encPt
  · show b0 ≠ b1
    omega
  · intro d h
    show b0 ≠ (newG b0 b1 m0 m1).mb d ∧ b1 ≠ (newG b0 b1 m0 m1).mb d
    rcases mbd d h with u | u <;> rw [u] <;> omega
  · show m0 ≠ m1
    omega
theorem New_any (W : World) : Calls Try.prog 7 #[] W fun e W' => ∃ s F, e = .returned (.pointer (some ⟨s, 0, none⟩)) ∧ (tSets s 0 []).P W' F ∧ Below W.heap.size W W' ∧ ∀ z, F z → W.heap.size ≤ z := by
  have mk : ∀ (t : TypeId) (w : World), (Instr.makeMap t none).run Try.prog w = .ok (.map (some w.heap.size)) (w.alloc (.map #[] 0)) := fun t w => run_makeMap t w
  have CN := hide newSide_any
  unfold sideV cmpV at CN
  go_enter Try.func7, Try.ntmps7
  go_wp2_with fail
  refine (CN.out _).mono ?_
  rintro e W1 ⟨m0, rfl, b1, l1, em1⟩
  go_wp2_with fail
  refine (CN.out _).mono ?_
  rintro e W2 ⟨m1, rfl, b2, l2, em2⟩
  go_wp2_with fail
  go_ret
  have x0 : Emp (W.alloc (.map #[] 0)) W.heap.size := Emp.made W
  have x1 : Emp ((W.alloc (.map #[] 0)).alloc (.map #[] 0)) (W.heap.size + 1) := by
    have := Emp.made (W.alloc (.map #[] 0))
    rw [World.size_alloc] at this
    exact this
  have bW : Below W.heap.size W ((W.alloc (.map #[] 0)).alloc (.map #[] 0)) := ((Below.refl _ W).alloc (Nat.le_refl _) _).alloc (by simp) _
  have s0 : ((W.alloc (.map #[] 0)).alloc (.map #[] 0)).heap.size = W.heap.size + 2 := by rw [World.size_alloc, World.size_alloc]
  have x0' : Emp ((W.alloc (.map #[] 0)).alloc (.map #[] 0)) W.heap.size := x0.below (below_alloc _ _)
  have bk := below_alloc W2 (.cells (setsV (newG W.heap.size (W.heap.size + 1) m0 m1)) 62)
  have b12 : Below ((W.alloc (.map #[] 0)).alloc (.map #[] 0)).heap.size ((W.alloc (.map #[] 0)).alloc (.map #[] 0)) (W2.alloc (.cells (setsV (newG W.heap.size (W.heap.size + 1) m0 m1)) 62)) := (b1.trans (b2.mono b1.size)).trans (bk.mono (by have := b1.size; have := b2.size; omega))
  have y1 : Emp (W2.alloc (.cells (setsV (newG W.heap.size (W.heap.size + 1) m0 m1)) 62)) m1 := em2.below bk
  have y0 : Emp (W2.alloc (.cells (setsV (newG W.heap.size (W.heap.size + 1) m0 m1)) 62)) m0 := (em1.below b2).below bk
  have lt0 := em1.lt
  have lt1 := em2.lt
  have hB : Bk (W2.alloc (.cells (setsV (newG W.heap.size (W.heap.size + 1) m0 m1)) 62)) W2.heap.size 62 (setsV (newG W.heap.size (W.heap.size + 1) m0 m1)) := World.alloc_heap_new W2 _
  obtain ⟨P, R⟩ := new_parts hB (x0'.below b12) (x1.below b12) y0 y1 (by omega)
  refine ⟨W2.heap.size, Foot (newG W.heap.size (W.heap.size + 1) m0 m1) W2.heap.size, rfl, ⟨_, P, R, fun _ => Iff.rfl⟩, bW.trans (b12.mono bW.size), fun z hz => ?_⟩
  have z2 := b2.size
  have z1 := b1.size
  rcases hz with rfl | hz | rfl | rfl | ⟨d, hd, rfl⟩ | ⟨d, k, hd, ho, rfl⟩ | ⟨d, o, hd, ho, hz⟩
  · omega
  · cases hz
  · exact Nat.le_refl _
  · show W.heap.size ≤ W.heap.size + 1
    omega
  · show W.heap.size ≤ (if d = 0 then m0 else m1)
    split <;> omega
  · cases ho
  · cases hz
end Go.Proofs.Ytdgjlekndhgjfaa
