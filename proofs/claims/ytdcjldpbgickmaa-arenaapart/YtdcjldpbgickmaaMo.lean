/- The law's own model: lists of chunks, of pages, of whose they are. -/
import Derived.Test.YtdcjldpbgickmaaCo
import Derived.Test.YtdcjldpbgickmaaAm
namespace Go.Proofs.Ytdcjldpbgickmaa
open Go.ChangeShapes Go.WideShapes Go.ChangeAt Go.RowKit Go.Shelf Go.Proofs.Rx Go.Maps
set_option linter.unusedVariables false
set_option linter.unusedSimpArgs false

attribute [local go_sem] Oper.semAt_some

def encI (x : Int) : Value := .int .i64 x
theorem row_cells {W : World} {M e n : Nat} {v : Value} {xs : List Value} (h : W.ownsRow M e 1 v n xs) (hn : xs.length = n) :
    (v = .slice none 0 0 ∧ n = 0) ∨ ∃ g cap, v = .slice (some ⟨g, 0, none⟩) n cap ∧ M ≤ g ∧ g < W.heap.size ∧ (∀ t, t < n → W.cell? ⟨g, t, none⟩ = xs[t]?) ∧ ∀ t, W.frozen? ⟨g, t, none⟩ = false := by
  rcases h.2 with ⟨a, b⟩ | ⟨g, cap, cur, a, b, c, d, e, f, k⟩
  · exact .inl ⟨a, b⟩
  · refine .inr ⟨g, cap, a, b, (Array.getElem?_eq_some_iff.1 c).1, fun t ht => ?_, fun t => by simp [World.frozen?, c]⟩
    have q : (cur.toList.take (n * 1))[t]? = xs[t]? := by rw [k]
    rw [List.getElem?_take_of_lt (by omega)] at q
    simp only [World.cell?, c]
    simpa using q
/-- How a model lies. -/
structure Mo (N : Nat) (W : World) (xb : Nat) (v0 v1 v2 : Value) (cs ps : List Nat) (is : List Int) : Prop where
  bk : Bk W xb 30 #[v0, v1, v2]
  r0 : W.ownsRow N 35 1 v0 cs.length (cs.map encU)
  r1 : W.ownsRow N 35 1 v1 ps.length (ps.map encU)
  r2 : W.ownsRow N 3 1 v2 is.length (is.map encI)
  x : N ≤ xb
  n0 : v0.ownBlock ≠ some xb
  n1 : v1.ownBlock ≠ some xb
  n2 : v2.ownBlock ≠ some xb
  d01 : ∀ g, v0.ownBlock = some g → v1.ownBlock ≠ some g
  d02 : ∀ g, v0.ownBlock = some g → v2.ownBlock ≠ some g
  d12 : ∀ g, v1.ownBlock = some g → v2.ownBlock ≠ some g
def ownM (xb : Nat) (v0 v1 v2 : Value) (z : Nat) : Prop := z = xb ∨ v0.ownBlock = some z ∨ v1.ownBlock = some z ∨ v2.ownBlock = some z
theorem own_ge {W : World} {M e n z : Nat} {v : Value} {xs : List Value} (h : W.ownsRow M e 1 v n xs) (hz : v.ownBlock = some z) : M ≤ z ∧ z < W.heap.size := by
  rcases h.2 with ⟨a, b⟩ | ⟨g, cap, cur, a, b, c, d⟩
  · rw [a] at hz; simp [Value.ownBlock] at hz
  · rw [a] at hz
    have := own_eq hz
    subst this
    exact ⟨b, (Array.getElem?_eq_some_iff.1 c).1⟩
section
variable {N : Nat} {W W' : World} {xb : Nat} {v0 v1 v2 : Value} {cs ps : List Nat} {is : List Int}
theorem Mo.kept {F : Nat → Prop} (h : Mo N W xb v0 v1 v2 cs ps is) (k : Kept F W W') (hF : ∀ z, ownM xb v0 v1 v2 z → ¬ F z) : Mo N W' xb v0 v1 v2 cs ps is :=
  ⟨h.bk.kept k (hF _ (.inl rfl)), owns_kept h.r0 k (fun g hg => hF _ (.inr (.inl hg))), owns_kept h.r1 k (fun g hg => hF _ (.inr (.inr (.inl hg)))), owns_kept h.r2 k (fun g hg => hF _ (.inr (.inr (.inr hg)))), h.x, h.n0, h.n1, h.n2, h.d01, h.d02, h.d12⟩
theorem Mo.below (h : Mo N W xb v0 v1 v2 cs ps is) (k : Below W.heap.size W W') : Mo N W' xb v0 v1 v2 cs ps is := h.kept (Kept.of_below (F := fun _ => False) k) (fun _ _ f => f)
theorem Mo.own (h : Mo N W xb v0 v1 v2 cs ps is) {z : Nat} (hz : ownM xb v0 v1 v2 z) : N ≤ z ∧ z < W.heap.size := by
  rcases hz with rfl | hz | hz | hz
  · exact ⟨h.x, h.bk.lt⟩
  · exact own_ge h.r0 hz
  · exact own_ge h.r1 hz
  · exact own_ge h.r2 hz
/-! ### has -/
theorem mo_has (h : Mo N W xb v0 v1 v2 cs ps is) (hc : cs.length ≤ 1000) (c : Nat) :
    Calls Try.prog 22 #[.pointer (some ⟨xb, 0, none⟩), .int .u64 (c : Nat)] W fun e W' => e = .returned (.bool (decide (c ∈ cs))) ∧ W' = W := by
  have y0 := h.bk.cell 0 v0 rfl
  have rr := row_cells h.r0 (by simp)
  obtain ⟨m, hm⟩ : ∃ m, cs.length = m := ⟨_, rfl⟩
  rw [hm] at rr hc
  have shape : ∃ o cap, v0 = .slice o m cap := by
    rcases rr with ⟨a, b⟩ | ⟨g, cap, a, _⟩
    · exact ⟨none, 0, by rw [a, b]⟩
    · exact ⟨_, cap, a⟩
  obtain ⟨o, cap, rfl⟩ := shape
  have RR := hide rr
  have HM := hide hm
  clear h rr hm
  go_enter Try.func22, Try.ntmps22
  go_wp2_with fail
  go_loopw [5] (fun vi X => X = W ∧ ∃ i : Nat, vi = .int .i64 (i : Nat) ∧ i ≤ m ∧ Hid (c ∉ cs.take i)) (fun vi _ => m - (zi vi).toNat)
  case atStart => exact ⟨rfl, 0, rfl, by omega, hide (by simp)⟩
  case round =>
    obtain ⟨hX, i, rfl, hi, HN⟩ := hrel
    rw [hX]
    clear hX
    by_cases e : i < m
    · have d : decide ((i : Int) < (m : Int)) = true := decide_eq_true (by omega)
      have il : i < cs.length := by rw [HM.out]; exact e
      rcases RR.out with ⟨_, z⟩ | ⟨g, cap', z, _, _, hcell, _⟩
      · omega
      · obtain ⟨rfl, -⟩ : o = some ⟨g, 0, none⟩ ∧ True := by simp at z; exact ⟨z.1, trivial⟩
        have cx := hcell i e
        rw [List.getElem?_map, List.getElem?_eq_getElem il] at cx
        simp only [Option.map_some, encU] at cx
        have pw : IntKind.i64.wrap ((i : Int) + 1) = (i : Int) + 1 := by rw [IntKind.wrap_i64]; omega
        by_cases q : cs[i] = c
        · have F := hide (show decide (c ∈ cs) = true from decide_eq_true (by rw [← q]; exact List.getElem_mem il))
          rw [q] at cx
          clear hcell z q
          go_wp2_with fail
          go_ret
          exact ⟨by rw [F.out]; rfl, rfl⟩
        · have F := hide (show c ∉ cs.take (i + 1) from by
            rw [← List.take_append_getElem il, List.mem_append]
            rintro (u | u)
            · exact HN.out u
            · simp at u; exact q u.symm)
          generalize cs[i] = X at *
          clear hcell z
          go_wp2_with fail
          exact ⟨⟨trivial, i + 1, by push_cast; rfl, by omega, F⟩, by simp [zi]; omega⟩
    · have d : decide ((i : Int) < (m : Int)) = false := decide_eq_false (by omega)
      have F := hide (show decide (c ∈ cs) = false from decide_eq_false (by
        have := HN.out
        rw [List.take_of_length_le (by rw [HM.out]; omega)] at this
        exact this))
      go_wp2_with fail
      go_ret
      exact ⟨by rw [F.out]; rfl, rfl⟩
/-! ### at -/
end
/-- Whose a page is, of the first n that were set. -/
def lastAt (ps : List Nat) (is : List Int) (q : Nat) : Nat → Int
  | 0 => 0
  | n + 1 => if ps[n]! = q then is[n]! else lastAt ps is q n
theorem lastAt_congr {ps ps' : List Nat} {is is' : List Int} {q : Nat} : ∀ {n : Nat}, (∀ i, i < n → ps[i]! = ps'[i]! ∧ is[i]! = is'[i]!) → lastAt ps is q n = lastAt ps' is' q n
  | 0, _ => rfl
  | n + 1, h => by
    unfold lastAt
    rw [(h n (by omega)).1, (h n (by omega)).2, lastAt_congr (n := n) (fun i hi => h i (by omega))]
theorem lastAt_one (ps : List Nat) (is : List Int) (p : Nat) (x : Int) (q : Nat) (h : is.length = ps.length) : lastAt (ps ++ [p]) (is ++ [x]) q (ps ++ [p]).length = if q = p then x else lastAt ps is q ps.length := by
  rw [List.length_append, List.length_singleton, lastAt]
  rw [getElem!_pos (ps ++ [p]) ps.length (by simp), getElem!_pos (is ++ [x]) ps.length (by simp [h])]
  have e1 : (ps ++ [p])[ps.length]'(by simp) = p := by simp
  have e2 : (is ++ [x])[ps.length]'(by simp [h]) = x := by simp [← h]
  rw [e1, e2]
  by_cases z : q = p
  · rw [if_pos z, if_pos z.symm]
  · rw [if_neg z, if_neg (fun u => z u.symm)]
    refine lastAt_congr fun i hi => ?_
    constructor
    · rw [getElem!_pos (ps ++ [p]) i (by simp; omega), getElem!_pos ps i hi, List.getElem_append_left hi]
    · rw [getElem!_pos (is ++ [x]) i (by simp; omega), getElem!_pos is i (by omega), List.getElem_append_left (by omega)]
section
variable {N : Nat} {W W' : World} {xb : Nat} {v0 v1 v2 : Value} {cs ps : List Nat} {is : List Int}
theorem mo_at (h : Mo N W xb v0 v1 v2 cs ps is) (hp : ps.length ≤ 100000) (hl : is.length = ps.length) (a : Nat) (ha : a < 18446744073709551616) :
    Calls Try.prog 12 #[.pointer (some ⟨xb, 0, none⟩), .int .u64 (a : Nat)] W fun e W' => e = .returned (.int .i64 (lastAt ps is (a / 8192) ps.length)) ∧ W' = W := by
  have y1 := h.bk.cell 1 v1 rfl
  have y2 := h.bk.cell 2 v2 rfl
  have r1 := row_cells h.r1 (by simp)
  have r2 := row_cells h.r2 (by simp)
  rw [hl] at r2
  obtain ⟨m, hm⟩ : ∃ m, ps.length = m := ⟨_, rfl⟩
  rw [hm] at r1 r2 hp hl
  have s1 : ∃ o cap, v1 = .slice o m cap := by
    rcases r1 with ⟨a, b⟩ | ⟨g, cap, a, _⟩
    · exact ⟨none, 0, by rw [a, b]⟩
    · exact ⟨_, cap, a⟩
  have s2 : ∃ o cap, v2 = .slice o m cap := by
    rcases r2 with ⟨a, b⟩ | ⟨g, cap, a, _⟩
    · exact ⟨none, 0, by rw [a, b]⟩
    · exact ⟨_, cap, a⟩
  obtain ⟨o, cap, rfl⟩ := s1
  obtain ⟨o2, cap2, rfl⟩ := s2
  have R1 := hide r1
  have R2 := hide r2
  have HM := hide hm
  rw [hm]
  clear h r1 r2 hm
  obtain ⟨v, hv⟩ : ∃ v, lastAt ps is (a / 8192) m = v := ⟨_, rfl⟩
  rw [hv]
  have HV := hide hv
  have q0 : 0 ≤ (a : Int) := by omega
  have qd : (a : Int) / 8192 = ((a / 8192 : Nat) : Int) := by omega
  obtain ⟨D, hD⟩ : ∃ D, a / 8192 = D := ⟨_, rfl⟩
  rw [hD] at HV qd
  clear hv hD
  go_enter Try.func12, Try.ntmps12
  go_wp2_with fail
  go_loopw [5] (fun vi X => X = W ∧ ∃ i : Nat, vi = .int .i64 ((i : Int) - 1) ∧ i ≤ m ∧ Hid (lastAt ps is D i = v)) (fun vi _ => (zi vi + 1).toNat)
  case atStart => exact ⟨rfl, m, rfl, by omega, HV⟩
  case round =>
    obtain ⟨hX, i, rfl, hi, HN⟩ := hrel
    rw [hX]
    clear hX
    cases i with
    | zero =>
      have F := hide (show (0 : Int) = v from HN.out)
      clear HN
      rw [show (((0 : Nat) : Int) - 1) = -1 from rfl]
      go_wp2_with fail
      go_ret
      exact ⟨by rw [F.out]; rfl, rfl⟩
    | succ i =>
      have il : i < ps.length := by rw [HM.out]; omega
      have il2 : i < is.length := by rw [hl]; omega
      have nn := HN.out
      rw [lastAt, getElem!_pos ps i il, getElem!_pos is i il2] at nn
      rcases R1.out with ⟨_, z⟩ | ⟨g, cap', z, _, _, hcell, _⟩
      · omega
      rcases R2.out with ⟨_, z⟩ | ⟨g2, cap2', z2, _, _, hcell2, _⟩
      · omega
      obtain ⟨rfl, -⟩ : o = some ⟨g, 0, none⟩ ∧ True := by simp at z; exact ⟨z.1, trivial⟩
      obtain ⟨rfl, -⟩ : o2 = some ⟨g2, 0, none⟩ ∧ True := by simp at z2; exact ⟨z2.1, trivial⟩
      have cx := hcell i (by omega)
      have cy := hcell2 i (by omega)
      rw [List.getElem?_map, List.getElem?_eq_getElem il] at cx
      rw [List.getElem?_map, List.getElem?_eq_getElem il2] at cy
      simp only [Option.map_some, encU] at cx
      simp only [Option.map_some, encI] at cy
      have e0 : (((i + 1 : Nat) : Int) - 1) = (i : Int) := by omega
      rw [e0]
      have i0 : 0 ≤ (i : Int) := by omega
      have i1 : (i : Int) < (m : Int) := by omega
      have i2 : i < m := by omega
      have i3 : (m : Int) ≤ 100000 := by omega
      by_cases q : ps[i] = D
      · rw [if_pos q] at nn
        rw [nn] at cy
        rw [q] at cx
        clear hcell hcell2 z z2 q nn HN
        go_wp2_with fail
        go_ret
        exact ⟨rfl, rfl⟩
      · rw [if_neg q] at nn
        have F := hide nn
        generalize ps[i] = X at *
        clear hcell hcell2 z z2 nn HN cy
        go_wp2_with fail
        exact ⟨⟨trivial, i, rfl, by omega, F⟩, by simp [zi]⟩
end
end Go.Proofs.Ytdcjldpbgickmaa
