/- SetsOnce: what holds of the list of spans; a map of truths of the law's own. -/
import Derived.Test.YtdgjlekndhgjfaaSj
import Derived.Test.YtdgjlekndhgjfaaArg
namespace Go.Proofs.Ytdgjlekndhgjfaa
open Go.ChangeShapes Go.WideShapes Go.ChangeAt Go.RowKit Go.Shelf Go.Proofs.Rx Go.Maps Go.Proofs.Hm
set_option linter.unusedVariables false
set_option linter.unusedSimpArgs false

/-! ### A map of truths -/
def boElem : Value → Option (DataW Unit × List MemPlace)
  | .bool x => some (.lit (.bool x), [])
  | _ => none
theorem bo_back (v : Value) (x : Bool) (ps : List MemPlace) (h : boElem v = some (.lit (.bool x), ps)) : v = .bool x := by
  unfold boElem at h
  split at h
  · simp at h; rw [h.1]
  · cases h
def encB : Enc Unit := ⟨boElem, fun _ => .lit (.bool true), fun _ => .bool true, .lit (.bool false), .bool false, fun _ => rfl, rfl, fun v a ps h => bo_back v true ps h, fun v ps h => bo_back v false ps h⟩
theorem valO_b (o : Option Unit) : valO encB o = .bool o.isSome := by cases o <;> rfl
theorem tyB : Try.prog.underlying 39 = some (.map 30 4) := by kernel_rfl
theorem zeroBo (w : World) : (zeroValue 4).run Try.prog w = .ok encB.zv w := by kernel_rfl
def tMet (b c : Nat) (M : Nat → Option Unit) : Thing := ⟨fun W F => MapK keyN encB W b c M ∧ ∀ z, F z ↔ z = b, fun ⟨h, hF⟩ k n => ⟨h.kept k (n b ((hF b).2 rfl)), hF⟩, fun ⟨h, hF⟩ z hz => by rw [(hF z).1 hz]; exact h.lt⟩
section
variable {N : Nat} {w W W' : World} {l : List Thing} {b c : Nat} {M : Nat → Option Unit}
theorem met_made (h : Sep N w W l) : Sep N w (W.alloc (.map #[] 0)) (l ++ [tMet W.heap.size 0 (fun _ => none)]) :=
  h.more (below_alloc W _) _ (F' := fun z => z = W.heap.size) ⟨MapK.made keyN encB W, fun _ => Iff.rfl⟩ (fun z hz => by rw [hz]; exact Nat.le_refl _)
theorem met_look (h : Sep N w W l) (i : Nat) (hi : i < l.length) (he : l[i] = tMet b c M) (x : Nat) (hx : x < 18446744073709551616) : (Instr.lookup 39 (.map (some b)) (.int .u64 (x : Nat)) false).run Try.prog W = .ok (.bool (M x).isSome) W := by
  obtain ⟨F, hF⟩ := h.have i hi
  rw [he] at hF
  have := hF.1.look tyB (zeroBo W) (p := x) hx
  rw [valO_b] at this
  exact this
theorem met_put (h : Sep N w W l) (i : Nat) (hi : i < l.length) (he : l[i] = tMet b c M) (hc : c < 1000000) (x : Nat) (hx : x < 18446744073709551616) :
    ∃ W', (Instr.mapUpdate 39 (.map (some b)) (.int .u64 (x : Nat)) (.bool true)).run Try.prog W = .ok () W' ∧ Sep N w W' (l.set i (tMet b (c + 1) (fun q => if q = x then some () else M q))) := by
  obtain ⟨F, hF⟩ := h.have i hi
  rw [he] at hF
  obtain ⟨W', r, m, g⟩ := hF.1.put tyB hc (p := x) hx ()
  refine ⟨W', r, h.turn i hi _ (fun F' hF' => ?_)⟩
  rw [he] at hF'
  exact ⟨F', ⟨m, hF'.2⟩, (kept_map g).mono (fun z hz => (hF'.2 z).2 hz), fun z hz => .inl hz⟩
theorem met_del (h : Sep N w W l) (i : Nat) (hi : i < l.length) (he : l[i] = tMet b c M) (x : Nat) (hx : x < 18446744073709551616) (ty : TypeId) :
    ∃ W', (Builtin.delete_ #[39, 30] ty #[.map (some b), .int .u64 (x : Nat)]).run Try.prog W = .ok (.tuple #[]) W' ∧ Sep N w W' (l.set i (tMet b c (fun q => if q = x then none else M q))) := by
  obtain ⟨F, hF⟩ := h.have i hi
  rw [he] at hF
  obtain ⟨W', r, m, g⟩ := hF.1.del tyB ty (p := x) hx
  refine ⟨W', r, h.turn i hi _ (fun F' hF' => ?_)⟩
  rw [he] at hF'
  exact ⟨F', ⟨m, hF'.2⟩, (kept_map g).mono (fun z hz => (hF'.2 z).2 hz), fun z hz => .inl hz⟩
end
/-! ### The list -/
def K7 : Kd := ⟨7, true, false⟩
/-- Spans out of the first i bases, and which bases there are. -/
structure Once (X : Nat → Nat) (i : Nat) (sw : Bool) (L : List On) (M : Nat → Option Unit) : Prop where
  a : ∀ x, x ∈ L → x.kd = K7 ∧ x.sw = sw ∧ 1 ≤ x.id ∧ x.id ≤ (i : Int) ∧ x.base = X (x.id.toNat - 1)
  m : ∀ b, (M b).isSome = true ↔ ∃ x, x ∈ L ∧ x.base = b
section
variable {X : Nat → Nat} {i : Nat} {sw : Bool} {L : List On} {M : Nat → Option Unit}
theorem Once.twice (h : Once X i sw L M) (b : Nat) : twice L ((i : Int) + 1) b = (M b).isSome := by
  cases e : (M b).isSome with
  | true =>
    obtain ⟨x, hx, hb⟩ := (h.m b).1 e
    exact twice_iff.2 ⟨x, hx, .inr hb⟩
  | false =>
    cases e2 : Go.Proofs.Ytdgjlekndhgjfaa.twice L ((i : Int) + 1) b with
    | false => rfl
    | true =>
      obtain ⟨x, hx, u | u⟩ := twice_iff.1 e2
      · have := (h.a x hx).2.2.2.1
        omega
      · have := (h.m b).2 ⟨x, hx, u⟩
        rw [e] at this; cases this
theorem Once.start (X : Nat → Nat) : Once X 0 true [] (fun _ => none) := ⟨fun x hx => (by cases hx), fun b => ⟨fun e => (by cases e), fun ⟨x, hx, _⟩ => (by cases hx)⟩⟩
theorem Once.skip (h : Once X i sw L M) : Once X (i + 1) sw L M := ⟨fun x hx => by
  obtain ⟨a, b, c, d, e⟩ := h.a x hx
  exact ⟨a, b, c, by push_cast; omega, e⟩, h.m⟩
theorem Once.more (h : Once X i true L M) : Once X (i + 1) true (L ++ [⟨(i : Int) + 1, X i, ⟨7, true, false⟩, true⟩]) (fun q => if q = X i then some () else M q) := by
  refine ⟨fun x hx => ?_, fun b => ?_⟩
  · rcases List.mem_append.1 hx with u | u
    · exact h.skip.a x u
    · rw [List.mem_singleton.1 u]
      refine ⟨rfl, rfl, by show 1 ≤ (i : Int) + 1; omega, by show (i : Int) + 1 ≤ ((i + 1 : Nat) : Int); push_cast; omega, ?_⟩
      show X i = X (((i : Int) + 1).toNat - 1)
      rw [show ((i : Int) + 1).toNat - 1 = i by omega]
  · by_cases e : b = X i
    · rw [if_pos e]
      exact ⟨fun _ => ⟨_, List.mem_append_right _ (List.mem_singleton.2 rfl), e.symm⟩, fun _ => rfl⟩
    · rw [if_neg e, h.m]
      constructor
      · rintro ⟨x, hx, u⟩
        exact ⟨x, List.mem_append_left _ hx, u⟩
      · rintro ⟨x, hx, u⟩
        rcases List.mem_append.1 hx with v | v
        · exact ⟨x, v, u⟩
        · rw [List.mem_singleton.1 v] at u
          exact absurd u.symm e
theorem Once.all (h : Once X i sw L M) : allS L = (sw || L.isEmpty) := by
  cases sw with
  | true => exact List.all_eq_true.2 (fun x hx => (h.a x hx).2.1)
  | false =>
    cases L with
    | nil => rfl
    | cons x t =>
      show (x.sw && _) = _
      rw [(h.a x List.mem_cons_self).2.1]
      rfl
theorem Once.flip (h : Once X i true L M) : Once X i false (L.map fun x => { x with sw := false }) M := by
  refine ⟨fun x hx => ?_, fun b => ?_⟩
  · obtain ⟨y, hy, rfl⟩ := List.mem_map.1 hx
    obtain ⟨a, b, c, d, e⟩ := h.a y hy
    exact ⟨a, rfl, c, d, e⟩
  · rw [h.m]
    constructor
    · rintro ⟨x, hx, u⟩
      exact ⟨_, List.mem_map.2 ⟨x, hx, rfl⟩, u⟩
    · rintro ⟨x, hx, u⟩
      obtain ⟨y, hy, rfl⟩ := List.mem_map.1 hx
      exact ⟨y, hy, u⟩
theorem Once.cnt_same (h : Once X i sw L M) : cnt L sw = L.length := by
  unfold cnt
  exact List.countP_eq_length.2 (fun x hx => by rw [(h.a x hx).2.1]; simp)
theorem low_congr {f g : On → Bool} : ∀ {L : List On} {o : Option On}, (∀ x, x ∈ L → f x = g x) → L.foldl (low1 f) o = L.foldl (low1 g) o
  | [], _, _ => rfl
  | x :: L, o, h => by
    rw [List.foldl_cons, List.foldl_cons]
    have e : low1 f o x = low1 g o x := by
      unfold low1
      rw [h x List.mem_cons_self]
    rw [e]
    exact low_congr (fun y hy => h y (List.mem_cons_of_mem _ hy))
theorem Once.fits (h : Once X i sw L M) : ∀ x, x ∈ L → Go.Proofs.Ytdgjlekndhgjfaa.fits ⟨7, true, false⟩ sw x = true := fun x hx => fits_iff.2 ⟨(h.a x hx).1, (h.a x hx).2.1⟩
theorem low_some {f : On → Bool} {L : List On} (hL : L ≠ []) (h : ∀ x, x ∈ L → f x = true) : ∃ x, low f L = some x ∧ Low L f x := by
  have ok := low_ok f L
  cases e : low f L with
  | none =>
    rw [e] at ok
    obtain ⟨y, hy⟩ := List.exists_mem_of_ne_nil L hL
    have := ok y hy
    rw [h y hy] at this; cases this
  | some x =>
    rw [e] at ok
    exact ⟨x, rfl, ok⟩
theorem Once.uns (h : Once X i sw L M) : low uns L = if sw then none else low (Go.Proofs.Ytdgjlekndhgjfaa.fits ⟨7, true, false⟩ false) L := by
  cases sw with
  | true =>
    rw [if_pos rfl]
    have ok := low_ok Go.Proofs.Ytdgjlekndhgjfaa.uns L
    cases e : low Go.Proofs.Ytdgjlekndhgjfaa.uns L with
    | none => rfl
    | some x =>
      rw [e] at ok
      have := ok.2.1
      unfold Go.Proofs.Ytdgjlekndhgjfaa.uns at this
      rw [(h.a x ok.1).2.1] at this
      cases this
  | false =>
    rw [if_neg (by simp)]
    refine low_congr (fun x hx => ?_)
    rw [h.fits x hx]
    unfold Go.Proofs.Ytdgjlekndhgjfaa.uns
    rw [(h.a x hx).2.1]
    rfl
theorem Once.less (h : Once X i sw L M) (ok : OkL L) {x : On} (hx : x ∈ L) : Once X i sw (L.erase x) (fun q => if q = x.base then none else M q) := by
  refine ⟨fun y hy => h.a y (List.mem_of_mem_erase hy), fun b => ?_⟩
  by_cases e : b = x.base
  · rw [if_pos e]
    refine ⟨fun u => (by cases u), fun ⟨y, hy, u⟩ => ?_⟩
    have := ok.bas y x (List.mem_of_mem_erase hy) hx (by rw [u, e])
    rw [this] at hy
    exact absurd hy (List.Nodup.not_mem_erase ok.nd)
  · rw [if_neg e, h.m]
    constructor
    · rintro ⟨y, hy, u⟩
      exact ⟨y, (List.mem_erase_of_ne (fun v => e (by rw [← u, v]))).2 hy, u⟩
    · rintro ⟨y, hy, u⟩
      exact ⟨y, List.mem_of_mem_erase hy, u⟩
theorem remove_gone {L : List On} (ok : OkL L) {x : On} (hx : x ∈ L) : removeE (L.erase x) x.id = 35 ∧ removeL (L.erase x) x.id = L.erase x := by
  have none : ∀ y, y ∈ L.erase x → y.id ≠ x.id := fun y hy e => by
    have := ok.ids y x (List.mem_of_mem_erase hy) hx e
    rw [this] at hy
    exact List.Nodup.not_mem_erase ok.nd hy
  have e1 : (L.erase x).find? (fun z => decide (z.id = x.id)) = Option.none := List.find?_eq_none.2 (fun y hy => by simpa using none y hy)
  refine ⟨?_, ?_⟩
  · unfold removeE
    rw [if_neg]
    rw [List.any_eq_true]
    rintro ⟨y, hy, u⟩
    exact none y hy (by simpa using u)
  · unfold removeL
    rw [e1]
    rfl
end
end Go.Proofs.Ytdgjlekndhgjfaa
