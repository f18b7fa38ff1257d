/- Package sets: the list of spans that sets have; what the parts say of it. -/
import Derived.Test.YtdgjlekndhgjfaaSd
namespace Go.Proofs.Ytdgjlekndhgjfaa
open Go.ChangeShapes Go.WideShapes Go.ChangeAt Go.RowKit Go.Shelf Go.Proofs.Rx Go.Maps Go.Proofs.Hm
set_option linter.unusedVariables false
set_option linter.unusedSimpArgs false

/-- A span, as told. -/
structure On where
  id : Int
  base : Nat
  kd : Kd
  sw : Bool
deriving DecidableEq
def Gh.one (G : Gh) (m : Nat) : On := ⟨(G.x m).id, (G.x m).base, (G.x m).kd, decide ((G.x m).d = G.g)⟩
structure Rel (c : Nat) (G : Gh) (L : List On) : Prop where
  nd : G.ms.Nodup
  L : L = G.ms.map G.one
  g2 : G.g < 2
  d2 : ∀ m, m ∈ G.ms → (G.x m).d < 2
  mem : ∀ d o, d < 2 → G.on d o = true → ∀ m, m ∈ G.ms → (G.x m).d = d → (∀ k, o = some k → (G.x m).kd = k) → m ∈ G.l d o
  onk : ∀ d k, d < 2 → (G.on d (some k) = true ↔ ∃ m, m ∈ G.ms ∧ (G.x m).d = d ∧ (G.x m).kd = k)
  m0 : ∀ i m, G.M0 i = some m ↔ m ∈ G.ms ∧ (G.x m).id = i
  m1 : ∀ b, (G.M1 b).isSome = true ↔ ∃ m, m ∈ G.ms ∧ (G.x m).base = b
  bd : ∀ m m', m ∈ G.ms → m' ∈ G.ms → (G.x m).base = (G.x m').base → m = m'
  ib : ∀ m, m ∈ G.ms → (1 ≤ (G.x m).id ∧ (G.x m).id ≤ 9223372036854775807) ∧ 0 ≤ (G.x m).kd.c ∧ (G.x m).kd.c ≤ 67
  len : G.ms.length ≤ c
/-- What holds of the list. -/
structure OkL (L : List On) : Prop where
  ids : ∀ x y, x ∈ L → y ∈ L → x.id = y.id → x = y
  bas : ∀ x y, x ∈ L → y ∈ L → x.base = y.base → x = y
  nd : L.Nodup
  ib : ∀ x, x ∈ L → (1 ≤ x.id ∧ x.id ≤ 9223372036854775807) ∧ (0 ≤ x.kd.c ∧ x.kd.c ≤ 67) ∧ x.base < 18446744073709551616
theorem nodup_map_on {α β : Type} {f : α → β} : ∀ {l : List α}, l.Nodup → (∀ x y, x ∈ l → y ∈ l → f x = f y → x = y) → (l.map f).Nodup
  | [], _, _ => List.nodup_nil
  | a :: l, h, hf => by
    rw [List.map_cons, List.nodup_cons]
    rw [List.nodup_cons] at h
    refine ⟨fun e => ?_, nodup_map_on h.2 (fun x y hx hy => hf x y (List.mem_cons_of_mem _ hx) (List.mem_cons_of_mem _ hy))⟩
    obtain ⟨y, hy, e⟩ := List.mem_map.1 e
    exact h.1 (by rw [← hf y a (List.mem_cons_of_mem _ hy) List.mem_cons_self e]; exact hy)
theorem map_erase_on {α β : Type} [DecidableEq α] [DecidableEq β] {f : α → β} {m : α} : ∀ {l : List α}, m ∈ l → (∀ x y, x ∈ l → y ∈ l → f x = f y → x = y) → (l.map f).erase (f m) = (l.erase m).map f
  | [], h, _ => by cases h
  | a :: l, h, hf => by
    rw [List.map_cons]
    by_cases e : a = m
    · subst e
      simp
    · have hm : m ∈ l := (List.mem_cons.1 h).resolve_left (fun u => e u.symm)
      have ef : f a ≠ f m := fun u => e (hf a m List.mem_cons_self h u)
      rw [List.erase_cons_tail (by simpa using ef), List.erase_cons_tail (by simpa using e), List.map_cons, map_erase_on hm (fun x y hx hy => hf x y (List.mem_cons_of_mem _ hx) (List.mem_cons_of_mem _ hy))]
section
variable {c c' : Nat} {G G' : Gh} {L : List On} {m : Nat}
theorem Rel.id_inj (R : Rel c G L) {a b : Nat} (ha : a ∈ G.ms) (hb : b ∈ G.ms) (e : (G.x a).id = (G.x b).id) : a = b := by
  have h1 := (R.m0 (G.x a).id a).2 ⟨ha, rfl⟩
  have h2 := (R.m0 (G.x a).id b).2 ⟨hb, e.symm⟩
  rw [h1] at h2
  exact Option.some.inj h2
theorem Rel.one_inj (R : Rel c G L) : ∀ a b, a ∈ G.ms → b ∈ G.ms → G.one a = G.one b → a = b := fun a b ha hb e => R.id_inj ha hb (by have := congrArg On.id e; exact this)
theorem Rel.ok (R : Rel c G L) (P : Plain G) : OkL L := by
  rw [R.L]
  refine ⟨fun x y hx hy e => ?_, fun x y hx hy e => ?_, nodup_map_on R.nd R.one_inj, fun x hx => ?_⟩
  · obtain ⟨a, ha, rfl⟩ := List.mem_map.1 hx
    obtain ⟨b, hb, rfl⟩ := List.mem_map.1 hy
    rw [R.id_inj ha hb e]
  · obtain ⟨a, ha, rfl⟩ := List.mem_map.1 hx
    obtain ⟨b, hb, rfl⟩ := List.mem_map.1 hy
    rw [R.bd a b ha hb e]
  · obtain ⟨a, ha, rfl⟩ := List.mem_map.1 hx
    exact ⟨(R.ib a ha).1, (R.ib a ha).2, P.lim a ha⟩
theorem Rel.len_L (R : Rel c G L) : L.length ≤ c := by rw [R.L, List.length_map]; exact R.len
/-- One more. -/
theorem Rel.more (R : Rel c G L) (P : Plain G) (hc : c + 1 ≤ c') {y : Mem} (nm : m ∉ G.ms) (ms : G'.ms = G.ms ++ [m]) (x : ∀ z, z ∈ G.ms → G'.x z = G.x z) (xm : G'.x m = y) (g : G'.g = G.g) (M0 : ∀ i, G'.M0 i = if i = y.id then some m else G.M0 i) (M1 : ∀ b, G'.M1 b = if b = y.base then some () else G.M1 b)
    (hl : ∀ d o, d < 2 → G.on d o = true → ∀ z, z ∈ G.l d o → z ∈ G'.l d o) (hlm : ∀ o, (∀ k, o = some k → k = y.kd) → m ∈ G'.l y.d o) (hon : ∀ d k, d < 2 → (G'.on d (some k) = true ↔ G.on d (some k) = true ∨ (d = y.d ∧ k = y.kd)))
    (hy : y.d < 2 ∧ (1 ≤ y.id ∧ y.id ≤ 9223372036854775807) ∧ 0 ≤ y.kd.c ∧ y.kd.c ≤ 67) (n0 : G.M0 y.id = none) (n1 : G.M1 y.base = none) : Rel c' G' (L ++ [⟨y.id, y.base, y.kd, decide (y.d = G.g)⟩]) := by
  have memk : ∀ z, z ∈ G'.ms → (z ∈ G.ms ∧ G'.x z = G.x z) ∨ (z = m ∧ G'.x z = y) := fun z hz => by
    rw [ms] at hz
    rcases List.mem_append.1 hz with u | u
    · exact .inl ⟨u, x z u⟩
    · have e := List.mem_singleton.1 u
      exact .inr ⟨e, by rw [e, xm]⟩
  have nb : ∀ z, z ∈ G.ms → (G.x z).base ≠ y.base := fun z hz e => by
    have := (R.m1 y.base).2 ⟨z, hz, e⟩
    rw [n1] at this; cases this
  have ni : ∀ z, z ∈ G.ms → (G.x z).id ≠ y.id := fun z hz e => by
    have := (R.m0 y.id z).2 ⟨hz, e⟩
    rw [n0] at this; cases this
  refine ⟨?_, ?_, by rw [g]; exact R.g2, fun z hz => ?_, fun d o hd ho z hz e1 e2 => ?_, fun d k hd => ?_, fun i z => ?_, fun b => ?_, fun a b ha hb e => ?_, fun z hz => ?_, ?_⟩
  · rw [ms]
    refine List.nodup_append.2 ⟨R.nd, by simp, fun a ha b hb e => nm ?_⟩
    rw [← List.mem_singleton.1 hb, ← e]; exact ha
  · rw [ms, List.map_append, List.map_singleton, R.L]
    have e1 : G'.one m = ⟨y.id, y.base, y.kd, decide (y.d = G.g)⟩ := by unfold Gh.one; rw [xm, g]
    rw [e1]
    congr 1
    exact List.map_congr_left (fun z hz => by unfold Gh.one; rw [x z hz, g])
  · rcases memk z hz with ⟨u, e⟩ | ⟨u, e⟩
    · rw [e]; exact R.d2 z u
    · rw [e]; exact hy.1
  · rcases memk z hz with ⟨u, e⟩ | ⟨u, e⟩
    · rw [e] at e1 e2
      have og : G.on d o = true := by
        cases o with
        | none => exact P.on0 d hd
        | some k => exact (R.onk d k hd).2 ⟨z, u, e1, e2 k rfl⟩
      exact hl d o hd og z (R.mem d o hd og z u e1 e2)
    · rw [e] at e1 e2
      rw [u, ← e1]
      exact hlm o (fun k hk => (e2 k hk).symm)
  · rw [hon d k hd]
    constructor
    · rintro (u | ⟨u1, u2⟩)
      · obtain ⟨z, z1, z2, z3⟩ := (R.onk d k hd).1 u
        exact ⟨z, by rw [ms]; exact List.mem_append_left _ z1, by rw [x z z1]; exact z2, by rw [x z z1]; exact z3⟩
      · exact ⟨m, by rw [ms]; exact List.mem_append_right _ (List.mem_singleton.2 rfl), by rw [xm, u1], by rw [xm, u2]⟩
    · rintro ⟨z, z1, z2, z3⟩
      rcases memk z z1 with ⟨u, e⟩ | ⟨u, e⟩
      · rw [e] at z2 z3
        exact .inl ((R.onk d k hd).2 ⟨z, u, z2, z3⟩)
      · rw [e] at z2 z3
        exact .inr ⟨z2.symm, z3.symm⟩
  · rw [M0]
    by_cases e : i = y.id
    · rw [if_pos e]
      constructor
      · intro u
        have u' := Option.some.inj u
        rw [← u']
        exact ⟨by rw [ms]; exact List.mem_append_right _ (List.mem_singleton.2 rfl), by rw [xm, e]⟩
      · rintro ⟨z1, z2⟩
        rcases memk z z1 with ⟨u, e'⟩ | ⟨u, e'⟩
        · rw [e', e] at z2
          exact absurd z2 (ni z u)
        · rw [u]
    · rw [if_neg e, R.m0]
      constructor
      · rintro ⟨z1, z2⟩
        exact ⟨by rw [ms]; exact List.mem_append_left _ z1, by rw [x z z1]; exact z2⟩
      · rintro ⟨z1, z2⟩
        rcases memk z z1 with ⟨u, e'⟩ | ⟨u, e'⟩
        · rw [e'] at z2; exact ⟨u, z2⟩
        · rw [e'] at z2; exact absurd z2.symm e
  · rw [M1]
    by_cases e : b = y.base
    · rw [if_pos e]
      exact ⟨fun _ => ⟨m, by rw [ms]; exact List.mem_append_right _ (List.mem_singleton.2 rfl), by rw [xm, e]⟩, fun _ => rfl⟩
    · rw [if_neg e, R.m1]
      constructor
      · rintro ⟨z, z1, z2⟩
        exact ⟨z, by rw [ms]; exact List.mem_append_left _ z1, by rw [x z z1]; exact z2⟩
      · rintro ⟨z, z1, z2⟩
        rcases memk z z1 with ⟨u, e'⟩ | ⟨u, e'⟩
        · rw [e'] at z2; exact ⟨z, u, z2⟩
        · rw [e'] at z2; exact absurd z2.symm e
  · rcases memk a ha with ⟨u, e'⟩ | ⟨u, e'⟩ <;> rcases memk b hb with ⟨u2, e2⟩ | ⟨u2, e2⟩
    · rw [e', e2] at e; exact R.bd a b u u2 e
    · rw [e', e2] at e; exact absurd e (nb a u)
    · rw [e', e2] at e; exact absurd e.symm (nb b u2)
    · rw [u, u2]
  · rcases memk z hz with ⟨u, e⟩ | ⟨u, e⟩
    · rw [e]; exact R.ib z u
    · rw [e]; exact hy.2
  · rw [ms, List.length_append, List.length_singleton]
    have := R.len; omega
/-- One less. -/
theorem Rel.less (R : Rel c G L) (P : Plain G) (hm : m ∈ G.ms) (ms : G'.ms = G.ms.erase m) (x : ∀ z, z ∈ G.ms → G'.x z = G.x z) (g : G'.g = G.g) (M0 : ∀ i, G'.M0 i = if i = (G.x m).id then none else G.M0 i) (M1 : ∀ b, G'.M1 b = if b = (G.x m).base then none else G.M1 b)
    (hl : ∀ d o, d < 2 → G'.on d o = true → ∀ z, z ≠ m → z ∈ G.l d o → z ∈ G'.l d o) (hon : ∀ d k, d < 2 → (G'.on d (some k) = true ↔ ∃ z, z ∈ G.ms ∧ z ≠ m ∧ (G.x z).d = d ∧ (G.x z).kd = k)) : Rel c G' (L.erase (G.one m)) := by
  have memk : ∀ z, z ∈ G'.ms ↔ z ∈ G.ms ∧ z ≠ m := fun z => by
    rw [ms, R.nd.mem_erase_iff]
    exact And.comm
  refine ⟨by rw [ms]; exact R.nd.erase m, ?_, by rw [g]; exact R.g2, fun z hz => ?_, fun d o hd ho z hz e1 e2 => ?_, fun d k hd => ?_, fun i z => ?_, fun b => ?_, fun a b ha hb e => ?_, fun z hz => ?_, ?_⟩
  · rw [ms, R.L, map_erase_on hm R.one_inj]
    exact List.map_congr_left (fun z hz => by unfold Gh.one; rw [x z (List.mem_of_mem_erase hz), g])
  · have := (memk z).1 hz
    rw [x z this.1]; exact R.d2 z this.1
  · have u := (memk z).1 hz
    rw [x z u.1] at e1 e2
    have og : G.on d o = true := by
      cases o with
      | none => exact P.on0 d hd
      | some k => exact (R.onk d k hd).2 ⟨z, u.1, e1, e2 k rfl⟩
    exact hl d o hd ho z u.2 (R.mem d o hd og z u.1 e1 e2)
  · rw [hon d k hd]
    constructor
    · rintro ⟨z, z1, z2, z3, z4⟩
      exact ⟨z, (memk z).2 ⟨z1, z2⟩, by rw [x z z1]; exact z3, by rw [x z z1]; exact z4⟩
    · rintro ⟨z, z1, z3, z4⟩
      have u := (memk z).1 z1
      rw [x z u.1] at z3 z4
      exact ⟨z, u.1, u.2, z3, z4⟩
  · rw [M0]
    by_cases e : i = (G.x m).id
    · rw [if_pos e]
      constructor
      · intro u; cases u
      · rintro ⟨z1, z2⟩
        have u := (memk z).1 z1
        rw [x z u.1, e] at z2
        exact absurd (R.id_inj u.1 hm z2) u.2
    · rw [if_neg e, R.m0]
      constructor
      · rintro ⟨z1, z2⟩
        exact ⟨(memk z).2 ⟨z1, fun u => e (by rw [← z2, u])⟩, by rw [x z z1]; exact z2⟩
      · rintro ⟨z1, z2⟩
        have u := (memk z).1 z1
        rw [x z u.1] at z2
        exact ⟨u.1, z2⟩
  · rw [M1]
    by_cases e : b = (G.x m).base
    · rw [if_pos e]
      constructor
      · intro u; cases u
      · rintro ⟨z, z1, z2⟩
        have u := (memk z).1 z1
        rw [x z u.1, e] at z2
        exact absurd (R.bd z m u.1 hm z2) u.2
    · rw [if_neg e, R.m1]
      constructor
      · rintro ⟨z, z1, z2⟩
        exact ⟨z, (memk z).2 ⟨z1, fun u => e (by rw [← z2, u])⟩, by rw [x z z1]; exact z2⟩
      · rintro ⟨z, z1, z2⟩
        have u := (memk z).1 z1
        rw [x z u.1] at z2
        exact ⟨z, u.1, z2⟩
  · have ua := (memk a).1 ha
    have ub := (memk b).1 hb
    rw [x a ua.1, x b ub.1] at e
    exact R.bd a b ua.1 ub.1 e
  · have u := (memk z).1 hz
    rw [x z u.1]; exact R.ib z u.1
  · rw [ms]
    exact Nat.le_trans (List.length_erase_le) R.len
end
end Go.Proofs.Ytdgjlekndhgjfaa
