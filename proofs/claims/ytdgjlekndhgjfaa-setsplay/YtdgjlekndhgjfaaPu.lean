/- Package sets: steps of the parts: maps, kinds that come and go, members that come and go. -/
import Derived.Test.YtdgjlekndhgjfaaPt
namespace Go.Proofs.Ytdgjlekndhgjfaa
open Go.ChangeShapes Go.WideShapes Go.ChangeAt Go.RowKit Go.Shelf Go.Proofs.Rx Go.Maps Go.Proofs.Hm
set_option linter.unusedVariables false
set_option linter.unusedSimpArgs false

theorem ord_congr {f f' : Nat → Nat} {n : Nat} (h : Ord f n) (e : ∀ j, j < n → f' j = f j) : Ord f' n := fun i h0 hi => by rw [e i hi, e _ (by omega)]; exact h i h0 hi
theorem foot_s (G : Gh) (s : Nat) : Foot G s s := .inl rfl
section
variable {W W' : World} {s c c' : Nat} {G : Gh}
/-- Only a map has turned. -/
theorem Parts.cells (h : Parts W s c G) {bm : Nat} (t : TgM W bm) (k : Kept (fun z => z = bm) W W') :
    Bk W' s 62 (setsV G) ∧ (∀ m, m ∈ G.ms → Bk W' m 74 (memV (G.x m) (G.p false m) (G.p true m))) ∧
    (∀ d k, d < 2 → G.on d (some k) = true → Bk W' (G.kb d k) 55 (Hv (G.v d (some k)) 37)) ∧ ∀ d o, d < 2 → G.on d o = true → Row W' (G.v d o) (G.l d o) :=
  ⟨h.sb.kept k (h.sb.tg.neM t), fun m hm => (h.mb m hm).kept k ((h.mb m hm).tg.neM t), fun d k1 h1 h2 => (h.hk d k1 h1 h2).kept k ((h.hk d k1 h1 h2).tg.neM t), fun d o h1 h2 => (h.row d o h1 h2).kept k (fun g hg e => ((h.row d o h1 h2).tg hg).neM t e)⟩
theorem kept_map {bm : Nat} (g : W.grownBy W' (some bm)) : Kept (fun z => z = bm) W W' := Kept.of_grown g (fun k e => (Option.some.inj e).symm)
theorem Parts.map0 (h : Parts W s c G) (hc : c ≤ c') {M' : Int → Option Nat} (hm : MapK keyI encPt W' G.b0 c' M') (g : W.grownBy W' (some G.b0)) :
    Parts W' s c' { G with M0 := M' } ∧ To W W' (Foot G s) (Foot { G with M0 := M' } s) := by
  have k := kept_map g
  obtain ⟨a1, a2, a3, a4⟩ := h.cells h.m0.tg k
  refine ⟨⟨a1, a2, a3, a4, hm, (h.m1.kept k (fun e => h.pl.mp.1 e.symm)).mono hc, fun d hd => ((h.m2 d hd).kept k (fun e => (h.pl.mp.2.1 d hd).1 e.symm)).mono hc, ⟨h.pl.lim, h.pl.sub, h.pl.nd, h.pl.co, h.pl.ord, h.pl.on0, h.pl.kbi, h.pl.own, h.pl.mp⟩⟩, k.mono (fun z hz => .inr (.inr (.inl hz))), fun z hz => .inl hz⟩
theorem Parts.map1 (h : Parts W s c G) (hc : c ≤ c') {M' : Nat → Option Unit} (hm : MapK keyN encNo W' G.b1 c' M') (g : W.grownBy W' (some G.b1)) :
    Parts W' s c' { G with M1 := M' } ∧ To W W' (Foot G s) (Foot { G with M1 := M' } s) := by
  have k := kept_map g
  obtain ⟨a1, a2, a3, a4⟩ := h.cells h.m1.tg k
  refine ⟨⟨a1, a2, a3, a4, (h.m0.kept k h.pl.mp.1).mono hc, hm, fun d hd => ((h.m2 d hd).kept k (fun e => (h.pl.mp.2.1 d hd).2 e.symm)).mono hc, ⟨h.pl.lim, h.pl.sub, h.pl.nd, h.pl.co, h.pl.ord, h.pl.on0, h.pl.kbi, h.pl.own, h.pl.mp⟩⟩, k.mono (fun z hz => .inr (.inr (.inr (.inl hz)))), fun z hz => .inl hz⟩
/-- A kind that comes: an empty heap at block hb. -/
def Gh.come (G : Gh) (d : Nat) (k : Kd) (hb : Nat) : Gh :=
  { G with on := fun d' o' => if d' = d ∧ o' = some k then true else G.on d' o', kb := fun d' k' => if d' = d ∧ k' = k then hb else G.kb d' k', v := fun d' o' => if d' = d ∧ o' = some k then .slice none 0 0 else G.v d' o', l := fun d' o' => if d' = d ∧ o' = some k then [] else G.l d' o' }
def Gh.go (G : Gh) (d : Nat) (k : Kd) : Gh := { G with on := fun d' o' => if d' = d ∧ o' = some k then false else G.on d' o' }
theorem mb_ne {G : Gh} (h : Plain G) {d d' : Nat} (hd : d < 2) (hd' : d' < 2) (hne : d' ≠ d) : G.mb d' ≠ G.mb d := by
  have m := h.mp.2.2
  rcases (show (d = 0 ∧ d' = 1) ∨ (d = 1 ∧ d' = 0) by omega) with ⟨rfl, rfl⟩ | ⟨rfl, rfl⟩
  · exact fun e => m e.symm
  · exact m
theorem Parts.come (h : Parts W s c G) (hc : c ≤ c') {d : Nat} {k : Kd} (hd : d < 2) (ho : G.on d (some k) = false) {hb : Nat} (hB : Bk W hb 55 (Hv (.slice none 0 0) 37)) (hf : ¬ Foot G s hb)
    (hm : MapK keyK encPt W' (G.mb d) c' (fun k' => if k' = k then some hb else if G.on d (some k') then some (G.kb d k') else none)) (g : W.grownBy W' (some (G.mb d))) :
    Parts W' s c' (G.come d k hb) ∧ Kept (Foot G s) W W' ∧ ∀ z, Foot (G.come d k hb) s z → Foot G s z ∨ z = hb := by
  have kk := kept_map g
  obtain ⟨a1, a2, a3, a4⟩ := h.cells (h.m2 d hd).tg kk
  have onk : ∀ d1 o1, (G.come d k hb).on d1 o1 = true → (d1 = d ∧ o1 = some k) ∨ (¬ (d1 = d ∧ o1 = some k) ∧ G.on d1 o1 = true) := fun d1 o1 e => by
    have e' : (if d1 = d ∧ o1 = some k then true else G.on d1 o1) = true := e
    by_cases c1 : d1 = d ∧ o1 = some k
    · exact .inl c1
    · rw [if_neg c1] at e'; exact .inr ⟨c1, e'⟩
  have Lk : ∀ d1 o1, (G.come d k hb).l d1 o1 = if d1 = d ∧ o1 = some k then [] else G.l d1 o1 := fun _ _ => rfl
  have Vk : ∀ d1 o1, (G.come d k hb).v d1 o1 = if d1 = d ∧ o1 = some k then .slice none 0 0 else G.v d1 o1 := fun _ _ => rfl
  have Kk : ∀ d1 k1, (G.come d k hb).kb d1 k1 = if d1 = d ∧ k1 = k then hb else G.kb d1 k1 := fun _ _ => rfl
  have Ok : ∀ d1 o1, (G.come d k hb).on d1 o1 = if d1 = d ∧ o1 = some k then true else G.on d1 o1 := fun _ _ => rfl
  refine ⟨⟨?_, a2, fun d1 k1 h1 h2 => ?_, fun d1 o1 h1 h2 => ?_, (h.m0.kept kk (h.pl.mp.2.1 d hd).1).mono hc, (h.m1.kept kk (h.pl.mp.2.1 d hd).2).mono hc, fun d1 h1 => ?_, ⟨h.pl.lim, fun d1 o1 h1 h2 m hm => ?_, fun d1 o1 h1 h2 => ?_, fun d1 o1 h1 h2 => ?_, fun d1 o1 h1 h2 => ?_, fun d1 h1 => ?_, fun d1 k1 d2 k2 h1 h2 n1 n2 e => ?_, fun d1 o1 d2 o2 g h1 h2 n1 n2 e1 e2 => ?_, h.pl.mp⟩⟩, kk.mono (fun z hz => .inr (.inr (.inr (.inr (.inl ⟨d, hd, hz⟩))))), fun z hz => ?_⟩
  · have e : setsV (G.come d k hb) = setsV G := by simp [setsV, Gh.come]
    rw [e]; exact a1
  · rw [Kk, Vk]
    rcases onk _ _ h2 with c1 | ⟨c1, c2⟩
    · rw [if_pos ⟨c1.1, Option.some.inj c1.2⟩, if_pos c1]
      exact hB.kept kk (hB.tg.neM (h.m2 d hd).tg)
    · rw [if_neg (fun u => c1 ⟨u.1, by rw [u.2]⟩), if_neg c1]
      exact a3 d1 k1 h1 c2
  · rw [Lk, Vk]
    rcases onk _ _ h2 with c1 | ⟨c1, c2⟩
    · rw [if_pos c1, if_pos c1]
      exact ⟨rfl, .inl ⟨rfl, rfl⟩⟩
    · rw [if_neg c1, if_neg c1]; exact a4 d1 o1 h1 c2
  · show MapK keyK encPt W' (G.mb d1) c' (fun k' => if (if d1 = d ∧ some k' = some k then true else G.on d1 (some k')) = true then some (if d1 = d ∧ k' = k then hb else G.kb d1 k') else none)
    by_cases c1 : d1 = d
    · subst c1
      have e : (fun k' => if (if d1 = d1 ∧ some k' = some k then true else G.on d1 (some k')) = true then some (if d1 = d1 ∧ k' = k then hb else G.kb d1 k') else none) = (fun k' => if k' = k then some hb else if G.on d1 (some k') then some (G.kb d1 k') else none) := by
        funext k'
        by_cases c2 : k' = k
        · simp [c2]
        · simp [c2]
      rw [e]; exact hm
    · have e : (fun k' => if (if d1 = d ∧ some k' = some k then true else G.on d1 (some k')) = true then some (if d1 = d ∧ k' = k then hb else G.kb d1 k') else none) = (fun k' => if G.on d1 (some k') then some (G.kb d1 k') else none) := by
        funext k'
        simp [c1]
      rw [e]
      exact ((h.m2 d1 h1).kept kk (mb_ne h.pl hd h1 c1)).mono hc
  · rw [Lk] at hm
    rcases onk _ _ h2 with c1 | ⟨c1, c2⟩
    · rw [if_pos c1] at hm; cases hm
    · rw [if_neg c1] at hm; exact h.pl.sub d1 o1 h1 c2 m hm
  · rw [Lk]
    rcases onk _ _ h2 with c1 | ⟨c1, c2⟩
    · rw [if_pos c1]; exact List.nodup_nil
    · rw [if_neg c1]; exact h.pl.nd d1 o1 h1 c2
  · rw [Lk]
    rcases onk _ _ h2 with c1 | ⟨c1, c2⟩
    · rw [if_pos c1]; intro j hj; cases hj
    · rw [if_neg c1]; exact h.pl.co d1 o1 h1 c2
  · rw [Lk]
    rcases onk _ _ h2 with c1 | ⟨c1, c2⟩
    · rw [if_pos c1]; intro j _ hj; cases hj
    · rw [if_neg c1]; exact h.pl.ord d1 o1 h1 c2
  · rw [Ok, if_neg (by simp)]; exact h.pl.on0 d1 h1
  · rw [Kk, Kk] at e
    rcases onk _ _ n1 with c1 | ⟨c1, c2⟩
    · rw [if_pos ⟨c1.1, Option.some.inj c1.2⟩] at e
      rcases onk _ _ n2 with c3 | ⟨c3, c4⟩
      · exact ⟨by rw [c1.1, c3.1], by rw [Option.some.inj c1.2, Option.some.inj c3.2]⟩
      · rw [if_neg (fun u => c3 ⟨u.1, by rw [u.2]⟩)] at e
        exact absurd (.inr (.inr (.inr (.inr (.inr (.inl ⟨d2, k2, h2, c4, e⟩)))))) hf
    · rw [if_neg (fun u => c1 ⟨u.1, by rw [u.2]⟩)] at e
      rcases onk _ _ n2 with c3 | ⟨c3, c4⟩
      · rw [if_pos ⟨c3.1, Option.some.inj c3.2⟩] at e
        exact absurd (.inr (.inr (.inr (.inr (.inr (.inl ⟨d1, k1, h1, c2, e.symm⟩)))))) hf
      · rw [if_neg (fun u => c3 ⟨u.1, by rw [u.2]⟩)] at e
        exact h.pl.kbi d1 k1 d2 k2 h1 h2 c2 c4 e
  · rw [Vk] at e1 e2
    rcases onk _ _ n1 with c1 | ⟨c1, c2⟩
    · rw [if_pos c1] at e1; cases e1
    · rcases onk _ _ n2 with c3 | ⟨c3, c4⟩
      · rw [if_pos c3] at e2; cases e2
      · rw [if_neg c1] at e1
        rw [if_neg c3] at e2
        exact h.pl.own d1 o1 d2 o2 g h1 h2 c2 c4 e1 e2
  · rcases hz with e | e | e | e | e | ⟨d1, k1, h1, h2, e⟩ | ⟨d1, o1, h1, h2, e⟩
    · exact .inl (.inl e)
    · exact .inl (.inr (.inl e))
    · exact .inl (.inr (.inr (.inl e)))
    · exact .inl (.inr (.inr (.inr (.inl e))))
    · exact .inl (.inr (.inr (.inr (.inr (.inl e)))))
    · rw [Kk] at e
      rcases onk _ _ h2 with c1 | ⟨c1, c2⟩
      · rw [if_pos ⟨c1.1, Option.some.inj c1.2⟩] at e; exact .inr e
      · rw [if_neg (fun u => c1 ⟨u.1, by rw [u.2]⟩)] at e
        exact .inl (.inr (.inr (.inr (.inr (.inr (.inl ⟨d1, k1, h1, c2, e⟩))))))
    · rw [Vk] at e
      rcases onk _ _ h2 with c1 | ⟨c1, c2⟩
      · rw [if_pos c1] at e; cases e
      · rw [if_neg c1] at e
        exact .inl (.inr (.inr (.inr (.inr (.inr (.inr ⟨d1, o1, h1, c2, e⟩))))))
/-- A kind that goes. -/
theorem Parts.go (h : Parts W s c G) {d : Nat} {k : Kd} (hd : d < 2)
    (hm : MapK keyK encPt W' (G.mb d) c (fun k' => if k' = k then none else if G.on d (some k') then some (G.kb d k') else none)) (g : W.grownBy W' (some (G.mb d))) :
    Parts W' s c (G.go d k) ∧ To W W' (Foot G s) (Foot (G.go d k) s) := by
  have kk := kept_map g
  obtain ⟨a1, a2, a3, a4⟩ := h.cells (h.m2 d hd).tg kk
  have onk : ∀ d1 o1, (G.go d k).on d1 o1 = true → G.on d1 o1 = true := fun d1 o1 e => by
    have e' : (if d1 = d ∧ o1 = some k then false else G.on d1 o1) = true := e
    by_cases c1 : d1 = d ∧ o1 = some k
    · rw [if_pos c1] at e'; cases e'
    · rw [if_neg c1] at e'; exact e'
  refine ⟨⟨a1, a2, fun d1 k1 h1 h2 => a3 d1 k1 h1 (onk _ _ h2), fun d1 o1 h1 h2 => a4 d1 o1 h1 (onk _ _ h2), h.m0.kept kk (h.pl.mp.2.1 d hd).1, h.m1.kept kk (h.pl.mp.2.1 d hd).2, fun d1 h1 => ?_,
    ⟨h.pl.lim, fun d1 o1 h1 h2 => h.pl.sub d1 o1 h1 (onk _ _ h2), fun d1 o1 h1 h2 => h.pl.nd d1 o1 h1 (onk _ _ h2), fun d1 o1 h1 h2 => h.pl.co d1 o1 h1 (onk _ _ h2), fun d1 o1 h1 h2 => h.pl.ord d1 o1 h1 (onk _ _ h2), fun d1 h1 => ?_,
      fun d1 k1 d2 k2 h1 h2 n1 n2 => h.pl.kbi d1 k1 d2 k2 h1 h2 (onk _ _ n1) (onk _ _ n2), fun d1 o1 d2 o2 g h1 h2 n1 n2 => h.pl.own d1 o1 d2 o2 g h1 h2 (onk _ _ n1) (onk _ _ n2), h.pl.mp⟩⟩, kk.mono (fun z hz => .inr (.inr (.inr (.inr (.inl ⟨d, hd, hz⟩))))), fun z hz => .inl ?_⟩
  · show MapK keyK encPt W' (G.mb d1) c (fun k' => if (if d1 = d ∧ some k' = some k then false else G.on d1 (some k')) = true then some (G.kb d1 k') else none)
    by_cases c1 : d1 = d
    · subst c1
      have e : (fun k' => if (if d1 = d1 ∧ some k' = some k then false else G.on d1 (some k')) = true then some (G.kb d1 k') else none) = (fun k' => if k' = k then none else if G.on d1 (some k') then some (G.kb d1 k') else none) := by
        funext k'
        by_cases c2 : k' = k
        · simp [c2]
        · simp [c2]
      rw [e]; exact hm
    · have e : (fun k' => if (if d1 = d ∧ some k' = some k then false else G.on d1 (some k')) = true then some (G.kb d1 k') else none) = (fun k' => if G.on d1 (some k') then some (G.kb d1 k') else none) := by
        funext k'
        simp [c1]
      rw [e]
      exact (h.m2 d1 h1).kept kk (mb_ne h.pl hd h1 c1)
  · show (if d1 = d ∧ none = some k then false else G.on d1 none) = true
    rw [if_neg (by simp)]; exact h.pl.on0 d1 h1
  · rcases hz with e | e | e | e | e | ⟨d1, k1, h1, h2, e⟩ | ⟨d1, o1, h1, h2, e⟩
    · exact .inl e
    · exact .inr (.inl e)
    · exact .inr (.inr (.inl e))
    · exact .inr (.inr (.inr (.inl e)))
    · exact .inr (.inr (.inr (.inr (.inl e))))
    · exact .inr (.inr (.inr (.inr (.inr (.inl ⟨d1, k1, h1, onk _ _ h2, e⟩)))))
    · exact .inr (.inr (.inr (.inr (.inr (.inr ⟨d1, o1, h1, onk _ _ h2, e⟩)))))
/-- A member that comes. -/
def Gh.born (G : Gh) (m : Nat) (y : Mem) : Gh := { G with ms := G.ms ++ [m], x := fun z => if z = m then y else G.x z, p := fun f z => if z = m then 0 else G.p f z }
theorem Parts.born (h : Parts W s c G) {m : Nat} {y : Mem} (hB : Bk W m 74 (memV y 0 0)) (hf : ¬ Foot G s m) (hy : y.base < 18446744073709551616) : Parts W s c (G.born m y) := by
  have nm : ∀ z, z ∈ G.ms → z ≠ m := fun z hz e => hf (.inr (.inl (by rw [← e]; exact hz)))
  have Xk : ∀ z, (G.born m y).x z = if z = m then y else G.x z := fun _ => rfl
  have Pk : ∀ f z, (G.born m y).p f z = if z = m then 0 else G.p f z := fun _ _ => rfl
  have memk : ∀ z, z ∈ (G.born m y).ms → z ∈ G.ms ∨ z = m := fun z hz => by
    have hz' : z ∈ G.ms ++ [m] := hz
    simpa using hz'
  have sub' : ∀ d o j, d < 2 → G.on d o = true → j < (G.l d o).length → at' (G.l d o) j ≠ m := fun d o j hd ho hj => nm _ (h.pl.sub d o hd ho _ (at_mem hj)).1
  refine ⟨h.sb, fun z hz => ?_, h.hk, h.row, h.m0, h.m1, h.m2, ⟨fun z hz => ?_, fun d o hd ho z hz => ?_, h.pl.nd, fun d o hd ho => ?_, fun d o hd ho => ?_, h.pl.on0, h.pl.kbi, h.pl.own, h.pl.mp⟩⟩
  · rw [Xk, Pk, Pk]
    rcases memk z hz with u | u
    · rw [if_neg (nm z u), if_neg (nm z u), if_neg (nm z u)]; exact h.mb z u
    · rw [if_pos u, if_pos u, if_pos u, u]; exact hB
  · rw [Xk]
    rcases memk z hz with u | u
    · rw [if_neg (nm z u)]; exact h.pl.lim z u
    · rw [if_pos u]; exact hy
  · obtain ⟨x1, x2, x3⟩ := h.pl.sub d o hd ho z hz
    rw [Xk, if_neg (nm z x1)]
    exact ⟨List.mem_append_left _ x1, x2, x3⟩
  · intro j hj
    show (if at' (G.l d o) j = m then 0 else G.p o.isSome (at' (G.l d o) j)) = _
    rw [if_neg (sub' d o j hd ho hj)]
    exact h.pl.co d o hd ho j hj
  · refine ord_congr (h.pl.ord d o hd ho) (fun j hj => ?_)
    show ((G.born m y).x (at' (G.l d o) j)).base = (G.x (at' (G.l d o) j)).base
    rw [Xk, if_neg (sub' d o j hd ho hj)]
/-- A member that goes. -/
theorem Parts.gone (h : Parts W s c G) {m : Nat} (hm : ∀ d o, d < 2 → G.on d o = true → m ∉ G.l d o) : Parts W s c { G with ms := G.ms.erase m } ∧ To W W (Foot G s) (Foot { G with ms := G.ms.erase m } s) := by
  refine ⟨⟨h.sb, fun z hz => h.mb z (List.mem_of_mem_erase hz), h.hk, h.row, h.m0, h.m1, h.m2, ⟨fun z hz => h.pl.lim z (List.mem_of_mem_erase hz), fun d o hd ho z hz => ?_, h.pl.nd, h.pl.co, h.pl.ord, h.pl.on0, h.pl.kbi, h.pl.own, h.pl.mp⟩⟩, Kept.refl _ _, fun z hz => .inl ?_⟩
  · obtain ⟨x1, x2, x3⟩ := h.pl.sub d o hd ho z hz
    exact ⟨(List.mem_erase_of_ne (fun e => hm d o hd ho (by rw [← e]; exact hz))).2 x1, x2, x3⟩
  · rcases hz with e | e | e
    · exact .inl e
    · exact .inr (.inl (List.mem_of_mem_erase e))
    · exact .inr (.inr e)
/-- The sides turn. -/
theorem Parts.turn (h : Parts W s c G) (g : Nat) (hW : W.setCell ⟨s, 10, none⟩ (.int .i64 (g : Nat)) = W') : Parts W' s c { G with g := g } ∧ To W W' (Foot G s) (Foot { G with g := g } s) := by
  have k : Kept (fun z => z = s) W W' := by rw [← hW]; exact kept_set (F := fun z => z = s) _ s 10 _ rfl
  have b := h.sb.set 10 (.int .i64 (g : Nat))
  rw [hW] at b
  refine ⟨⟨b, fun m hm => (h.mb m hm).kept k ((h.tgm hm).ne h.sb.tg (by decide)), fun d k1 h1 h2 => (h.hk d k1 h1 h2).kept k ((h.hk d k1 h1 h2).tg.ne h.sb.tg (by decide)), fun d o h1 h2 => (h.row d o h1 h2).kept k (fun g hg => ((h.row d o h1 h2).tg hg).ne h.sb.tg (by decide)), h.m0.kept k (fun e => h.sb.tg.neM h.m0.tg e.symm), h.m1.kept k (fun e => h.sb.tg.neM h.m1.tg e.symm), fun d hd => (h.m2 d hd).kept k (fun e => h.sb.tg.neM (h.m2 d hd).tg e.symm),
    ⟨h.pl.lim, h.pl.sub, h.pl.nd, h.pl.co, h.pl.ord, h.pl.on0, h.pl.kbi, h.pl.own, h.pl.mp⟩⟩, k.mono (fun z hz => .inl hz), fun z hz => .inl hz⟩
end
end Go.Proofs.Ytdgjlekndhgjfaa
