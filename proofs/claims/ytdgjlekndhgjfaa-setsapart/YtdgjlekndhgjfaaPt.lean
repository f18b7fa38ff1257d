/- Package sets: all parts of sets in memory, how they lie beside one another; steps. -/
import Derived.Test.YtdgjlekndhgjfaaMk
import Derived.Test.YtdgjlekndhgjfaaSep
namespace Go.Proofs.Ytdgjlekndhgjfaa
open Go.ChangeShapes Go.WideShapes Go.ChangeAt Go.RowKit Go.Shelf Go.Proofs.Rx Go.Maps Go.Proofs.Hm
set_option linter.unusedVariables false
set_option linter.unusedSimpArgs false

/-- A span that is there. -/
structure Mem where
  id : Int
  base : Nat
  kd : Kd
  d : Nat
def memV (x : Mem) (a k : Int) : Array Value := #[.int .i64 x.id, .int .u64 (x.base : Nat), .int .i64 x.kd.c, .bool x.kd.a, .bool x.kd.f, .int .i64 (x.d : Nat), .int .i64 a, .int .i64 k]
/-- What stands where. -/
structure Gh where
  ms : List Nat
  x : Nat → Mem
  p : Bool → Nat → Int
  v : Nat → Option Kd → Value
  l : Nat → Option Kd → List Nat
  on : Nat → Option Kd → Bool
  kb : Nat → Kd → Nat
  b0 : Nat
  b1 : Nat
  mb : Nat → Nat
  M0 : Int → Option Nat
  M1 : Nat → Option Unit
  g : Nat
namespace Gh
def q (G : Gh) (o : Option Kd) (m : Nat) : Array Value := match o with
  | none => memV (G.x m) 0 (G.p true m)
  | some _ => memV (G.x m) (G.p false m) 0
def B (G : Gh) (m : Nat) : Nat := (G.x m).base
/-- A heap's row, members and places have changed. -/
def upd (G : Gh) (d : Nat) (o : Option Kd) (v' : Value) (l' T : List Nat) (p' : Nat → Int) : Gh :=
  { G with v := fun d' o' => if d' = d ∧ o' = o then v' else G.v d' o', l := fun d' o' => if d' = d ∧ o' = o then l' else G.l d' o', p := fun c z => if c = o.isSome ∧ z ∈ T then p' z else G.p c z }
end Gh
def pkI : Option Kd → Nat
  | none => 6
  | some _ => 7
def pfI : Option Kd → Nat
  | none => 32
  | some _ => 37
def hbI (s : Nat) (G : Gh) (d : Nat) : Option Kd → Nat
  | none => s
  | some k => G.kb d k
def offI (d : Nat) : Option Kd → Nat
  | none => 2 + 4 * d
  | some _ => 0
theorem q_set (G : Gh) (o : Option Kd) (m : Nat) (i : Int) : (G.q o m).setIfInBounds (pkI o) (.int .i64 i) = memV (G.x m) (if o.isSome then G.p false m else i) (if o.isSome then i else G.p true m) := by cases o <;> rfl
def cmpV : Value := .func (.func 36) #[] #[]
def Hv (v : Value) (pf : Nat) : Array Value := #[v, cmpV, .func (.func pf) #[] #[]]
def setsV (G : Gh) : Array Value := #[.map (some G.b0), .map (some G.b1), G.v 0 none, cmpV, .func (.func 32) #[] #[], .map (some (G.mb 0)), G.v 1 none, cmpV, .func (.func 32) #[] #[], .map (some (G.mb 1)), .int .i64 (G.g : Nat)]
def Row (W : World) (v : Value) (l : List Nat) : Prop := W.ownsRow 0 70 1 v l.length (l.map encP)
/-! ### Tags -/
def Tg (W : World) (b : Nat) (t : TypeId) : Prop := ∃ vs z, W.heap[b]? = some (.cells vs t z)
def TgM (W : World) (b : Nat) : Prop := ∃ es c, W.heap[b]? = some (.map es c)
theorem Tg.ne {W : World} {b b' : Nat} {t t' : TypeId} (h : Tg W b t) (h' : Tg W b' t') (hne : t ≠ t') : b ≠ b' := by
  obtain ⟨vs, z, e⟩ := h
  obtain ⟨vs', z', e'⟩ := h'
  intro c
  rw [c, e'] at e
  injection e with e
  injection e with _ e _
  exact hne e.symm
theorem Tg.neM {W : World} {b b' : Nat} {t : TypeId} (h : Tg W b t) (h' : TgM W b') : b ≠ b' := by
  obtain ⟨vs, z, e⟩ := h
  obtain ⟨vs', z', e'⟩ := h'
  intro c
  rw [c, e'] at e
  injection e with e
  cases e
theorem Bk.tg {W : World} {b : Nat} {t : TypeId} {vs : Array Value} (h : Bk W b t vs) : Tg W b t := ⟨vs, (0, 0), h⟩
theorem Row.tg {W : World} {v : Value} {l : List Nat} (h : Row W v l) {g : Nat} (hg : v.ownBlock = some g) : Tg W g 70 := by
  rcases h.2 with ⟨a, _⟩ | ⟨g', cap, cur, a, _, c, _⟩
  · rw [a] at hg; cases hg
  · rw [a] at hg
    have : g' = g := by simpa [Value.ownBlock] using hg
    rw [← this]
    exact ⟨cur, (0, 0), c⟩
theorem Tg.lt {W : World} {b : Nat} {t : TypeId} (h : Tg W b t) : b < W.heap.size := by
  obtain ⟨vs, z, e⟩ := h
  exact (Array.getElem?_eq_some_iff.1 e).1
theorem MapK.tg {κ : Type} {k : TypeId} {T : KeyT κ k} {α : Type} {E : Enc α} {w : World} {b n : Nat} {M : κ → Option α} (h : MapK T E w b n M) : TgM w b := by
  obtain ⟨D, ⟨es, clock, h1, _⟩, _⟩ := h
  exact ⟨es, clock, h1⟩
/-! ### The parts -/
structure Plain (G : Gh) : Prop where
  lim : ∀ m, m ∈ G.ms → (G.x m).base < 18446744073709551616
  sub : ∀ d o, d < 2 → G.on d o = true → ∀ m, m ∈ G.l d o → m ∈ G.ms ∧ (G.x m).d = d ∧ ∀ k, o = some k → (G.x m).kd = k
  nd : ∀ d o, d < 2 → G.on d o = true → (G.l d o).Nodup
  co : ∀ d o, d < 2 → G.on d o = true → Cons (G.l d o) (G.p o.isSome)
  ord : ∀ d o, d < 2 → G.on d o = true → Ord (fB G.B (G.l d o)) (G.l d o).length
  on0 : ∀ d, d < 2 → G.on d none = true
  kbi : ∀ d k d' k', d < 2 → d' < 2 → G.on d (some k) = true → G.on d' (some k') = true → G.kb d k = G.kb d' k' → d = d' ∧ k = k'
  own : ∀ d o d' o' g, d < 2 → d' < 2 → G.on d o = true → G.on d' o' = true → (G.v d o).ownBlock = some g → (G.v d' o').ownBlock = some g → d = d' ∧ o = o'
  mp : G.b0 ≠ G.b1 ∧ (∀ d, d < 2 → G.b0 ≠ G.mb d ∧ G.b1 ≠ G.mb d) ∧ G.mb 0 ≠ G.mb 1
structure Parts (W : World) (s c : Nat) (G : Gh) : Prop where
  sb : Bk W s 62 (setsV G)
  mb : ∀ m, m ∈ G.ms → Bk W m 74 (memV (G.x m) (G.p false m) (G.p true m))
  hk : ∀ d k, d < 2 → G.on d (some k) = true → Bk W (G.kb d k) 55 (Hv (G.v d (some k)) 37)
  row : ∀ d o, d < 2 → G.on d o = true → Row W (G.v d o) (G.l d o)
  m0 : MapK keyI encPt W G.b0 c G.M0
  m1 : MapK keyN encNo W G.b1 c G.M1
  m2 : ∀ d, d < 2 → MapK keyK encPt W (G.mb d) c (fun k => if G.on d (some k) then some (G.kb d k) else none)
  pl : Plain G
/-- Its blocks. -/
def Foot (G : Gh) (s : Nat) (z : Nat) : Prop :=
  z = s ∨ z ∈ G.ms ∨ z = G.b0 ∨ z = G.b1 ∨ (∃ d, d < 2 ∧ z = G.mb d) ∨ (∃ d k, d < 2 ∧ G.on d (some k) = true ∧ z = G.kb d k) ∨ ∃ d o, d < 2 ∧ G.on d o = true ∧ (G.v d o).ownBlock = some z
section
variable {W W' : World} {s c : Nat} {G : Gh}
theorem Parts.lt (h : Parts W s c G) {z : Nat} (hz : Foot G s z) : z < W.heap.size := by
  rcases hz with rfl | hz | rfl | rfl | ⟨d, hd, rfl⟩ | ⟨d, k, hd, ho, rfl⟩ | ⟨d, o, hd, ho, hz⟩
  · exact h.sb.lt
  · exact (h.mb z hz).lt
  · exact h.m0.lt
  · exact h.m1.lt
  · exact (h.m2 d hd).lt
  · exact (h.hk d k hd ho).lt
  · exact ((h.row d o hd ho).tg hz).lt
theorem Row.kept {K : Nat → Prop} {v : Value} {l : List Nat} (h : Row W v l) (k : Kept K W W') (hF : ∀ g, v.ownBlock = some g → ¬ K g) : Row W' v l := owns_kept h k hF
theorem Parts.kept {K : Nat → Prop} (h : Parts W s c G) (k : Kept K W W') (hK : ∀ z, Foot G s z → ¬ K z) : Parts W' s c G :=
  ⟨h.sb.kept k (hK _ (.inl rfl)), fun m hm => (h.mb m hm).kept k (hK _ (.inr (.inl hm))), fun d k' hd ho => (h.hk d k' hd ho).kept k (hK _ (.inr (.inr (.inr (.inr (.inr (.inl ⟨d, k', hd, ho, rfl⟩))))))),
    fun d o hd ho => (h.row d o hd ho).kept k (fun g hg => hK _ (.inr (.inr (.inr (.inr (.inr (.inr ⟨d, o, hd, ho, hg⟩))))))), h.m0.kept k (hK _ (.inr (.inr (.inl rfl)))), h.m1.kept k (hK _ (.inr (.inr (.inr (.inl rfl))))),
    fun d hd => (h.m2 d hd).kept k (hK _ (.inr (.inr (.inr (.inr (.inl ⟨d, hd, rfl⟩)))))), h.pl⟩
theorem Parts.below (h : Parts W s c G) (k : Below W.heap.size W W') : Parts W' s c G := h.kept (K := fun _ => False) (Kept.of_below k) (fun _ _ f => f)
theorem Parts.mono {c' : Nat} (h : Parts W s c G) (hc : c ≤ c') : Parts W s c' G := ⟨h.sb, h.mb, h.hk, h.row, h.m0.mono hc, h.m1.mono hc, fun d hd => (h.m2 d hd).mono hc, h.pl⟩
/-- Of blocks: the tags that a heap's own have. -/
theorem Parts.tgm (h : Parts W s c G) {m : Nat} (hm : m ∈ G.ms) : Tg W m 74 := (h.mb m hm).tg
theorem Parts.hpc (h : Parts W s c G) {d : Nat} {o : Option Kd} (hd : d < 2) (ho : G.on d o = true) : HpC W (hbI s G d o) (offI d o) (pfI o) (pkI o) (G.q o) G.B (G.v d o) (G.l d o) (G.p o.isSome) := by
  have rw_ := h.row d o hd ho
  have hat : HpAt W (hbI s G d o) (offI d o) (pfI o) (G.v d o) (G.l d o) := by
    cases o with
    | none =>
      have nb : (G.v d none).ownBlock ≠ some s := fun e => ((rw_.tg e).ne h.sb.tg (by decide)) rfl
      rcases (show d = 0 ∨ d = 1 by omega) with rfl | rfl
      · exact ⟨h.sb.cell 2 _ rfl, h.sb.fz 2, h.sb.cell 3 _ rfl, h.sb.cell 4 _ rfl, rw_, nb⟩
      · exact ⟨h.sb.cell 6 _ rfl, h.sb.fz 6, h.sb.cell 7 _ rfl, h.sb.cell 8 _ rfl, rw_, nb⟩
    | some k =>
      have b := h.hk d k hd ho
      exact ⟨b.cell 0 _ rfl, b.fz 0, b.cell 1 _ rfl, b.cell 2 _ rfl, rw_, fun e => ((rw_.tg e).ne b.tg (by decide)) rfl⟩
  refine ⟨⟨hat, ⟨fun m hm => ?_, fun m hm => ?_, fun m hm => ?_, fun m hm => h.pl.lim m (h.pl.sub d o hd ho m hm).1⟩, h.pl.nd d o hd ho, fun m hm => ⟨?_, fun e => ((rw_.tg e).ne (h.tgm (h.pl.sub d o hd ho m hm).1) (by decide)) rfl⟩⟩, h.pl.co d o hd ho⟩
  · have := h.mb m (h.pl.sub d o hd ho m hm).1
    rw [q_set]
    cases o <;> exact this
  · cases o <;> rfl
  · cases o <;> rfl
  · have t := h.tgm (h.pl.sub d o hd ho m hm).1
    cases o with
    | none => exact t.ne h.sb.tg (by decide)
    | some k => exact t.ne (h.hk d k hd ho).tg (by decide)
/-- A heap has changed: its row, its members' places. -/
theorem Parts.change (h : Parts W s c G) {d : Nat} {o : Option Kd} (hd : d < 2) (ho : G.on d o = true) {v' : Value} {l' T : List Nat} {p' : Nat → Int}
    (hT : ∀ z, z ∈ T → z ∈ G.ms ∧ (G.x z).d = d ∧ ∀ k, o = some k → (G.x z).kd = k) (hlT : ∀ z, z ∈ l' → z ∈ T) (hnd : l'.Nodup) (hco : Cons l' p') (hord : Ord (fB G.B l') l'.length)
    (hrow : Row W' v' l') (hown : ∀ g, v'.ownBlock = some g → (G.v d o).ownBlock = some g ∨ W.heap.size ≤ g) (hblk : ∀ t vs, Bk W (hbI s G d o) t vs → Bk W' (hbI s G d o) t (vs.setIfInBounds (offI d o) v'))
    (hms : ∀ z, z ∈ T → Bk W' z 74 ((G.q o z).setIfInBounds (pkI o) (.int .i64 (p' z))))
    (k : Kept (fun z => z = hbI s G d o ∨ (G.v d o).ownBlock = some z ∨ z ∈ T) W W') :
    Parts W' s c (G.upd d o v' l' T p') ∧ To W W' (Foot G s) (Foot (G.upd d o v' l' T p') s) := by
  have tT : ∀ z, z ∈ T → Tg W z 74 := fun z hz => h.tgm (hT z hz).1
  have tO : ∀ z, (G.v d o).ownBlock = some z → Tg W z 70 := fun z hz => (h.row d o hd ho).tg hz
  have tB : (o = none ∧ hbI s G d o = s) ∨ ∃ k, o = some k ∧ hbI s G d o = G.kb d k ∧ Tg W (hbI s G d o) 55 := by
    cases o with
    | none => exact .inl ⟨rfl, rfl⟩
    | some k0 => exact .inr ⟨k0, rfl, rfl, (h.hk d k0 hd ho).tg⟩
  -- what has a tag of another kind stands
  have nM : ∀ z, TgM W z → ¬ (z = hbI s G d o ∨ (G.v d o).ownBlock = some z ∨ z ∈ T) := by
    rintro z hz (e | e | e)
    · rcases tB with ⟨_, u⟩ | ⟨_, _, _, u⟩
      · exact h.sb.tg.neM hz (by rw [e, u])
      · exact u.neM hz e.symm
    · exact (tO z e).neM hz rfl
    · exact (tT z e).neM hz rfl
  have nR : ∀ d1 o1, d1 < 2 → G.on d1 o1 = true → ¬ (d1 = d ∧ o1 = o) → ∀ g, (G.v d1 o1).ownBlock = some g → ¬ (g = hbI s G d o ∨ (G.v d o).ownBlock = some g ∨ g ∈ T) := by
    rintro d1 o1 h1 h2 hne g hg (e | e | e)
    · rcases tB with ⟨_, u⟩ | ⟨_, _, _, u⟩
      · exact ((h.row d1 o1 h1 h2).tg hg).ne h.sb.tg (by decide) (by rw [e, u])
      · exact ((h.row d1 o1 h1 h2).tg hg).ne u (by decide) e
    · exact hne (h.pl.own d1 o1 d o g h1 hd h2 ho hg e)
    · exact ((h.row d1 o1 h1 h2).tg hg).ne (tT g e) (by decide) rfl
  refine ⟨⟨?_, fun m hm => ?_, fun d1 k1 h1 h2 => ?_, fun d1 o1 h1 h2 => ?_, h.m0.kept k (nM _ h.m0.tg), h.m1.kept k (nM _ h.m1.tg), fun d1 h1 => (h.m2 d1 h1).kept k (nM _ (h.m2 d1 h1).tg), ⟨h.pl.lim, fun d1 o1 h1 h2 m hm => ?_, fun d1 o1 h1 h2 => ?_, fun d1 o1 h1 h2 => ?_, fun d1 o1 h1 h2 => ?_, h.pl.on0, h.pl.kbi, fun d1 o1 d2 o2 g h1 h2 n1 n2 e1 e2 => ?_, h.pl.mp⟩⟩, k.mono (fun z hz => ?_), fun z hz => ?_⟩
  · -- the sets' block
    cases o with
    | none =>
      have b := hblk _ _ h.sb
      rcases (show d = 0 ∨ d = 1 by omega) with rfl | rfl <;> exact b
    | some k1 =>
      have b := h.sb.kept k (by
        rintro (e | e | e)
        · exact h.sb.tg.ne (h.hk d k1 hd ho).tg (by decide) e
        · exact h.sb.tg.ne (tO _ e) (by decide) rfl
        · exact h.sb.tg.ne (tT _ e) (by decide) rfl)
      have e : setsV (G.upd d (some k1) v' l' T p') = setsV G := by simp [setsV, Gh.upd]
      rw [e]
      exact b
  · -- members
    show Bk W' m 74 (memV (G.x m) (if false = o.isSome ∧ m ∈ T then p' m else G.p false m) (if true = o.isSome ∧ m ∈ T then p' m else G.p true m))
    by_cases c1 : m ∈ T
    · have b := hms m c1
      rw [q_set] at b
      cases o <;> simpa [c1] using b
    · have b := (h.mb m hm).kept k (by
        rintro (e | e | e)
        · rcases tB with ⟨_, u⟩ | ⟨_, _, _, u⟩
          · exact (h.tgm hm).ne h.sb.tg (by decide) (by rw [e, u])
          · exact (h.tgm hm).ne u (by decide) e
        · exact (h.tgm hm).ne (tO _ e) (by decide) rfl
        · exact c1 e)
      simpa [c1] using b
  · -- heaps of kinds
    show Bk W' (G.kb d1 k1) 55 (Hv (if d1 = d ∧ some k1 = o then v' else G.v d1 (some k1)) _)
    by_cases c1 : d1 = d ∧ some k1 = o
    · obtain ⟨rfl, rfl⟩ := c1
      rw [if_pos ⟨rfl, rfl⟩]
      exact hblk _ _ (h.hk d1 k1 hd ho)
    · rw [if_neg c1]
      refine (h.hk d1 k1 h1 h2).kept k ?_
      rintro (e | e | e)
      · rcases tB with ⟨_, u⟩ | ⟨k2, u1, u2, _⟩
        · exact (h.hk d1 k1 h1 h2).tg.ne h.sb.tg (by decide) (by rw [e, u])
        · rw [u2] at e
          obtain ⟨x1, x2⟩ := h.pl.kbi d1 k1 d k2 h1 hd h2 (by rw [← u1]; exact ho) e
          exact c1 ⟨x1, by rw [u1, x2]⟩
      · exact (h.hk d1 k1 h1 h2).tg.ne (tO _ e) (by decide) rfl
      · exact (h.hk d1 k1 h1 h2).tg.ne (tT _ e) (by decide) rfl
  · -- rows
    show Row W' (if d1 = d ∧ o1 = o then v' else G.v d1 o1) (if d1 = d ∧ o1 = o then l' else G.l d1 o1)
    by_cases c1 : d1 = d ∧ o1 = o
    · rw [if_pos c1, if_pos c1]; exact hrow
    · rw [if_neg c1, if_neg c1]
      exact (h.row d1 o1 h1 h2).kept k (fun g hg => nR d1 o1 h1 h2 c1 g hg)
  · by_cases c1 : d1 = d ∧ o1 = o
    · have hm' : m ∈ (if d1 = d ∧ o1 = o then l' else G.l d1 o1) := hm
      rw [if_pos c1] at hm'
      rw [c1.1, c1.2]
      exact hT m (hlT m hm')
    · have hm' : m ∈ (if d1 = d ∧ o1 = o then l' else G.l d1 o1) := hm
      rw [if_neg c1] at hm'
      exact h.pl.sub d1 o1 h1 h2 m hm'
  · show (if d1 = d ∧ o1 = o then l' else G.l d1 o1).Nodup
    by_cases c1 : d1 = d ∧ o1 = o
    · rw [if_pos c1]; exact hnd
    · rw [if_neg c1]; exact h.pl.nd d1 o1 h1 h2
  · show Cons (if d1 = d ∧ o1 = o then l' else G.l d1 o1) (fun z => if o1.isSome = o.isSome ∧ z ∈ T then p' z else G.p o1.isSome z)
    by_cases c1 : d1 = d ∧ o1 = o
    · rw [if_pos c1]
      intro j hj
      have hm := hlT _ (at_mem hj)
      show (if o1.isSome = o.isSome ∧ at' l' j ∈ T then p' (at' l' j) else G.p o1.isSome (at' l' j)) = _
      rw [if_pos ⟨by rw [c1.2], hm⟩]
      exact hco j hj
    · rw [if_neg c1]
      intro j hj
      have hm := h.pl.sub d1 o1 h1 h2 _ (at_mem hj)
      show (if o1.isSome = o.isSome ∧ at' (G.l d1 o1) j ∈ T then p' (at' (G.l d1 o1) j) else G.p o1.isSome (at' (G.l d1 o1) j)) = _
      rw [if_neg]
      · exact h.pl.co d1 o1 h1 h2 j hj
      · rintro ⟨e1, e2⟩
        obtain ⟨x1, x2, x3⟩ := hT _ e2
        obtain ⟨y1, y2, y3⟩ := hm
        refine c1 ⟨y2.symm.trans x2, ?_⟩
        cases o1 with
        | none =>
          cases o with
          | none => rfl
          | some k => cases e1
        | some k1 =>
          cases o with
          | none => cases e1
          | some k0 => rw [← y3 k1 rfl, ← x3 k0 rfl]
  · show Ord (fB G.B (if d1 = d ∧ o1 = o then l' else G.l d1 o1)) (if d1 = d ∧ o1 = o then l' else G.l d1 o1).length
    by_cases c1 : d1 = d ∧ o1 = o
    · rw [if_pos c1]; exact hord
    · rw [if_neg c1]; exact h.pl.ord d1 o1 h1 h2
  · have f1 : (if d1 = d ∧ o1 = o then v' else G.v d1 o1).ownBlock = some g := e1
    have f2 : (if d2 = d ∧ o2 = o then v' else G.v d2 o2).ownBlock = some g := e2
    by_cases c1 : d1 = d ∧ o1 = o
    · by_cases c2 : d2 = d ∧ o2 = o
      · exact ⟨by rw [c1.1, c2.1], by rw [c1.2, c2.2]⟩
      · rw [if_pos c1] at f1
        rw [if_neg c2] at f2
        rcases hown g f1 with u | u
        · exact absurd (h.pl.own d o d2 o2 g hd h2 ho n2 u f2) (fun ⟨a, b⟩ => c2 ⟨a.symm, b.symm⟩)
        · have := ((h.row d2 o2 h2 n2).tg f2).lt; omega
    · rw [if_neg c1] at f1
      by_cases c2 : d2 = d ∧ o2 = o
      · rw [if_pos c2] at f2
        rcases hown g f2 with u | u
        · exact absurd (h.pl.own d1 o1 d o g h1 hd n1 ho f1 u) c1
        · have := ((h.row d1 o1 h1 n1).tg f1).lt; omega
      · rw [if_neg c2] at f2
        exact h.pl.own d1 o1 d2 o2 g h1 h2 n1 n2 f1 f2
  · rcases hz with e | e | e
    · rcases tB with ⟨_, u⟩ | ⟨k1, u1, u2, _⟩
      · exact .inl (by rw [e, u])
      · exact .inr (.inr (.inr (.inr (.inr (.inl ⟨d, k1, hd, by rw [← u1]; exact ho, by rw [e, u2]⟩)))))
    · exact .inr (.inr (.inr (.inr (.inr (.inr ⟨d, o, hd, ho, e⟩)))))
    · exact .inr (.inl (hT z e).1)
  · rcases hz with e | e | e | e | e | e | ⟨d1, o1, h1, h2, e⟩
    · exact .inl (.inl e)
    · exact .inl (.inr (.inl e))
    · exact .inl (.inr (.inr (.inl e)))
    · exact .inl (.inr (.inr (.inr (.inl e))))
    · exact .inl (.inr (.inr (.inr (.inr (.inl e)))))
    · exact .inl (.inr (.inr (.inr (.inr (.inr (.inl e))))))
    · have f1 : (if d1 = d ∧ o1 = o then v' else G.v d1 o1).ownBlock = some z := e
      by_cases c1 : d1 = d ∧ o1 = o
      · rw [if_pos c1] at f1
        rcases hown z f1 with u | u
        · exact .inl (.inr (.inr (.inr (.inr (.inr (.inr ⟨d, o, hd, ho, u⟩))))))
        · exact .inr u
      · rw [if_neg c1] at f1
        exact .inl (.inr (.inr (.inr (.inr (.inr (.inr ⟨d1, o1, h1, h2, f1⟩))))))
/-- Added to a heap. -/
theorem Parts.added (h : Parts W s c G) {d : Nat} {o : Option Kd} (hd : d < 2) (ho : G.on d o = true) {m : Nat} (hm : m ∈ G.ms) (hx : (G.x m).d = d ∧ ∀ k, o = some k → (G.x m).kd = k)
    (a : AddTo W W' (hbI s G d o) (offI d o) (pfI o) (pkI o) (G.q o) G.B (G.v d o) (G.l d o) m) :
    ∃ v' l' p', l'.Perm (m :: G.l d o) ∧ Parts W' s c (G.upd d o v' l' (m :: G.l d o) p') ∧ To W W' (Foot G s) (Foot (G.upd d o v' l' (m :: G.l d o) p') s) := by
  obtain ⟨⟨v', l', p', hC, hO, pm, hown, hblk⟩, k⟩ := a
  refine ⟨v', l', p', pm, h.change hd ho (fun z hz => ?_) (fun z hz => pm.mem_iff.1 hz) hC.hp.nd hC.co hO hC.hp.at_.row hown hblk (fun z hz => hC.hp.ms.bk z (pm.mem_iff.2 hz)) (k.mono (fun z hz => ?_))⟩
  · rcases List.mem_cons.1 hz with e | e
    · rw [e]; exact ⟨hm, hx⟩
    · exact h.pl.sub d o hd ho z e
  · rcases hz with e | e | e | e
    · exact .inl e
    · exact .inr (.inl e)
    · exact .inr (.inr (by rw [e]; exact List.mem_cons_self))
    · exact .inr (.inr (List.mem_cons_of_mem _ e))
/-- Removed from a heap. -/
theorem Parts.removed (h : Parts W s c G) {d : Nat} {o : Option Kd} (hd : d < 2) (ho : G.on d o = true) {m : Nat} (hm : m ∈ G.l d o)
    (a : RemTo W W' (hbI s G d o) (offI d o) (pfI o) (pkI o) (G.q o) G.B (G.v d o) (G.l d o) m) :
    ∃ v' l' p', l'.Perm ((G.l d o).erase m) ∧ Parts W' s c (G.upd d o v' l' (G.l d o) p') ∧ To W W' (Foot G s) (Foot (G.upd d o v' l' (G.l d o) p') s) := by
  obtain ⟨⟨v', l', p', x, hC, hO, pm, hown, hblk, hmb⟩, k⟩ := a
  have nd := h.pl.nd d o hd ho
  have nm : m ∉ l' := fun e => (List.Nodup.not_mem_erase nd) (pm.mem_iff.1 e)
  refine ⟨v', l', fun z => if z = m then x else p' z, pm, h.change hd ho (fun z hz => h.pl.sub d o hd ho z hz) (fun z hz => List.mem_of_mem_erase (pm.mem_iff.1 hz)) hC.hp.nd (fun j hj => ?_) hO hC.hp.at_.row (fun g hg => .inl (by rw [← hown]; exact hg)) hblk (fun z hz => ?_) (k.mono (fun z hz => hz))⟩
  · show (if at' l' j = m then x else p' (at' l' j)) = _
    rw [if_neg (fun e => nm (by rw [← e]; exact at_mem hj))]
    exact hC.co j hj
  · by_cases e : z = m
    · subst e
      simp only [if_true]
      exact hmb
    · simp only [if_neg e]
      exact hC.hp.ms.bk z (pm.mem_iff.2 ((List.mem_erase_of_ne e).2 hz))
end
end Go.Proofs.Ytdgjlekndhgjfaa
