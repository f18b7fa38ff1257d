/- J18 of the proof of both laws: texts RefC, RefD, RefE, one behind the other. -/
import Derived.Test.YtlfcnaalkjpgnaaJ17
import Derived.Laws.AppendOwnNone
/- The reference of chapter 3: where pages may be laid out. -/
namespace Go.Proofs.Ytlfcnaalkjpgnaa
open Go.ChangeShapes Go.WideShapes Go.ChangeAt Go.RowKit Go.Proofs.Sp

theorem first_none_of {S : Sp} {hint pages : Nat} (h : ∀ j, hint ≤ j → ¬ free S pages j) : firstFrom S hint pages = none := by
  cases e : firstFrom S hint pages with
  | none => rfl
  | some q => obtain ⟨a, b, _⟩ := first_some e; exact absurd a (h q b)

variable {w : World} {m : Nat} {S : Sp} {fl : Nat → Nat} {ws : List (Nat × Nat)} {v0 v1 v2 : Value} {o3 : Option Addr} {c3 : Nat} {o4 : Option Addr} {c4 : Nat}
/-- What 'clear' answers: nothing is there, or the first page that is. -/
def clearOk (S : Sp) (a b x : Int) (ok : Bool) : Prop := (ok = true → x = 0 ∧ ∀ i, i < b.toNat → S.st (a.toNat + i) = 0) ∧ (ok = false → ∃ p, p ∈ S.pgs ∧ a ≤ (p : Int) ∧ (p : Int) < a + b ∧ x = p + 1)
theorem RefC.clear (h : RefC w m S fl ws v0 v1 v2 o3 c3 o4 c4) (a b : Int) (ha : 0 ≤ a) (hb : 0 ≤ b) (hab : a + b ≤ 34359738368) (hn : S.pgs.length ≤ 1099511627776) :
    Calls Try.prog 37 #[.pointer (some ⟨m, 0, none⟩), .int .u64 a, .int .u64 b] w fun e w' => ∃ (x : Int) (ok : Bool), e = .returned (.tuple #[.int .u64 x, .bool ok]) ∧ clearOk S a b x ok ∧ ∃ k, w' = w.drewN k := by
  have cf := h.find a ha hn
  have h3 := h.h3
  have hlt := fun i hi => pos_lt h.wf.rising a.toNat i hi
  have hyes : (∀ i (hi : i < S.pgs.length), pos S.pgs a.toNat ≤ i → a + b ≤ (S.pgs[i] : Int)) → clearOk S a b 0 true := by
    intro hh
    refine ⟨fun _ => ⟨rfl, fun i hi => ?_⟩, fun e => by cases e⟩
    by_cases c : S.st (a.toNat + i) = 0
    · exact c
    · exfalso
      obtain ⟨j, hj, e⟩ := List.getElem_of_mem ((h.wf.mem _).1 c)
      have n1 : ¬ j < pos S.pgs a.toNat := fun hh => by have := (hlt j hj).1 hh; omega
      have := hh j hj (by omega)
      omega
  by_cases hq : pos S.pgs a.toNat < S.pgs.length
  · obtain ⟨bb, off, rfl, hc⟩ := h.page (by omega)
    have c0 := (hc _ hq).1
    have hge : a ≤ (S.pgs[pos S.pgs a.toNat] : Int) := by
      have : ¬ S.pgs[pos S.pgs a.toNat] < a.toNat := fun hh => by have := (hlt _ hq).2 hh; omega
      omega
    have hbel := h.wf.below _ (List.getElem_mem hq)
    have hno : (S.pgs[pos S.pgs a.toNat] : Int) < a + b → clearOk S a b (S.pgs[pos S.pgs a.toNat] + 1) false := fun hh =>
      ⟨(fun e => by cases e), fun _ => ⟨_, List.getElem_mem hq, hge, hh, rfl⟩⟩
    have hyes' : ¬ (S.pgs[pos S.pgs a.toNat] : Int) < a + b → clearOk S a b 0 true := fun hh => hyes fun i hi hpi => by
      by_cases c : i = pos S.pgs a.toNat
      · subst c; omega
      · have := List.pairwise_iff_getElem.1 h.wf.rising _ i hq hi (by omega)
        omega
    generalize S.pgs[pos S.pgs a.toNat] = y at *
    generalize pos S.pgs a.toNat = q at *
    generalize decide (a.toNat ∈ S.pgs) = d at *
    obtain ⟨n, hnn⟩ : ∃ n, n = S.pgs.length := ⟨_, rfl⟩
    rw [← hnn] at hq h3
    have HN : Hid _ := hno
    have HY : Hid _ := hyes'
    have hq' : decide ((q : Int) < (n : Int)) = true := by simp; exact hq
    clear hc hlt hyes hno hyes' h hn hnn
    by_cases ht : (y : Int) < a + b
    · go_enter Try.func37, Try.ntmps37
      go_wp2_with (go_at_call 39; refine cf.mono ?_; rintro e w' ⟨rfl, k, rfl⟩)
      go_ret2
      exact ⟨_, _, rfl, HN.out ht, _, rfl⟩
    · go_enter Try.func37, Try.ntmps37
      go_wp2_with (go_at_call 39; refine cf.mono ?_; rintro e w' ⟨rfl, k, rfl⟩)
      go_ret2
      exact ⟨_, _, rfl, HY.out ht, _, rfl⟩
  · have HY : Hid (clearOk S a b 0 true) := hyes fun i hi hpi => absurd hi (by omega)
    generalize pos S.pgs a.toNat = q at *
    generalize decide (a.toNat ∈ S.pgs) = d at *
    obtain ⟨n, hnn⟩ : ∃ n, n = S.pgs.length := ⟨_, rfl⟩
    rw [← hnn] at hq h3
    have hq' : decide ((q : Int) < (n : Int)) = false := by simp; omega
    clear hlt hyes h hn hnn
    go_enter Try.func37, Try.ntmps37
    go_wp2_with (go_at_call 39; refine cf.mono ?_; rintro e w' ⟨rfl, k, rfl⟩)
    go_ret2
    exact ⟨_, _, rfl, HY.out, _, rfl⟩

set_option maxRecDepth 100000 in
theorem RefC.first (h : RefC w m S fl ws v0 v1 v2 o3 c3 o4 c4) (f p : Int) (hf : 0 ≤ f ∧ f ≤ 18446744073709551615) (hp : 0 < p) (hp' : p ≤ 134217728) (hn : S.pgs.length ≤ 1099511627776) :
    Calls Try.prog 38 #[.pointer (some ⟨m, 0, none⟩), .int .u64 f, .int .u64 p] w fun e w' => e = .returned (.tuple #[.int .u64 ((firstFrom S f.toNat p.toNat).getD 0 : Nat), .bool (firstFrom S f.toNat p.toNat).isSome]) ∧ ∃ k, w' = w.drewN k := by
  have cc := fun k a b h1 h2 h3 => (h.drewN k).clear a b h1 h2 h3 hn
  have hmem := fun q => (h.wf.mem q).2
  have hbel := h.wf.below
  have CC : Hid _ := cc
  have HM : Hid _ := hmem
  have HB : Hid _ := hbel
  clear cc hmem hbel h
  -- what the answers come to
  have none' : (∀ j, f.toNat ≤ j → ¬ free S p.toNat j) → Ending.returned (.tuple #[.int .u64 0, .bool false]) = .returned (.tuple #[.int .u64 ((firstFrom S f.toNat p.toNat).getD 0 : Nat), .bool (firstFrom S f.toNat p.toNat).isSome]) := fun hh => by rw [first_none_of hh]; rfl
  have some' : ∀ q : Int, 0 ≤ q → free S p.toNat q.toNat → f ≤ q → (∀ j : Nat, f ≤ (j : Int) → (j : Int) < q → ¬ free S p.toNat j) → Ending.returned (.tuple #[.int .u64 q, .bool true]) = .returned (.tuple #[.int .u64 ((firstFrom S f.toNat p.toNat).getD 0 : Nat), .bool (firstFrom S f.toNat p.toNat).isSome]) := fun q hq hfr hfq hno => by
    rw [first_at (by omega) hfr (by omega) (fun j h1 h2 => hno j (by omega) (by omega))]
    show _ = Ending.returned (.tuple #[.int .u64 (q.toNat : Int), .bool true])
    rw [Int.toNat_of_nonneg hq]
  have HN : Hid _ := none'
  have HS : Hid _ := some'
  clear none' some'
  have go : ∀ q : Int, 0 ≤ q → q < 34359738368 → p ≤ 34359738368 - q → ∀ k, Calls Try.prog 37 #[.pointer (some ⟨m, 0, none⟩), .int .u64 q, .int .u64 p] (w.drewN k) fun e w' => ∃ (x : Int) (ok : Bool), e = .returned (.tuple #[.int .u64 x, .bool ok]) ∧ clearOk S q p x ok ∧ ∃ k', w' = (w.drewN k).drewN k' := fun q h1 h2 h3 k => CC.out k q p h1 (by omega) (by omega)
  have GO : Hid _ := go
  clear go CC
  -- what a round comes to, at a page that is a multiple of 512
  have okk : ∀ q x : Int, 0 < q → q % 512 = 0 → p ≤ 34359738368 - q → clearOk S q p x true → free S p.toNat q.toNat := fun q x h1 h2 h3 hc => ⟨by omega, by omega, by omega, (hc.1 rfl).2⟩
  have nok : ∀ q x : Int, 0 < q → clearOk S q p x false → q < x ∧ x ≤ 18446744073709551615 ∧ ∀ j : Nat, q ≤ (j : Int) → (j : Int) < x → ¬ free S p.toNat j := fun q x h1 hc => by
    obtain ⟨y, hy, h2, h3, rfl⟩ := hc.2 rfl
    refine ⟨by omega, ?_, fun j h4 h5 hfr => ?_⟩
    · have := HB.out y hy; omega
    · have := hfr.2.2.2 (y - j) (by omega)
      rw [show j + (y - j) = y by omega] at this
      exact HM.out y hy this
  have OK : Hid _ := okk
  have NOK : Hid _ := nok
  clear okk nok HM HB
  by_cases h0 : f = 0
  · have h0' : (f == 0) = true := by simpa using h0
    clear h0
    go_enter Try.func38, Try.ntmps38
    go_wp2_with fail
    go_loopw [8] (fun pg wr => ∃ (q : Int) (k : Nat), f ≤ q ∧ 0 < q ∧ q ≤ 18446744073709551615 ∧ pg = .int .u64 q ∧ wr = w.drewN k ∧ Hid (∀ j : Nat, f ≤ (j : Int) → (j : Int) < q → ¬ free S p.toNat j)) (fun pg _ => (34359738368 - intOf pg).toNat)
    case atStart => exact ⟨512, 0, by have : f = 0 := (by simpa using h0'); omega, by omega, by omega, rfl, rfl, fun j h1 h2 hfr => by have := hfr.1; have := hfr.2.1; omega⟩
    case round =>
      obtain ⟨q, k, hq1, hq2, hq3, rfl, rfl, hno⟩ := hrel
      by_cases hl : q < 34359738368
      · obtain ⟨q', hq', hq5⟩ : ∃ q', q' = (if q % 512 = 0 then q else q + 512 - q % 512) ∧ True := ⟨_, rfl, trivial⟩
        have up : q ≤ q' ∧ q' < q + 512 ∧ q' % 512 = 0 := by rw [hq']; split <;> omega
        have hno' : ∀ j : Nat, f ≤ (j : Int) → (j : Int) < q' → ¬ free S p.toNat j := fun j h1 h2 hfr => by
          by_cases c : (j : Int) < q
          · exact hno.out j h1 c hfr
          · have := hfr.1; omega
        have HNO : Hid _ := hno'
        have HUP : Hid _ := up
        have hup1 : q ≤ q' := up.1
        have hup2 : 0 < q' := by omega
        have hup3 : q' ≤ 34359738880 := by omega
        clear hno hno' hq5
        by_cases hr : q % 512 = 0
        · have hr' : (q % 512 != 0) = false := by simpa using hr
          rw [if_pos hr] at hq'
          subst hq'
          have HR : Hid _ := hr
          clear hr hup1 hup2 hup3 up
          by_cases hfit : p ≤ 34359738368 - q'
          · have hfd : decide (34359738368 - q' < p) = false := by simp; omega
            go_wp2_with fail
            go_at_call 37
            refine (GO.out q' (by omega) hl hfit k).mono ?_
            rintro e w' ⟨x, ok, rfl, hck, k', rfl⟩
            cases ok
            · have hx := NOK.out q' x (by omega) hck
              have HX : Hid _ := hx
              have hx1 := hx.1
              have hx2 := hx.2.1
              clear hck hx
              go_wp2_with fail
              go_roundw
              case rel => exact ⟨x, k + k', by omega, by omega, by omega, rfl, rfl, fun j h1 h2 => by
                by_cases c : (j : Int) < q'
                · exact HNO.out j h1 c
                · exact HX.out.2.2 j (by omega) h2⟩
              case measure => simp [intOf]; omega
            · go_wp2_with fail
              go_ret2
              exact ⟨HS.out q' (by omega) (OK.out q' x (by omega) HR.out hfit hck) (by omega) HNO.out, _, rfl⟩
          · have hfd : decide (34359738368 - q' < p) = true := by simp; omega
            go_wp2_with fail
            go_ret2
            exact ⟨HN.out fun j hj hfr => by
              by_cases c : (j : Int) < q'
              · exact HNO.out j (by omega) c hfr
              · have := hfr.2.2.1; omega, _, rfl⟩
        · have hr' : (q % 512 != 0) = true := by simpa using hr
          rw [if_neg hr] at hq'
          subst hq'
          have HR : Hid _ := up.2.2
          clear hr hup1 hup3 up
          have hm0 : 0 ≤ q % 512 := by omega
          have hm1 : q % 512 ≤ 511 := by omega
          by_cases hl2 : q + 512 - q % 512 < 34359738368
          · have hld : decide (34359738368 ≤ q + 512 - q % 512) = false := by simp; omega
            by_cases hfit : p ≤ 34359738368 - (q + 512 - q % 512)
            · have hfd : decide (34359738368 - (q + 512 - q % 512) < p) = false := by simp; omega
              go_wp2_with fail
              go_at_call 37
              refine (GO.out (q + 512 - q % 512) (by omega) hl2 hfit k).mono ?_
              rintro e w' ⟨x, ok, rfl, hck, k', rfl⟩
              cases ok
              · have hx := NOK.out (q + 512 - q % 512) x (by omega) hck
                have HX : Hid _ := hx
                have hx1 := hx.1
                have hx2 := hx.2.1
                clear hck hx
                go_wp2_with fail
                go_roundw
                case rel => exact ⟨x, k + k', by omega, by omega, by omega, rfl, rfl, fun j h1 h2 => by
                  by_cases c : (j : Int) < (q + 512 - q % 512)
                  · exact HNO.out j h1 c
                  · exact HX.out.2.2 j (by omega) h2⟩
                case measure => simp [intOf]; omega
              · go_wp2_with fail
                go_ret2
                exact ⟨HS.out (q + 512 - q % 512) (by omega) (OK.out (q + 512 - q % 512) x (by omega) HR.out hfit hck) (by omega) HNO.out, _, rfl⟩
            · have hfd : decide (34359738368 - (q + 512 - q % 512) < p) = true := by simp; omega
              go_wp2_with fail
              go_ret2
              exact ⟨HN.out fun j hj hfr => by
                by_cases c : (j : Int) < (q + 512 - q % 512)
                · exact HNO.out j (by omega) c hfr
                · have := hfr.2.2.1; omega, _, rfl⟩
          · have hld : decide (34359738368 ≤ q + 512 - q % 512) = true := by simp; omega
            go_wp2_with fail
            go_ret2
            exact ⟨HN.out fun j hj hfr => by
              by_cases c : (j : Int) < q + 512 - q % 512
              · exact HNO.out j (by omega) c hfr
              · have := hfr.2.2.1; omega, _, rfl⟩
      · go_wp2_with fail
        go_ret2
        exact ⟨HN.out fun j hj hfr => by
          by_cases c : (j : Int) < q
          · exact hno.out j (by omega) c hfr
          · have := hfr.2.2.1; omega, _, rfl⟩
  · have h0' : (f == 0) = false := by simpa using h0
    clear h0
    go_enter Try.func38, Try.ntmps38
    go_wp2_with fail
    go_loopw [8] (fun pg wr => ∃ (q : Int) (k : Nat), f ≤ q ∧ 0 < q ∧ q ≤ 18446744073709551615 ∧ pg = .int .u64 q ∧ wr = w.drewN k ∧ Hid (∀ j : Nat, f ≤ (j : Int) → (j : Int) < q → ¬ free S p.toNat j)) (fun pg _ => (34359738368 - intOf pg).toNat)
    case atStart => exact ⟨f, 0, by omega, by have : f ≠ 0 := (by simpa using h0'); omega, by omega, rfl, rfl, fun j h1 h2 => absurd h2 (by omega)⟩
    case round =>
      obtain ⟨q, k, hq1, hq2, hq3, rfl, rfl, hno⟩ := hrel
      by_cases hl : q < 34359738368
      · obtain ⟨q', hq', hq5⟩ : ∃ q', q' = (if q % 512 = 0 then q else q + 512 - q % 512) ∧ True := ⟨_, rfl, trivial⟩
        have up : q ≤ q' ∧ q' < q + 512 ∧ q' % 512 = 0 := by rw [hq']; split <;> omega
        have hno' : ∀ j : Nat, f ≤ (j : Int) → (j : Int) < q' → ¬ free S p.toNat j := fun j h1 h2 hfr => by
          by_cases c : (j : Int) < q
          · exact hno.out j h1 c hfr
          · have := hfr.1; omega
        have HNO : Hid _ := hno'
        have HUP : Hid _ := up
        have hup1 : q ≤ q' := up.1
        have hup2 : 0 < q' := by omega
        have hup3 : q' ≤ 34359738880 := by omega
        clear hno hno' hq5
        by_cases hr : q % 512 = 0
        · have hr' : (q % 512 != 0) = false := by simpa using hr
          rw [if_pos hr] at hq'
          subst hq'
          have HR : Hid _ := hr
          clear hr hup1 hup2 hup3 up
          by_cases hfit : p ≤ 34359738368 - q'
          · have hfd : decide (34359738368 - q' < p) = false := by simp; omega
            go_wp2_with fail
            go_at_call 37
            refine (GO.out q' (by omega) hl hfit k).mono ?_
            rintro e w' ⟨x, ok, rfl, hck, k', rfl⟩
            cases ok
            · have hx := NOK.out q' x (by omega) hck
              have HX : Hid _ := hx
              have hx1 := hx.1
              have hx2 := hx.2.1
              clear hck hx
              go_wp2_with fail
              go_roundw
              case rel => exact ⟨x, k + k', by omega, by omega, by omega, rfl, rfl, fun j h1 h2 => by
                by_cases c : (j : Int) < q'
                · exact HNO.out j h1 c
                · exact HX.out.2.2 j (by omega) h2⟩
              case measure => simp [intOf]; omega
            · go_wp2_with fail
              go_ret2
              exact ⟨HS.out q' (by omega) (OK.out q' x (by omega) HR.out hfit hck) (by omega) HNO.out, _, rfl⟩
          · have hfd : decide (34359738368 - q' < p) = true := by simp; omega
            go_wp2_with fail
            go_ret2
            exact ⟨HN.out fun j hj hfr => by
              by_cases c : (j : Int) < q'
              · exact HNO.out j (by omega) c hfr
              · have := hfr.2.2.1; omega, _, rfl⟩
        · have hr' : (q % 512 != 0) = true := by simpa using hr
          rw [if_neg hr] at hq'
          subst hq'
          have HR : Hid _ := up.2.2
          clear hr hup1 hup3 up
          have hm0 : 0 ≤ q % 512 := by omega
          have hm1 : q % 512 ≤ 511 := by omega
          by_cases hl2 : q + 512 - q % 512 < 34359738368
          · have hld : decide (34359738368 ≤ q + 512 - q % 512) = false := by simp; omega
            by_cases hfit : p ≤ 34359738368 - (q + 512 - q % 512)
            · have hfd : decide (34359738368 - (q + 512 - q % 512) < p) = false := by simp; omega
              go_wp2_with fail
              go_at_call 37
              refine (GO.out (q + 512 - q % 512) (by omega) hl2 hfit k).mono ?_
              rintro e w' ⟨x, ok, rfl, hck, k', rfl⟩
              cases ok
              · have hx := NOK.out (q + 512 - q % 512) x (by omega) hck
                have HX : Hid _ := hx
                have hx1 := hx.1
                have hx2 := hx.2.1
                clear hck hx
                go_wp2_with fail
                go_roundw
                case rel => exact ⟨x, k + k', by omega, by omega, by omega, rfl, rfl, fun j h1 h2 => by
                  by_cases c : (j : Int) < (q + 512 - q % 512)
                  · exact HNO.out j h1 c
                  · exact HX.out.2.2 j (by omega) h2⟩
                case measure => simp [intOf]; omega
              · go_wp2_with fail
                go_ret2
                exact ⟨HS.out (q + 512 - q % 512) (by omega) (OK.out (q + 512 - q % 512) x (by omega) HR.out hfit hck) (by omega) HNO.out, _, rfl⟩
            · have hfd : decide (34359738368 - (q + 512 - q % 512) < p) = true := by simp; omega
              go_wp2_with fail
              go_ret2
              exact ⟨HN.out fun j hj hfr => by
                by_cases c : (j : Int) < (q + 512 - q % 512)
                · exact HNO.out j (by omega) c hfr
                · have := hfr.2.2.1; omega, _, rfl⟩
          · have hld : decide (34359738368 ≤ q + 512 - q % 512) = true := by simp; omega
            go_wp2_with fail
            go_ret2
            exact ⟨HN.out fun j hj hfr => by
              by_cases c : (j : Int) < q + 512 - q % 512
              · exact HNO.out j (by omega) c hfr
              · have := hfr.2.2.1; omega, _, rfl⟩
      · go_wp2_with fail
        go_ret2
        exact ⟨HN.out fun j hj hfr => by
          by_cases c : (j : Int) < q
          · exact hno.out j (by omega) c hfr
          · have := hfr.2.2.1; omega, _, rfl⟩
end Go.Proofs.Ytlfcnaalkjpgnaa

/- The reference of chapter 3: what a call leaves in memory; the next refusal, the next place. -/
namespace Go.Proofs.Ytlfcnaalkjpgnaa
open Go.ChangeShapes Go.WideShapes Go.ChangeAt Go.RowKit Go.Proofs.Sp
set_option linter.unusedVariables false
set_option linter.unusedSimpArgs false

/-- Blocks of the answers are none of the struct's; the pages' and the words' are nobody else's. -/
structure Apart (m : Nat) (v0 v1 v2 : Value) (o3 o4 : Option Addr) : Prop where
  m0 : v0.ownBlock ≠ some m
  m1 : v1.ownBlock ≠ some m
  m2 : v2.ownBlock ≠ some m
  m3 : o3.map Addr.block ≠ some m
  m4 : o4.map Addr.block ≠ some m
  p : ∀ b, o3.map Addr.block = some b → v0.ownBlock ≠ some b ∧ v1.ownBlock ≠ some b ∧ v2.ownBlock ≠ some b ∧ o4.map Addr.block ≠ some b
  q : ∀ b, o4.map Addr.block = some b → v0.ownBlock ≠ some b ∧ v1.ownBlock ≠ some b ∧ v2.ownBlock ≠ some b
def inRef (m : Nat) (v0 v1 v2 : Value) (o3 o4 : Option Addr) (b : Nat) : Prop :=
  b = m ∨ v0.ownBlock = some b ∨ v1.ownBlock = some b ∨ v2.ownBlock = some b ∨ o3.map Addr.block = some b ∨ o4.map Addr.block = some b

theorem own_slice (o : Option Addr) (n c : Nat) : (Value.slice o n c).ownBlock = o.map Addr.block := by cases o <;> rfl
theorem Sl.kept {w w' : World} {v : Value} {xs : List Value} (h : Sl w v xs) (hs : w.heap.size ≤ w'.heap.size) (hb : ∀ b, v.ownBlock = some b → w'.heap[b]? = w.heap[b]?) : Sl w' v xs := by
  rcases h with h | ⟨b, off, cap, hv, hc, hl, hx⟩
  · exact Or.inl h
  · refine Or.inr ⟨b, off, cap, hv, hc, by omega, fun j u hu => ?_⟩
    have e := hb b (by rw [hv]; rfl)
    rw [← hx j u hu]
    exact World.cell?_of_block (w := w) e
theorem owns_kept {w w' : World} {base : Nat} {e : TypeId} {size : Nat} {v : Value} {n : Nat} {xs : List Value} (h : w.ownsRow base e size v n xs) (hb : ∀ b, v.ownBlock = some b → w'.heap[b]? = w.heap[b]?) : w'.ownsRow base e size v n xs := by
  obtain ⟨h1, h2 | ⟨g, cap, cur, hv, hg, hh, r⟩⟩ := h
  · exact ⟨h1, Or.inl h2⟩
  · exact ⟨h1, Or.inr ⟨g, cap, cur, hv, hg, by rw [hb g (by rw [hv]; rfl)]; exact hh, r⟩⟩
theorem cell_kept {w w' : World} {b k : Nat} (h : w'.heap[b]? = w.heap[b]?) : w'.cell? ⟨b, k, none⟩ = w.cell? ⟨b, k, none⟩ := World.cell?_of_block (w := w) (a := ⟨b, k, none⟩) h
theorem frozen_kept {w w' : World} {b k : Nat} (h : w'.heap[b]? = w.heap[b]?) : w'.frozen? ⟨b, k, none⟩ = w.frozen? ⟨b, k, none⟩ := World.frozen?_of_block (w := w) (a := ⟨b, k, none⟩) h

variable {w : World} {m : Nat} {S : Sp} {fl : Nat → Nat} {ws : List (Nat × Nat)} {v0 v1 v2 : Value} {o3 : Option Addr} {c3 : Nat} {o4 : Option Addr} {c4 : Nat}
/-- Where none of its blocks has turned. -/
theorem RefC.kept {w' : World} (h : RefC w m S fl ws v0 v1 v2 o3 c3 o4 c4) (hs : w.heap.size ≤ w'.heap.size) (hb : ∀ b, inRef m v0 v1 v2 o3 o4 b → w'.heap[b]? = w.heap[b]?) : RefC w' m S fl ws v0 v1 v2 o3 c3 o4 c4 := by
  have hm := hb m (Or.inl rfl)
  refine ⟨h.wf, fun k hk => (frozen_kept hm).trans (h.frozen k hk), (cell_kept hm).trans h.h0, (cell_kept hm).trans h.h1, (cell_kept hm).trans h.h2, (cell_kept hm).trans h.h3, (cell_kept hm).trans h.h4,
    h.r0.kept hs fun b e => hb b (Or.inr (Or.inl e)), h.r1.kept hs fun b e => hb b (Or.inr (Or.inr (Or.inl e))), h.r2.kept hs fun b e => hb b (Or.inr (Or.inr (Or.inr (Or.inl e)))),
    owns_kept h.own3 fun b e => hb b ?_, owns_kept h.own4 fun b e => hb b ?_, h.rising, h.ready, h.fill, h.word⟩
  · rw [own_slice] at e; exact Or.inr (Or.inr (Or.inr (Or.inr (Or.inl e))))
  · rw [own_slice] at e; exact Or.inr (Or.inr (Or.inr (Or.inr (Or.inr e))))
/-- One of the three lists of answers is another now. -/
theorem RefC.setA (h : RefC w m S fl ws v0 v1 v2 o3 c3 o4 c4) (ap : Apart m v0 v1 v2 o3 o4) (k : Nat) (v : Value) (v0' v1' v2' : Value) (pl : List Nat) (re : List Bool) (fi : List Nat)
    (e0 : v0' = if k = 0 then v else v0) (e1 : v1' = if k = 1 then v else v1) (e2 : v2' = if k = 2 then v else v2) (hk : k < 3)
    (r0 : Sl w v0' (u64s pl)) (r1 : Sl w v1' (bools re)) (r2 : Sl w v2' (u64s fi)) (b0 : v0'.ownBlock = v0.ownBlock) (b1 : v1'.ownBlock = v1.ownBlock) (b2 : v2'.ownBlock = v2.ownBlock) :
    RefC (w.setCell ⟨m, k, none⟩ v) m { S with places := pl, refuse := re, fills := fi } fl ws v0' v1' v2' o3 c3 o4 c4 := by
  have oth : ∀ b, b ≠ m → (w.setCell ⟨m, k, none⟩ v).heap[b]? = w.heap[b]? := fun b hb => Below.heap_setCell _ _ _ _ hb
  have sz : w.heap.size ≤ (w.setCell ⟨m, k, none⟩ v).heap.size := by simp [World.setCell]
  have cell : ∀ j u, w.cell? ⟨m, j, none⟩ = some u → (w.setCell ⟨m, k, none⟩ v).cell? ⟨m, j, none⟩ = some (if k = j then v else u) := by
    intro j u hu
    by_cases e : k = j
    · subst e; rw [if_pos rfl]; exact World.cell?_setCell_same _ _ _ hu
    · rw [if_neg e, World.cell?_setCell_other _ _ _ _ (by simp [e])]; exact hu
  refine ⟨⟨h.wf.rising, h.wf.below, h.wf.mem, h.wf.le3⟩, fun j hj => by rw [World.frozen?_setCell]; exact h.frozen j hj, ?_, ?_, ?_, ?_, ?_,
    r0.kept sz fun b e => oth b ?_, r1.kept sz fun b e => oth b ?_, r2.kept sz fun b e => oth b ?_, owns_kept h.own3 fun b e => oth b ?_, owns_kept h.own4 fun b e => oth b ?_, h.rising, h.ready, h.fill, h.word⟩
  · rw [cell 0 v0 h.h0, e0]
  · rw [cell 1 v1 h.h1, e1]
  · rw [cell 2 v2 h.h2, e2]
  · rw [cell 3 _ h.h3, if_neg (by omega)]
  · rw [cell 4 _ h.h4, if_neg (by omega)]
  · rintro rfl; rw [b0] at e; exact ap.m0 e
  · rintro rfl; rw [b1] at e; exact ap.m1 e
  · rintro rfl; rw [b2] at e; exact ap.m2 e
  · rintro rfl; rw [own_slice] at e; exact ap.m3 e
  · rintro rfl; rw [own_slice] at e; exact ap.m4 e
/-- A list without its first, in memory: where the array's room is at its end the model keeps the array's own address. -/
def cutAddr (b off cap : Nat) : Addr := ⟨b, if cap = 1 then off else off + 1, none⟩
theorem Sl.tail {w : World} {b off cap : Nat} {x : Value} {xs : List Value} (h : Sl w (.slice (some ⟨b, off, none⟩) (xs.length + 1) cap) (x :: xs)) : Sl w (.slice (some (cutAddr b off cap)) xs.length (cap - 1)) xs := by
  rcases h with ⟨h, _⟩ | ⟨b', off', cap', hv, hc, hl, hx⟩
  · cases h
  · injection hv with h1 h2 h3
    injection h1 with h1
    injection h1 with h1 h4
    subst h1 h4 h3
    simp only [List.length_cons] at hc
    refine Or.inr ⟨b, if cap = 1 then off else off + 1, cap - 1, rfl, by omega, hl, fun j u hu => ?_⟩
    have hj : j < xs.length := by
      by_cases c : j < xs.length
      · exact c
      · rw [List.getElem?_eq_none (by omega)] at hu; cases hu
    rw [if_neg (by omega), ← hx (j + 1) u (by simpa using hu), show off + 1 + j = off + (j + 1) by omega]
theorem Sl.head {w : World} {v x : Value} {xs : List Value} (h : Sl w v (x :: xs)) : ∃ b off cap, v = .slice (some ⟨b, off, none⟩) (xs.length + 1) cap ∧ xs.length + 1 ≤ cap ∧ w.cell? ⟨b, off, none⟩ = some x := by
  rcases h with ⟨_, h⟩ | ⟨b, off, cap, hv, hc, hl, hx⟩
  · cases h
  · exact ⟨b, off, cap, hv, hc, by have := hx 0 x rfl; simpa using this⟩

theorem refuses_walk (b off n cap : Nat) (x : Bool) (h1 : w.cell? ⟨m, 1, none⟩ = some (.slice (some ⟨b, off, none⟩) (n + 1) cap)) (hf : w.frozen? ⟨m, 1, none⟩ = false) (hc : n + 1 ≤ cap) (hx : w.cell? ⟨b, off, none⟩ = some (.bool x)) :
    Calls Try.prog 35 #[.pointer (some ⟨m, 0, none⟩)] w fun e w' => e = .returned (.bool x) ∧ w' = w.setCell ⟨m, 1, none⟩ (.slice (some (cutAddr b off cap)) n (cap - 1)) := by
  have h0 : ((n : Int) + 1 == 0) = false := by simp; omega
  unfold cutAddr
  by_cases c : cap = 1
  · subst c
    obtain rfl : n = 0 := by omega
    rw [if_pos rfl]
    go_enter Try.func35, Try.ntmps35
    go_wp2_with fail
    go_ret
    exact ⟨rfl, rfl⟩
  · rw [if_neg c]
    go_enter Try.func35, Try.ntmps35
    go_wp2_with fail
    go_ret
    exact ⟨rfl, rfl⟩
theorem refuses_none (o : Option Addr) (cap : Nat) (h1 : w.cell? ⟨m, 1, none⟩ = some (.slice o 0 cap)) :
    Calls Try.prog 35 #[.pointer (some ⟨m, 0, none⟩)] w fun e w' => e = .returned (.bool false) ∧ w' = w := by
  go_enter Try.func35, Try.ntmps35
  go_wp2_with fail
  go_ret
  exact ⟨rfl, rfl⟩
theorem kept_setCell (w : World) (m k : Nat) (v : Value) : Kept (fun b => b = m) w (w.setCell ⟨m, k, none⟩ v) :=
  ⟨rfl, rfl, rfl, by simp [World.setCell], fun b _ hb => Below.heap_setCell _ _ _ _ hb⟩
theorem RefC.refuses (h : RefC w m S fl ws v0 v1 v2 o3 c3 o4 c4) (ap : Apart m v0 v1 v2 o3 o4) :
    Calls Try.prog 35 #[.pointer (some ⟨m, 0, none⟩)] w fun e w' => e = .returned (.bool (S.refuse.headD false)) ∧ ∃ v1', v1'.ownBlock = v1.ownBlock ∧ RefC w' m (takeRefuse S) fl ws v0 v1' v2 o3 c3 o4 c4 ∧ Kept (fun b => b = m) w w' := by
  cases hr : S.refuse with
  | nil =>
    have r1 := h.r1
    have hv : ∃ o cap, v1 = .slice o 0 cap := by
      rcases r1 with ⟨e, _⟩ | ⟨b, off, cap, e, _⟩
      · exact ⟨_, _, e⟩
      · rw [hr] at e; exact ⟨_, _, e⟩
    obtain ⟨o, cap, hv⟩ := hv
    refine (refuses_none o cap (by rw [← hv]; exact h.h1)).mono fun e w' ⟨he, hw⟩ => ⟨he, v1, rfl, ?_, ?_⟩
    · rw [hw]
      have : takeRefuse S = S := by unfold takeRefuse; rw [hr]; cases S; simp_all
      rw [this]; exact h
    · rw [hw]; exact ⟨rfl, rfl, rfl, Nat.le_refl _, fun _ _ _ => rfl⟩
  | cons x xs =>
    have r1 := h.r1
    rw [hr] at r1
    obtain ⟨b, off, cap, hv, hc, hx⟩ := Sl.head (x := .bool x) (xs := bools xs) r1
    have hl : (bools xs).length = xs.length := by simp [bools]
    refine (refuses_walk b off (bools xs).length cap x (by rw [← hv]; exact h.h1) (h.frozen 1 (by decide)) hc hx).mono fun e w' ⟨he, hw⟩ => ⟨he, .slice (some (cutAddr b off cap)) (bools xs).length (cap - 1), by rw [hv]; rfl, ?_, by rw [hw]; exact kept_setCell _ _ _ _⟩
    rw [hw]
    have t := Sl.tail (x := .bool x) (xs := bools xs) (by rw [← hv]; exact r1)
    have := h.setA ap 1 (.slice (some (cutAddr b off cap)) (bools xs).length (cap - 1)) v0 _ v2 S.places xs S.fills (by rfl) rfl (by rfl) (by decide) h.r0 t h.r2 rfl (by rw [hv]; rfl) rfl
    have e : takeRefuse S = { S with places := S.places, refuse := xs, fills := S.fills } := by unfold takeRefuse; rw [hr]; rfl
    rw [e]; exact this
end Go.Proofs.Ytlfcnaalkjpgnaa

/- The reference of chapter 3: words that are forgotten and stored. -/
namespace Go.Proofs.Ytlfcnaalkjpgnaa
open Go.ChangeShapes Go.WideShapes Go.ChangeAt Go.RowKit Go.Proofs.Sp
set_option linter.unusedVariables false
set_option linter.unusedSimpArgs false

theorem infoW : (Try.prog.info? 68).map (fun i => (i.zero, i.size, i.bytes)) = some (some (.agg #[.int .u64 0, .int .u64 0]), 2, 16) := by kernel_rfl
theorem infoPg : (Try.prog.info? 66).map (fun i => (i.zero, i.size, i.bytes)) = some (some (.agg #[.int .u64 0, .int .i64 0, .int .u64 0]), 3, 24) := by kernel_rfl
theorem wcells_append (a b : List (Nat × Nat)) : wcells (a ++ b) = wcells a ++ wcells b := by unfold wcells; rw [List.flatMap_append]
theorem wcells_length (a : List (Nat × Nat)) : (wcells a).length = a.length * 2 := flat_length 2 wcell (fun _ => rfl) a
theorem wcells_one (a : List (Nat × Nat)) : ∀ u ∈ wcells a, u.oneCell' = true := by
  intro u hu
  obtain ⟨x, _, hx⟩ := List.mem_flatMap.1 hu
  simp [wcell] at hx
  rcases hx with rfl | rfl <;> rfl
/-- Cells of a row's part: from the k-th on, so many. -/
theorem wcells_part (ws : List (Nat × Nat)) (a n : Nat) (h : a + n ≤ ws.length) (j : Nat) (u : Value) (hu : (wcells ((ws.drop a).take n))[j]? = some u) : (wcells ws)[a * 2 + j]? = some u := by
  have e : ws = ws.take a ++ ((ws.drop a).take n ++ (ws.drop a).drop n) := by rw [List.take_append_drop, List.take_append_drop]
  have l1 : (wcells (ws.take a)).length = a * 2 := by rw [wcells_length, List.length_take, Nat.min_eq_left (by omega)]
  have hj : j < (wcells ((ws.drop a).take n)).length := by
    by_cases c : j < (wcells ((ws.drop a).take n)).length
    · exact c
    · rw [List.getElem?_eq_none (by omega)] at hu; cases hu
  rw [e, wcells_append, List.getElem?_append_right (by omega), l1, show a * 2 + j - a * 2 = j by omega, wcells_append, List.getElem?_append_left hj]
  exact hu

theorem addr_add (b o j : Nat) : (⟨b, o, none⟩ : Addr).add j = ⟨b, o + j, none⟩ := by
  simp [Addr.add]
theorem copy_below {W w1 : World} {e : TypeId} {n c : Nat} (h : (W.alloc (.cells #[] e)).grownBy w1 (Value.slice (some ⟨W.heap.size, 0, none⟩) n c).ownBlock) : Below W.heap.size W w1 :=
  ((Below.refl _ _).alloc (Nat.le_refl _) _).grown h (by simp) (by intro j hj; simp [Value.ownBlock] at hj; omega)
theorem below_again {W w1 w2 : World} {e : TypeId} {size : Nat} {v : Value} {n : Nat} {xs : List Value} (h : Below W.heap.size W w1) (own : w1.ownsRow W.heap.size e size v n xs) (hg : w1.grownBy w2 v.ownBlock) : Below W.heap.size W w2 :=
  h.grown hg h.size fun j hj => (own.lt j hj).1
theorem below_both {w W w2 : World} (hs : W.heap.size = w.heap.size) (bW : Below w.heap.size w W) (b2 : Below W.heap.size W w2) : Below w.heap.size w w2 := bW.trans (b2.mono (by omega))
theorem forget_walk {w : World} {m : Nat} (b n cap p q : Nat) (xs : List (Nat × Nat)) (x y : Int) (hx : 0 ≤ x) (hy : 0 ≤ y) (hxy : x + y ≤ 281474976710656) (hl : xs.length = n) (hpq : p ≤ q) (hqn : q ≤ n) (hn : n ≤ 1099511627776) (hcap : n ≤ cap)
    (f1 : Bool) (f2 : Bool)
    (c1 : ∀ k, Calls Try.prog 51 #[.pointer (some ⟨m, 0, none⟩), .int .u64 x] (w.drewN k) fun e w' => e = .returned (.tuple #[.int .i64 (p : Int), .bool f1]) ∧ ∃ k', w' = (w.drewN k).drewN k')
    (c2 : ∀ k, Calls Try.prog 51 #[.pointer (some ⟨m, 0, none⟩), .int .u64 (x + y)] (w.drewN k) fun e w' => e = .returned (.tuple #[.int .i64 (q : Int), .bool f2]) ∧ ∃ k', w' = (w.drewN k).drewN k')
    (h4 : w.cell? ⟨m, 4, none⟩ = some (.slice (some ⟨b, 0, none⟩) n cap)) (hf : w.frozen? ⟨m, 4, none⟩ = false) (hms : m < w.heap.size)
    (own : w.ownsRow 0 68 2 (.slice (some ⟨b, 0, none⟩) n cap) n (wcells xs)) :
    Calls Try.prog 46 #[.pointer (some ⟨m, 0, none⟩), .int .u64 x, .int .u64 y] w fun e w' => ∃ (g cp : Nat) (w1 : World), e = .returned (.tuple #[]) ∧ w' = w1.setCell ⟨m, 4, none⟩ (.slice (some ⟨g, 0, none⟩) (p + (n - q)) cp) ∧
      w1.ownsRow w.heap.size 68 2 (.slice (some ⟨g, 0, none⟩) (p + (n - q)) cp) (p + (n - q)) (wcells (xs.take p ++ xs.drop q)) ∧ Below w.heap.size w w1 := by
  obtain ⟨i0, hi, hz0, hz1, hz2⟩ := info_parts infoW
  have C1 : Hid _ := c1
  have C2 : Hid _ := c2
  clear c1 c2
  go_enter Try.func46, Try.ntmps46
  go_wp2_with fail
  go_at_call 51
  refine (C1.out 0).mono ?_
  rintro e w' ⟨rfl, k, rfl⟩
  go_wp2_with fail
  go_at_call 51
  refine (C2.out _).mono ?_
  rintro e W ⟨rfl, k', hW⟩
  rw [drewN2] at hW
  clear C1 C2
  have hc0 : (W.alloc (.cells #[] 68)).cell? ⟨m, 4, none⟩ = some (.slice (some ⟨b, 0, none⟩) n cap) := by rw [World.cell?_alloc_lt _ _ _ (by rw [hW]; exact hms), hW]; exact h4
  have ownW : W.ownsRow 0 68 2 (.slice (some ⟨b, 0, none⟩) n cap) n (wcells xs) := by rw [hW]; exact own
  have hb : b < W.heap.size := (ownW.lt b rfl).2
  have hWs : W.heap.size = w.heap.size := by rw [hW]; rfl
  have bW : Below w.heap.size w W := by rw [hW]; exact ⟨rfl, rfl, rfl, Nat.le_refl _, fun _ _ => rfl⟩
  have hf0 : W.frozen? ⟨m, 4, none⟩ = false := by rw [hW]; exact hf
  have n1 : ∀ j u, (wcells (xs.take p))[j]? = some u → (W.alloc (.cells #[] 68)).cell? ((⟨b, 0, none⟩ : Addr).add j) = some u := by
    intro j u hu
    have := wcells_part xs 0 p (by omega) j u (by rw [List.drop_zero]; exact hu)
    rw [addr_add, Nat.zero_add, World.cell?_alloc_lt _ _ _ (by exact hb), ownW.cellAt j (by rw [← ownW.1]; exact (List.getElem?_eq_some_iff.1 (by simpa using this)).1)]
    simpa using this
  have l1 : (wcells (xs.take p)).length = p * 2 := by rw [wcells_length, List.length_take, Nat.min_eq_left (by omega)]
  have N1 : Hid _ := n1
  have L1 : Hid _ := l1
  have O1 : Hid _ := wcells_one (xs.take p)
  have e0 := own_empty W 68 2
  have hms1 : m < W.heap.size := by rw [hWs]; exact hms
  have hcW : W.cell? ⟨m, 4, none⟩ = some (.slice (some ⟨b, 0, none⟩) n cap) := by rw [hW]; exact h4
  have l2 : (wcells (xs.drop q)).length = (n - q) * 2 := by rw [wcells_length, List.length_drop, hl]
  have L2 : Hid _ := l2
  have O2 : Hid _ := wcells_one (xs.drop q)
  have n2 : ∀ w1, Below W.heap.size W w1 → ∀ j u, (wcells (xs.drop q))[j]? = some u → w1.cell? ((⟨b, if cap = q then 0 else q * 2, none⟩ : Addr).add j) = some u := by
    intro w1 b1 j u hu
    by_cases cq : cap = q
    · rw [show xs.drop q = [] from List.eq_nil_of_length_eq_zero (by rw [List.length_drop]; omega)] at hu
      cases hu
    · have := wcells_part xs q (n - q) (by omega) j u (by rw [List.take_of_length_le (by rw [List.length_drop]; omega)]; exact hu)
      rw [if_neg cq, addr_add, b1.cell (by exact hb), ownW.cellAt (q * 2 + j) (by rw [← ownW.1]; exact (List.getElem?_eq_some_iff.1 this).1)]
      exact this
  have N2 : Hid _ := n2
  have HWS : Hid _ := hWs
  have BW : Hid _ := bW
  clear n1 l1 hW hWs n2 l2 ownW bW own h4 hf
  by_cases c : cap = q
  · obtain rfl : n = cap := by omega
    subst c
    go_wp2_with (first | (at_builtin; refine wpList_append_own _ rfl (.tmp 25) (.tmp 31) 55 rfl W.heap.size 68 i0 (.agg #[.int .u64 0, .int .u64 0]) 2 16 Try.underlying55 hi hz0 hz1 hz2 rfl (by decide) (.slice (some ⟨W.heap.size, 0, none⟩) 0 0) 0 [] rfl e0 ⟨b, 0, none⟩ p n (wcells (xs.take p)) rfl L1.out N1.out O1.out (by unfold maxLen; omega) (by omega) (by simp) ?_; intro v' w1 hown hgrow hnil; obtain ⟨g, cp, rfl⟩ := own_shape hown (fun h => by have := (hnil.1 h).1; cases this); have b1 := copy_below hgrow; have B1 : Hid _ := b1; have hc1 := (b1.cell (p := ⟨m, 4, none⟩) hms1).trans hcW; have hf1 := (b1.frozen (p := ⟨m, 4, none⟩) hms1).trans hf0; rw [Nat.zero_add, List.nil_append] at hown; have HO : Hid _ := hown; clear hgrow hnil b1 hown) | (at_builtin; refine wpList_append_own _ rfl (.tmp 34) (.tmp 40) 55 rfl W.heap.size 68 i0 (.agg #[.int .u64 0, .int .u64 0]) 2 16 Try.underlying55 hi hz0 hz1 hz2 rfl (by decide) (.slice (some ⟨g, 0, none⟩) p cp) p (wcells (xs.take p)) rfl HO.out ⟨b, 0, none⟩ 0 0 (wcells (xs.drop n)) rfl (by have := L2.out; rw [Nat.sub_self] at this; exact this) (by have := N2.out w1 B1.out; simp only [if_true] at this; exact this) O2.out (by unfold maxLen; omega) (by omega) B1.out.size ?_; intro v' w2 hown2 hgrow hnil; obtain ⟨g2, cp2, rfl⟩ := own_shape hown2 (fun h => by have := (hnil.1 h).1; cases this); have HO2 : Hid _ := hown2; have b2 := below_again B1.out HO.out hgrow; have hc2 := (b2.cell (p := ⟨m, 4, none⟩) hms1).trans hcW; have hf2 := (b2.frozen (p := ⟨m, 4, none⟩) hms1).trans hf0; have B2 : Hid _ := b2; clear hown2 hgrow hnil b2))
    go_end0
    refine ⟨g2, cp2, w2, rfl, by rw [Nat.sub_self, Nat.add_zero], ?_, below_both HWS.out BW.out B2.out⟩
    have h := HO2.out
    rw [← wcells_append, HWS.out] at h
    rw [Nat.sub_self]
    exact h
  · go_wp2_with (first | (at_builtin; refine wpList_append_own _ rfl (.tmp 25) (.tmp 31) 55 rfl W.heap.size 68 i0 (.agg #[.int .u64 0, .int .u64 0]) 2 16 Try.underlying55 hi hz0 hz1 hz2 rfl (by decide) (.slice (some ⟨W.heap.size, 0, none⟩) 0 0) 0 [] rfl e0 ⟨b, 0, none⟩ p cap (wcells (xs.take p)) rfl L1.out N1.out O1.out (by unfold maxLen; omega) (by omega) (by simp) ?_; intro v' w1 hown hgrow hnil; obtain ⟨g, cp, rfl⟩ := own_shape hown (fun h => by have := (hnil.1 h).1; cases this); have b1 := copy_below hgrow; have B1 : Hid _ := b1; have hc1 := (b1.cell (p := ⟨m, 4, none⟩) hms1).trans hcW; have hf1 := (b1.frozen (p := ⟨m, 4, none⟩) hms1).trans hf0; rw [Nat.zero_add, List.nil_append] at hown; have HO : Hid _ := hown; clear hgrow hnil b1 hown) | (at_builtin; refine wpList_append_own _ rfl (.tmp 34) (.tmp 40) 55 rfl W.heap.size 68 i0 (.agg #[.int .u64 0, .int .u64 0]) 2 16 Try.underlying55 hi hz0 hz1 hz2 rfl (by decide) (.slice (some ⟨g, 0, none⟩) p cp) p (wcells (xs.take p)) rfl HO.out ⟨b, q * 2, none⟩ (n - q) (cap - q) (wcells (xs.drop q)) rfl L2.out (by have := N2.out w1 B1.out; simp only [c, if_false] at this; exact this) O2.out (by unfold maxLen; omega) (by omega) B1.out.size ?_; intro v' w2 hown2 hgrow hnil; obtain ⟨g2, cp2, rfl⟩ := own_shape hown2 (fun h => by have := (hnil.1 h).1; cases this); have HO2 : Hid _ := hown2; have b2 := below_again B1.out HO.out hgrow; have hc2 := (b2.cell (p := ⟨m, 4, none⟩) hms1).trans hcW; have hf2 := (b2.frozen (p := ⟨m, 4, none⟩) hms1).trans hf0; have B2 : Hid _ := b2; clear hown2 hgrow hnil b2))
    go_end0
    refine ⟨g2, cp2, w2, rfl, rfl, ?_, below_both HWS.out BW.out B2.out⟩
    have h := HO2.out
    rw [← wcells_append, HWS.out] at h
    exact h
theorem alloc_set (W : World) (o : Obj) (a : Addr) (v : Value) (h : a.block < W.heap.size) : (W.setCell a v).alloc o = (W.alloc o).setCell a v := by
  unfold World.setCell World.alloc
  congr 1
  apply Array.ext
  · simp
  · intro i h1 h2
    simp only [Array.getElem_push, Array.size_modify, Array.getElem_modify]
    by_cases c : i < W.heap.size
    · simp [c]
    · have : a.block ≠ i := by omega
      simp [c, this]
theorem forget_nil {w : World} {m : Nat} (x y : Int) (hx : 0 ≤ x) (hy : 0 ≤ y) (hxy : x + y ≤ 281474976710656) (f1 : Bool) (f2 : Bool)
    (c1 : ∀ k, Calls Try.prog 51 #[.pointer (some ⟨m, 0, none⟩), .int .u64 x] (w.drewN k) fun e w' => e = .returned (.tuple #[.int .i64 0, .bool f1]) ∧ ∃ k', w' = (w.drewN k).drewN k')
    (c2 : ∀ k, Calls Try.prog 51 #[.pointer (some ⟨m, 0, none⟩), .int .u64 (x + y)] (w.drewN k) fun e w' => e = .returned (.tuple #[.int .i64 0, .bool f2]) ∧ ∃ k', w' = (w.drewN k).drewN k')
    (h4 : w.cell? ⟨m, 4, none⟩ = some (.slice none 0 0)) (hf : w.frozen? ⟨m, 4, none⟩ = false) (hms : m < w.heap.size) :
    Calls Try.prog 46 #[.pointer (some ⟨m, 0, none⟩), .int .u64 x, .int .u64 y] w fun e w' => ∃ (g cp : Nat) (w1 : World), e = .returned (.tuple #[]) ∧ w' = w1.setCell ⟨m, 4, none⟩ (.slice (some ⟨g, 0, none⟩) 0 cp) ∧
      w1.ownsRow w.heap.size 68 2 (.slice (some ⟨g, 0, none⟩) 0 cp) 0 (wcells []) ∧ Below w.heap.size w w1 := by
  obtain ⟨i0, hi, hz0, hz1, hz2⟩ := info_parts infoW
  have C1 : Hid _ := c1
  have C2 : Hid _ := c2
  clear c1 c2
  go_enter Try.func46, Try.ntmps46
  go_wp2_with fail
  go_at_call 51
  refine (C1.out 0).mono ?_
  rintro e w' ⟨rfl, k, rfl⟩
  go_wp2_with fail
  go_at_call 51
  refine (C2.out _).mono ?_
  rintro e W ⟨rfl, k', hW⟩
  rw [drewN2] at hW
  clear C1 C2
  have hWs : W.heap.size = w.heap.size := by rw [hW]; rfl
  have bW : Below w.heap.size w W := by rw [hW]; exact ⟨rfl, rfl, rfl, Nat.le_refl _, fun _ _ => rfl⟩
  have hms1 : m < W.heap.size := by rw [hWs]; exact hms
  have hc0 : (W.alloc (.cells #[] 68)).cell? ⟨m, 4, none⟩ = some (.slice none 0 0) := by rw [World.cell?_alloc_lt _ _ _ (by exact hms1), hW]; exact h4
  have hf0 : (W.alloc (.cells #[] 68)).frozen? ⟨m, 4, none⟩ = false := by rw [frozen?_alloc_cells, hW]; exact hf
  have e0 := own_empty W 68 2
  have HWS : Hid _ := hWs
  have BW : Hid _ := bW
  clear hW hWs bW h4 hf
  go_wp2_with (first | (at_builtin; refine wpList_append_own_none rfl (.tmp 25) (.tmp 31) 55 rfl W.heap.size 68 i0 2 Try.underlying55 hi (.slice (some ⟨W.heap.size, 0, none⟩) 0 0) 0 [] rfl e0 rfl ?_) | (at_builtin; refine wpList_append_own_none rfl (.tmp 34) (.tmp 40) 55 rfl W.heap.size 68 i0 2 Try.underlying55 hi (.slice (some ⟨W.heap.size, 0, none⟩) 0 0) 0 [] rfl e0 rfl ?_))
  go_end0
  exact ⟨W.heap.size, 0, W.alloc (.cells #[] 68), rfl, alloc_set W _ _ _ hms1, by rw [← HWS.out]; exact e0, below_both HWS.out BW.out ((Below.refl _ _).alloc (Nat.le_refl _) _)⟩

/-! ### Memory alone -/
abbrev Pg := Nat × Nat × Nat
def pc (x : Pg) : List Value := [.int .u64 (x.1 : Int), .int .i64 (x.2.1 : Int), .int .u64 (x.2.2 : Int)]
def pageL (S : Sp) (fl : Nat → Nat) : List Pg := S.pgs.map fun p => (p, S.st p, fl p)
theorem pcells_pageL (S : Sp) (fl : Nat → Nat) : pcells S fl = (pageL S fl).flatMap pc := by
  unfold pcells pageL
  rw [List.flatMap_map]
  rfl
structure RefM (w : World) (m : Nat) (pl : List Nat) (re : List Bool) (fi : List Nat) (ps : List Pg) (ws : List (Nat × Nat)) (v0 v1 v2 : Value) (o3 : Option Addr) (c3 : Nat) (o4 : Option Addr) (c4 : Nat) : Prop where
  frozen : ∀ k, k < 5 → w.frozen? ⟨m, k, none⟩ = false
  h0 : w.cell? ⟨m, 0, none⟩ = some v0
  h1 : w.cell? ⟨m, 1, none⟩ = some v1
  h2 : w.cell? ⟨m, 2, none⟩ = some v2
  h3 : w.cell? ⟨m, 3, none⟩ = some (.slice o3 ps.length c3)
  h4 : w.cell? ⟨m, 4, none⟩ = some (.slice o4 ws.length c4)
  r0 : Sl w v0 (u64s pl)
  r1 : Sl w v1 (bools re)
  r2 : Sl w v2 (u64s fi)
  own3 : w.ownsRow 0 66 3 (.slice o3 ps.length c3) ps.length (ps.flatMap pc)
  own4 : w.ownsRow 0 68 2 (.slice o4 ws.length c4) ws.length (wcells ws)
variable {w : World} {m : Nat} {S : Sp} {fl : Nat → Nat} {pl : List Nat} {re : List Bool} {fi : List Nat} {ps : List Pg} {ws : List (Nat × Nat)} {v0 v1 v2 : Value} {o3 : Option Addr} {c3 : Nat} {o4 : Option Addr} {c4 : Nat}
theorem RefC.mem (h : RefC w m S fl ws v0 v1 v2 o3 c3 o4 c4) : RefM w m S.places S.refuse S.fills (pageL S fl) ws v0 v1 v2 o3 c3 o4 c4 := by
  have l : (pageL S fl).length = S.pgs.length := by simp [pageL]
  exact ⟨h.frozen, h.h0, h.h1, h.h2, by rw [l]; exact h.h3, h.h4, h.r0, h.r1, h.r2, by rw [l, ← pcells_pageL]; exact h.own3, h.own4⟩
/-- What is known of a space and of how the reference keeps it, memory aside. -/
structure Logic (S : Sp) (fl : Nat → Nat) (ws : List (Nat × Nat)) : Prop where
  wf : WF S
  rising : (addrs ws).Pairwise (· < ·)
  ready : ∀ x ∈ ws, S.st (x.1 / 8192) = 2 ∧ x.1 % 8 = 0 ∧ x.2 < 18446744073709551616
  fill : ∀ p, fl p < 18446744073709551616
  word : ∀ a, a % 8 = 0 → S.st (a / 8192) = 2 → S.wd a = wordV fl ws a
theorem RefC.logic (h : RefC w m S fl ws v0 v1 v2 o3 c3 o4 c4) : Logic S fl ws := ⟨h.wf, h.rising, h.ready, h.fill, h.word⟩
theorem RefM.ref (h : RefM w m S.places S.refuse S.fills (pageL S fl) ws v0 v1 v2 o3 c3 o4 c4) (hl : Logic S fl ws) : RefC w m S fl ws v0 v1 v2 o3 c3 o4 c4 := by
  have l : (pageL S fl).length = S.pgs.length := by simp [pageL]
  exact ⟨hl.wf, h.frozen, h.h0, h.h1, h.h2, by rw [← l]; exact h.h3, h.h4, h.r0, h.r1, h.r2, by rw [← l, pcells_pageL]; exact h.own3, h.own4, hl.rising, hl.ready, hl.fill, hl.word⟩
theorem owns_base {w : World} {b : Nat} {e : TypeId} {size : Nat} {v : Value} {n : Nat} {xs : List Value} (h : w.ownsRow b e size v n xs) : w.ownsRow 0 e size v n xs := by
  obtain ⟨h1, h2 | ⟨g, cap, cur, hv, hg, r⟩⟩ := h
  · exact ⟨h1, Or.inl h2⟩
  · exact ⟨h1, Or.inr ⟨g, cap, cur, hv, Nat.zero_le _, r⟩⟩
/-- The words are another row now, in a block of its own. -/
theorem RefM.newWords (h : RefM w m pl re fi ps ws v0 v1 v2 o3 c3 o4 c4) (ap : Apart m v0 v1 v2 o3 o4) (hm : m < w.heap.size) (hb : ∀ b, inRef m v0 v1 v2 o3 o4 b → b < w.heap.size) {w1 : World} {g cp : Nat} {ws' : List (Nat × Nat)}
    (hbel : Below w.heap.size w w1) (own : w1.ownsRow w.heap.size 68 2 (.slice (some ⟨g, 0, none⟩) ws'.length cp) ws'.length (wcells ws')) :
    RefM (w1.setCell ⟨m, 4, none⟩ (.slice (some ⟨g, 0, none⟩) ws'.length cp)) m pl re fi ps ws' v0 v1 v2 o3 c3 (some ⟨g, 0, none⟩) cp ∧ Apart m v0 v1 v2 o3 (some ⟨g, 0, none⟩) ∧ w.heap.size ≤ g ∧
    Kept (fun b => b = m) w (w1.setCell ⟨m, 4, none⟩ (.slice (some ⟨g, 0, none⟩) ws'.length cp)) := by
  have hg := own.lt g rfl
  have oth : ∀ b, b < w.heap.size → b ≠ m → (w1.setCell ⟨m, 4, none⟩ (.slice (some ⟨g, 0, none⟩) ws'.length cp)).heap[b]? = w.heap[b]? := fun b hb hbm => (Below.heap_setCell _ _ _ _ hbm).trans (hbel.block b hb)
  have sz : w.heap.size ≤ (w1.setCell ⟨m, 4, none⟩ (.slice (some ⟨g, 0, none⟩) ws'.length cp)).heap.size := by have := hbel.size; simpa [World.setCell] using this
  have old : ∀ k u, w.cell? ⟨m, k, none⟩ = some u → w1.cell? ⟨m, k, none⟩ = some u := fun k u hu => (hbel.cell (p := ⟨m, k, none⟩) hm).trans hu
  have cell : ∀ k u, k ≠ 4 → w.cell? ⟨m, k, none⟩ = some u → (w1.setCell ⟨m, 4, none⟩ (.slice (some ⟨g, 0, none⟩) ws'.length cp)).cell? ⟨m, k, none⟩ = some u := fun k u hk hu => by
    rw [World.cell?_setCell_other _ _ _ _ (by simp [Ne.symm hk])]; exact old k u hu
  have nm : ∀ b, b ≠ m → inRef m v0 v1 v2 o3 o4 b → (w1.setCell ⟨m, 4, none⟩ (.slice (some ⟨g, 0, none⟩) ws'.length cp)).heap[b]? = w.heap[b]? := fun b h1 h2 => oth b (hb b h2) h1
  refine ⟨⟨fun k hk => ?_, cell 0 _ (by decide) h.h0, cell 1 _ (by decide) h.h1, cell 2 _ (by decide) h.h2, cell 3 _ (by decide) h.h3, World.cell?_setCell_same _ _ _ (old 4 _ h.h4),
    h.r0.kept sz fun b e => nm b ?_ (Or.inr (Or.inl e)), h.r1.kept sz fun b e => nm b ?_ (Or.inr (Or.inr (Or.inl e))), h.r2.kept sz fun b e => nm b ?_ (Or.inr (Or.inr (Or.inr (Or.inl e)))),
    owns_kept h.own3 fun b e => nm b ?_ ?_, owns_base (owns_kept own fun b e => ?_)⟩, ⟨ap.m0, ap.m1, ap.m2, ap.m3, ?_, fun b e => ?_, fun b e => ?_⟩, hg.1, ⟨hbel.os, hbel.tape, hbel.output, sz, fun b h1 h2 => oth b h1 h2⟩⟩
  · rw [World.frozen?_setCell, hbel.frozen (p := ⟨m, k, none⟩) hm]; exact h.frozen k hk
  · rintro rfl; exact ap.m0 e
  · rintro rfl; exact ap.m1 e
  · rintro rfl; exact ap.m2 e
  · rintro rfl; rw [own_slice] at e; exact ap.m3 e
  · rw [own_slice] at e; exact Or.inr (Or.inr (Or.inr (Or.inr (Or.inl e))))
  · have : b = g := by simpa [Value.ownBlock] using e.symm
    subst this
    exact Below.heap_setCell _ _ _ _ (by have := hg.1; show b ≠ m; omega)
  · intro e; have : g = m := by simpa using e
    omega
  · obtain ⟨a, b2, c, _⟩ := ap.p b e
    refine ⟨a, b2, c, fun e2 => ?_⟩
    have : g = b := by simpa using e2
    have := hb b (Or.inr (Or.inr (Or.inr (Or.inr (Or.inl e)))))
    omega
  · have : g = b := by simpa using e
    refine ⟨fun e2 => ?_, fun e2 => ?_, fun e2 => ?_⟩
    · have := hb b (Or.inr (Or.inl e2)); omega
    · have := hb b (Or.inr (Or.inr (Or.inl e2))); omega
    · have := hb b (Or.inr (Or.inr (Or.inr (Or.inl e2)))); omega
end Go.Proofs.Ytlfcnaalkjpgnaa
