/- The reference's sets: Take: contract. -/
import Derived.Test.YtdgjlekndhgjfaaRs
namespace Go.Proofs.Ytdgjlekndhgjfaa
open Go.ChangeShapes Go.WideShapes Go.ChangeAt Go.RowKit Go.Shelf Go.Proofs.Rx Go.Maps Go.Proofs.Hm
set_option linter.unusedVariables false
set_option linter.unusedSimpArgs false

attribute [local go_sem] Oper.semAt_some

theorem erase_at : ∀ {L : List On} {i : Nat} {x : On}, L.Nodup → L[i]? = some x → L.erase x = L.eraseIdx i
  | [], i, x, _, h => by simp at h
  | y :: L, 0, x, _, h => by
    have e : y = x := by simpa using h
    rw [e]
    simp
  | y :: L, i + 1, x, hn, h => by
    rw [List.nodup_cons] at hn
    have h' : L[i]? = some x := by simpa using h
    have ne : y ≠ x := fun e => hn.1 (by rw [e]; exact List.mem_of_getElem? h')
    rw [List.erase_cons_tail (by simpa using ne), List.eraseIdx_cons_succ, erase_at hn.2 h']
theorem find_at : ∀ {L : List On} {i : Nat} {x : On} {p : On → Bool}, (∀ k y, k < i → L[k]? = some y → p y = false) → L[i]? = some x → p x = true → L.find? p = some x
  | [], i, x, p, _, h, _ => by simp at h
  | y :: L, 0, x, p, _, h, hp => by
    have e : y = x := by simpa using h
    rw [e, List.find?_cons_of_pos hp]
  | y :: L, i + 1, x, p, hk, h, hp => by
    have h' : L[i]? = some x := by simpa using h
    rw [List.find?_cons_of_neg (by rw [hk 0 y (by omega) (by simp)]; simp)]
    exact find_at (fun k z hk' hz => hk (k + 1) z (by omega) (by simpa using hz)) h' hp
section
variable {W W' : World} {r : Nat} {v : Value} {L : List On} {F : Nat → Prop}
theorem CutTo.turn {i : Nat} (h : CutTo W W' r v L i) (hF : ∀ z, F z ↔ (z = r ∨ v.ownBlock = some z)) : RTurn r (L.eraseIdx i) W W' F := by
  obtain ⟨v', a, k, n⟩ := h
  refine ⟨fun z => z = r ∨ v'.ownBlock = some z, ⟨v', a, fun _ => Iff.rfl⟩, k.mono (fun z hz => (hF z).2 hz), fun z hz => ?_⟩
  rcases hz with u | u
  · exact .inl ((hF z).2 (.inl u))
  · rcases n z u with q | q
    · exact .inl ((hF z).2 (.inr q))
    · exact .inr q
theorem RTurn.from {W0 : World} (b : Below W0.heap.size W0 W) (h : RTurn r L W W' F) : RTurn r L W0 W' F := by
  obtain ⟨F', p, t⟩ := h
  exact ⟨F', p, (To.of_below b F).trans t⟩
set_option maxRecDepth 100000 in
set_option maxHeartbeats 4000000 in
theorem rtake_any (h : (tRef r L).P W F) (hl : L.length ≤ 10000) (hnd : L.Nodup) (cl : Int) (np fu sw : Bool) :
    Calls Try.prog 19 #[.pointer (some ⟨r, 0, none⟩), .int .i64 cl, .bool np, .bool fu, .bool sw] W fun e W' => e = .returned (.tuple #[.int .i64 (lowI (low (fits ⟨cl, np, fu⟩ sw) L)), .bool (low (fits ⟨cl, np, fu⟩ sw) L).isSome]) ∧ RTurn r (takeL L (low (fits ⟨cl, np, fu⟩ sw) L)) W W' F := by
  obtain ⟨v, h, hF⟩ := h
  obtain ⟨R, hR⟩ : ∃ R : Ending → World → Prop, R = fun e W' => e = .returned (.tuple #[.int .i64 (lowI (low (fits ⟨cl, np, fu⟩ sw) L)), .bool (low (fits ⟨cl, np, fu⟩ sw) L).isSome]) ∧ RTurn r (takeL L (low (fits ⟨cl, np, fu⟩ sw) L)) W W' F := ⟨_, rfl⟩
  rw [← hR]
  obtain ⟨f, hf⟩ : ∃ f, fits ⟨cl, np, fu⟩ sw = f := ⟨_, rfl⟩
  have FI : ∀ x : On, f x = true ↔ x.kd = ⟨cl, np, fu⟩ ∧ x.sw = sw := fun x => by rw [← hf]; exact fits_iff
  rw [hf] at hR
  have FN := hide (show low f L = none → ∀ W1, Below W.heap.size W W1 → R (.returned (.tuple #[.int .i64 0, .bool false])) W1 from fun e W1 b => by
    rw [hR, e]
    exact ⟨rfl, RTurn.same ⟨v, h, hF⟩ b⟩)
  have FS := hide (show ∀ (x : On) (k : Nat), low f L = some x → L[k]? = some x → ∀ W1 W2, Below W.heap.size W W1 → CutTo W1 W2 r v L k → R (.returned (.tuple #[.int .i64 x.id, .bool true])) W2 from fun x k e hk W1 W2 b c => by
    rw [hR, e]
    refine ⟨rfl, (RTurn.from b ?_)⟩
    rw [show takeL L (some x) = L.erase x from rfl, erase_at hnd hk]
    exact c.turn hF)
  have H := hide h
  have HC := hide (fun W1 (b : Below W.heap.size W W1) k (hk : k < L.length) => cut_any (h.below b) hl k hk)
  obtain ⟨ov, cap0, rfl⟩ := row_form6 h.row
  have C0 := hide (fun W1 (b : Below W.heap.size W W1) => (h.below b).bk.cell 0 _ rfl)
  obtain ⟨n, hn⟩ : ∃ n : Nat, L.length = n := ⟨_, rfl⟩
  have HN := hide hn
  rw [hn] at C0
  rw [hn] at hl HC
  have FF2 := hide FI
  have RL := hide h.bk.lt
  clear h hn hR hf FI hF hnd
  go_enter Try.func19, Try.ntmps19
  go_wp2_with fail
  go_loopw [12, 13] (fun va vi wr => ∃ (i : Nat) (a : Int), va = .int .i64 a ∧ vi = .int .i64 (i : Nat) ∧ i ≤ n ∧ Hid (Below W.heap.size W wr) ∧ Hid (AtV L f i a)) (fun _ vi _ => n - (zi vi).toNat)
  case atStart => exact ⟨0, -1, rfl, rfl, by omega, hide (Below.refl _ _), hide (AtV.start L f)⟩
  case round =>
    obtain ⟨i, a, rfl, rfl, hi, HB, HA⟩ := hrel
    have pi : IntKind.i64.wrap ((i : Int) + 1) = (i : Int) + 1 := by rw [IntKind.wrap_i64]; omega
    have c0 := C0.out wr HB.out
    by_cases c : i < n
    · have d : decide ((i : Int) < (n : Int)) = true := decide_eq_true (by omega)
      have d' : decide (i < n) = true := decide_eq_true c
      obtain ⟨x, hx⟩ : ∃ x, L[i]? = some x := ⟨_, List.getElem?_eq_getElem (by rw [HN.out]; exact c)⟩
      obtain ⟨g, cap, ev, x0, x1, x2, x3, x4, x5, _, _⟩ := (H.out.below HB.out).at hx
      rw [HN.out] at ev
      obtain ⟨rfl, rfl⟩ : ov = some ⟨g, 0, none⟩ ∧ cap0 = cap := by simpa using ev
      have i0 : 0 ≤ (i : Int) := by omega
      have i1 : (i : Int) < (n : Int) := by omega
      obtain ⟨WA, hWA⟩ : ∃ WA, wr.alloc (.cells #[.int .i64 x.id, .int .u64 (x.base : Nat), .int .i64 x.kd.c, .bool x.kd.a, .bool x.kd.f, .bool x.sw] 65) = WA := ⟨_, rfl⟩
      obtain ⟨xb, hxb⟩ : ∃ xb, wr.heap.size = xb := ⟨_, rfl⟩
      have kb : Bk WA xb 65 #[.int .i64 x.id, .int .u64 (x.base : Nat), .int .i64 x.kd.c, .bool x.kd.a, .bool x.kd.f, .bool x.sw] := by rw [← hWA, ← hxb]; exact World.alloc_heap_new wr _
      have bA : Below W.heap.size W WA := by rw [← hWA]; exact HB.out.trans ((below_alloc wr _).mono HB.out.size)
      have HH := hide (And.intro hxb hWA)
      have BA := hide bA
      have BD := hide (show ∀ n, Below W.heap.size W (WA.drewN n) from fun n => bA.trans ((drewN_below WA n).mono bA.size))
      have KB := hide kb
      have HX := hide hx
      have cA := C0.out WA bA
      clear hWA hxb kb bA ev hx
      go_upto_region 6 with fail
      rw [HH.out.2, HH.out.1]
      clear x0 x1 x2 x3 x4 x5 c0
      have y1 := KB.out.cell 1 _ rfl
      have y2 := KB.out.cell 2 _ rfl
      have y3 := KB.out.cell 3 _ rfl
      have y4 := KB.out.cell 4 _ rfl
      have y5 := KB.out.cell 5 _ rfl
      obtain ⟨xc, hxc⟩ : ∃ q, x.kd.c = q := ⟨_, rfl⟩
      obtain ⟨xa, hxa⟩ : ∃ q, x.kd.a = q := ⟨_, rfl⟩
      obtain ⟨xf, hxf⟩ : ∃ q, x.kd.f = q := ⟨_, rfl⟩
      obtain ⟨xs, hxs⟩ : ∃ q, x.sw = q := ⟨_, rfl⟩
      have XK := hide (show x.kd = ⟨xc, xa, xf⟩ from by rw [← hxc, ← hxa, ← hxf])
      have XS := hide hxs
      rw [hxc] at y2
      rw [hxa] at y3
      rw [hxf] at y4
      rw [hxs] at y5
      clear hxc hxa hxf hxs
      cases e0 : (xc == cl) with
      | false =>
        have fx : f x = false := by
          cases e : f x with
          | false => rfl
          | true =>
            obtain ⟨u1, u2⟩ := (FF2.out x).1 e
            rw [XK.out] at u1
            injection u1 with q1 q2 q3
            simp [q1] at e0
        have FA := hide (HA.out.skip HX.out fx)
        clear fx
        go_quiet (fail)
        go_wp2_with fail
        exact ⟨⟨i + 1, a, rfl, by push_cast; rfl, by omega, hide (BD.out _), FA⟩, by simp only [zi]; omega⟩
      | true =>
        cases e1 : (xa == np) with
        | false =>
          have fx : f x = false := by
            cases e : f x with
            | false => rfl
            | true =>
              obtain ⟨u1, u2⟩ := (FF2.out x).1 e
              rw [XK.out] at u1
              injection u1 with q1 q2 q3
              simp [q2] at e1
          have FA := hide (HA.out.skip HX.out fx)
          clear fx
          go_quiet (fail)
          go_wp2_with fail
          exact ⟨⟨i + 1, a, rfl, by push_cast; rfl, by omega, hide (BD.out _), FA⟩, by simp only [zi]; omega⟩
        | true =>
          cases e2 : (xf == fu) with
          | false =>
            have fx : f x = false := by
              cases e : f x with
              | false => rfl
              | true =>
                obtain ⟨u1, u2⟩ := (FF2.out x).1 e
                rw [XK.out] at u1
                injection u1 with q1 q2 q3
                simp [q3] at e2
            have FA := hide (HA.out.skip HX.out fx)
            clear fx
            go_quiet (fail)
            go_wp2_with fail
            exact ⟨⟨i + 1, a, rfl, by push_cast; rfl, by omega, hide (BD.out _), FA⟩, by simp only [zi]; omega⟩
          | true =>
            cases e3 : (xs == sw) with
            | false =>
              have fx : f x = false := by
                cases e : f x with
                | false => rfl
                | true =>
                  obtain ⟨u1, u2⟩ := (FF2.out x).1 e
                  rw [XS.out] at u2
                  simp [u2] at e3
              have FA := hide (HA.out.skip HX.out fx)
              clear fx
              go_quiet (fail)
              go_wp2_with fail
              exact ⟨⟨i + 1, a, rfl, by push_cast; rfl, by omega, hide (BD.out _), FA⟩, by simp only [zi]; omega⟩
            | true =>
              have fx : f x = true := (FF2.out x).2 ⟨by
                rw [XK.out, beq_iff_eq.1 e0, beq_iff_eq.1 e1, beq_iff_eq.1 e2], by rw [XS.out, beq_iff_eq.1 e3]⟩
              by_cases ca : a < 0
              · have FA := hide (HA.out.first ca HX.out fx)
                have da : decide (a < 0) = true := decide_eq_true ca
                clear fx
                go_quiet (fail)
                go_wp2_with fail
                exact ⟨⟨i + 1, _, rfl, by push_cast; rfl, by omega, hide (BD.out _), FA⟩, by simp only [zi]; omega⟩
              · have da : decide (a < 0) = false := decide_eq_false ca
                obtain ⟨k, y, hy, hk, rfl⟩ : ∃ (k : Nat) (y : On), L[k]? = some y ∧ k < i ∧ a = (k : Int) := by
                  rcases HA.out with ⟨h1, h2⟩ | ⟨k, z, h1, h2, h3, h4⟩
                  · omega
                  · exact ⟨k, z, h1, h2, h3⟩
                obtain ⟨g', cap', ev', _, z1, _, _, _, _, _, _⟩ := (H.out.below BA.out).at hy
                rw [HN.out] at ev'
                obtain ⟨rfl, rfl⟩ : g = g' ∧ cap0 = cap' := by simpa using ev'
                have k0 : 0 ≤ (k : Int) := by omega
                have k1 : (k : Int) < (n : Int) := by omega
                have k2 : k < n := by omega
                by_cases cb : x.base < y.base
                · have FA := hide (HA.out.lower hy HX.out fx cb)
                  have db : decide ((x.base : Int) < (y.base : Int)) = true := decide_eq_true (by omega)
                  have db' : decide (x.base < y.base) = true := decide_eq_true cb
                  clear ev' hy fx
                  go_quiet (fail)
                  go_wp2_with fail
                  exact ⟨⟨i + 1, _, rfl, by push_cast; rfl, by omega, hide (BD.out _), FA⟩, by simp only [zi]; omega⟩
                · have FA := hide (HA.out.stays hy HX.out (by omega))
                  have db : decide ((x.base : Int) < (y.base : Int)) = false := decide_eq_false (by omega)
                  have db' : decide (x.base < y.base) = false := decide_eq_false cb
                  clear ev' hy fx
                  go_quiet (fail)
                  go_wp2_with fail
                  exact ⟨⟨i + 1, _, rfl, by push_cast; rfl, by omega, hide (BD.out _), FA⟩, by simp only [zi]; omega⟩
    · have d : decide ((i : Int) < (n : Int)) = false := decide_eq_false (by omega)
      have d' : decide (i < n) = false := decide_eq_false c
      have e : L.take i = L := List.take_of_length_le (by rw [HN.out]; omega)
      rcases HA.out with ⟨h1, rfl⟩ | ⟨k, x, h1, h2, rfl, h4⟩
      · rw [e] at h1
        have FF := hide (FN.out h1 wr HB.out)
        clear e h1 FS HC
        go_wp2_with fail
        first | exact FF.out | exact bodyPost_ret (results_tmp2 Try.results19 _ _ _) rfl FF.out
      · rw [e] at h4
        have F1 := hide (fun W2 (ct : CutTo wr W2 r (.slice ov n cap0) L k) => FS.out x k h4 h1 wr W2 HB.out (by rw [HN.out]; exact ct))
        have CC := hide (HC.out wr HB.out k (by omega))
        obtain ⟨g, cap, ev, x0, _, _, _, _, _, _, _⟩ := (H.out.below HB.out).at h1
        rw [HN.out] at ev
        obtain ⟨rfl, rfl⟩ : ov = some ⟨g, 0, none⟩ ∧ cap0 = cap := by simpa using ev
        have dk : decide ((k : Int) < 0) = false := decide_eq_false (by omega)
        have k0 : 0 ≤ (k : Int) := by omega
        have k1 : (k : Int) < (n : Int) := by omega
        have k2 : k < n := by omega
        clear e h1 h4 ev FN FS HC
        go_wp2_with fail
        refine CC.out.mono ?_
        rintro e W2 ⟨rfl, ct⟩
        have FF := hide (F1.out W2 ct)
        clear CC F1 ct
        go_wp2_with fail
        first | exact FF.out | exact bodyPost_ret (results_tmp2 Try.results19 _ _ _) rfl FF.out
end
end Go.Proofs.Ytdgjlekndhgjfaa
