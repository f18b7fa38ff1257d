/- The landed package's words: a page's array, made of its fill; store; fill. -/
import Derived.Test.YtpceigglilgelaaVmX
namespace Go.Proofs.Ytpceigglilgelaa
open Go.ChangeShapes Go.WideShapes Go.ChangeAt Go.RowKit Go.Proofs.Sp Go.Maps

set_option maxRecDepth 100000 in
set_option maxHeartbeats 2000000 in
theorem array_fill (b bp bf n p x : Nat) (MP MF : Nat → Nat) (A : Nat → Nat → Nat) (w : World) (h : WordsM w b bp bf n MP MF A) (hp : p < 18446744073709551616) (hz : MP p = 0) (hx : MF p = x) (hx0 : x ≠ 0) (hn : n ≤ 4398046511104) :
    Calls Try.prog 77 #[.pointer (some ⟨b, 8, none⟩), .int .u64 (p : Int)] w fun e w' => e = .returned (.pointer (some ⟨w.heap.size, 0, none⟩)) ∧ WordsM w' b bp bf (n + 1) (fun q => if q = p then w.heap.size + 1 else MP q) (fun q => if q = p then 0 else MF q) (fun q => if q = p then (fun _ => x) else A q) ∧ FrB (fun x => x = bp ∨ x = bf) w w' := by
  have c8 := h.c8
  have c9 := h.c9
  have hbl := cell_lt c8
  obtain ⟨v, hrun, hv⟩ := look_ptr h.mp p hp
  rcases hv with ⟨_, rfl⟩ | ⟨y, hy, _⟩
  · have l1 := h.mp.lt
    have l2 := h.mf.lt
    have mf1 : MapIs (w.alloc (.cells Try.zeroCells118 118)) numElem bf n MF := h.mf.kept (Below.heap_alloc w _ bf l2)
    have hnum := look_num mf1 p hp
    rw [hx] at hnum
    have bx : ((x : Int) != 0) = true := by rw [bne_iff_ne]; omega
    have az := arr_zero w
    have AZ := hide az
    have H := hide h
    clear h mf1 az
    go_enter Try.func77, Try.ntmps77
    go_wp2_with fail
    go_loopw [27] (fun iv wr => ∃ k : Nat, iv = .int .i64 (k : Int) ∧ k ≤ 1024 ∧ Hid (ArrAt wr w.heap.size (fun j => if j < k then x else 0)) ∧ FrB (fun _ => False) w wr) (fun iv _ => 1024 - (intOf iv).toNat)
    case atStart => exact ⟨0, rfl, by omega, hide (by have := AZ.out; simpa using this), (FrB.refl _ w).alloc _⟩
    case round =>
      obtain ⟨k, rfl, hk, hA, hF⟩ := hrel
      have hbr : wr.cell? ⟨b, 8, none⟩ = some (.map (some bp)) := by rw [hF.cell hbl (fun z => z)]; exact c8
      have hb9 : wr.cell? ⟨b, 9, none⟩ = some (.map (some bf)) := by rw [hF.cell hbl (fun z => z)]; exact c9
      by_cases hlt : k < 1024
      · have hc := hA.out.cell k hlt
        have hfz := hA.out.fz k
        have nxt := hA.out.put k x hlt
        have NX : Hid (ArrAt (wr.setCell ⟨w.heap.size, k, none⟩ (.int .u64 (x : Int))) w.heap.size (fun j => if j < k + 1 then x else 0)) := by
          have e : (fun j => if j < k + 1 then x else 0) = (fun j => if j = k then x else if j < k then x else 0) := by
            funext j
            by_cases c : j = k
            · rw [if_pos c, if_pos (by omega)]
            · rw [if_neg c]
              by_cases d : j < k
              · rw [if_pos d, if_pos (by omega)]
              · rw [if_neg d, if_neg (by omega)]
          rw [e]; exact nxt
        have k1 : (k : Int) < 1024 := by omega
        clear nxt
        go_wp2_with fail
        go_roundw
        case rel => exact ⟨k + 1, by go_num, by omega, NX, hF.set (Or.inr (Nat.le_refl _)) _⟩
        case measure => simp [intOf]; omega
      · obtain rfl : k = 1024 := by omega
        have hh := H.out
        have mf1 : MapIs wr numElem bf n MF := hh.mf.kept (hF.block bf l2 (fun z => z))
        have mp1 : MapIs wr ptrElem bp n MP := hh.mp.kept (hF.block bp l1 (fun z => z))
        obtain ⟨w2, hdel, m2, g2⟩ := mf1.del (ty := 0) Try.underlying60 p hp
        have l3 := hF.size
        have hla := hA.out.lt
        have mp2 : MapIs w2 ptrElem bp n MP := mp1.kept (g2.block bp (by omega) (by have := hh.ne.2.2; simp; omega))
        obtain ⟨w3, hup, m3, g3⟩ := mp2.put Try.underlying59 (by unfold maxLen; omega) p hp (v := .pointer (some ⟨w.heap.size, 0, none⟩)) (x := w.heap.size + 1) (ps := []) (by simp [ptrElem, dat])
        have l4 := g2.size
        have fr : FrB (fun x => x = bp ∨ x = bf) w w3 := ((hF.mono (fun x _ e => e.elim)).trans ((FrB.grown g2).mono (fun x _ e => Or.inr e))).trans ((FrB.grown g3).mono (fun x _ e => Or.inl e))
        have ar3 : ArrAt w3 w.heap.size (fun _ => x) := by
          have a2 := (hA.out.kept (g2.block _ hla (by simp; omega))).kept (g3.block _ (by omega) (by simp; omega))
          obtain ⟨arr, q1, q2, q3⟩ := a2
          exact ⟨arr, q1, q2, fun j hj => by have := q3 j hj; simp only [if_pos hj] at this; exact this⟩
        have mf3 : MapIs w3 numElem bf (n + 1) (fun q => if q = p then 0 else MF q) := (m2.kept (g3.block _ (by omega) (by have := hh.ne.2.2; simp; omega))).mono (by omega)
        have FIN := hide (And.intro (words_made hh hz fr m3 mf3 ar3 (Nat.le_refl _)) fr)
        have hb2 : w2.cell? ⟨b, 8, none⟩ = some (.map (some bp)) := by rw [World.cell?_of_block (g2.block b (by omega) (by have := hh.ne.2.1; simp; omega))]; exact hbr
        clear mf1 mp1 m2 g2 mp2 m3 g3 fr ar3 mf3 hh hA
        go_wp2_with fail
        go_ret
        exact ⟨rfl, FIN.out⟩
  · omega
end Go.Proofs.Ytpceigglilgelaa
