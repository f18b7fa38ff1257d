/- Of the proof of HeapCached: texts NGj. -/
import Derived.Test.YtdgdhnnakcncoaaGreatDoorK45
namespace Go.Proofs.YtdgdhnnakcncoaaGreatDoor.N
set_option maxHeartbeats 1600000
open Go.ChangeShapes Go.WideShapes Go.ChangeAt Go.RowKit Go.Proofs.Sn Go.Shelf
set_option linter.unusedVariables false
set_option linter.unusedSimpArgs false
structure LS (N:Nat) (w W:World) (sb:Nat) (O:Nat→Prop) (G:Geo) (S:St):Prop where
 ex:∃F,Sp N W sb F G S∧∀z,O z→¬F z
 ol:∀z,O z→N≤z∧z<W.heap.size
 be:Below N w W
 nw:N≤W.heap.size
 tab:TabW W
 n0:0<N
def LeftO (O:Nat→Prop) (W W':World):Prop:=∃K,Kept K W W'∧∀z,O z→¬K z
theorem LeftO.refl (O:Nat→Prop) (W:World):LeftO O W W:=⟨fun _=>False,Kept.refl _ _,fun _ _ f=>f⟩
theorem LeftO.of_below {O:Nat→Prop} {W W':World} (h:Below W.heap.size W W'):LeftO O W W':=⟨fun _=>False,Kept.of_below h,fun _ _ f=>f⟩
theorem LeftO.row {O:Nat→Prop} {W W':World} (h:LeftO O W W') {M e sz n:Nat} {v:Value} {xs:List Value} (o:W.ownsRow M e sz v n xs) (ho:∀g,v.ownBlock=some g→O g):W'.ownsRow M e sz v n xs:=by
 obtain ⟨K,k,hk⟩:=h
 exact owns_kept o k (fun g hg=>hk g (ho g hg))
theorem LeftO.bk {O:Nat→Prop} {W W':World} (h:LeftO O W W') {b:Nat} {t:TypeId} {vs:Array Value} (o:Bk W b t vs) (ho:O b):Bk W' b t vs:=by
 obtain ⟨K,k,hk⟩:=h
 exact o.kept k (hk b ho)
theorem LeftO.mono {O O':Nat→Prop} {W W':World} (h:LeftO O W W') (ho:∀z,O' z→O z):LeftO O' W W':=by
 obtain ⟨K,k,hk⟩:=h
 exact ⟨K,k,fun z hz=>hk z (ho z hz)⟩
section
variable {N:Nat} {w W W':World} {sb:Nat} {O:Nat→Prop} {G:Geo} {S S':St}
theorem LS.step (h:LS N w W sb O G S) {F F':Nat→Prop} (f:Sp N W sb F G S) (d:∀z,O z→¬F z) (f':Sp N W' sb F' G S') (t:To W W' F F'):LS N w W' sb O G S'∧LeftO O W W':=by
 have bl:Below N W W':=t.1.below h.nw (fun z hz=>(f.lt hz).1)
 refine ⟨⟨⟨F',f',fun z hz y=> ?_⟩,fun z hz=>⟨(h.ol z hz).1,Nat.lt_of_lt_of_le (h.ol z hz).2 t.1.size⟩,h.be.trans bl,Nat.le_trans h.nw t.1.size,h.tab.below h.n0 bl,h.n0⟩,F,t.1,d⟩
 rcases t.2 z y with u|u
 ·exact d z hz u
 ·have:=(h.ol z hz).2;omega
theorem LS.read (h:LS N w W sb O G S) (k:Below W.heap.size W W'):LS N w W' sb O G S:=by
 obtain ⟨F,f,d⟩:=h.ex
 exact ⟨⟨F,f.below k,d⟩,fun z hz=>⟨(h.ol z hz).1,Nat.lt_of_lt_of_le (h.ol z hz).2 k.size⟩,h.be.trans (k.mono h.nw),Nat.le_trans h.nw k.size,h.tab.below h.n0 (k.mono h.nw),h.n0⟩
theorem LS.own (h:LS N w W sb O G S) (k:Kept O W W'):LS N w W' sb O G S:=by
 obtain ⟨F,f,d⟩:=h.ex
 have bl:Below N W W':=k.below h.nw (fun z hz=>(h.ol z hz).1)
 exact ⟨⟨F,f.kept k (fun z hz u=>d z u hz),d⟩,fun z hz=>⟨(h.ol z hz).1,Nat.lt_of_lt_of_le (h.ol z hz).2 k.size⟩,h.be.trans bl,Nat.le_trans h.nw k.size,h.tab.below h.n0 bl,h.n0⟩
theorem LS.with (h:LS N w W sb O G S) {O':Nat→Prop} (ho:∀z,O' z→N≤z∧z<W.heap.size) (hd:∀F,Sp N W sb F G S→(∀z,O z→¬F z)→∃F',Sp N W sb F' G S∧∀z,O' z→¬F' z):LS N w W sb O' G S:=by
 obtain ⟨F,f,d⟩:=h.ex
 exact ⟨hd F f d,ho,h.be,h.nw,h.tab,h.n0⟩
theorem LS.made (h:LS N w W sb O G S) (k:Below W.heap.size W W') {O':Nat→Prop} (ho:∀z,O' z→O z∨(W.heap.size≤z∧z<W'.heap.size)):LS N w W' sb O' G S:=by
 obtain ⟨F,f,d⟩:=h.ex
 refine ⟨⟨F,f.below k,fun z hz u=> ?_⟩,fun z hz=> ?_,h.be.trans (k.mono h.nw),Nat.le_trans h.nw k.size,h.tab.below h.n0 (k.mono h.nw),h.n0⟩
 ·rcases ho z hz with y|y
  ·exact d z y u
  ·have:=(f.lt u).2;omega
 ·rcases ho z hz with y|y
  ·exact ⟨(h.ol z y).1,Nat.lt_of_lt_of_le (h.ol z y).2 k.size⟩
  ·exact ⟨Nat.le_trans h.nw y.1,y.2⟩
theorem LS.first (h:LS N w W sb O G S):∃k,Go.Proofs.Sn.First S.u S.look k:=by
 obtain ⟨F,f,d⟩:=h.ex
 exact f.first
theorem LS.ok (h:LS N w W sb O G S):SOk G.slots S:=by
 obtain ⟨F,f,d⟩:=h.ex
 exact f.ok
theorem LS.g (h:LS N w W sb O G S):GOk G:=by
 obtain ⟨F,f,d⟩:=h.ex
 exact f.g
end
theorem aw_elem:elemOf 1 5=some 48:=by decide+kernel
end Go.Proofs.YtdgdhnnakcncoaaGreatDoor.N
