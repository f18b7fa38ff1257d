/- Of the proof of HeapGrows: texts NGi, NGj. -/
import Derived.Test.YtdgdhnnakcncoaaGreatDoorJ62
namespace Go.Proofs.YtdgdhnnakcncoaaGreatDoor.N
set_option maxHeartbeats 1600000
open Go.ChangeShapes Go.WideShapes Go.ChangeAt Go.RowKit Go.Proofs.Sn Go.Shelf
set_option linter.unusedVariables false
set_option linter.unusedSimpArgs false
structure Sp (N:Nat) (W:World) (sb:Nat) (F:Nat→Prop) (G:Geo) (S:St):Prop where
 ex:∃v1 v2 ws ms,SpAt N W sb v1 v2 G S.st (Bt.cnt S.u 0 G.slots) ws ms S.look∧wb ws=S.u∧wb ms=S.m∧∀z,F z↔ownS sb v1 v2 z
 ok:SOk G.slots S
 g:GOk G
def St.new (st:Nat):St:=⟨st,fun _=>false,fun _=>false,0⟩
def St.next (S:St) (k:Nat):St:=⟨S.st,Go.Proofs.Sn.upd S.u k true,S.m,k+1⟩
theorem SOk.new (n st:Nat):SOk n (St.new st):=⟨fun i h=>(by cases h),fun i h=>(by cases h),Nat.zero_le _⟩
theorem SOk.next {n:Nat} {S:St} (h:SOk n S) {k:Nat} (hk:k<n):SOk n (S.next k):=
 ⟨fun i hi=>by
  by_cases e:i=k
  ·omega
  ·exact h.su i (by have:=hi;unfold St.next at this;rwa[show (⟨S.st,Go.Proofs.Sn.upd S.u k true,S.m,k+1⟩:St).u=Go.Proofs.Sn.upd S.u k true from rfl,upd_ne _ _ e] at this),h.sm,hk⟩
theorem first_ex {u:Nat→Bool} {n:Nat} (h:∀i,u i=true→i<n):∀d i,n - i=d→∃k,Go.Proofs.Sn.First u i k
 |0,i,hd=>⟨i,Nat.le_refl _,by
  cases c:u i with
  |false=>rfl
  |true=>have:=h i c;omega,fun j h1 h2=>by omega⟩
 |d+1,i,hd=>by
  cases c:u i with
  |false=>exact ⟨i,Nat.le_refl _,c,fun j h1 h2=>by omega⟩
  |true=>
   obtain ⟨k,h1,h2,h3⟩:=first_ex h d (i+1) (by omega)
   refine ⟨k,by omega,h2,fun j j1 j2=> ?_⟩
   by_cases e:j=i
   ·rw[e];exact c
   ·exact h3 j (by omega) j2
section
variable {N:Nat} {W W':World} {sb:Nat} {F:Nat→Prop} {G:Geo} {S:St}
theorem Sp.lt (h:Sp N W sb F G S) {z:Nat} (hz:F z):N≤z∧z<W.heap.size:=by
 obtain ⟨v1,v2,ws,ms,a,_,_,hF⟩:=h.ex
 exact a.own ((hF z).1 hz)
theorem Sp.kept {K:Nat→Prop} (h:Sp N W sb F G S) (k:Kept K W W') (hK:∀z,F z→¬K z):Sp N W' sb F G S:=by
 obtain ⟨v1,v2,ws,ms,a,b,c,hF⟩:=h.ex
 exact ⟨⟨v1,v2,ws,ms,a.kept k (fun z hz=>hK z ((hF z).2 hz)),b,c,hF⟩,h.ok,h.g⟩
theorem Sp.below (h:Sp N W sb F G S) (k:Below W.heap.size W W'):Sp N W' sb F G S:=h.kept (Kept.of_below (F:=fun _=>False) k) (fun _ _ f=>f)
theorem Sp.first (h:Sp N W sb F G S):∃k,Go.Proofs.Sn.First S.u S.look k:=first_ex h.ok.su _ _ rfl
theorem Sp.to {v1 v2:Value} {S':St} {c:Nat} (hF:∀z,F z↔ownS sb v1 v2 z) (t:SpTo N W W' sb v1 v2 G S'.st c S'.u S'.m S'.look) (hc:c=Bt.cnt S'.u 0 G.slots) (ok:SOk G.slots S') (g:GOk G):∃F',Sp N W' sb F' G S'∧To W W' F F':=by
 obtain ⟨v1',v2',ws',ms',a,b,d,k,n⟩:=t
 rw[hc] at a
 refine ⟨ownS sb v1' v2',⟨⟨v1',v2',ws',ms',a,b,d,fun _=>Iff.rfl⟩,ok,g⟩,k.mono (fun z hz=>(hF z).2 hz),fun z hz=> ?_⟩
 rcases n z hz with u|u
 ·exact .inl ((hF z).2 u)
 ·exact .inr u
theorem sp_info (h:Sp N W sb F G S):Calls Tryz.prog 22 #[.pointer (some ⟨sb,0,none⟩)] W fun e W'=>e= .returned (infoV G S.st (Bt.cnt S.u 0 G.slots))∧Below W.heap.size W W':=by
 obtain ⟨v1,v2,ws,ms,a,b,c,hF⟩:=h.ex
 exact info_any a
theorem geo_ok {page pages cls elem:Nat} {noptr:Bool} (hr:rpB page pages=true) (hp:pages≤134217728) (h8:8≤elem) (hl:elem≤pages * 8192) (hs:pages * 8192/elem≤65536):GOk (geo page pages cls noptr elem):=by
 have le:=rp_le hr
 have m:=Nat.div_mul_le_self (pages * 8192) elem
 refine ⟨hs,hp,h8,by show elem≤_;omega,by show page * 8192+pages * 8192/elem * elem≤_;omega,?_⟩
 show (if pages * 8192≤131072∧elem≤32768 then Cl.magicN elem else 0)=0∨_
 by_cases c:pages * 8192≤131072∧elem≤32768
 ·refine .inr ⟨?_,c.2,?_⟩
  ·show (if pages * 8192≤131072∧elem≤32768 then Cl.magicN elem else 0)=_
   rw[if_pos c];rfl
  ·show pages * 8192/elem * elem≤131072
   omega
 ·rw[if_neg c];exact .inl rfl
theorem Sp.made {page pages st cls elem:Nat} {noptr:Bool} (hb:Bk W sb 144 (made page pages st cls noptr elem)) (hN:N≤sb) (g:GOk (geo page pages cls noptr elem)):Sp N W sb (fun z=>z=sb) (geo page pages cls noptr elem) (St.new st):=by
 refine ⟨⟨.slice none 0 0, .slice none 0 0,[],[],⟨?_,Wr.none _ _,Wr.none _ _,hN,own_none _,own_none _,fun g hg=>own_none _,by simp,by simp⟩,funext wb_nil,funext wb_nil,fun z=>⟨.inl,fun h=> ?_⟩⟩,SOk.new _ _,g⟩
 ·rw[show Bt.cnt (St.new st).u 0 (geo page pages cls noptr elem).slots=0 from Bt.cnt_none (fun _ _=>rfl)]
  exact hb
 ·rcases h with h|h|h
  ·exact h
  ·exact absurd h (own_none _)
  ·exact absurd h (own_none _)
end
structure LS (N:Nat) (w W:World) (sb:Nat) (O:Nat→Prop) (G:Geo) (S:St):Prop where
 ex:∃F,Sp N W sb F G S∧∀z,O z→¬F z
 ol:∀z,O z→N≤z∧z<W.heap.size
 be:Below N w W
 nw:N≤W.heap.size
 tab:TabW W
 n0:0<N
def LeftO (O:Nat→Prop) (W W':World):Prop:=∃K,Kept K W W'∧∀z,O z→¬K z
theorem LeftO.refl (O:Nat→Prop) (W:World):LeftO O W W:=⟨fun _=>False,Kept.refl _ _,fun _ _ f=>f⟩
theorem LeftO.of_below {O:Nat→Prop} {W W':World} (h:Below W.heap.size W W'):LeftO O W W':=⟨fun _=>False,Kept.of_below h,fun _ _ f=>f⟩
theorem LeftO.row {O:Nat→Prop} {W W':World} (h:LeftO O W W') {M e sz n:Nat} {v:Value} {xs:List Value} (o:W.ownsRow M e sz v n xs) (ho:∀g,v.ownBlock=some g→O g):W'.ownsRow M e sz v n xs:=by
 obtain ⟨K,k,hk⟩:=h
 exact owns_kept o k (fun g hg=>hk g (ho g hg))
theorem LeftO.bk {O:Nat→Prop} {W W':World} (h:LeftO O W W') {b:Nat} {t:TypeId} {vs:Array Value} (o:Bk W b t vs) (ho:O b):Bk W' b t vs:=by
 obtain ⟨K,k,hk⟩:=h
 exact o.kept k (hk b ho)
theorem LeftO.mono {O O':Nat→Prop} {W W':World} (h:LeftO O W W') (ho:∀z,O' z→O z):LeftO O' W W':=by
 obtain ⟨K,k,hk⟩:=h
 exact ⟨K,k,fun z hz=>hk z (ho z hz)⟩
section
variable {N:Nat} {w W W':World} {sb:Nat} {O:Nat→Prop} {G:Geo} {S S':St}
theorem LS.step (h:LS N w W sb O G S) {F F':Nat→Prop} (f:Sp N W sb F G S) (d:∀z,O z→¬F z) (f':Sp N W' sb F' G S') (t:To W W' F F'):LS N w W' sb O G S'∧LeftO O W W':=by
 have bl:Below N W W':=t.1.below h.nw (fun z hz=>(f.lt hz).1)
 refine ⟨⟨⟨F',f',fun z hz y=> ?_⟩,fun z hz=>⟨(h.ol z hz).1,Nat.lt_of_lt_of_le (h.ol z hz).2 t.1.size⟩,h.be.trans bl,Nat.le_trans h.nw t.1.size,h.tab.below h.n0 bl,h.n0⟩,F,t.1,d⟩
 rcases t.2 z y with u|u
 ·exact d z hz u
 ·have:=(h.ol z hz).2;omega
theorem LS.read (h:LS N w W sb O G S) (k:Below W.heap.size W W'):LS N w W' sb O G S:=by
 obtain ⟨F,f,d⟩:=h.ex
 exact ⟨⟨F,f.below k,d⟩,fun z hz=>⟨(h.ol z hz).1,Nat.lt_of_lt_of_le (h.ol z hz).2 k.size⟩,h.be.trans (k.mono h.nw),Nat.le_trans h.nw k.size,h.tab.below h.n0 (k.mono h.nw),h.n0⟩
theorem LS.own (h:LS N w W sb O G S) (k:Kept O W W'):LS N w W' sb O G S:=by
 obtain ⟨F,f,d⟩:=h.ex
 have bl:Below N W W':=k.below h.nw (fun z hz=>(h.ol z hz).1)
 exact ⟨⟨F,f.kept k (fun z hz u=>d z u hz),d⟩,fun z hz=>⟨(h.ol z hz).1,Nat.lt_of_lt_of_le (h.ol z hz).2 k.size⟩,h.be.trans bl,Nat.le_trans h.nw k.size,h.tab.below h.n0 bl,h.n0⟩
theorem LS.with (h:LS N w W sb O G S) {O':Nat→Prop} (ho:∀z,O' z→N≤z∧z<W.heap.size) (hd:∀F,Sp N W sb F G S→(∀z,O z→¬F z)→∃F',Sp N W sb F' G S∧∀z,O' z→¬F' z):LS N w W sb O' G S:=by
 obtain ⟨F,f,d⟩:=h.ex
 exact ⟨hd F f d,ho,h.be,h.nw,h.tab,h.n0⟩
theorem LS.made (h:LS N w W sb O G S) (k:Below W.heap.size W W') {O':Nat→Prop} (ho:∀z,O' z→O z∨(W.heap.size≤z∧z<W'.heap.size)):LS N w W' sb O' G S:=by
 obtain ⟨F,f,d⟩:=h.ex
 refine ⟨⟨F,f.below k,fun z hz u=> ?_⟩,fun z hz=> ?_,h.be.trans (k.mono h.nw),Nat.le_trans h.nw k.size,h.tab.below h.n0 (k.mono h.nw),h.n0⟩
 ·rcases ho z hz with y|y
  ·exact d z y u
  ·have:=(f.lt u).2;omega
 ·rcases ho z hz with y|y
  ·exact ⟨(h.ol z y).1,Nat.lt_of_lt_of_le (h.ol z y).2 k.size⟩
  ·exact ⟨Nat.le_trans h.nw y.1,y.2⟩
theorem LS.first (h:LS N w W sb O G S):∃k,Go.Proofs.Sn.First S.u S.look k:=by
 obtain ⟨F,f,d⟩:=h.ex
 exact f.first
theorem LS.ok (h:LS N w W sb O G S):SOk G.slots S:=by
 obtain ⟨F,f,d⟩:=h.ex
 exact f.ok
theorem LS.g (h:LS N w W sb O G S):GOk G:=by
 obtain ⟨F,f,d⟩:=h.ex
 exact f.g
end
theorem aw_elem:elemOf 1 5=some 48:=by decide+kernel
end Go.Proofs.YtdgdhnnakcncoaaGreatDoor.N
