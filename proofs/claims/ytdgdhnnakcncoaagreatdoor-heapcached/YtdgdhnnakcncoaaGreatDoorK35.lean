/- Of the proof of HeapCached: texts VVmTa, VVmU, VVmVa, VVmVb, VVmVc, VVmVd. -/
import Derived.Test.YtdgdhnnakcncoaaGreatDoorK34
import Derived.Test.YtdgdhnnakcncoaaGreatDoorK32
import Derived.Test.YtdgdhnnakcncoaaGreatDoorK30
import Derived.Test.YtdgdhnnakcncoaaGreatDoorK33
import Derived.Maps.Views
namespace Go.Proofs.YtdgdhnnakcncoaaGreatDoor.V
set_option maxHeartbeats 1600000
open Go.ChangeShapes Go.WideShapes Go.ChangeAt Go.RowKit Go.Proofs.Sp
variable {w w':World} {b:Nat} {pl:List Nat} {re:List Bool} {fi:List Nat} {f:Nat→Nat} {g0 g1 g2 g cap:Nat} {R:List (Nat×Nat)} {bp bf n:Nat} {MP MF:Nat→Nat} {A:Nat→Nat→Nat}
theorem Cell1.moves {k:Nat} {v:Value} {F F':Nat→Prop} (h:Cell1 b k w w' v) (hb:F b) (hF:∀x,F' x→F x):Moves F F' w w':=
 ⟨⟨h.os,h.tape,h.output,h.size,fun x hx hn=>h.block x hx (fun e=>hn (e▸hb))⟩,fun x hx=>Or.inl (hF x hx)⟩
theorem tail_ne {α:Type} {l:List α} (h:l.tail≠ []):l≠ []:=fun z=>h (by rw[z];rfl)
theorem Lies.place (h:Lies w b pl re fi f g0 g1 g2 g cap R bp bf n MP MF A) {v:Value} (k:Cell1 b 0 w w' v) (hv:SlB w' v (u64s pl.tail) g0):
 Lies w' b pl.tail re fi f g0 g1 g2 g cap R bp bf n MP MF A∧Moves (Foot b g0 g1 g2 g bp bf pl re fi MP) (Foot b g0 g1 g2 g bp bf pl.tail re fi MP) w w':=by
 obtain ⟨v1,c1,k1⟩:=h.s1
 obtain ⟨v2,c2,k2⟩:=h.s2
 have hgl:=h.rows.glt
 refine ⟨⟨⟨v,k.here,hv⟩,⟨v1,(k.cell 1 (by omega)).trans c1,k.slB k1 h.n1⟩,⟨v2,(k.cell 2 (by omega)).trans c2,k.slB k2 h.n2⟩,h.rows.kept (fun j j1 j2=>k.cell j (by omega)) k.fz (k.block g hgl h.rows.ne),h.words.kept (k.cell 8 (by omega)) (k.cell 9 (by omega)) (fun x hx=>k.block x (h.words.foot hx).1 (h.words.foot hx).2),h.n0,h.n1,h.n2,fun z=>h.d0 (tail_ne z),h.d1,h.d2,h.dg⟩,k.moves (Or.inl rfl) ?_⟩
 rintro x (hx|hx|hx|hx|hx|hx)
 ·exact Or.inl hx
 ·exact Or.inr (Or.inl ⟨tail_ne hx.1,hx.2⟩)
 ·exact Or.inr (Or.inr (Or.inl hx))
 ·exact Or.inr (Or.inr (Or.inr (Or.inl hx)))
 ·exact Or.inr (Or.inr (Or.inr (Or.inr (Or.inl hx))))
 ·exact Or.inr (Or.inr (Or.inr (Or.inr (Or.inr hx))))
theorem Lies.refuse (h:Lies w b pl re fi f g0 g1 g2 g cap R bp bf n MP MF A) {v:Value} (k:Cell1 b 1 w w' v) (hv:SlB w' v (bools re.tail) g1):
 Lies w' b pl re.tail fi f g0 g1 g2 g cap R bp bf n MP MF A∧Moves (Foot b g0 g1 g2 g bp bf pl re fi MP) (Foot b g0 g1 g2 g bp bf pl re.tail fi MP) w w':=by
 obtain ⟨v0,c0,k0⟩:=h.s0
 obtain ⟨v2,c2,k2⟩:=h.s2
 have hgl:=h.rows.glt
 refine ⟨⟨⟨v0,(k.cell 0 (by omega)).trans c0,k.slB k0 h.n0⟩,⟨v,k.here,hv⟩,⟨v2,(k.cell 2 (by omega)).trans c2,k.slB k2 h.n2⟩,h.rows.kept (fun j j1 j2=>k.cell j (by omega)) k.fz (k.block g hgl h.rows.ne),h.words.kept (k.cell 8 (by omega)) (k.cell 9 (by omega)) (fun x hx=>k.block x (h.words.foot hx).1 (h.words.foot hx).2),h.n0,h.n1,h.n2,h.d0,fun z=>h.d1 (tail_ne z),h.d2,h.dg⟩,k.moves (Or.inl rfl) ?_⟩
 rintro x (hx|hx|hx|hx|hx|hx)
 ·exact Or.inl hx
 ·exact Or.inr (Or.inl hx)
 ·exact Or.inr (Or.inr (Or.inl ⟨tail_ne hx.1,hx.2⟩))
 ·exact Or.inr (Or.inr (Or.inr (Or.inl hx)))
 ·exact Or.inr (Or.inr (Or.inr (Or.inr (Or.inl hx))))
 ·exact Or.inr (Or.inr (Or.inr (Or.inr (Or.inr hx))))
theorem Lies.fill (h:Lies w b pl re fi f g0 g1 g2 g cap R bp bf n MP MF A) {v:Value} (k:Cell1 b 2 w w' v) (hv:SlB w' v (u64s fi.tail) g2):
 Lies w' b pl re fi.tail f g0 g1 g2 g cap R bp bf n MP MF A∧Moves (Foot b g0 g1 g2 g bp bf pl re fi MP) (Foot b g0 g1 g2 g bp bf pl re fi.tail MP) w w':=by
 obtain ⟨v0,c0,k0⟩:=h.s0
 obtain ⟨v1,c1,k1⟩:=h.s1
 have hgl:=h.rows.glt
 refine ⟨⟨⟨v0,(k.cell 0 (by omega)).trans c0,k.slB k0 h.n0⟩,⟨v1,(k.cell 1 (by omega)).trans c1,k.slB k1 h.n1⟩,⟨v,k.here,hv⟩,h.rows.kept (fun j j1 j2=>k.cell j (by omega)) k.fz (k.block g hgl h.rows.ne),h.words.kept (k.cell 8 (by omega)) (k.cell 9 (by omega)) (fun x hx=>k.block x (h.words.foot hx).1 (h.words.foot hx).2),h.n0,h.n1,h.n2,h.d0,h.d1,fun z=>h.d2 (tail_ne z),h.dg⟩,k.moves (Or.inl rfl) ?_⟩
 rintro x (hx|hx|hx|hx|hx|hx)
 ·exact Or.inl hx
 ·exact Or.inr (Or.inl hx)
 ·exact Or.inr (Or.inr (Or.inl hx))
 ·exact Or.inr (Or.inr (Or.inr (Or.inl ⟨tail_ne hx.1,hx.2⟩)))
 ·exact Or.inr (Or.inr (Or.inr (Or.inr (Or.inl hx))))
 ·exact Or.inr (Or.inr (Or.inr (Or.inr (Or.inr hx))))
theorem took_bool {k gg:Nat} {l:List Bool} {v:Value} (hv:w.cell? ⟨b,k,none⟩=some v) (h:(l= []∧w'=w)∨∃v',w'=w.setCell ⟨b,k,none⟩ v'∧SlB w v' (bools l.tail) gg) (hs:SlB w v (bools l) gg) (hg:gg≠b):∃v',Cell1 b k w w' v'∧SlB w' v' (bools l.tail) gg:=by
 rcases h with ⟨rfl,rfl⟩|⟨v',rfl,h⟩
 ·exact ⟨v,Cell1.start hv,hs⟩
 ·exact ⟨v',Cell1.put hv,(Cell1.put (v':=v') hv).slB h hg⟩
theorem took_u64 {k gg:Nat} {l:List Nat} {v:Value} (hv:w.cell? ⟨b,k,none⟩=some v) (h:(l= []∧w'=w)∨∃v',w'=w.setCell ⟨b,k,none⟩ v'∧SlB w v' (u64s l.tail) gg) (hs:SlB w v (u64s l) gg) (hg:gg≠b):∃v',Cell1 b k w w' v'∧SlB w' v' (u64s l.tail) gg:=by
 rcases h with ⟨rfl,rfl⟩|⟨v',rfl,h⟩
 ·exact ⟨v,Cell1.start hv,hs⟩
 ·exact ⟨v',Cell1.put hv,(Cell1.put (v':=v') hv).slB h hg⟩
structure Fits (S:Sp) (K:Nat) (R:List (Nat×Nat)) (n:Nat) (MP MF:Nat→Nat) (A:Nat→Nat→Nat):Prop where
 wf:WF S
 chunk:∀p,S.st p=0↔S.st (p/512 * 512)=0
 zero:S.st 0=0
 at_:∀p j,j<1024→S.st p=2→S.wd (p * 8192+j * 8)=wordAt MP MF A p j
 non:∀p,S.st p≠2→MP p=0∧MF p=0
 pl:∀x∈S.places,x<18446744073709551616
 fi:∀x∈S.fills,x<18446744073709551616
 rl:R.length≤1+K
 nl:n≤2 * K
def VI:Inv:=fun w m S F K=>∃b g0 g1 g2 g cap R bp bf n MP MF A,m=⟨b,0,none⟩∧F=Foot b g0 g1 g2 g bp bf S.places S.refuse S.fills MP∧
 Lies w b S.places S.refuse S.fills S.st g0 g1 g2 g cap R bp bf n MP MF A∧Fits S K R n MP MF A
theorem VI.wf {w:World} {m:Addr} {S:Sp} {F:Nat→Prop} {K:Nat} (h:VI w m S F K):WF S:=by
 obtain ⟨b,g0,g1,g2,g,cap,R,bp,bf,n,MP,MF,A,_,_,_,k⟩:=h
 exact k.wf
theorem VI.lt {w:World} {m:Addr} {S:Sp} {F:Nat→Prop} {K:Nat} (h:VI w m S F K) (x:Nat) (hx:F x):x<w.heap.size:=by
 obtain ⟨b,g0,g1,g2,g,cap,R,bp,bf,n,MP,MF,A,_,rfl,l,k⟩:=h
 exact l.lt hx
theorem VI.kept {w w':World} {m:Addr} {S:Sp} {F:Nat→Prop} {K:Nat} (h:VI w m S F K) (hs:w.heap.size≤w'.heap.size) (hk:∀x,F x→w'.heap[x]? =w.heap[x]?):VI w' m S F K:=by
 obtain ⟨b,g0,g1,g2,g,cap,R,bp,bf,n,MP,MF,A,e,rfl,l,k⟩:=h
 exact ⟨b,g0,g1,g2,g,cap,R,bp,bf,n,MP,MF,A,e,rfl,l.kept hs hk,k⟩
theorem VI.below {w w':World} {m:Addr} {S:Sp} {F:Nat→Prop} {K:Nat} (h:VI w m S F K) (hk:Below w.heap.size w w'):Step VI F w w' m S K:=
 ⟨F,h.kept hk.size (fun x hx=>hk.block x (h.lt x hx)),⟨hk.os,hk.tape,hk.output,hk.size,fun x hx _=>hk.block x hx⟩,fun _ h=>Or.inl h⟩
theorem VI.step {w w':World} {F':Nat→Prop} {m:Addr} {S:Sp} {F:Nat→Prop} {K:Nat} (h:Moves F F' w w') (k:VI w' m S F' K):Step VI F w w' m S K:=
 ⟨F',k,⟨h.fr.os,h.fr.tape,h.fr.output,h.fr.size,h.fr.block⟩,h.new⟩
end Go.Proofs.YtdgdhnnakcncoaaGreatDoor.V
namespace Go.Proofs.YtdgdhnnakcncoaaGreatDoor.V
set_option maxHeartbeats 1600000
open Go.ChangeShapes Go.WideShapes Go.ChangeAt Go.RowKit Go.Proofs.Sp
theorem Moves.set {F F':Nat→Prop} {w w':World} (h:Moves F F' w w') {x k:Nat} (hx:w.heap.size≤x) (v:Value):Moves F F' w (w'.setCell ⟨x,k,none⟩ v):=
 ⟨⟨h.fr.os,h.fr.tape,h.fr.output,by simpa using h.fr.size,fun y hy hn=>by rw[Below.heap_setCell _ _ _ _ (by simp;omega)];exact h.fr.block y hy hn⟩,h.new⟩
theorem Fits.turn {S:Sp} {K K' n n' b bp bf:Nat} {w w':World} {R:List (Nat×Nat)} {MP MF MP' MF':Nat→Nat} {A A':Nat→Nat→Nat} {Z:Nat→Prop} {W:Nat→Nat→Nat} (wd':Nat→Nat) (h:Fits S K R n MP MF A) (k:WNow w w' b bp bf n' MP MF Z W MP' MF' A')
 (hz:∀p,S.st p≠2→Z p) (hwd:∀p j,j<1024→S.st p=2→wd' (p * 8192+j * 8)=W p j) (hn:n'≤2 * K') (hK:K≤K'):Fits {S with wd:=wd'} K' R n' MP' MF' A':=
 ⟨⟨h.wf.rising,h.wf.below,h.wf.mem,h.wf.le3⟩,h.chunk,h.zero,fun p j hj hp=>(hwd p j hj hp).trans (k.at_ p j hj).symm,fun p hp=>k.non p (hz p hp) (h.non p hp).1 (h.non p hp).2,h.pl,h.fi,by have:=h.rl;omega,hn⟩
theorem Fits.more {S:Sp} {K K' n:Nat} {R:List (Nat×Nat)} {MP MF:Nat→Nat} {A:Nat→Nat→Nat} (h:Fits S K R n MP MF A) (hK:K≤K'):Fits S K' R n MP MF A:=
 ⟨h.wf,h.chunk,h.zero,h.at_,h.non,h.pl,h.fi,by have:=h.rl;omega,by have:=h.nl;omega⟩
theorem VI.more {w:World} {m:Addr} {S:Sp} {F:Nat→Prop} {K K':Nat} (h:VI w m S F K) (hK:K≤K'):VI w m S F K':=by
 obtain ⟨b,g0,g1,g2,g,cap,R,bp,bf,n,MP,MF,A,e,e2,l,k⟩:=h
 exact ⟨b,g0,g1,g2,g,cap,R,bp,bf,n,MP,MF,A,e,e2,l,k.more hK⟩
end Go.Proofs.YtdgdhnnakcncoaaGreatDoor.V
namespace Go.Proofs.YtdgdhnnakcncoaaGreatDoor.V
set_option maxHeartbeats 1600000
open Go.ChangeShapes Go.WideShapes Go.ChangeAt Go.RowKit Go.Proofs.Sp
theorem row_all {f:Nat→Nat} {a c:Nat} {P:Nat→Prop}:(∀i,i<c→P (f (a+ i)))↔∀p,a≤p→p<a+c→P (f p):=
 ⟨fun h p h1 h2=>by have:=h (p - a) (by omega);rwa[show a+(p - a)=p by omega] at this,fun h i hi=>h _ (by omega) (by omega)⟩
end Go.Proofs.YtdgdhnnakcncoaaGreatDoor.V
namespace Go.Proofs.YtdgdhnnakcncoaaGreatDoor.V
set_option maxHeartbeats 1600000
open Go.ChangeShapes Go.WideShapes Go.ChangeAt Go.RowKit Go.Proofs.Sp
theorem Fits.asked {S:Sp} {K n:Nat} {R:List (Nat×Nat)} {MP MF:Nat→Nat} {A:Nat→Nat→Nat} (h:Fits S K R n MP MF A):Fits (takeRefuse S) K R n MP MF A:=⟨h.wf.refuse,h.chunk,h.zero,h.at_,h.non,h.pl,h.fi,h.rl,h.nl⟩
theorem Fits.placed {S:Sp} {K n:Nat} {R:List (Nat×Nat)} {MP MF:Nat→Nat} {A:Nat→Nat→Nat} (h:Fits S K R n MP MF A):Fits (takePlace S) K R n MP MF A:=⟨h.wf.place,h.chunk,h.zero,h.at_,h.non,fun x hx=>h.pl x (List.mem_of_mem_tail hx),h.fi,h.rl,h.nl⟩
theorem lay_fits {S:Sp} {K K' n q c:Nat} {R R':List (Nat×Nat)} {MP MF:Nat→Nat} {A:Nat→Nat→Nat} (h:Fits S K R n MP MF A) (hf:free S c q) (hc:c%512=0) (hR:R'.length≤R.length+2) (hK:K+2≤K'):Fits (lay S q c) K' R' n MP MF A:=by
 obtain ⟨f1,f2,f3,f4⟩:=hf
 have f5:=(row_all (P:=fun x=>x=0)).1 f4
 have rl:=h.rl
 have nl:=h.nl
 refine ⟨h.wf.lay ⟨f1,f2,f3,f4⟩,fun p=> ?_,?_,fun p j hj hp=> ?_,fun p hp=> ?_,h.pl,h.fi,by omega,by omega⟩
 ·show (if q≤p∧p<q+c then 1 else S.st p)=0↔(if q≤p/512 * 512∧p/512 * 512<q+c then 1 else S.st (p/512 * 512))=0
  by_cases z:q≤p∧p<q+c
  ·rw[if_pos z,if_pos (by omega)]
  ·rw[if_neg z,if_neg (by omega)];exact h.chunk p
 ·show (if q≤0∧0<q+c then 1 else S.st 0)=0
  rw[if_neg (by omega)];exact h.zero
 ·have hp:(if q≤p∧p<q+c then 1 else S.st p)=2:=hp
  by_cases z:q≤p∧p<q+c
  ·rw[if_pos z] at hp;cases hp
  ·rw[if_neg z] at hp;exact h.at_ p j hj hp
 ·have hp:(if q≤p∧p<q+c then 1 else S.st p)≠2:=hp
  by_cases z:q≤p∧p<q+c
  ·exact h.non p (by rw[f5 p z.1 z.2];decide)
  ·rw[if_neg z] at hp;exact h.non p hp
set_option maxRecDepth 100000 in
set_option maxHeartbeats 1000000 in
theorem vreserve {w:World} {m:Addr} {S:Sp} {F:Nat→Prop} {K:Nat} (a c:Int) (ha:two64 a) (hc:two64 c) (h:VI w m S F K) (hK:K≤lim):
 Calls Tryz.prog vm.reserve #[.pointer (some m), .int .u64 a, .int .u64 c] w fun e w'=>e= .returned (.tuple #[.int .u64 ((reserveS S a.toNat c.toNat).1:Nat), .int .i64 ((reserveS S a.toNat c.toNat).2.1:Nat)])∧Step VI F w w' m (reserveS S a.toNat c.toNat).2.2 (K+cost (reserveS S a.toNat c.toNat).2.1 c.toNat):=by
 have V:=hide h
 obtain ⟨b,g0,g1,g2,g,cap,R,bp,bf,n,MP,MF,A,rfl,e,l,k⟩:=h
 have h0:=ha.1
 have h1:=ha.2
 have c0:=hc.1
 have c1:=hc.2
 have rl:=k.rl
 have nl:=k.nl
 have hn:R.length≤1099511627777:=by unfold lim at hK;omega
 have L:=hide l
 have KF:=hide k
 have EF:=hide e
 obtain ⟨v1,v1c,v1s⟩:=l.s1
 have v1f:=l.rows.fz 1
 have S1:=hide v1s
 clear l k e rl nl ha hc v1s
 show Calls Tryz.prog 280 _ w _
 by_cases r:c.toNat=0∨c.toNat%512≠0∨134217728<c.toNat
 ·have hl:reserveS S a.toNat c.toNat=(0,1,S):=by
   unfold reserveS
   rw[if_pos r]
  rw[hl]
  have T:=hide ((V.out.more (K':=K+cost 1 c.toNat) (by omega)).below (Below.refl _ _))
  by_cases z0:c=0
  ·subst z0
   clear r hl
   go_enter Tryz.func280,Tryz.ntmps280
   go_wp2_with fail
   go_ret2
   exact ⟨rfl,T.out⟩
  ·have y0:(c==0)=false:=beq_eq_false_iff_ne.2 z0
   by_cases z1:c%512=0
   ·have y2:c>134217728:=by omega
    clear r hl
    go_enter Tryz.func280,Tryz.ntmps280
    go_wp2_with fail
    go_ret2
    exact ⟨rfl,T.out⟩
   ·have y1:(c%512 != 0)=true:=by rw[bne_iff_ne];exact z1
    clear r hl
    go_enter Tryz.func280,Tryz.ntmps280
    go_wp2_with fail
    go_ret2
    exact ⟨rfl,T.out⟩
 ·have cz:c≠0:=by omega
  have y0:(c==0)=false:=beq_eq_false_iff_ne.2 cz
  have z1:c%512=0:=by omega
  have y2:¬c>134217728:=by omega
  have cp:0<c:=by omega
  by_cases q:S.refuse.headD false=true
  ·have hl:reserveS S a.toNat c.toNat=(0,13,takeRefuse S):=by
    unfold reserveS
    rw[if_neg r,if_pos q]
   rw[hl]
   have Q:=hide (show S.refuse.head?.getD false=true by rw[←List.headD_eq_head?_getD];exact q)
   have FIN:Hid (∀w1 v',Cell1 b 1 w w1 v'→SlB w1 v' (bools S.refuse.tail) g1→Step VI F w w1 ⟨b,0,none⟩ (takeRefuse S) (K+cost 13 c.toNat)):=hide (by
    intro w1 v' k1 k2
    obtain ⟨l1,m1⟩:=L.out.refuse k1 k2
    rw[EF.out]
    exact VI.step m1 ⟨b,g0,g1,g2,g,cap,R,bp,bf,n,MP,MF,A,rfl,rfl,l1,KF.out.asked.more (by omega)⟩)
   obtain ⟨PO,hPO⟩:∃PO:World→Prop,PO=fun w'=>Step VI F w w' ⟨b,0,none⟩ (takeRefuse S) (K+cost 13 c.toNat):=⟨_,rfl⟩
   suffices Calls Tryz.prog 280 #[.pointer (some ⟨b,0,none⟩), .int .u64 a, .int .u64 c] w fun e w'=>e= .returned (.tuple #[.int .u64 0, .int .i64 13])∧PO w' by rw[hPO] at this;exact this
   have PE:=hide hPO
   clear q hl hPO r cz
   go_enter Tryz.func280,Tryz.ntmps280
   go_wp2_with fail
   refine (refused_core b g1 v1 S.refuse w v1c v1f S1.out).mono ?_
   rintro e w1 ⟨rfl,hT⟩
   rw[Q.out]
   have T:=hide hT
   clear hT
   go_wp2_with fail
   go_ret2
   refine ⟨rfl,?_⟩
   rw[PE.out]
   obtain ⟨v',k1,k2⟩:=took_bool v1c T.out S1.out L.out.n1
   exact FIN.out _ v' k1 k2
  ·have Q:=hide (show S.refuse.head?.getD false=false by rw[←List.headD_eq_head?_getD];simpa using q)
   cases z:placeA S a.toNat c.toNat with
   |none=>
    have hl:reserveS S a.toNat c.toNat=(0,13,takePlace (takeRefuse S)):=by
     unfold reserveS
     unfold placeA at z
     rw[if_neg r,if_neg q,z]
    rw[hl]
    have Z:=hide z
    have FIN:Hid (∀w1 v',Cell1 b 1 w w1 v'→SlB w1 v' (bools S.refuse.tail) g1→Lies w1 b S.places S.refuse.tail S.fills S.st g0 g1 g2 g cap R bp bf n MP MF A∧∀w2 v',Cell1 b 0 w1 w2 v'→SlB w2 v' (u64s S.places.tail) g0→Step VI F w w2 ⟨b,0,none⟩ (takePlace (takeRefuse S)) (K+cost 13 c.toNat)):=hide (by
     intro w1 v' k1 k2
     obtain ⟨l1,m1⟩:=L.out.refuse k1 k2
     refine ⟨l1,fun w2 v2 k3 k4=> ?_⟩
     obtain ⟨l2,m2⟩:=l1.place k3 k4
     rw[EF.out]
     exact VI.step (m1.trans m2) ⟨b,g0,g1,g2,g,cap,R,bp,bf,n,MP,MF,A,rfl,rfl,l2,KF.out.asked.placed.more (by omega)⟩)
    obtain ⟨PO,hPO⟩:∃PO:World→Prop,PO=fun w'=>Step VI F w w' ⟨b,0,none⟩ (takePlace (takeRefuse S)) (K+cost 13 c.toNat):=⟨_,rfl⟩
    suffices Calls Tryz.prog 280 #[.pointer (some ⟨b,0,none⟩), .int .u64 a, .int .u64 c] w fun e w'=>e= .returned (.tuple #[.int .u64 0, .int .i64 13])∧PO w' by rw[hPO] at this;exact this
    have PE:=hide hPO
    clear q hl hPO r cz z
    go_enter Tryz.func280,Tryz.ntmps280
    go_wp2_with fail
    refine (refused_core b g1 v1 S.refuse w v1c v1f S1.out).mono ?_
    rintro e w1 ⟨rfl,hT⟩
    rw[Q.out]
    obtain ⟨v',k1,k2⟩:=took_bool v1c hT S1.out L.out.n1
    have FI:=hide (FIN.out w1 v' k1 k2)
    clear hT k1 k2 v'
    go_wp2_with fail
    obtain ⟨v0,v0c,v0s⟩:=FI.out.1.s0
    refine (place_core b g g0 cap v0 R S a c h0 h1 cp (by omega) z1 (by omega) w1 FI.out.1.rows.listAt FI.out.1.rows.seg FI.out.1.rows.alt KF.out.chunk v0c (FI.out.1.rows.fz 0) v0s KF.out.pl FI.out.1.rows.ne L.out.n0).mono ?_
    rintro e w2 ⟨rfl,v',k1,k2⟩
    have FJ:=hide (FI.out.2 w2 v' k1 k2)
    rw[Z.out,opt2_none]
    clear k1 k2 v0c v0s
    go_wp2_with fail
    go_ret2
    refine ⟨rfl,?_⟩
    rw[PE.out]
    exact FJ.out
   |some x=>
    have hl:reserveS S a.toNat c.toNat=(x,0,lay (takePlace (takeRefuse S)) x c.toNat):=by
     unfold reserveS
     unfold placeA at z
     rw[if_neg r,if_neg q,z]
    rw[hl]
    have Z:=hide z
    have hf:free S c.toNat x:=or_free z
    have hf2:free (takePlace (takeRefuse S)) c.toNat x:=hf
    have x0:(0:Int)<(x:Int):=by have:=hf.2.1;omega
    have x1:(x:Int)+c≤34359738368:=by have:=hf.2.2.1;omega
    have FIN:Hid (∀w1 v',Cell1 b 1 w w1 v'→SlB w1 v' (bools S.refuse.tail) g1→Lies w1 b S.places S.refuse.tail S.fills S.st g0 g1 g2 g cap R bp bf n MP MF A∧∀w2 v',Cell1 b 0 w1 w2 v'→SlB w2 v' (u64s S.places.tail) g0→Lies w2 b S.places.tail S.refuse.tail S.fills S.st g0 g1 g2 g cap R bp bf n MP MF A∧
     ∀w3,SetPost b 3 g R (putSt S.st x (x+c.toNat) 1) w2 w3→Step VI F w w3 ⟨b,0,none⟩ (lay (takePlace (takeRefuse S)) x c.toNat) (K+cost 0 c.toNat)):=hide (by
     intro w1 v' k1 k2
     obtain ⟨l1,m1⟩:=L.out.refuse k1 k2
     refine ⟨l1,fun w2 v2 k3 k4=> ?_⟩
     obtain ⟨l2,m2⟩:=l1.place k3 k4
     refine ⟨l2,fun w3 k5=> ?_⟩
     obtain ⟨g',c',R',l3,hR,m3⟩:=l2.rowed k5
     rw[EF.out]
     exact VI.step ((m1.trans m2).trans m3) ⟨b,g0,g1,g2,g',c',R',bp,bf,n,MP,MF,A,rfl,rfl,l3,lay_fits KF.out.asked.placed hf2 (by omega) hR (by simp[cost];omega)⟩)
    obtain ⟨PO,hPO⟩:∃PO:World→Prop,PO=fun w'=>Step VI F w w' ⟨b,0,none⟩ (lay (takePlace (takeRefuse S)) x c.toNat) (K+cost 0 c.toNat):=⟨_,rfl⟩
    suffices Calls Tryz.prog 280 #[.pointer (some ⟨b,0,none⟩), .int .u64 a, .int .u64 c] w fun e w'=>e= .returned (.tuple #[.int .u64 (x:Int), .int .i64 0])∧PO w' by rw[hPO] at this;exact this
    have PE:=hide hPO
    clear q hl hPO r cz z hf hf2
    go_enter Tryz.func280,Tryz.ntmps280
    go_wp2_with fail
    refine (refused_core b g1 v1 S.refuse w v1c v1f S1.out).mono ?_
    rintro e w1 ⟨rfl,hT⟩
    rw[Q.out]
    obtain ⟨v',k1,k2⟩:=took_bool v1c hT S1.out L.out.n1
    have FI:=hide (FIN.out w1 v' k1 k2)
    clear hT k1 k2 v'
    go_wp2_with fail
    obtain ⟨v0,v0c,v0s⟩:=FI.out.1.s0
    refine (place_core b g g0 cap v0 R S a c h0 h1 cp (by omega) z1 (by omega) w1 FI.out.1.rows.listAt FI.out.1.rows.seg FI.out.1.rows.alt KF.out.chunk v0c (FI.out.1.rows.fz 0) v0s KF.out.pl FI.out.1.rows.ne L.out.n0).mono ?_
    rintro e w2 ⟨rfl,v',k1,k2⟩
    have FJ:=hide (FI.out.2 w2 v' k1 k2)
    rw[Z.out,opt2_some]
    clear k1 k2 v0c v0s
    go_wp2_with fail
    refine (set_core b 3 g cap R S.st (x:Int) ((x:Int)+c) 1 x0 (by omega) x1 (by omega) hn w2 FJ.out.1.rows).mono ?_
    rintro e w3 ⟨rfl,hS⟩
    rw[Int.toNat_natCast,show ((x:Int)+c).toNat=x+c.toNat by omega] at hS
    have FK:=hide (FJ.out.2 w3 hS)
    clear hS
    go_wp2_with fail
    go_ret2
    refine ⟨rfl,?_⟩
    rw[PE.out]
    exact FK.out
end Go.Proofs.YtdgdhnnakcncoaaGreatDoor.V
namespace Go.Proofs.YtdgdhnnakcncoaaGreatDoor.V
set_option maxHeartbeats 1600000
open Go.ChangeShapes Go.WideShapes Go.ChangeAt Go.RowKit Go.Proofs.Sp
structure FillAt (w wr:World) (b:Nat) (pl:List Nat) (re:List Bool) (fi:List Nat) (f:Nat→Nat) (g0 g1 g2 g cap:Nat) (R:List (Nat×Nat)) (bp bf n:Nat) (MP MF:Nat→Nat) (A:Nat→Nat→Nat) (p i ni:Nat) (MFi:Nat→Nat):Prop where
 lies:Lies wr b pl re (fi.drop i) f g0 g1 g2 g cap R bp bf ni MP MFi A
 moves:Moves (Foot b g0 g1 g2 g bp bf pl re fi MP) (Foot b g0 g1 g2 g bp bf pl re (fi.drop i) MP) w wr
 nle:ni≤n+ i
 at_:∀q j,j<1024→wordAt MP MFi A q j=if p≤q∧q<p+ i then fi.getD (q - p) 0 else wordAt MP MF A q j
 non:∀q,(q<p∨p+ i≤q)→MP q=0→MF q=0→MFi q=0
variable {w wr w1 w2:World} {b:Nat} {pl:List Nat} {re:List Bool} {fi:List Nat} {f:Nat→Nat} {g0 g1 g2 g cap:Nat} {R:List (Nat×Nat)} {bp bf n:Nat} {MP MF:Nat→Nat} {A:Nat→Nat→Nat} {p i ni:Nat} {MFi:Nat→Nat}
theorem FillAt.start (h:Lies w b pl re fi f g0 g1 g2 g cap R bp bf n MP MF A) (p:Nat):FillAt w w b pl re fi f g0 g1 g2 g cap R bp bf n MP MF A p 0 n MF:=
 ⟨h,Moves.refl _ _,Nat.le_refl _,fun q j _=>by rw[if_neg (by omega)],fun _ _ _ h=>h⟩
theorem FillAt.next (h:FillAt w wr b pl re fi f g0 g1 g2 g cap R bp bf n MP MF A p i ni MFi) {v:Value} (k:Cell1 b 2 wr w1 v) (hv:SlB w1 v (u64s (fi.drop i).tail) g2) {x:Nat} {MF':Nat→Nat} (hx:fi[i]? =some x)
 (kw:WNow w1 w2 b bp bf (ni+1) MP MFi (fun q=>q≠p+ i) (fun q j=>if q=p+ i then x else wordAt MP MFi A q j) MP MF' A):
 FillAt w w2 b pl re fi f g0 g1 g2 g cap R bp bf n MP MF A p (i+1) (ni+1) MF':=by
 obtain ⟨l1,m1⟩:=h.lies.fill k hv
 obtain ⟨l2,m2⟩:=l1.turn kw
 rw[List.tail_drop] at l2 m1 m2
 refine ⟨l2,h.moves.trans (m1.trans m2),by have:=h.nle;omega,fun q j hj=> ?_,fun q hq a c=> ?_⟩
 ·rw[kw.at_ q j hj]
  by_cases z:q=p+ i
  ·rw[if_pos z,if_pos (by omega),show q - p=i by omega,List.getD_eq_getElem?_getD,hx];rfl
  ·rw[if_neg z,h.at_ q j hj]
   by_cases y:p≤q∧q<p+ i
   ·rw[if_pos y,if_pos (by omega)]
   ·rw[if_neg y,if_neg (by omega)]
 ·exact (kw.non q (by omega) a (h.non q (by omega) a c)).2
theorem FillAt.stop (h:FillAt w wr b pl re fi f g0 g1 g2 g cap R bp bf n MP MF A p i ni MFi) (hi:fi.drop i= []) {e:Nat} (he:i≤e) (hz:∀q,p≤q→q<p+e→MP q=0∧MF q=0):FillAt w wr b pl re fi f g0 g1 g2 g cap R bp bf n MP MF A p e ni MFi:=by
 have hl:fi.length≤i:=List.drop_eq_nil_iff.1 hi
 have e2:fi.drop e= []:=List.drop_eq_nil_iff.2 (by omega)
 have l:=h.lies
 have m:=h.moves
 rw[hi] at l m
 refine ⟨by rw[e2];exact l,by rw[e2];exact m,by have:=h.nle;omega,fun q j hj=> ?_,fun q hq a c=>h.non q (by omega) a c⟩
 rw[h.at_ q j hj]
 by_cases y:p≤q∧q<p+ i
 ·rw[if_pos y,if_pos (by omega)]
 ·rw[if_neg y]
  by_cases z:p≤q∧q<p+e
  ·rw[if_pos z,List.getD_eq_getElem?_getD,List.getElem?_eq_none (by omega)]
   obtain ⟨a,c⟩:=hz q z.1 z.2
   simp[wordAt,a,c]
  ·rw[if_neg z]
theorem FillAt.free (h:FillAt w wr b pl re fi f g0 g1 g2 g cap R bp bf n MP MF A p i ni MFi) {q:Nat} (hq:p+ i≤q) (hz:MP q=0∧MF q=0):MP q=0∧MFi q=0:=⟨hz.1,h.non q (Or.inr hq) hz.1 hz.2⟩
theorem FillAt.same (h:FillAt w wr b pl re fi f g0 g1 g2 g cap R bp bf n MP MF A p i ni MFi) {v:Value} (k:Cell1 b 2 wr w1 v) (hv:SlB w1 v (u64s (fi.drop i).tail) g2) (hi:fi.drop i= []):FillAt w w1 b pl re fi f g0 g1 g2 g cap R bp bf n MP MF A p i ni MFi:=by
 obtain ⟨l1,m1⟩:=h.lies.fill k hv
 have e:(fi.drop i).tail=fi.drop i:=by rw[hi];rfl
 rw[e] at l1 m1
 exact ⟨l1,h.moves.trans m1,h.nle,h.at_,h.non⟩
set_option maxRecDepth 100000 in
set_option maxHeartbeats 1000000 in
theorem fill_core (b:Nat) (pl:List Nat) (re:List Bool) (fi:List Nat) (f:Nat→Nat) (g0 g1 g2 g cap:Nat) (R:List (Nat×Nat)) (bp bf n:Nat) (MP MF:Nat→Nat) (A:Nat→Nat→Nat) (w:World) (p e:Nat) (hpe:p≤e) (he:e≤34359738368) (hn:n≤4363686772736)
 (h:Lies w b pl re fi f g0 g1 g2 g cap R bp bf n MP MF A) (hz:∀q,p≤q→q<e→MP q=0∧MF q=0) (hfi:∀x∈fi,x<18446744073709551616):
 Calls Tryz.prog 238 #[.pointer (some ⟨b,0,none⟩), .int .u64 (p:Int), .int .u64 (e:Int)] w fun r w'=>r= .returned (.tuple #[])∧Hid (∃n' MF',FillAt w w' b pl re fi f g0 g1 g2 g cap R bp bf n MP MF A p (e - p) n' MF'):=by
 have H:=hide h
 have HZ:=hide hz
 have HF:=hide hfi
 clear h hz hfi
 obtain ⟨PO,hPO⟩:∃PO:World→Prop,PO=fun w'=>∃n' MF',FillAt w w' b pl re fi f g0 g1 g2 g cap R bp bf n MP MF A p (e - p) n' MF':=⟨_,rfl⟩
 suffices Calls Tryz.prog 238 #[.pointer (some ⟨b,0,none⟩), .int .u64 (p:Int), .int .u64 (e:Int)] w fun r w'=>r= .returned (.tuple #[])∧Hid (PO w') by rw[hPO] at this;exact this
 have PE:=hide hPO
 clear hPO
 go_enter Tryz.func238,Tryz.ntmps238
 go_wp2_with fail
 go_loopw [6] (fun iv wr=>∃(i ni:Nat) (MFi:Nat→Nat),iv= .int .u64 ((p+ i:Nat):Int)∧p+ i≤e∧Hid (FillAt w wr b pl re fi f g0 g1 g2 g cap R bp bf n MP MF A p i ni MFi)) (fun iv _=>e -(intOf iv).toNat)
 case atStart=>exact ⟨0,n,MF,rfl,hpe,hide (FillAt.start H.out p)⟩
 case round=>
  obtain ⟨i,ni,MFi,rfl,hi,hFA⟩:=hrel
  by_cases hlt:p+ i<e
  ·have d1:((p+ i:Nat):Int)<(e:Int):=by omega
   obtain ⟨v2,v2c,v2s⟩:=hFA.out.lies.s2
   have v2f:=hFA.out.lies.rows.fz 2
   have S2:=hide v2s
   clear v2s
   cases hd:fi[i]? with
   |none=>
    have e0:fi.drop i= []:=List.drop_eq_nil_iff.2 (List.getElem?_eq_none_iff.1 hd)
    have E0:=hide e0
    clear e0 hd
    go_wp2_with (go_at_call 285;refine (next_u64 b 2 g2 v2 (fi.drop i) _ v2c v2f S2.out).mono ?_;rintro r w1 ⟨rfl,hT⟩;obtain ⟨v',k1,k2⟩:=took_u64 v2c hT S2.out hFA.out.lies.n2;have F1:=hide (hFA.out.same k1 k2 E0.out);rw[E0.out];clear hT k1 k2)
    ((try simp only[Exit.inBlock,Exit.then]);refine bodyPost_ret (results_none rfl _ _ _) rfl ?_)
    refine ⟨rfl,hide ?_⟩
    rw[PE.out]
    exact ⟨ni,MFi,F1.out.stop E0.out (by omega) (fun q q1 q2=>HZ.out q q1 (by omega))⟩
   |some x=>
    obtain ⟨xl,xe⟩:=List.getElem?_eq_some_iff.1 hd
    have X:=hide (show (fi.drop i).head?.getD 0=x by rw[List.head?_drop,hd];rfl)
    have X2:=hide (show (!(fi.drop i).isEmpty)=true by rw[List.drop_eq_getElem_cons xl];rfl)
    have hx64:x<18446744073709551616:=HF.out x (xe▸List.getElem_mem xl)
    have HD:=hide hd
    have hnn:=hFA.out.nle
    clear hd xe xl
    go_wp2_with (first
     |(go_at_call 285;refine (next_u64 b 2 g2 v2 (fi.drop i) _ v2c v2f S2.out).mono ?_;rintro r w1 ⟨rfl,hT⟩;obtain ⟨v',k1,k2⟩:=took_u64 v2c hT S2.out hFA.out.lies.n2;have L1:=hide (hFA.out.lies.fill k1 k2).1;have C1:=hide (And.intro k1 k2);rw[X.out,X2.out];clear hT k1 k2))
    refine (wfill_core b bp bf ni (p+ i) x MP MFi A w1 L1.out.words (by omega) (by omega) hx64 (hFA.out.free (Nat.le_refl _) (HZ.out _ (by omega) hlt)).1 (hFA.out.free (Nat.le_refl _) (HZ.out _ (by omega) hlt)).2).mono ?_
    rintro r w2 ⟨rfl,hW⟩
    go_wp2_with fail
    obtain ⟨MF',kw⟩:=hW.out
    refine ⟨⟨i+1,ni+1,MF',?_,by omega,hide (hFA.out.next C1.out.1 C1.out.2 HD.out kw)⟩,by simp[intOf];omega⟩
    rw[show ((p+(i+1):Nat):Int)=(p:Int)+(i:Int)+1 by omega]
  ·have d1:¬((p+ i:Nat):Int)<(e:Int):=by omega
   have ei:i=e - p:=by omega
   go_wp2_with fail
   go_end0
   refine ⟨rfl,hide ?_⟩
   rw[PE.out]
   exact ⟨ni,MFi,ei▸hFA.out⟩
end Go.Proofs.YtdgdhnnakcncoaaGreatDoor.V
namespace Go.Proofs.YtdgdhnnakcncoaaGreatDoor.V
set_option maxHeartbeats 1600000
open Go.ChangeShapes Go.WideShapes Go.ChangeAt Go.RowKit Go.Proofs.Sp
theorem readyN_split (S:Sp) (page n:Nat):∀m,readyN S page (n+m)=readyN (readyN S page n) (page+n) m
 |0=>rfl
 |m+1=>by
  show readyOne (readyN S page (n+m)) (page+(n+m))=readyOne (readyN (readyN S page n) (page+n) m) (page+n+m)
  rw[readyN_split S page n m,Nat.add_assoc]
theorem readyN_id (S:Sp) (page:Nat):∀n,(∀i,i<n→S.st (page+ i)=2)→readyN S page n=S
 |0,_=>rfl
 |n+1,h=>by
  show readyOne (readyN S page n) (page+n)=S
  rw[readyN_id S page n (fun i hi=>h i (by omega))]
  unfold readyOne
  rw[if_pos (h n (by omega))]
theorem cover_none {f:Nat→Nat} {a e:Nat} {Ps:List (Nat×Nat×Nat)} (h:Cover f a Ps e):(Ps.any fun x=>((x.2.2:Int)==0))=false↔∀p,a≤p→p<e→f p≠0:=by
 rw[←h.all (fun s=>s≠0)]
 simp
structure CommitAt (w wr:World) (b:Nat) (S:Sp) (g0 g1 g2 g cap:Nat) (R:List (Nat×Nat)) (bp bf n:Nat) (MP:Nat→Nat) (A:Nat→Nat→Nat) (page c nk:Nat) (MFk:Nat→Nat):Prop where
 lies:Lies wr b S.places S.refuse (readyN S page (c - page)).fills S.st g0 g1 g2 g cap R bp bf nk MP MFk A
 moves:Moves (Foot b g0 g1 g2 g bp bf S.places S.refuse S.fills MP) (Foot b g0 g1 g2 g bp bf S.places S.refuse (readyN S page (c - page)).fills MP) w wr
 nle:nk≤n+(c - page)
 at_:∀p j,j<1024→(readyN S page (c - page)).st p=2→(readyN S page (c - page)).wd (p * 8192+j * 8)=wordAt MP MFk A p j
 non:∀p,(readyN S page (c - page)).st p≠2→MP p=0∧MFk p=0
 fi:∀x∈(readyN S page (c - page)).fills,x<18446744073709551616
variable {w wr w1 w2:World} {b:Nat} {S:Sp} {g0 g1 g2 g cap:Nat} {R:List (Nat×Nat)} {bp bf n:Nat} {MP MF:Nat→Nat} {A:Nat→Nat→Nat} {page c d nk K:Nat} {MFk:Nat→Nat}
theorem CommitAt.start (h:Lies w b S.places S.refuse S.fills S.st g0 g1 g2 g cap R bp bf n MP MF A) (k:Fits S K R n MP MF A) (page:Nat):CommitAt w w b S g0 g1 g2 g cap R bp bf n MP A page page n MF:=by
 have e:readyN S page (page - page)=S:=by rw[Nat.sub_self];rfl
 refine ⟨?_,?_,by omega,?_,?_,?_⟩<;>rw[e]
 ·exact h
 ·exact Moves.refl _ _
 ·exact k.at_
 ·exact k.non
 ·exact k.fi
theorem CommitAt.below (h:CommitAt w wr b S g0 g1 g2 g cap R bp bf n MP A page c nk MFk) (k:Below wr.heap.size wr w1):CommitAt w w1 b S g0 g1 g2 g cap R bp bf n MP A page c nk MFk:=
 ⟨h.lies.below k,h.moves.trans (Moves.below k),h.nle,h.at_,h.non,h.fi⟩
theorem CommitAt.step (hc:page≤c) (hd:c≤d):readyN S page (d - page)=readyN (readyN S page (c - page)) c (d - c):=by
 rw[show d - page=(c - page)+(d - c) by omega,readyN_split,show page+(c - page)=c by omega]
theorem CommitAt.st (hc:page≤c) {p:Nat} (hp:c≤p):(readyN S page (c - page)).st p=S.st p:=by
 rw[readyN_st,if_neg (by omega)]
theorem CommitAt.ready (h:CommitAt w wr b S g0 g1 g2 g cap R bp bf n MP A page c nk MFk) (hc:page≤c) (hd:c≤d) (hs:∀p,c≤p→p<d→S.st p=2):CommitAt w wr b S g0 g1 g2 g cap R bp bf n MP A page d nk MFk:=by
 have e:readyN S page (d - page)=readyN S page (c - page):=by
  rw[CommitAt.step hc hd]
  exact readyN_id _ _ _ (fun i hi=>by rw[CommitAt.st hc (by omega)];exact hs _ (by omega) (by omega))
 have nl:=h.nle
 refine ⟨?_,?_,by omega,?_,?_,?_⟩<;>rw[e]
 ·exact h.lies
 ·exact h.moves
 ·exact h.at_
 ·exact h.non
 ·exact h.fi
theorem CommitAt.fresh (h:CommitAt w wr b S g0 g1 g2 g cap R bp bf n MP A page c nk MFk) (hc:page≤c) (hd:c≤d) (hs:∀p,c≤p→p<d→S.st p=1):CommitAt w wr b S g0 g1 g2 g cap R bp bf n MP A page d nk MFk:=by
 have e:=CommitAt.step (S:=S) hc hd
 obtain ⟨e1,e2⟩:=readyN_new (readyN S page (c - page)) c (d - c) (fun i hi=>by rw[CommitAt.st hc (by omega)];exact hs _ (by omega) (by omega))
 have e3:=readyN_st (readyN S page (c - page)) c (d - c)
 rw[←e] at e1 e2 e3
 have nl:=h.nle
 refine ⟨by rw[e1];exact h.lies,by rw[e1];exact h.moves,by omega,fun p j hj hp=> ?_,fun p hp=> ?_,by rw[e1];exact h.fi⟩
 ·rw[e2,show (p * 8192+j * 8)/8192=p by omega]
  by_cases z:c≤p∧p<c+(d - c)
  ·rw[if_pos z]
   obtain ⟨a1,a2⟩:=h.non p (by rw[CommitAt.st hc z.1,hs p z.1 (by omega)];decide)
   simp[wordAt,a1,a2]
  ·rw[if_neg z]
   rw[e3,if_neg z] at hp
   exact h.at_ p j hj hp
 ·rw[e3] at hp
  by_cases z:c≤p∧p<c+(d - c)
  ·rw[if_pos z] at hp;exact absurd rfl hp
  ·rw[if_neg z] at hp;exact h.non p hp
theorem CommitAt.again {nf:Nat} {MF':Nat→Nat} (h:CommitAt w wr b S g0 g1 g2 g cap R bp bf n MP A page c nk MFk) (hc:page≤c) (hd:c≤d) (hs:∀p,c≤p→p<d→S.st p=3)
 (k:FillAt wr w1 b S.places S.refuse (readyN S page (c - page)).fills S.st g0 g1 g2 g cap R bp bf nk MP MFk A c (d - c) nf MF'):CommitAt w w1 b S g0 g1 g2 g cap R bp bf n MP A page d nf MF':=by
 have e:=CommitAt.step (S:=S) hc hd
 obtain ⟨e1,e2⟩:=readyN_again (readyN S page (c - page)) c (d - c) (fun i hi=>by rw[CommitAt.st hc (by omega)];exact hs _ (by omega) (by omega))
 have e3:=readyN_st (readyN S page (c - page)) c (d - c)
 rw[←e] at e1 e2 e3
 have nl:=h.nle
 have kl:=k.nle
 refine ⟨by rw[e1];exact k.lies,by rw[e1];exact h.moves.trans k.moves,by omega,fun p j hj hp=> ?_,fun p hp=> ?_,by rw[e1];exact fun x hx=>h.fi x (List.mem_of_mem_drop hx)⟩
 ·rw[e2,show (p * 8192+j * 8)/8192=p by omega,k.at_ p j hj]
  by_cases z:c≤p∧p<c+(d - c)
  ·rw[if_pos z,if_pos z]
  ·rw[if_neg z,if_neg z]
   rw[e3,if_neg z] at hp
   exact h.at_ p j hj hp
 ·rw[e3] at hp
  by_cases z:c≤p∧p<c+(d - c)
  ·rw[if_pos z] at hp;exact absurd rfl hp
  ·rw[if_neg z] at hp
   obtain ⟨a1,a2⟩:=h.non p hp
   exact ⟨a1,k.non p (by omega) a1 a2⟩
theorem commit_fits {K':Nat} {R':List (Nat×Nat)} (k:Fits S K R n MP MF A) (h:CommitAt w wr b S g0 g1 g2 g cap R bp bf n MP A page (page+c) nk MFk) (hs:∀q,page≤q→q<page+c→S.st q≠0) (hR:R'.length≤R.length+2) (hK:K+c+1≤K') (hc:0<c):
 Fits (readyN S page c) K' R' nk MP MFk A:=by
 have e:page+c - page=c:=by omega
 have st:=readyN_st S page c
 have ha:=h.at_
 have hn:=h.non
 have hf:=h.fi
 have nl:=h.nle
 rw[e] at ha hn hf nl
 have kl:=k.nl
 have kr:=k.rl
 have e0:∀q,(readyN S page c).st q=0↔S.st q=0:=fun q=>by
  rw[st]
  by_cases z:page≤q∧q<page+c
  ·rw[if_pos z];have:=hs q z.1 z.2;omega
  ·rw[if_neg z]
 refine ⟨k.wf.ready ((row_all (P:=fun x=>x≠0)).2 hs),fun p=> ?_,?_,ha,hn,?_,hf,by omega,by omega⟩
 ·rw[e0,e0];exact k.chunk p
 ·rw[e0];exact k.zero
 ·rw[(readyN_keeps S page c).2.1];exact k.pl
end Go.Proofs.YtdgdhnnakcncoaaGreatDoor.V
