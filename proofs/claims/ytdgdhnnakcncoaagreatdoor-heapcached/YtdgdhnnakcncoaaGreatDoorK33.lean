/- Of the proof of HeapCached: texts VCw, VVmKa, VVmK. -/
import Derived.Test.YtdgdhnnakcncoaaGreatDoorK32
import Derived.Test.YtdgdhnnakcncoaaGreatDoorK03
import Derived.Test.YtdgdhnnakcncoaaGreatDoorK29
import Derived.StillTailTactics
import Derived.Deep.CutRange
import Derived.Deep.Cut
namespace Go.Proofs.YtdgdhnnakcncoaaGreatDoor.V
set_option maxHeartbeats 1600000
open Go.ChangeShapes Go.WideShapes Go.ChangeAt Go.RowKit Go.Proofs.Sp
structure CW (b o:Nat) (w wr:World) (C:Nat→Nat):Prop where
 os:wr.os=w.os
 tape:wr.tape=w.tape
 output:wr.output=w.output
 size:w.heap.size≤wr.heap.size
 block:∀x,x<w.heap.size→x≠b→wr.heap[x]? =w.heap[x]?
 cell:∀k,(k<o+1∨o+5≤k)→wr.cell? ⟨b,k,none⟩=w.cell? ⟨b,k,none⟩
 cnt:∀k,k<4→wr.cell? ⟨b,o+1+k,none⟩=some (.int .u64 (C k:Int))
 fz:∀k,wr.frozen? ⟨b,k,none⟩=w.frozen? ⟨b,k,none⟩
theorem CW.start {b o:Nat} {w:World} {C:Nat→Nat} (h:∀k,k<4→w.cell? ⟨b,o+1+k,none⟩=some (.int .u64 (C k:Int))):CW b o w w C:=
 ⟨rfl,rfl,rfl,Nat.le_refl _,fun _ _ _=>rfl,fun _ _=>rfl,h,fun _=>rfl⟩
theorem CW.below {b o:Nat} {w wr w':World} {C:Nat→Nat} (h:CW b o w wr C) (hb:b<w.heap.size) (k:Below wr.heap.size wr w'):CW b o w w' C:=by
 have hs:=h.size
 refine ⟨k.os.trans h.os,k.tape.trans h.tape,k.output.trans h.output,Nat.le_trans hs k.size,fun x hx hne=>by rw[k.block x (by omega)];exact h.block x hx hne,fun j hj=> ?_,fun j hj=> ?_,fun j=> ?_⟩
 ·rw[k.cell (p:=⟨b,j,none⟩) (show b<_ by omega)];exact h.cell j hj
 ·rw[k.cell (p:=⟨b,o+1+j,none⟩) (show b<_ by omega)];exact h.cnt j hj
 ·rw[k.frozen (p:=⟨b,j,none⟩) (show b<_ by omega)];exact h.fz j
theorem CW.put {b o:Nat} {w wr:World} {C:Nat→Nat} (h:CW b o w wr C) (k:Nat) (hk:k<4) (x:Nat):CW b o w (wr.setCell ⟨b,o+1+k,none⟩ (.int .u64 (x:Int))) (fun j=>if j=k then x else C j):=by
 refine ⟨h.os,h.tape,h.output,by simpa using h.size,fun y hy hne=> ?_,fun j hj=> ?_,fun j hj=> ?_,fun j=> ?_⟩
 ·rw[Below.heap_setCell _ _ _ _ (by simpa using hne)];exact h.block y hy hne
 ·rw[World.cell?_setCell_other _ _ _ _ (by intro e;cases e;omega)];exact h.cell j hj
 ·by_cases e:j=k
  ·subst e;rw[if_pos rfl];exact World.cell?_setCell_same _ _ _ (h.cnt j hj)
  ·rw[if_neg e,World.cell?_setCell_other _ _ _ _ (by intro e0;have:=congrArg Addr.off e0;simp at this;omega)];exact h.cnt j hj
 ·rw[World.frozen?_setCell];exact h.fz j
theorem CW.old {b o:Nat} {w wr:World} {C:Nat→Nat} (h:CW b o w wr C) {x k:Nat} (hx:x<w.heap.size) (hne:x≠b∨k<o+1∨o+5≤k):wr.cell? ⟨x,k,none⟩=w.cell? ⟨x,k,none⟩:=by
 by_cases e:x=b
 ·subst e;exact h.cell k (hne.resolve_left (fun z=>z rfl))
 ·exact World.cell?_of_block (h.block x hx e)
theorem CW.listAt {b o g cap:Nat} {w wr:World} {C:Nat→Nat} {R:List (Nat×Nat)} (h:CW b o w wr C) (hL:ListAt w b o g cap R) (hg:g≠b):ListAt wr b o g cap R:=
 ⟨by rw[h.old (cell_lt hL.list) (Or.inr (Or.inl (by omega)))];exact hL.list,fun i hi=>by rw[h.old (cell_lt (hL.first i hi)) (Or.inl hg)];exact hL.first i hi,fun i hi=>by rw[h.old (cell_lt (hL.state i hi)) (Or.inl hg)];exact hL.state i hi⟩
theorem CW.holds {b o g cap:Nat} {w wr:World} {C:Nat→Nat} {R:List (Nat×Nat)} (h:CW b o w wr C) (hL:HoldsR w g cap R) (hg:g≠b):HoldsR wr g cap R:=by
 obtain ⟨⟨cur,hr,ht⟩,hl⟩:=hL
 exact ⟨⟨cur,⟨by rw[h.block g (Array.getElem?_eq_some_iff.1 hr.heap).1 hg];exact hr.heap,hr.len,hr.cap⟩,ht⟩,hl⟩
structure RowsM (w:World) (b o g cap:Nat) (R:List (Nat×Nat)) (f:Nat→Nat):Prop where
 list:w.cell? ⟨b,o,none⟩=some (.slice (some ⟨g,0,none⟩) R.length cap)
 holds:HoldsR w g cap R
 cnt:∀k,k<4→w.cell? ⟨b,o+1+k,none⟩=some (.int .u64 (cntI f 0 34359738368 k:Nat))
 fz:∀k,w.frozen? ⟨b,k,none⟩=false
 seg:Seg f 0 R 34359738368
 alt:Alt R
 le3:∀p,f p≤3
 ne:g≠b
theorem RowsM.listAt {w:World} {b o g cap:Nat} {R:List (Nat×Nat)} {f:Nat→Nat} (h:RowsM w b o g cap R f):ListAt w b o g cap R:=by
 obtain ⟨⟨cur,hr,ht⟩,hl⟩:=h.holds
 have hc:=src_cells0 hr ht
 refine ⟨h.list,fun i hi=> ?_,fun i hi=> ?_⟩
 ·have:=hc _ _ (flat2_get R i hi).1
  rwa[addr_add0,Nat.zero_add] at this
 ·have:=hc _ _ (flat2_get R i hi).2
  rwa[addr_add0,Nat.zero_add] at this
theorem cnt_set (f:Nat→Nat) (first n s L k:Nat) (h:first+n≤L):cntI (putSt f first (first+n) s) 0 L k+cntI f first n k=cntI f 0 L k+ if s=k then n else 0:=by
 obtain ⟨t,rfl⟩:∃t,L=first+n+t:=⟨L -(first+n),by omega⟩
 rw[cntI_add,cntI_add,cntI_add (n:=first+n),cntI_add (n:=first),Nat.zero_add,Nat.zero_add]
 have e1:cntI (putSt f first (first+n) s) 0 first k=cntI f 0 first k:=by
  unfold cntI
  refine List.countP_congr fun p hp=> ?_
  have:=List.mem_range'_1.1 hp
  unfold putSt
  rw[if_neg (by omega)]
 have e2:cntI (putSt f first (first+n) s) first n k=if s=k then n else 0:=cntI_all fun p h1 h2=>by unfold putSt;rw[if_pos ⟨h1,h2⟩]
 have e3:cntI (putSt f first (first+n) s) (first+n) t k=cntI f (first+n) t k:=by
  unfold cntI
  refine List.countP_congr fun p hp=> ?_
  have:=List.mem_range'_1.1 hp
  unfold putSt
  rw[if_neg (by omega)]
 rw[e1,e2,e3]
 omega
theorem cntI_sub (f:Nat→Nat) (first n L k:Nat) (h:first+n≤L):cntI f first n k≤cntI f 0 L k:=by
 obtain ⟨t,rfl⟩:∃t,L=first+n+t:=⟨L -(first+n),by omega⟩
 rw[cntI_add,cntI_add,Nat.zero_add]
 omega
end Go.Proofs.YtdgdhnnakcncoaaGreatDoor.V
namespace Go.Proofs.YtdgdhnnakcncoaaGreatDoor.V
set_option maxHeartbeats 1600000
open Go.ChangeShapes Go.WideShapes Go.ChangeAt Go.RowKit Go.Proofs.Sp
structure CState (f:Nat→Nat) (first e:Nat) (Ps:List (Nat×Nat×Nat)) (k c:Nat):Prop where
 rest:Cover f c (Ps.drop k) e
 fc:first≤c
theorem CState.next {f:Nat→Nat} {first e k c:Nat} {Ps:List (Nat×Nat×Nat)} (h:CState f first e Ps k c) (hk:k<Ps.length):Ps[k].1=c∧c<Ps[k].2.1∧Ps[k].2.1≤e∧(∀p,c≤p→p<Ps[k].2.1→f p=Ps[k].2.2)∧CState f first e Ps (k+1) Ps[k].2.1:=by
 have hr:=h.rest
 rw[List.drop_eq_getElem_cons hk] at hr
 obtain ⟨h1,h2,h3,h4⟩:=hr
 exact ⟨h1,h2,h4.le,h3,⟨h4,by have:=h.fc;omega⟩⟩
theorem taken {f:Nat→Nat} {first c d s k:Nat} (hc:first≤c) (hd:c≤d) (hs:∀p,c≤p→p<d→f p=s):cntI f first (d - first) k=cntI f first (c - first) k+ if s=k then d - c else 0:=by
 have e:d - first=(c - first)+(d - c):=by omega
 rw[e,cntI_add,show first+(c - first)=c by omega,cntI_all (n:=d - c) fun p h1 h2=>hs p h1 (by omega)]
theorem CW.ext {b o:Nat} {w wr:World} {C C':Nat→Nat} (h:CW b o w wr C) (hc:∀j,j<4→C' j=C j):CW b o w wr C':=
 ⟨h.os,h.tape,h.output,h.size,h.block,h.cell,fun k hk=>by rw[hc k hk];exact h.cnt k hk,h.fz⟩
theorem u64_nat (x:Int) (n:Nat) (h:x=(n:Int)) (hn:n<18446744073709551616):Value.int .u64 (IntKind.u64.wrap x)= .int .u64 (n:Int):=by
 have e:IntKind.u64.wrap x=x%18446744073709551616:=rfl
 rw[e,h]
 congr 1
 omega
theorem cntI_lim (f:Nat→Nat) (k:Nat):cntI f 0 34359738368 k≤34359738368:=cntI_le f 0 34359738368 k
structure SetFr (b o g:Nat) (w w':World):Prop where
 os:w'.os=w.os
 tape:w'.tape=w.tape
 output:w'.output=w.output
 size:w.heap.size≤w'.heap.size
 block:∀x,x<w.heap.size→x≠b→x≠g→w'.heap[x]? =w.heap[x]?
 cell:∀k,(k<o∨o+5≤k)→w'.cell? ⟨b,k,none⟩=w.cell? ⟨b,k,none⟩
def SetPost (b o g:Nat) (R:List (Nat×Nat)) (f':Nat→Nat) (w w':World):Prop:=∃g' c' R',RowsM w' b o g' c' R' f'∧R'.length≤R.length+2∧(g'=g∨w.heap.size≤g')∧SetFr b o g w w'
theorem set_fin {b o g cap i j fr tt p q s:Nat} {R F1 F2:List (Nat×Nat)} {f:Nat→Nat} {w w1 w4 wX w7:World} {v':Value} (hM:RowsM w b o g cap R f) (hb:b<w.heap.size) (b1:Below w.heap.size w w1) (cw:CW b o w1 w4 (fun k=>cntI (putSt f p q s) 0 34359738368 k)) (bX:Below w4.heap.size w4 wX)
 (hpq:p<q) (hs3:s≤3) (hi:i<R.length) (i1:R[i].1≤p) (i2:p<startR R 34359738368 (i+1)) (hj:j<R.length) (j1:R[j].1<q) (j2:q≤startR R 34359738368 (j+1))
 (hfr:fr=if R[i].1<p then i+1 else i) (hF1:F1=if fr=0∨(R[fr - 1]?.map (·.2))≠some s then [(p,s)] else [])
 (hto:tt=if ¬q<startR R 34359738368 (j+1)∧(R[j+1]?.map (·.2))=some s then j+2 else j+1) (hF2:F2=if q<startR R 34359738368 (j+1)∧R[j].2≠s then [(q,R[j].2)] else [])
 (hN:Now wX w7 g v' (R.take fr++(F1++F2)++R.drop tt)):SetPost b o g R (putSt f p q s) w (w7.setCell ⟨b,o,none⟩ v'):=by
 obtain ⟨g',c',rfl,hh,hg,hloc⟩:=hN
 obtain ⟨sg,al,h1,h2⟩:=set_rows hM.seg hM.alt hpq hi i1 i2 hj j1 j2 fr hfr F1 hF1 tt hto F2 hF2
 have s1:=b1.size
 have s4:=cw.size
 have sX:=bX.size
 have s7:=hg.size
 have hb1:b<w1.heap.size:=by omega
 have hbX:b<wX.heap.size:=by omega
 have hgl:=(hM.holds.row.elim fun cur h=>(Array.getElem?_eq_some_iff.1 h.1.heap).1)
 have hgb:g'≠b:=by
  rcases hloc with rfl|h
  ·exact hM.ne
  ·omega
 have cb:∀k,w7.cell? ⟨b,k,none⟩=w4.cell? ⟨b,k,none⟩:=fun k=>by
  have e1:w7.cell? ⟨b,k,none⟩=wX.cell? ⟨b,k,none⟩:=World.cell?_of_block (hg.block b hbX (by simpa using hM.ne.symm))
  rw[e1,bX.cell (p:=⟨b,k,none⟩) (show b<w4.heap.size by omega)]
 have fb:∀k,w7.frozen? ⟨b,k,none⟩=false:=fun k=>by
  have e1:w7.frozen? ⟨b,k,none⟩=wX.frozen? ⟨b,k,none⟩:=World.frozen?_of_block (hg.block b hbX (by simpa using hM.ne.symm))
  rw[e1,bX.frozen (p:=⟨b,k,none⟩) (show b<w4.heap.size by omega),cw.fz,b1.frozen (p:=⟨b,k,none⟩) hb]
  exact hM.fz k
 have bh:∀x,x<w.heap.size→x≠b→x≠g→w7.heap[x]? =w.heap[x]? :=fun x hx hxb hxg=>by
  rw[hg.block x (by omega) (by simpa using hxg),bX.block x (by omega),cw.block x (by omega) hxb,b1.block x hx]
 have l1:F1.length≤1:=by rw[hF1];split<;>simp
 have l2:F2.length≤1:=by rw[hF2];split<;>simp
 refine ⟨g',c',_,⟨?_,?_,?_,?_,sg,al,?_,hgb⟩,?_,?_,⟨?_,?_,?_,?_,?_,?_⟩⟩
 ·exact World.cell?_setCell_same _ _ _ ((cb o).trans ((cw.cell o (Or.inl (by omega))).trans ((b1.cell (p:=⟨b,o,none⟩) hb).trans hM.list)))
 ·obtain ⟨⟨cur,hr,ht⟩,hl⟩:=hh
  exact ⟨⟨cur,⟨by rw[Below.heap_setCell _ _ _ _ (by simpa using hgb)];exact hr.heap,hr.len,hr.cap⟩,ht⟩,hl⟩
 ·intro k hk
  rw[World.cell?_setCell_other _ _ _ _ (by intro e;have:=congrArg Addr.off e;simp at this;omega),cb]
  exact cw.cnt k hk
 ·intro k
  rw[World.frozen?_setCell];exact fb k
 ·intro x
  unfold putSt
  split
  ·exact hs3
  ·exact hM.le3 x
 ·rw[List.length_append,List.length_append,List.length_append,List.length_take,List.length_drop];omega
 ·rcases hloc with h|h
  ·exact Or.inl h
  ·exact Or.inr (by omega)
 ·show w7.os=_
  rw[hg.os,bX.os,cw.os,b1.os]
 ·show w7.tape=_
  rw[hg.tape,bX.tape,cw.tape,b1.tape]
 ·show w7.output=_
  rw[hg.output,bX.output,cw.output,b1.output]
 ·simp;omega
 ·intro x hx hxb hxg
  rw[Below.heap_setCell _ _ _ _ (by simpa using hxb)]
  exact bh x hx hxb hxg
 ·intro k hk
  rw[World.cell?_setCell_other _ _ _ _ (by intro e;have:=congrArg Addr.off e;simp at this;omega),cb,cw.cell k (by omega),b1.cell (p:=⟨b,k,none⟩) hb]
theorem holds_below {w w':World} {g cap:Nat} {R:List (Nat×Nat)} (h:HoldsR w g cap R) (hb:Below w.heap.size w w'):HoldsR w' g cap R:=by
 obtain ⟨⟨cur,hr,ht⟩,hl⟩:=h
 exact ⟨⟨cur,⟨by rw[hb.block g (Array.getElem?_eq_some_iff.1 hr.heap).1];exact hr.heap,hr.len,hr.cap⟩,ht⟩,hl⟩
theorem now_cell {w w7:World} {g b k:Nat} {v:Value} {R:List (Nat×Nat)} (h:Now w w7 g v R) (hb:b<w.heap.size) (hne:g≠b):w7.cell? ⟨b,k,none⟩=w.cell? ⟨b,k,none⟩∧w7.frozen? ⟨b,k,none⟩=w.frozen? ⟨b,k,none⟩:=by
 obtain ⟨_,_,_,_,hg,_⟩:=h
 have:=hg.block b hb (by simpa using hne.symm)
 exact ⟨World.cell?_of_block this,World.frozen?_of_block this⟩
theorem now_form {w w7:World} {g:Nat} {v:Value} {R:List (Nat×Nat)} (h:Now w w7 g v R):∃g' c' n,v= .slice (some ⟨g',0,none⟩) n c':=by
 obtain ⟨g',c',h1,_⟩:=h
 exact ⟨g',c',_,h1⟩
def FreshB (w:World) (v:Value) (F:List (Nat×Nat)) (B:Nat):Prop:=(v= .slice none 0 0∧F= [])∨∃h c,v= .slice (some ⟨h,0,none⟩) F.length c∧B≤h∧0<F.length∧HoldsR w h c F
theorem FreshB.owns {w:World} {v:Value} {F:List (Nat×Nat)} {B:Nat} (h:FreshB w v F B):w.ownsRow 0 170 2 v F.length (flat2 F):=by
 rcases h with ⟨rfl,rfl⟩|⟨h,c,rfl,_,_,hh⟩
 ·exact World.ownsRow_nil _ _ _ _
 ·exact holds_own hh
theorem FreshB.alloc {w:World} {v:Value} {F:List (Nat×Nat)} {B:Nat} (h:FreshB w v F B) (ob:Obj):FreshB (w.alloc ob) v F B:=by
 rcases h with h|⟨h,c,h1,h2,h3,⟨cur,hr,ht⟩,hl⟩
 ·exact Or.inl h
 ·exact Or.inr ⟨h,c,h1,h2,h3,⟨cur,⟨by rw[Below.heap_alloc w ob h (Array.getElem?_eq_some_iff.1 hr.heap).1];exact hr.heap,hr.len,hr.cap⟩,ht⟩,hl⟩
theorem FreshB.push {w w':World} {v:Value} {F:List (Nat×Nat)} {B g1 cap1 H:Nat} {x:Int} {a s:Nat} (hF:FreshB w v F B) (ha:(a:Int)=x) (hown:w'.ownsRow 0 170 2 (.slice (some ⟨g1,0,none⟩) (F.length+1) cap1) (F.length+1) (flat2 F++ [.int .u64 x, .int .i64 (s:Int)])) (hloc:v.ownBlock=some g1∨g1=H) (hH:B≤H):
 FreshB w' (.slice (some ⟨g1,0,none⟩) (F.length+1) cap1) (F++ [(a,s)]) B:=by
 have e:flat2 (F++ [(a,s)])=flat2 F++ [.int .u64 (a:Int), .int .i64 (s:Int)]:=by simp[flat2]
 have el:(F++ [(a,s)]).length=F.length+1:=by simp
 have hh:HoldsR w' g1 cap1 (F++ [(a,s)]):=own_holds (b:=0) (by rw[e,el,ha];exact hown)
 refine Or.inr ⟨g1,cap1,by rw[el],?_,by rw[el];omega,hh⟩
 rcases hloc with h|h
 ·rcases hF with ⟨rfl,_⟩|⟨h',c,rfl,h2,_,_⟩
  ·simp[Value.ownBlock] at h
  ·simp[Value.ownBlock] at h;omega
 ·omega
theorem FreshB.below {w w' w4:World} {v:Value} {F:List (Nat×Nat)} {B:Nat} (hF:FreshB w v F B) (hg:w.grownBy w' v.ownBlock) (hb:Below B w4 w) (hB:B≤w.heap.size):Below B w4 w':=
 hb.grown hg hB (fun k hk=>by
  rcases hF with ⟨rfl,_⟩|⟨h',c,rfl,h2,_,_⟩
  ·simp[Value.ownBlock] at hk
  ·simp[Value.ownBlock] at hk;omega)
theorem FreshB.at {w:World} {v:Value} {F:List (Nat×Nat)} {B g:Nat} (hF:FreshB w v F B) (hg:g<B):FreshAt w v F g:=by
 rcases hF with h|⟨h',c,h1,h2,h3,h4⟩
 ·exact Or.inl h
 ·exact Or.inr ⟨h',c,h1,by omega,h3,h4⟩
theorem set_ready {b o g cap i j fr tt p q s:Nat} {R F1 F2:List (Nat×Nat)} {f C:Nat→Nat} {w w1 w4 wX:World} {v:Value} (hM:RowsM w b o g cap R f) (hb:b<w.heap.size) (b1:Below w.heap.size w w1) (cw:CW b o w1 w4 C) (bX:Below w4.heap.size w4 wX) (hn:R.length≤1099511627777)
 (hpq:p<q) (hi:i<R.length) (i1:R[i].1≤p) (i2:p<startR R 34359738368 (i+1)) (hj:j<R.length) (j1:R[j].1<q) (j2:q≤startR R 34359738368 (j+1))
 (hfr:fr=if R[i].1<p then i+1 else i) (hF1:F1=if fr=0∨(R[fr - 1]?.map (·.2))≠some s then [(p,s)] else [])
 (hto:tt=if ¬q<startR R 34359738368 (j+1)∧(R[j+1]?.map (·.2))=some s then j+2 else j+1) (hF2:F2=if q<startR R 34359738368 (j+1)∧R[j].2≠s then [(q,R[j].2)] else [])
 (hF:FreshB wX v (F1++F2) w4.heap.size):
 wX.cell? ⟨b,o,none⟩=some (.slice (some ⟨g,0,none⟩) R.length cap)∧wX.frozen? ⟨b,o,none⟩=false∧b<wX.heap.size∧
 Calls Tryz.prog 207 #[.slice (some ⟨g,0,none⟩) R.length cap, .int .i64 (fr:Int), .int .i64 (tt:Int),v] wX fun e w'=>∃v',e= .returned v'∧Now wX w' g v' (R.take fr++(F1++F2)++R.drop tt):=by
 obtain ⟨_,_,h1,h2⟩:=set_rows hM.seg hM.alt hpq hi i1 i2 hj j1 j2 fr hfr F1 hF1 tt hto F2 hF2
 have l1:F1.length≤1:=by rw[hF1];split<;>simp
 have l2:F2.length≤1:=by rw[hF2];split<;>simp
 clear hfr hF1 hto hF2
 have s1:=b1.size
 have s4:=cw.size
 have sX:=bX.size
 have h4:=cw.holds (holds_below hM.holds b1) hM.ne
 obtain ⟨cur,hcur⟩:=h4.row
 have hg4:g<w4.heap.size:=(Array.getElem?_eq_some_iff.1 hcur.1.heap).1
 have hb4:b<w4.heap.size:=by omega
 refine ⟨?_,?_,by omega,replace_core g cap v R (F1++F2) fr tt wX (holds_below h4 bX) h1 h2 (by omega) (by rw[List.length_append];omega) (hF.at hg4)⟩
 ·rw[bX.cell (p:=⟨b,o,none⟩) hb4,cw.cell o (Or.inl (by omega)),b1.cell (p:=⟨b,o,none⟩) hb];exact hM.list
 ·rw[bX.frozen (p:=⟨b,o,none⟩) hb4,cw.fz,b1.frozen (p:=⟨b,o,none⟩) hb];exact hM.fz o
end Go.Proofs.YtdgdhnnakcncoaaGreatDoor.V
namespace Go.Proofs.YtdgdhnnakcncoaaGreatDoor.V
set_option maxHeartbeats 1600000
open Go.ChangeShapes Go.WideShapes Go.ChangeAt Go.RowKit Go.Proofs.Sp
set_option maxRecDepth 100000 in
set_option maxHeartbeats 4000000 in
theorem set_core (b o g cap:Nat) (R:List (Nat×Nat)) (f:Nat→Nat) (p q:Int) (s:Nat) (hp:0<p) (hpq:p<q) (hq:q≤34359738368) (hs3:s≤3) (hn:R.length≤1099511627777) (w:World) (hM:RowsM w b o g cap R f):
 Calls Tryz.prog 150 #[.pointer (some ⟨b,o,none⟩), .int .u64 p, .int .u64 q, .int .i64 (s:Int)] w fun e w'=>e= .returned (.tuple #[])∧SetPost b o g R (putSt f p.toNat q.toNat s) w w':=by
 have hL:=hM.listAt
 have hseg:=hM.seg
 have hl:=hL.list
 have hbl:=cell_lt hl
 have HM:=hide hM
 have HL:=hide hL
 have hfz:=hM.fz
 clear hM hL
 go_enter Tryz.func150,Tryz.ntmps150
 go_wp2_with fail
 refine (parts_core b o g cap R f p q (by omega) hpq hq (by omega) w HL.out HM.out.seg).mono ?_
 rintro e w1 ⟨v,Ps,rfl,hP,hcov,hplen,hpb,b1⟩
 have hne:Ps≠ []:=by
  rintro rfl
  have:p.toNat=q.toNat:=hcov
  omega
 rcases hP with ⟨_,h0⟩|⟨gp,cp,rfl,hgp,hPc⟩
 ·exact absurd h0 hne
 have hgpw:w.heap.size≤gp:=hpb gp rfl
 have cw0:CW b o w1 w1 (fun k=>cntI f 0 34359738368 k - cntI f p.toNat (p.toNat - p.toNat) k):=CW.start fun k hk=>by
  rw[b1.cell (p:=⟨b,o+1+k,none⟩) hbl,HM.out.cnt k hk]
  have:cntI f p.toNat (p.toNat - p.toNat) k=0:=by rw[Nat.sub_self];rfl
  rw[this,Nat.sub_zero]
 have cs0:CState f p.toNat q.toNat Ps 0 p.toNat:=⟨by rw[List.drop_zero];exact hcov,Nat.le_refl _⟩
 have CW0:=hide cw0
 have CS0:=hide cs0
 have HP:=hide hPc
 have hb1:b<w1.heap.size:=Nat.lt_of_lt_of_le hbl b1.size
 have HFZ:=hide hfz
 clear cw0 cs0 hPc hcov hne hpb hfz hseg
 go_wp2_with fail
 go_loopw [20] (fun iv wr=>∃(k c:Nat),iv= .int .i64 (k:Int)∧k≤Ps.length∧Hid (CState f p.toNat q.toNat Ps k c)∧Hid (CW b o w1 wr (fun j=>cntI f 0 34359738368 j - cntI f p.toNat (c - p.toNat) j))) (fun iv _=>Ps.length -(intOf iv).toNat)
 case atStart=>exact ⟨0,p.toNat,rfl,Nat.zero_le _,CS0,CW0⟩
 case round=>
  obtain ⟨k,c,rfl,hk,hS,hC⟩:=hrel
  clear CS0 CW0
  by_cases hlt:k<Ps.length
  ·obtain ⟨s1,s2,s3,s4,nx⟩:=hS.out.next hlt
   obtain ⟨c1,c2,c3⟩:=HP.out k hlt
   have hngb:gp≠b:=by omega
   rw[←hC.out.old hgp (Or.inl hngb)] at c1 c2 c3
   obtain ⟨d,hd⟩:∃d,d=Ps[k].2.1:=⟨_,rfl⟩
   obtain ⟨t,ht⟩:∃t,t=Ps[k].2.2:=⟨_,rfl⟩
   rw[s1] at c1
   rw[←hd] at c2 s2 s3 s4 nx
   rw[←ht] at c3 s4
   have ht3:t≤3:=by rw[←s4 c (Nat.le_refl _) s2];exact HM.out.le3 c
   have NX:=hide nx
   have S4:=hide s4
   have hcn:=hC.out.cnt t (by omega)
   have hf0:wr.frozen? ⟨b,o+1+t,none⟩=false:=by rw[hC.out.fz,b1.frozen (p:=⟨b,o+1+t,none⟩) hbl];exact HFZ.out _
   obtain ⟨z,hz⟩:∃z,z=cntI f 0 34359738368 t - cntI f p.toNat (c - p.toNat) t:=⟨_,rfl⟩
   rw[←hz] at hcn
   have hbr:b<wr.heap.size:=Nat.lt_of_lt_of_le hb1 hC.out.size
   have HZ:=hide hz
   clear nx s4 s1 hd ht hz
   have ht0:(0:Int)≤(t:Int):=by omega
   have ht4:(t:Int)<4:=by omega
   go_wp2_with fail
   refine still_tail 16 (by kernel_rfl) (by kernel_rfl) ?_
   simp only[List.take_succ_cons,List.take_zero,List.drop_succ_cons,List.drop_zero]
   repeat still_step
   refine wpStill_nil ?_
   go_wp2_with fail
   refine ⟨⟨k+1,d,by go_num,by omega,NX,?_⟩,by simp[intOf];omega⟩
   have hz:=HZ.out
   have tk:=fun j=>taken (k:=j) hS.out.fc (Nat.le_of_lt s2) S4.out
   have tt:=tk t
   rw[if_pos rfl] at tt
   have sub:=cntI_sub f p.toNat (d - p.toNat) 34359738368 t (by have:=hS.out.fc;omega)
   have lim:=cntI_lim f t
   rw[u64_nat _ (z -(d - c)) (by omega) (by omega)]
   have cw:=((hC.out.put t (by omega) (z -(d - c))).below hb1 (((Below.refl _ _).alloc (Nat.le_refl _) (Obj.cells #[Value.int IntKind.u64 (c:Int),Value.int IntKind.u64 (d:Int),Value.int IntKind.i64 (t:Int)] 301)).drew))
   exact cw.ext fun j hj=>by
    by_cases e:j=t
    ·subst e;rw[if_pos rfl];omega
    ·rw[if_neg e]
     have:=tk j
     rw[if_neg (fun z=>e z.symm)] at this
     omega
  ·have hke:k=Ps.length:=by omega
   have hce:c=q.toNat:=by
    have:=hS.out.rest
    rw[hke,List.drop_length] at this
    exact this
   subst hke hce
   have hCW:=hC.out
   have hcn:=hCW.cnt s (by omega)
   have hf0:wr.frozen? ⟨b,o+1+s,none⟩=false:=by rw[hCW.fz,b1.frozen (p:=⟨b,o+1+s,none⟩) hbl];exact HFZ.out _
   obtain ⟨z,hz⟩:∃z,z=cntI f 0 34359738368 s - cntI f p.toNat (q.toNat - p.toNat) s:=⟨_,rfl⟩
   rw[←hz] at hcn
   have HZ:=hide hz
   have hbr:b<wr.heap.size:=Nat.lt_of_lt_of_le hb1 hCW.size
   clear hCW hz hS hk hlt
   have ht0:(0:Int)≤(s:Int):=by omega
   have ht4:(s:Int)<4:=by omega
   go_wp2_with fail
   refine still_tail 13 (by kernel_rfl) (by kernel_rfl) ?_
   simp only[List.take_succ_cons,List.take_zero,List.drop_succ_cons,List.drop_zero]
   repeat still_step
   refine wpStill_nil ?_
   go_wp2_with fail
   obtain ⟨w2,hw2,cw2⟩:∃w2,w2=(wr.setCell ⟨b,o+1+s,none⟩ (Value.int IntKind.u64 (IntKind.u64.wrap ((z:Int)+(q - p))))).drew∧CW b o w1 w2 (fun j=>cntI (putSt f p.toNat q.toNat s) 0 34359738368 j):=by
    refine ⟨_,rfl,?_⟩
    have hz:=HZ.out
    have cs:=fun j=>cnt_set f p.toNat (q.toNat - p.toNat) s 34359738368 j (by omega)
    rw[show p.toNat+(q.toNat - p.toNat)=q.toNat by omega] at cs
    have css:=cs s
    rw[if_pos rfl] at css
    have sub:=fun j=>cntI_sub f p.toNat (q.toNat - p.toNat) 34359738368 j (by omega)
    have lim:=cntI_lim (putSt f p.toNat q.toNat s) s
    have subs:=sub s
    rw[u64_nat _ (z+(q.toNat - p.toNat)) (by omega) (by omega)]
    have cw:=(hC.out.put s (by omega) (z+(q.toNat - p.toNat))).below hb1 (Below.refl _ _).drew
    refine cw.ext fun j hj=> ?_
    by_cases e:j=s
    ·subst e;rw[if_pos rfl];omega
    ·rw[if_neg e]
     have h1:=cs j
     have h2:=sub j
     rw[if_neg (fun z=>e z.symm)] at h1
     omega
   rw[←hw2]
   clear hw2 hcn hf0 HZ hC HP hgp
   obtain ⟨i,hi,i1,i2⟩:=HM.out.seg.at p.toNat (by omega) (by omega)
   obtain ⟨j,hj,j1,j2⟩:=HM.out.seg.at (q - 1).toNat (by omega) (by omega)
   have L2:=hide (cw2.listAt (HL.out.below b1) HM.out.ne)
   have I12:=hide (And.intro i1 i2)
   have J12:=hide (And.intro j1 j2)
   have CW2:=hide cw2
   clear cw2 i1 i2 j1 j2
   refine (at_core b o g cap R f p (by omega) (by omega) (by omega) w2 L2.out HM.out.seg i hi I12.out.1 I12.out.2).mono ?_
   rintro e w3 ⟨rfl,b3⟩
   go_wp2_with fail
   refine (at_core b o g cap R f (q - 1) (by omega) (by omega) (by omega) w3 (L2.out.below b3) HM.out.seg j hj J12.out.1 J12.out.2).mono ?_
   rintro e w4 ⟨rfl,b4⟩
   have cw4:=(CW2.out.below hb1 b3).below hb1 b4
   have l4:=cw4.listAt (HL.out.below b1) HM.out.ne
   have sj:=l4.state j hj
   have fi:=l4.first i hi
   have ll:=l4.list
   have ec:=end_core b o g cap R (j:Int) (by omega) (by omega) (by omega)
   rw[show ((j:Int).toNat+1)=j+1 by omega] at ec
   have EC:=hide ec
   have L4:=hide l4
   have CW4:=hide cw4
   clear cw4 l4 ec L2 CW2 b3 b4
   obtain ⟨sb,hsb⟩:∃sb,sb=R[j].2:=⟨_,rfl⟩
   obtain ⟨y,hy⟩:∃y,y=startR R 34359738368 (j+1):=⟨_,rfl⟩
   obtain ⟨fi1,hfi1⟩:∃fi1,fi1=R[i].1:=⟨_,rfl⟩
   rw[←hsb] at sj
   rw[←hfi1] at fi
   rw[←hy] at EC
   have HSB:=hide hsb
   have HY:=hide hy
   have HFI:=hide hfi1
   clear hsb hy hfi1
   have k0:(0:Int)≤(j:Int):=by omega
   have k1:(j:Int)<(R.length:Int):=by omega
   go_wp2_with fail
   generalize hu:(j:Int)+1=u
   have k2:IntKind.i64.wrap (u - 1)=(j:Int):=by rw[←hu,IntKind.wrap_i64];omega
   have HU:=hide hu
   clear hu
   go_region_held3 (fun w'=>w'.cell? ⟨b,o,none⟩=some (.slice (some ⟨g,0,none⟩) R.length cap)∧w'.cell? ⟨g,j * 2+1,none⟩=some (.int .i64 (sb:Int))) (go_keep) (first
    |(go_at_call 204;refine (EC.out _ (L4.out.drewN 1)).mono ?_;rintro e w' ⟨rfl,rfl⟩))
   rw[←HU.out]
   clear k2 HU EC
   go_upto_if 86 with fail
   go_cut [10] from 15 (fun s10 wc=>∃e:Nat,s10= .int .i64 ((e:Int)+1)∧wc=w4.drewN 1∧e<R.length∧Hid (e+1=if R[i].1<p.toNat then i+1 else i))
   case first=>
    by_cases hA:(fi1:Int)<p
    ·go_wp2_with fail
     go_meet
     case rel=>exact ⟨i,by go_num,rfl,hi,hide (by rw[←HFI.out,if_pos (by omega)])⟩
    ·have hi0:0<i:=by
      by_cases z:i=0
      ·subst z
       have:=HM.out.seg.start
       rw[startR_lt hi] at this
       have:=HFI.out
       omega
      ·omega
     go_wp2_with fail
     go_meet
     case rel=>exact ⟨i - 1,by rw[show ((i - 1:Nat):Int)+1=(i:Int) by omega],rfl,by omega,hide (by rw[←HFI.out,if_neg (by omega)];omega)⟩
   case rest=>
    obtain ⟨e,rfl,rfl,he,HE⟩:=hcut
    obtain ⟨ii,hii,hz0,hz1,hz2⟩:=info_parts infoR
    have se:=L4.out.state e he
    obtain ⟨sp,hsp⟩:∃sp,sp=R[e].2:=⟨_,rfl⟩
    rw[←hsp] at se
    have HSP:=hide hsp
    clear hsp
    have k3:(0:Int)≤(e:Int):=by omega
    have k4:(e:Int)<(R.length:Int):=by omega
    have k5:(((e:Int)+1)==0)=false:=beq_eq_false_iff_ne.2 (by omega)
    have hfr0:FreshB (w4.drewN 1) (.slice none 0 0) [] w4.heap.size:=Or.inl ⟨rfl,rfl⟩
    have FR0:=hide hfr0
    clear hfr0
    go_upto_if 103 with fail
    go_cut [14] from 15 (fun s14 wc=>∃F1:List (Nat×Nat),Below w4.heap.size w4 wc∧Hid (FreshB wc s14 F1 w4.heap.size)∧Hid (F1=if sp≠s then [(p.toNat,s)] else []))
    case first=>
     by_cases hB:sp=s
     ·have hB':((sp:Int) != (s:Int))=false:=by rw[hB];simp
      go_wp2_with fail
      go_meet
      case rel=>exact ⟨[],below_drewN (Below.refl _ _) 1,FR0,hide (by rw[if_neg (fun z=>z hB)])⟩
     ·have hB':((sp:Int) != (s:Int))=true:=by rw[bne_iff_ne];omega
      go_wp2_with (first|(at_builtin;refine wpList_append_lies _ rfl (.tmp 104) (.tmp 108) 84 rfl 0 170 ii _ 2 16 Tryz.underlying84 hii hz0 hz1 hz2 rfl (by decide) (.slice none 0 0) 0 [] rfl (World.ownsRow_nil _ _ _ _) ⟨w4.heap.size,0,none⟩ 1 1 [.int .u64 p, .int .i64 (s:Int)] rfl rfl (World.news_of_block (B:=w4.heap.size) (heap_alloc_new (w4.drewN 1) _)) (by simp[Value.oneCell']) (by decide) (by decide) (by decide) (Nat.zero_le _) _ rfl ?_;intro g1 cap1 w5 hown1 hgrow1 hat1 hlt1))
      have hfr1:FreshB ((w4.drewN 1).alloc (Obj.cells #[Value.int .u64 p,Value.int .i64 (s:Int)] 170)) (.slice none 0 0) [] w4.heap.size:=Or.inl ⟨rfl,rfl⟩
      have bel:Below w4.heap.size w4 w5:=FreshB.below hfr1 hgrow1 ((below_drewN (Below.refl _ _) 1).alloc (Nat.le_refl _) _) (by simp)
      have fr1:Hid (FreshB w5 (.slice (some ⟨g1,0,none⟩) (0+1) cap1) [(p.toNat,s)] w4.heap.size):=FreshB.push (F:=[]) (a:=p.toNat) hfr1 (by omega) hown1 hat1 (by simp)
      have e1:Hid ([(p.toNat,s)]=if sp≠s then [(p.toNat,s)] else []):=hide (by rw[if_pos hB])
      clear hown1 hgrow1 hat1 hlt1 hfr1
      go_meet
      case rel=>exact ⟨[(p.toNat,s)],bel,fr1,e1⟩
    case rest=>
     obtain ⟨F1,bc,HF1,HE1⟩:=hcut
     have hl1:F1.length≤1:=by rw[HE1.out];split<;>simp
     have hF1E:=hide (show F1=if e+1=0∨(R[e+1 - 1]?.map (·.2))≠some s then [(p.toNat,s)] else [] by
      rw[HE1.out,show e+1 - 1=e by omega,List.getElem?_eq_getElem he]
      by_cases z:sp=s
      ·rw[if_neg (fun x=>x z),if_neg (by rintro (x|x);omega;exact x (by simp[←HSP.out,z]))]
      ·rw[if_pos z,if_pos (Or.inr (by simp[←HSP.out];exact z))])
     have hwc:=bc.size
     clear FR0
     by_cases hr:q<(y:Int)
     ·have hr':decide (q<(y:Int))=true:=by simpa using hr
      rw[hr']
      clear hr'
      go_upto_if 115 with fail
      go_cut [14] from 15 (fun s14 wd=>∃F2:List (Nat×Nat),F2.length≤1∧Below w4.heap.size w4 wd∧Hid (FreshB wd s14 (F1++F2) w4.heap.size)∧Hid (F2=if q.toNat<startR R 34359738368 (j+1)∧R[j].2≠s then [(q.toNat,R[j].2)] else []))
      case first=>
       by_cases hC:sb=s
       ·have hC':((sb:Int) != (s:Int))=false:=by rw[hC];simp
        have e2:Hid (([]:List (Nat×Nat))=if q.toNat<startR R 34359738368 (j+1)∧R[j].2≠s then [(q.toNat,R[j].2)] else []):=hide (by rw[←HSB.out,if_neg (fun z=>z.2 hC)])
        have fr2:Hid (FreshB wc u14 (F1++ []) w4.heap.size):=by rw[List.append_nil];exact HF1
        go_wp2_with fail
        go_meet
        case rel=>exact ⟨[],by simp,bc,fr2,e2⟩
       ·have hC':((sb:Int) != (s:Int))=true:=by rw[bne_iff_ne];omega
        have hal:FreshB (wc.alloc (Obj.cells #[Value.int .u64 q,Value.int .i64 (sb:Int)] 170)) u14 F1 w4.heap.size:=HF1.out.alloc _
        have HAL:=hide hal
        have e2:Hid ([(q.toNat,sb)]=if q.toNat<startR R 34359738368 (j+1)∧R[j].2≠s then [(q.toNat,R[j].2)] else []):=hide (by rw[←HSB.out,←HY.out,if_pos ⟨by omega,hC⟩])
        clear hal
        go_wp2_with (first|(at_builtin;refine wpList_append_lies _ rfl (.tmp 116) (.tmp 120) 84 rfl 0 170 ii _ 2 16 Tryz.underlying84 hii hz0 hz1 hz2 rfl (by decide) u14 F1.length (flat2 F1) rfl HAL.out.owns ⟨wc.heap.size,0,none⟩ 1 1 [.int .u64 q, .int .i64 (sb:Int)] rfl rfl (World.news_of_block (B:=wc.heap.size) (heap_alloc_new wc _)) (by simp[Value.oneCell']) (by decide) (by unfold maxLen;omega) (by omega) (Nat.zero_le _) _ rfl ?_;intro g1 cap1 w5 hown1 hgrow1 hat1 hlt1))
        have bel:Below w4.heap.size w4 w5:=FreshB.below HAL.out hgrow1 (bc.alloc hwc _) (by simp;omega)
        have fr1:Hid (FreshB w5 (.slice (some ⟨g1,0,none⟩) (F1.length+1) cap1) (F1++ [(q.toNat,sb)]) w4.heap.size):=FreshB.push (a:=q.toNat) HAL.out (by omega) hown1 hat1 (by simp;omega)
        clear hown1 hgrow1 hat1 hlt1 HAL
        go_meet
        case rel=>exact ⟨[(q.toNat,sb)],by simp,bel,fr1,e2⟩
      case rest=>
       obtain ⟨F2,hl2,bd,HF2,HE2⟩:=hcut
       have hto:=hide (show j+1=if ¬q.toNat<startR R 34359738368 (j+1)∧(R[j+1]?.map (·.2))=some s then j+2 else j+1 by rw[←HY.out,if_neg (fun z=>z.1 (by omega))])
       obtain ⟨llx,fzx,bx,rc⟩:=set_ready HM.out hbl b1 CW4.out bd hn (p:=p.toNat) (q:=q.toNat) (s:=s) (by omega) hi I12.out.1 I12.out.2 hj (by have:=J12.out.1;omega) (by have:=J12.out.2;omega) HE.out hF1E.out hto.out HE2.out HF2.out
       have RC:=hide rc
       clear rc ll
       go_wp2_with fail
       rw[show (e:Int)+1=((e+1:Nat):Int) by omega,show (j:Int)+1=((j+1:Nat):Int) by omega]
       refine RC.out.mono ?_
       rintro ee w7 ⟨v7,rfl,hnow⟩
       obtain ⟨c7,f7⟩:=now_cell (k:=o) hnow bx HM.out.ne
       rw[llx] at c7
       rw[fzx] at f7
       obtain ⟨g7,cp7,n7,hv7⟩:=now_form hnow
       subst hv7
       have FIN:=hide (set_fin HM.out hbl b1 CW4.out bd (p:=p.toNat) (q:=q.toNat) (s:=s) (by omega) hs3 hi I12.out.1 I12.out.2 hj (by have:=J12.out.1;omega) (by have:=J12.out.2;omega) HE.out hF1E.out hto.out HE2.out hnow)
       clear RC hnow llx fzx
       go_wp2_with fail
       go_end0
       exact ⟨rfl,FIN.out⟩
     ·have hr':decide (q<(y:Int))=false:=by simpa using hr
      rw[hr']
      clear hr'
      have HE2:=hide (show ([]:List (Nat×Nat))=if q.toNat<startR R 34359738368 (j+1)∧R[j].2≠s then [(q.toNat,R[j].2)] else [] by rw[←HY.out,if_neg (fun z=>hr (by omega))])
      have HF2:Hid (FreshB wc u14 (F1++ []) w4.heap.size):=by rw[List.append_nil];exact HF1
      by_cases hl:j+1<R.length
      ·have sn:=L4.out.state (j+1) hl
       rw[←bc.cell (p:=⟨g,(j+1) * 2+1,none⟩) (cell_lt sn)] at sn
       obtain ⟨sx,hsx⟩:∃sx,sx=R[j+1].2:=⟨_,rfl⟩
       rw[←hsx] at sn
       have HSX:=hide hsx
       clear hsx
       have l1':(j:Int)+1<(R.length:Int):=by omega
       by_cases hD:sx=s
       ·have hD':((sx:Int)==(s:Int))=true:=by rw[hD];simp
        have hto:=hide (show j+2=if ¬q.toNat<startR R 34359738368 (j+1)∧(R[j+1]?.map (·.2))=some s then j+2 else j+1 by rw[←HY.out,List.getElem?_eq_getElem hl,if_pos ⟨by omega,by simp[←HSX.out,hD]⟩])
        obtain ⟨llx,fzx,bx,rc⟩:=set_ready HM.out hbl b1 CW4.out bc hn (p:=p.toNat) (q:=q.toNat) (s:=s) (by omega) hi I12.out.1 I12.out.2 hj (by have:=J12.out.1;omega) (by have:=J12.out.2;omega) HE.out hF1E.out hto.out HE2.out HF2.out
        have RC:=hide rc
        clear rc ll
        go_wp2_with fail
        rw[show (e:Int)+1=((e+1:Nat):Int) by omega,show (j:Int)+1+1=((j+2:Nat):Int) by omega]
        refine RC.out.mono ?_
        rintro ee w7 ⟨v7,rfl,hnow⟩
        obtain ⟨c7,f7⟩:=now_cell (k:=o) hnow bx HM.out.ne
        rw[llx] at c7
        rw[fzx] at f7
        obtain ⟨g7,cp7,n7,hv7⟩:=now_form hnow
        subst hv7
        have FIN:=hide (set_fin HM.out hbl b1 CW4.out bc (p:=p.toNat) (q:=q.toNat) (s:=s) (by omega) hs3 hi I12.out.1 I12.out.2 hj (by have:=J12.out.1;omega) (by have:=J12.out.2;omega) HE.out hF1E.out hto.out HE2.out hnow)
        clear RC hnow llx fzx
        go_wp2_with fail
        go_end0
        exact ⟨rfl,FIN.out⟩
       ·have hD':((sx:Int)==(s:Int))=false:=beq_eq_false_iff_ne.2 (by omega)
        have hto:=hide (show j+1=if ¬q.toNat<startR R 34359738368 (j+1)∧(R[j+1]?.map (·.2))=some s then j+2 else j+1 by rw[List.getElem?_eq_getElem hl,if_neg (fun z=>hD (by simpa [←HSX.out] using z.2))])
        obtain ⟨llx,fzx,bx,rc⟩:=set_ready HM.out hbl b1 CW4.out bc hn (p:=p.toNat) (q:=q.toNat) (s:=s) (by omega) hi I12.out.1 I12.out.2 hj (by have:=J12.out.1;omega) (by have:=J12.out.2;omega) HE.out hF1E.out hto.out HE2.out HF2.out
        have RC:=hide rc
        clear rc ll
        go_wp2_with fail
        rw[show (e:Int)+1=((e+1:Nat):Int) by omega,show (j:Int)+1=((j+1:Nat):Int) by omega]
        refine RC.out.mono ?_
        rintro ee w7 ⟨v7,rfl,hnow⟩
        obtain ⟨c7,f7⟩:=now_cell (k:=o) hnow bx HM.out.ne
        rw[llx] at c7
        rw[fzx] at f7
        obtain ⟨g7,cp7,n7,hv7⟩:=now_form hnow
        subst hv7
        have FIN:=hide (set_fin HM.out hbl b1 CW4.out bc (p:=p.toNat) (q:=q.toNat) (s:=s) (by omega) hs3 hi I12.out.1 I12.out.2 hj (by have:=J12.out.1;omega) (by have:=J12.out.2;omega) HE.out hF1E.out hto.out HE2.out hnow)
        clear RC hnow llx fzx
        go_wp2_with fail
        go_end0
        exact ⟨rfl,FIN.out⟩
      ·have l1':¬(j:Int)+1<(R.length:Int):=by omega
       have l2':decide ((j:Int)+1<(R.length:Int))=false:=by simpa using l1'
       have hto:=hide (show j+1=if ¬q.toNat<startR R 34359738368 (j+1)∧(R[j+1]?.map (·.2))=some s then j+2 else j+1 by rw[List.getElem?_eq_none (by omega),if_neg (fun z=>by simpa using z.2)])
       obtain ⟨llx,fzx,bx,rc⟩:=set_ready HM.out hbl b1 CW4.out bc hn (p:=p.toNat) (q:=q.toNat) (s:=s) (by omega) hi I12.out.1 I12.out.2 hj (by have:=J12.out.1;omega) (by have:=J12.out.2;omega) HE.out hF1E.out hto.out HE2.out HF2.out
       have RC:=hide rc
       clear rc ll
       go_wp2_with fail
       rw[show (e:Int)+1=((e+1:Nat):Int) by omega,show (j:Int)+1=((j+1:Nat):Int) by omega]
       refine RC.out.mono ?_
       rintro ee w7 ⟨v7,rfl,hnow⟩
       obtain ⟨c7,f7⟩:=now_cell (k:=o) hnow bx HM.out.ne
       rw[llx] at c7
       rw[fzx] at f7
       obtain ⟨g7,cp7,n7,hv7⟩:=now_form hnow
       subst hv7
       have FIN:=hide (set_fin HM.out hbl b1 CW4.out bc (p:=p.toNat) (q:=q.toNat) (s:=s) (by omega) hs3 hi I12.out.1 I12.out.2 hj (by have:=J12.out.1;omega) (by have:=J12.out.2;omega) HE.out hF1E.out hto.out HE2.out hnow)
       clear RC hnow llx fzx
       go_wp2_with fail
       go_end0
       exact ⟨rfl,FIN.out⟩
end Go.Proofs.YtdgdhnnakcncoaaGreatDoor.V
