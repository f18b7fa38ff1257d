/- Of the proof of HeapGrows: texts VVmZ, VCw, VVmKa. -/
import Derived.Test.YtdgdhnnakcncoaaGreatDoorJ55
import Derived.Test.YtdgdhnnakcncoaaGreatDoorJ03
import Derived.Test.YtdgdhnnakcncoaaGreatDoorJ52
import Derived.StillTailTactics
namespace Go.Proofs.YtdgdhnnakcncoaaGreatDoor.V
set_option maxHeartbeats 1600000
open Go.ChangeShapes Go.WideShapes Go.ChangeAt Go.RowKit Go.Proofs.Sp Go.Maps
set_option linter.unusedVariables false
set_option linter.unusedSimpArgs false
def WFoot (bp bf:Nat) (MP:Nat→Nat) (x:Nat):Prop:=x=bp∨x=bf∨∃q,MP q=x+1
structure WNow (w w':World) (b bp bf n:Nat) (MP MF:Nat→Nat) (Z:Nat→Prop) (W:Nat→Nat→Nat) (MP' MF':Nat→Nat) (A':Nat→Nat→Nat):Prop where
 wm:WordsM w' b bp bf n MP' MF' A'
 at_:∀p k,k<1024→wordAt MP' MF' A' p k=W p k
 fr:FrB (WFoot bp bf MP) w w'
 old:∀q,MP' q≠0→(∃r,MP r=MP' q)∨w.heap.size≤MP' q - 1
 non:∀q,Z q→MP q=0→MF q=0→MP' q=0∧MF' q=0
def WPost (w w':World) (b bp bf n:Nat) (MP MF:Nat→Nat) (Z:Nat→Prop) (W:Nat→Nat→Nat):Prop:=∃MP' MF' A',WNow w w' b bp bf n MP MF Z W MP' MF' A'
theorem WNow.refl {w:World} {b bp bf n:Nat} {MP MF:Nat→Nat} {A:Nat→Nat→Nat} (h:WordsM w b bp bf n MP MF A) (Z:Nat→Prop):WNow w w b bp bf n MP MF Z (wordAt MP MF A) MP MF A:=
 ⟨h,fun _ _ _=>rfl,FrB.refl _ _,fun q _=>Or.inl ⟨q,rfl⟩,fun _ _ a c=>⟨a,c⟩⟩
theorem WordsM.mono {w:World} {b bp bf n n':Nat} {MP MF:Nat→Nat} {A:Nat→Nat→Nat} (h:WordsM w b bp bf n MP MF A) (hn:n≤n'):WordsM w b bp bf n' MP MF A:=⟨h.c8,h.c9,h.mp.mono hn,h.mf.mono hn,h.arr,h.one,h.sep,h.ne⟩
theorem WordsM.foot {w:World} {b bp bf n:Nat} {MP MF:Nat→Nat} {A:Nat→Nat→Nat} (h:WordsM w b bp bf n MP MF A) {x:Nat} (hx:WFoot bp bf MP x):x<w.heap.size∧x≠b:=by
 rcases hx with rfl|rfl|⟨q,hq⟩
 ·exact ⟨h.mp.lt,h.ne.1⟩
 ·exact ⟨h.mf.lt,h.ne.2.1⟩
 ·have:=(h.arr q (by omega)).lt
  have s:=(h.sep q (by omega)).1
  rw[hq] at this s
  exact ⟨by omega,by omega⟩
theorem WNow.step {w w' w'':World} {b bp bf n n':Nat} {MP MF MP' MF' MP'' MF'':Nat→Nat} {A' A'':Nat→Nat→Nat} {Z Z':Nat→Prop} {W W':Nat→Nat→Nat} (h:WNow w w' b bp bf n MP MF Z W MP' MF' A') (k:WNow w' w'' b bp bf n' MP' MF' Z' W' MP'' MF'' A''):
 WNow w w'' b bp bf n' MP MF (fun q=>Z q∧Z' q) W' MP'' MF'' A'':=by
 refine ⟨k.wm,k.at_,?_,fun q hq=> ?_,fun q hz a c=> ?_⟩
 ·refine ⟨k.fr.os.trans h.fr.os,k.fr.tape.trans h.fr.tape,k.fr.output.trans h.fr.output,Nat.le_trans h.fr.size k.fr.size,fun x hx hn=> ?_⟩
  rw[k.fr.block x (Nat.lt_of_lt_of_le hx h.fr.size)]
  ·exact h.fr.block x hx hn
  ·intro z
   rcases z with rfl|rfl|⟨r,hr⟩
   ·exact hn (Or.inl rfl)
   ·exact hn (Or.inr (Or.inl rfl))
   ·rcases h.old r (by omega) with ⟨s,hs⟩|hs
    ·exact hn (Or.inr (Or.inr ⟨s,by omega⟩))
    ·omega
 ·rcases k.old q hq with ⟨r,hr⟩|hr
  ·rw[←hr]
   exact h.old r (by omega)
  ·exact Or.inr (Nat.le_trans h.fr.size hr)
 ·obtain ⟨a',c'⟩:=h.non q hz.1 a c
  exact k.non q hz.2 a' c'
theorem WNow.weak {w w':World} {b bp bf n n':Nat} {MP MF:Nat→Nat} {Z Z':Nat→Prop} {W W':Nat→Nat→Nat} {MP' MF':Nat→Nat} {A':Nat→Nat→Nat} (h:WNow w w' b bp bf n MP MF Z W MP' MF' A') (hn:n≤n') (hz:∀q,Z' q→Z q) (hw:∀p k,k<1024→W p k=W' p k):WNow w w' b bp bf n' MP MF Z' W' MP' MF' A':=
 ⟨h.wm.mono hn,fun p k hk=>(h.at_ p k hk).trans (hw p k hk),h.fr,h.old,fun q z=>h.non q (hz q z)⟩
theorem array_core (b bp bf n p:Nat) (MP MF:Nat→Nat) (A:Nat→Nat→Nat) (w:World) (h:WordsM w b bp bf n MP MF A) (hp:p<18446744073709551616) (hn:n≤4398046511104):
 Calls Tryz.prog 129 #[.pointer (some ⟨b,8,none⟩), .int .u64 (p:Int)] w fun e w'=>∃a MP' MF' A',e= .returned (.pointer (some ⟨a,0,none⟩))∧Hid (MP' p=a+1)∧Hid (WNow w w' b bp bf (n+1) MP MF (fun q=>q≠p) (wordAt MP MF A) MP' MF' A'):=by
 by_cases hz:MP p=0
 ·by_cases hx:MF p=0
  ·refine (array_zero b bp bf n p MP MF A w h hp hz hx hn).mono ?_
   rintro e w' ⟨rfl,h1,h2⟩
   refine ⟨w.heap.size,_,_,_,rfl,?_,hide ⟨h1,fun q k hk=> ?_,h2.mono (fun x _ e=>by rcases e with e|e;exact Or.inl e;exact Or.inr (Or.inl e)),fun q hq=> ?_,fun q hz a c=>⟨(if_neg hz).trans a,c⟩⟩⟩
   ·exact hide (if_pos rfl)
   ·unfold wordAt
    by_cases c:q=p
    ·subst c;simp[hz,hx]
    ·simp[c]
   ·by_cases c:q=p
    ·right;rw[if_pos c];omega
    ·left;exact ⟨q,by rw[if_neg c]⟩
  ·refine (array_fill b bp bf n p _ MP MF A w h hp hz rfl hx hn).mono ?_
   rintro e w' ⟨rfl,h1,h2⟩
   refine ⟨w.heap.size,_,_,_,rfl,?_,hide ⟨h1,fun q k hk=> ?_,h2.mono (fun x _ e=>by rcases e with e|e;exact Or.inl e;exact Or.inr (Or.inl e)),fun q hq=> ?_,fun q hz a c=>⟨(if_neg hz).trans a,(if_neg hz).trans c⟩⟩⟩
   ·exact hide (if_pos rfl)
   ·unfold wordAt
    by_cases c:q=p
    ·subst c;simp[hz]
    ·simp[c]
   ·by_cases c:q=p
    ·right;rw[if_pos c];omega
    ·left;exact ⟨q,by rw[if_neg c]⟩
 ·obtain ⟨a,ha⟩:∃a,MP p=a+1:=⟨MP p - 1,by omega⟩
  refine (array_has b bp bf n p a MP MF A w h hp ha).mono ?_
  rintro e w' ⟨rfl,hw⟩
  subst hw
  exact ⟨_,_,_,_,rfl,hide ha,hide ((WNow.refl h _).weak (by omega) (fun _ h=>h) (fun _ _ _=>rfl))⟩
theorem WNow.put {w w':World} {b bp bf n:Nat} {MP MF:Nat→Nat} {Z:Nat→Prop} {W:Nat→Nat→Nat} {MP' MF':Nat→Nat} {A':Nat→Nat→Nat} (h:WNow w w' b bp bf n MP MF Z W MP' MF' A') {p a:Nat} (ha:MP' p=a+1) {k:Nat} (hk:k<1024) (x:Nat) {f:Nat→Nat} {w'':World} (hf:∀j,j<1024→f j=if j=k then x else A' p j)
 (hw:w''=w'.setCell ⟨a,k,none⟩ (.int .u64 (x:Int))):WNow w w'' b bp bf n MP MF Z (fun q j=>if q=p∧j=k then x else W q j) MP' MF' (fun q=>if q=p then f else A' q):=by
 have ar:=h.wm.arr p (by omega)
 rw[ha,Nat.add_sub_cancel] at ar
 have sp:=h.wm.sep p (by omega)
 rw[ha,Nat.add_sub_cancel] at sp
 have nb:∀y,y≠a→w''.heap[y]? =w'.heap[y]? :=fun y hy=>by rw[hw];exact Below.heap_setCell _ _ _ _ (fun e=>hy (by simpa using e))
 refine ⟨⟨?_,?_,h.wm.mp.kept (nb bp (fun e=>sp.2.1 e.symm)),h.wm.mf.kept (nb bf (fun e=>sp.2.2 e.symm)),fun q hq=> ?_,h.wm.one,h.wm.sep,h.wm.ne⟩,fun q j hj=> ?_,?_,h.old,h.non⟩
 ·rw[World.cell?_of_block (nb b (fun e=>sp.1 e.symm))];exact h.wm.c8
 ·rw[World.cell?_of_block (nb b (fun e=>sp.1 e.symm))];exact h.wm.c9
 ·by_cases c:q=p
  ·subst c
   simp only[if_true]
   rw[ha,Nat.add_sub_cancel,hw]
   obtain ⟨arr,q1,q2,q3⟩:=ar.put k x hk
   exact ⟨arr,q1,q2,fun j hj=>by have:=q3 j hj;rw[this,hf j hj]⟩
  ·simp only[if_neg c]
   refine (h.wm.arr q hq).kept (nb _ (fun e=>c (h.wm.one q p hq (by omega))))
 ·have h0:=h.at_ q j hj
  unfold wordAt at h0 ⊢
  by_cases c:q=p
  ·subst c
   have:MP' q≠0:=by omega
   rw[if_neg this] at h0
   simp only[if_neg this,if_true,true_and]
   rw[hf j hj,h0]
  ·simp only[c,if_false,false_and]
   exact h0
 ·have:FrB (WFoot bp bf MP) w w'':=by
   rw[hw]
   refine h.fr.set ?_ _
   rcases h.old p (by omega) with ⟨r,hr⟩|hr
   ·exact Or.inl (Or.inr (Or.inr ⟨r,by show MP r=a+1;omega⟩))
   ·right;show _≤a;omega
  exact this
set_option maxRecDepth 100000 in
set_option maxHeartbeats 2000000 in
theorem wstore_core (b bp bf n:Nat) (MP MF:Nat→Nat) (A:Nat→Nat→Nat) (w:World) (h:WordsM w b bp bf n MP MF A) (hn:n≤4398046511104) (a:Int) (ha:0≤a) (ha':a<18446744073709551616) (x:Nat) (hx:x<18446744073709551616):
 Calls Tryz.prog 75 #[.pointer (some ⟨b,8,none⟩), .int .u64 a, .int .u64 (x:Int)] w fun e w'=>e= .returned (.tuple #[])∧Hid (WPost w w' b bp bf (n+1) MP MF (fun q=>q≠a.toNat/8192) (fun q j=>if q=a.toNat/8192∧j=a.toNat%8192/8 then x else wordAt MP MF A q j)):=by
 obtain ⟨p,hpe⟩:∃p:Nat,p=a.toNat/8192:=⟨_,rfl⟩
 obtain ⟨k,hke⟩:∃k:Nat,k=a.toNat%8192/8:=⟨_,rfl⟩
 have hp1:(a/8192:Int)=(p:Int):=by omega
 have hk1:(a%8192/8:Int)=(k:Int):=by omega
 have hk2:k<1024:=by omega
 have hpl:p<18446744073709551616:=by omega
 rw[←hpe,←hke]
 have HP:=hide hp1
 have HK:=hide hk1
 have hk3:(k:Int)<1024:=by omega
 have AC:=hide (array_core b bp bf n p MP MF A w h hpl hn)
 clear h hpe hke hp1 hk1
 go_enter Tryz.func75,Tryz.ntmps75
 go_wp2_with (first
  |(go_at_call 128;refine (split_core a ha ha' _).mono ?_;rintro e w' ⟨rfl,rfl⟩;rw[HP.out,HK.out])
  |(go_at_call 129;refine AC.out.mono ?_;rintro e w' ⟨y,MP',MF',A',rfl,hy,hN⟩;have hc:=(by have:=hN.out.wm.arr p (by rw[hy.out];omega);rw[hy.out,Nat.add_sub_cancel] at this;exact And.intro (this.cell k hk2) (this.fz k));obtain ⟨hc,hfz⟩:=hc))
 go_end0
 exact ⟨rfl,hide ⟨_,_,_,hN.out.put hy.out hk2 x (f:=fun j=>if j=k then x else A' p j) (fun _ _=>rfl) rfl⟩⟩
set_option maxHeartbeats 1000000 in
theorem wfill_core (b bp bf n p x:Nat) (MP MF:Nat→Nat) (A:Nat→Nat→Nat) (w:World) (h:WordsM w b bp bf n MP MF A) (hn:n≤4398046511104) (hp:p<18446744073709551616) (hx:x<18446744073709551616) (hz:MP p=0) (hz2:MF p=0):
 Calls Tryz.prog 286 #[.pointer (some ⟨b,8,none⟩), .int .u64 (p:Int), .int .u64 (x:Int)] w fun e w'=>e= .returned (.tuple #[])∧Hid (∃MF',WNow w w' b bp bf (n+1) MP MF (fun q=>q≠p) (fun q j=>if q=p then x else wordAt MP MF A q j) MP MF' A):=by
 have c9:=h.c9
 by_cases h0:x=0
 ·subst h0
  have FIN:Hid (∃MF',WNow w w b bp bf (n+1) MP MF (fun q=>q≠p) (fun q j=>if q=p then 0 else wordAt MP MF A q j) MP MF' A):=by
   refine hide ⟨MF,(WNow.refl h _).weak (by omega) (fun _ h=>h) (fun q k _=> ?_)⟩
   by_cases c:q=p
   ·subst c;rw[if_pos rfl];unfold wordAt;rw[if_pos hz,hz2]
   ·rw[if_neg c]
  clear h
  go_enter Tryz.func286,Tryz.ntmps286
  go_wp2_with fail
  go_end0
  exact ⟨rfl,FIN⟩
 ·obtain ⟨w2,hup,m2,g2⟩:=h.mf.put Tryz.underlying90 (by unfold maxLen;omega) p hp (v:= .int .u64 (x:Int)) (x:=x) (ps:=[]) rfl
  have bx:((x:Int) != 0)=true:=by rw[bne_iff_ne];omega
  have FIN:Hid (∃MF',WNow w w2 b bp bf (n+1) MP MF (fun q=>q≠p) (fun q j=>if q=p then x else wordAt MP MF A q j) MP MF' A):=by
   have hbl:=cell_lt c9
   have nb:∀y,y<w.heap.size→y≠bf→w2.heap[y]? =w.heap[y]? :=fun y hy hn=>g2.block y hy (by simpa using hn)
   refine hide ⟨_,⟨?_,?_,(h.mp.kept (nb bp h.mp.lt h.ne.2.2)).mono (by omega),m2,fun q hq=> ?_,h.one,h.sep,h.ne⟩,fun q j hj=> ?_,(FrB.grown g2).mono (fun x _ e=>Or.inr (Or.inl e)),fun q _=>Or.inl ⟨q,rfl⟩,fun q c a d=>⟨a,by rw[if_neg c];exact d⟩⟩
   ·rw[World.cell?_of_block (nb b hbl (fun e=>h.ne.2.1 e.symm))];exact h.c8
   ·rw[World.cell?_of_block (nb b hbl (fun e=>h.ne.2.1 e.symm))];exact h.c9
   ·have ar:=h.arr q hq
    exact ar.kept (nb _ ar.lt (h.sep q hq).2.2)
   ·unfold wordAt
    by_cases c:q=p
    ·subst c;simp[hz]
    ·simp[c]
  clear h m2 g2
  go_enter Tryz.func286,Tryz.ntmps286
  go_wp2_with fail
  go_end0
  exact ⟨rfl,FIN⟩
end Go.Proofs.YtdgdhnnakcncoaaGreatDoor.V
namespace Go.Proofs.YtdgdhnnakcncoaaGreatDoor.V
set_option maxHeartbeats 1600000
open Go.ChangeShapes Go.WideShapes Go.ChangeAt Go.RowKit Go.Proofs.Sp
structure CW (b o:Nat) (w wr:World) (C:Nat→Nat):Prop where
 os:wr.os=w.os
 tape:wr.tape=w.tape
 output:wr.output=w.output
 size:w.heap.size≤wr.heap.size
 block:∀x,x<w.heap.size→x≠b→wr.heap[x]? =w.heap[x]?
 cell:∀k,(k<o+1∨o+5≤k)→wr.cell? ⟨b,k,none⟩=w.cell? ⟨b,k,none⟩
 cnt:∀k,k<4→wr.cell? ⟨b,o+1+k,none⟩=some (.int .u64 (C k:Int))
 fz:∀k,wr.frozen? ⟨b,k,none⟩=w.frozen? ⟨b,k,none⟩
theorem CW.start {b o:Nat} {w:World} {C:Nat→Nat} (h:∀k,k<4→w.cell? ⟨b,o+1+k,none⟩=some (.int .u64 (C k:Int))):CW b o w w C:=
 ⟨rfl,rfl,rfl,Nat.le_refl _,fun _ _ _=>rfl,fun _ _=>rfl,h,fun _=>rfl⟩
theorem CW.below {b o:Nat} {w wr w':World} {C:Nat→Nat} (h:CW b o w wr C) (hb:b<w.heap.size) (k:Below wr.heap.size wr w'):CW b o w w' C:=by
 have hs:=h.size
 refine ⟨k.os.trans h.os,k.tape.trans h.tape,k.output.trans h.output,Nat.le_trans hs k.size,fun x hx hne=>by rw[k.block x (by omega)];exact h.block x hx hne,fun j hj=> ?_,fun j hj=> ?_,fun j=> ?_⟩
 ·rw[k.cell (p:=⟨b,j,none⟩) (show b<_ by omega)];exact h.cell j hj
 ·rw[k.cell (p:=⟨b,o+1+j,none⟩) (show b<_ by omega)];exact h.cnt j hj
 ·rw[k.frozen (p:=⟨b,j,none⟩) (show b<_ by omega)];exact h.fz j
theorem CW.put {b o:Nat} {w wr:World} {C:Nat→Nat} (h:CW b o w wr C) (k:Nat) (hk:k<4) (x:Nat):CW b o w (wr.setCell ⟨b,o+1+k,none⟩ (.int .u64 (x:Int))) (fun j=>if j=k then x else C j):=by
 refine ⟨h.os,h.tape,h.output,by simpa using h.size,fun y hy hne=> ?_,fun j hj=> ?_,fun j hj=> ?_,fun j=> ?_⟩
 ·rw[Below.heap_setCell _ _ _ _ (by simpa using hne)];exact h.block y hy hne
 ·rw[World.cell?_setCell_other _ _ _ _ (by intro e;cases e;omega)];exact h.cell j hj
 ·by_cases e:j=k
  ·subst e;rw[if_pos rfl];exact World.cell?_setCell_same _ _ _ (h.cnt j hj)
  ·rw[if_neg e,World.cell?_setCell_other _ _ _ _ (by intro e0;have:=congrArg Addr.off e0;simp at this;omega)];exact h.cnt j hj
 ·rw[World.frozen?_setCell];exact h.fz j
theorem CW.old {b o:Nat} {w wr:World} {C:Nat→Nat} (h:CW b o w wr C) {x k:Nat} (hx:x<w.heap.size) (hne:x≠b∨k<o+1∨o+5≤k):wr.cell? ⟨x,k,none⟩=w.cell? ⟨x,k,none⟩:=by
 by_cases e:x=b
 ·subst e;exact h.cell k (hne.resolve_left (fun z=>z rfl))
 ·exact World.cell?_of_block (h.block x hx e)
theorem CW.listAt {b o g cap:Nat} {w wr:World} {C:Nat→Nat} {R:List (Nat×Nat)} (h:CW b o w wr C) (hL:ListAt w b o g cap R) (hg:g≠b):ListAt wr b o g cap R:=
 ⟨by rw[h.old (cell_lt hL.list) (Or.inr (Or.inl (by omega)))];exact hL.list,fun i hi=>by rw[h.old (cell_lt (hL.first i hi)) (Or.inl hg)];exact hL.first i hi,fun i hi=>by rw[h.old (cell_lt (hL.state i hi)) (Or.inl hg)];exact hL.state i hi⟩
theorem CW.holds {b o g cap:Nat} {w wr:World} {C:Nat→Nat} {R:List (Nat×Nat)} (h:CW b o w wr C) (hL:HoldsR w g cap R) (hg:g≠b):HoldsR wr g cap R:=by
 obtain ⟨⟨cur,hr,ht⟩,hl⟩:=hL
 exact ⟨⟨cur,⟨by rw[h.block g (Array.getElem?_eq_some_iff.1 hr.heap).1 hg];exact hr.heap,hr.len,hr.cap⟩,ht⟩,hl⟩
structure RowsM (w:World) (b o g cap:Nat) (R:List (Nat×Nat)) (f:Nat→Nat):Prop where
 list:w.cell? ⟨b,o,none⟩=some (.slice (some ⟨g,0,none⟩) R.length cap)
 holds:HoldsR w g cap R
 cnt:∀k,k<4→w.cell? ⟨b,o+1+k,none⟩=some (.int .u64 (cntI f 0 34359738368 k:Nat))
 fz:∀k,w.frozen? ⟨b,k,none⟩=false
 seg:Seg f 0 R 34359738368
 alt:Alt R
 le3:∀p,f p≤3
 ne:g≠b
theorem RowsM.listAt {w:World} {b o g cap:Nat} {R:List (Nat×Nat)} {f:Nat→Nat} (h:RowsM w b o g cap R f):ListAt w b o g cap R:=by
 obtain ⟨⟨cur,hr,ht⟩,hl⟩:=h.holds
 have hc:=src_cells0 hr ht
 refine ⟨h.list,fun i hi=> ?_,fun i hi=> ?_⟩
 ·have:=hc _ _ (flat2_get R i hi).1
  rwa[addr_add0,Nat.zero_add] at this
 ·have:=hc _ _ (flat2_get R i hi).2
  rwa[addr_add0,Nat.zero_add] at this
theorem cnt_set (f:Nat→Nat) (first n s L k:Nat) (h:first+n≤L):cntI (putSt f first (first+n) s) 0 L k+cntI f first n k=cntI f 0 L k+ if s=k then n else 0:=by
 obtain ⟨t,rfl⟩:∃t,L=first+n+t:=⟨L -(first+n),by omega⟩
 rw[cntI_add,cntI_add,cntI_add (n:=first+n),cntI_add (n:=first),Nat.zero_add,Nat.zero_add]
 have e1:cntI (putSt f first (first+n) s) 0 first k=cntI f 0 first k:=by
  unfold cntI
  refine List.countP_congr fun p hp=> ?_
  have:=List.mem_range'_1.1 hp
  unfold putSt
  rw[if_neg (by omega)]
 have e2:cntI (putSt f first (first+n) s) first n k=if s=k then n else 0:=cntI_all fun p h1 h2=>by unfold putSt;rw[if_pos ⟨h1,h2⟩]
 have e3:cntI (putSt f first (first+n) s) (first+n) t k=cntI f (first+n) t k:=by
  unfold cntI
  refine List.countP_congr fun p hp=> ?_
  have:=List.mem_range'_1.1 hp
  unfold putSt
  rw[if_neg (by omega)]
 rw[e1,e2,e3]
 omega
theorem cntI_sub (f:Nat→Nat) (first n L k:Nat) (h:first+n≤L):cntI f first n k≤cntI f 0 L k:=by
 obtain ⟨t,rfl⟩:∃t,L=first+n+t:=⟨L -(first+n),by omega⟩
 rw[cntI_add,cntI_add,Nat.zero_add]
 omega
structure CState (f:Nat→Nat) (first e:Nat) (Ps:List (Nat×Nat×Nat)) (k c:Nat):Prop where
 rest:Cover f c (Ps.drop k) e
 fc:first≤c
theorem CState.next {f:Nat→Nat} {first e k c:Nat} {Ps:List (Nat×Nat×Nat)} (h:CState f first e Ps k c) (hk:k<Ps.length):Ps[k].1=c∧c<Ps[k].2.1∧Ps[k].2.1≤e∧(∀p,c≤p→p<Ps[k].2.1→f p=Ps[k].2.2)∧CState f first e Ps (k+1) Ps[k].2.1:=by
 have hr:=h.rest
 rw[List.drop_eq_getElem_cons hk] at hr
 obtain ⟨h1,h2,h3,h4⟩:=hr
 exact ⟨h1,h2,h4.le,h3,⟨h4,by have:=h.fc;omega⟩⟩
theorem taken {f:Nat→Nat} {first c d s k:Nat} (hc:first≤c) (hd:c≤d) (hs:∀p,c≤p→p<d→f p=s):cntI f first (d - first) k=cntI f first (c - first) k+ if s=k then d - c else 0:=by
 have e:d - first=(c - first)+(d - c):=by omega
 rw[e,cntI_add,show first+(c - first)=c by omega,cntI_all (n:=d - c) fun p h1 h2=>hs p h1 (by omega)]
theorem CW.ext {b o:Nat} {w wr:World} {C C':Nat→Nat} (h:CW b o w wr C) (hc:∀j,j<4→C' j=C j):CW b o w wr C':=
 ⟨h.os,h.tape,h.output,h.size,h.block,h.cell,fun k hk=>by rw[hc k hk];exact h.cnt k hk,h.fz⟩
theorem u64_nat (x:Int) (n:Nat) (h:x=(n:Int)) (hn:n<18446744073709551616):Value.int .u64 (IntKind.u64.wrap x)= .int .u64 (n:Int):=by
 have e:IntKind.u64.wrap x=x%18446744073709551616:=rfl
 rw[e,h]
 congr 1
 omega
theorem cntI_lim (f:Nat→Nat) (k:Nat):cntI f 0 34359738368 k≤34359738368:=cntI_le f 0 34359738368 k
structure SetFr (b o g:Nat) (w w':World):Prop where
 os:w'.os=w.os
 tape:w'.tape=w.tape
 output:w'.output=w.output
 size:w.heap.size≤w'.heap.size
 block:∀x,x<w.heap.size→x≠b→x≠g→w'.heap[x]? =w.heap[x]?
 cell:∀k,(k<o∨o+5≤k)→w'.cell? ⟨b,k,none⟩=w.cell? ⟨b,k,none⟩
def SetPost (b o g:Nat) (R:List (Nat×Nat)) (f':Nat→Nat) (w w':World):Prop:=∃g' c' R',RowsM w' b o g' c' R' f'∧R'.length≤R.length+2∧(g'=g∨w.heap.size≤g')∧SetFr b o g w w'
theorem set_fin {b o g cap i j fr tt p q s:Nat} {R F1 F2:List (Nat×Nat)} {f:Nat→Nat} {w w1 w4 wX w7:World} {v':Value} (hM:RowsM w b o g cap R f) (hb:b<w.heap.size) (b1:Below w.heap.size w w1) (cw:CW b o w1 w4 (fun k=>cntI (putSt f p q s) 0 34359738368 k)) (bX:Below w4.heap.size w4 wX)
 (hpq:p<q) (hs3:s≤3) (hi:i<R.length) (i1:R[i].1≤p) (i2:p<startR R 34359738368 (i+1)) (hj:j<R.length) (j1:R[j].1<q) (j2:q≤startR R 34359738368 (j+1))
 (hfr:fr=if R[i].1<p then i+1 else i) (hF1:F1=if fr=0∨(R[fr - 1]?.map (·.2))≠some s then [(p,s)] else [])
 (hto:tt=if ¬q<startR R 34359738368 (j+1)∧(R[j+1]?.map (·.2))=some s then j+2 else j+1) (hF2:F2=if q<startR R 34359738368 (j+1)∧R[j].2≠s then [(q,R[j].2)] else [])
 (hN:Now wX w7 g v' (R.take fr++(F1++F2)++R.drop tt)):SetPost b o g R (putSt f p q s) w (w7.setCell ⟨b,o,none⟩ v'):=by
 obtain ⟨g',c',rfl,hh,hg,hloc⟩:=hN
 obtain ⟨sg,al,h1,h2⟩:=set_rows hM.seg hM.alt hpq hi i1 i2 hj j1 j2 fr hfr F1 hF1 tt hto F2 hF2
 have s1:=b1.size
 have s4:=cw.size
 have sX:=bX.size
 have s7:=hg.size
 have hb1:b<w1.heap.size:=by omega
 have hbX:b<wX.heap.size:=by omega
 have hgl:=(hM.holds.row.elim fun cur h=>(Array.getElem?_eq_some_iff.1 h.1.heap).1)
 have hgb:g'≠b:=by
  rcases hloc with rfl|h
  ·exact hM.ne
  ·omega
 have cb:∀k,w7.cell? ⟨b,k,none⟩=w4.cell? ⟨b,k,none⟩:=fun k=>by
  have e1:w7.cell? ⟨b,k,none⟩=wX.cell? ⟨b,k,none⟩:=World.cell?_of_block (hg.block b hbX (by simpa using hM.ne.symm))
  rw[e1,bX.cell (p:=⟨b,k,none⟩) (show b<w4.heap.size by omega)]
 have fb:∀k,w7.frozen? ⟨b,k,none⟩=false:=fun k=>by
  have e1:w7.frozen? ⟨b,k,none⟩=wX.frozen? ⟨b,k,none⟩:=World.frozen?_of_block (hg.block b hbX (by simpa using hM.ne.symm))
  rw[e1,bX.frozen (p:=⟨b,k,none⟩) (show b<w4.heap.size by omega),cw.fz,b1.frozen (p:=⟨b,k,none⟩) hb]
  exact hM.fz k
 have bh:∀x,x<w.heap.size→x≠b→x≠g→w7.heap[x]? =w.heap[x]? :=fun x hx hxb hxg=>by
  rw[hg.block x (by omega) (by simpa using hxg),bX.block x (by omega),cw.block x (by omega) hxb,b1.block x hx]
 have l1:F1.length≤1:=by rw[hF1];split<;>simp
 have l2:F2.length≤1:=by rw[hF2];split<;>simp
 refine ⟨g',c',_,⟨?_,?_,?_,?_,sg,al,?_,hgb⟩,?_,?_,⟨?_,?_,?_,?_,?_,?_⟩⟩
 ·exact World.cell?_setCell_same _ _ _ ((cb o).trans ((cw.cell o (Or.inl (by omega))).trans ((b1.cell (p:=⟨b,o,none⟩) hb).trans hM.list)))
 ·obtain ⟨⟨cur,hr,ht⟩,hl⟩:=hh
  exact ⟨⟨cur,⟨by rw[Below.heap_setCell _ _ _ _ (by simpa using hgb)];exact hr.heap,hr.len,hr.cap⟩,ht⟩,hl⟩
 ·intro k hk
  rw[World.cell?_setCell_other _ _ _ _ (by intro e;have:=congrArg Addr.off e;simp at this;omega),cb]
  exact cw.cnt k hk
 ·intro k
  rw[World.frozen?_setCell];exact fb k
 ·intro x
  unfold putSt
  split
  ·exact hs3
  ·exact hM.le3 x
 ·rw[List.length_append,List.length_append,List.length_append,List.length_take,List.length_drop];omega
 ·rcases hloc with h|h
  ·exact Or.inl h
  ·exact Or.inr (by omega)
 ·show w7.os=_
  rw[hg.os,bX.os,cw.os,b1.os]
 ·show w7.tape=_
  rw[hg.tape,bX.tape,cw.tape,b1.tape]
 ·show w7.output=_
  rw[hg.output,bX.output,cw.output,b1.output]
 ·simp;omega
 ·intro x hx hxb hxg
  rw[Below.heap_setCell _ _ _ _ (by simpa using hxb)]
  exact bh x hx hxb hxg
 ·intro k hk
  rw[World.cell?_setCell_other _ _ _ _ (by intro e;have:=congrArg Addr.off e;simp at this;omega),cb,cw.cell k (by omega),b1.cell (p:=⟨b,k,none⟩) hb]
theorem holds_below {w w':World} {g cap:Nat} {R:List (Nat×Nat)} (h:HoldsR w g cap R) (hb:Below w.heap.size w w'):HoldsR w' g cap R:=by
 obtain ⟨⟨cur,hr,ht⟩,hl⟩:=h
 exact ⟨⟨cur,⟨by rw[hb.block g (Array.getElem?_eq_some_iff.1 hr.heap).1];exact hr.heap,hr.len,hr.cap⟩,ht⟩,hl⟩
theorem now_cell {w w7:World} {g b k:Nat} {v:Value} {R:List (Nat×Nat)} (h:Now w w7 g v R) (hb:b<w.heap.size) (hne:g≠b):w7.cell? ⟨b,k,none⟩=w.cell? ⟨b,k,none⟩∧w7.frozen? ⟨b,k,none⟩=w.frozen? ⟨b,k,none⟩:=by
 obtain ⟨_,_,_,_,hg,_⟩:=h
 have:=hg.block b hb (by simpa using hne.symm)
 exact ⟨World.cell?_of_block this,World.frozen?_of_block this⟩
theorem now_form {w w7:World} {g:Nat} {v:Value} {R:List (Nat×Nat)} (h:Now w w7 g v R):∃g' c' n,v= .slice (some ⟨g',0,none⟩) n c':=by
 obtain ⟨g',c',h1,_⟩:=h
 exact ⟨g',c',_,h1⟩
def FreshB (w:World) (v:Value) (F:List (Nat×Nat)) (B:Nat):Prop:=(v= .slice none 0 0∧F= [])∨∃h c,v= .slice (some ⟨h,0,none⟩) F.length c∧B≤h∧0<F.length∧HoldsR w h c F
theorem FreshB.owns {w:World} {v:Value} {F:List (Nat×Nat)} {B:Nat} (h:FreshB w v F B):w.ownsRow 0 170 2 v F.length (flat2 F):=by
 rcases h with ⟨rfl,rfl⟩|⟨h,c,rfl,_,_,hh⟩
 ·exact World.ownsRow_nil _ _ _ _
 ·exact holds_own hh
theorem FreshB.alloc {w:World} {v:Value} {F:List (Nat×Nat)} {B:Nat} (h:FreshB w v F B) (ob:Obj):FreshB (w.alloc ob) v F B:=by
 rcases h with h|⟨h,c,h1,h2,h3,⟨cur,hr,ht⟩,hl⟩
 ·exact Or.inl h
 ·exact Or.inr ⟨h,c,h1,h2,h3,⟨cur,⟨by rw[Below.heap_alloc w ob h (Array.getElem?_eq_some_iff.1 hr.heap).1];exact hr.heap,hr.len,hr.cap⟩,ht⟩,hl⟩
theorem FreshB.push {w w':World} {v:Value} {F:List (Nat×Nat)} {B g1 cap1 H:Nat} {x:Int} {a s:Nat} (hF:FreshB w v F B) (ha:(a:Int)=x) (hown:w'.ownsRow 0 170 2 (.slice (some ⟨g1,0,none⟩) (F.length+1) cap1) (F.length+1) (flat2 F++ [.int .u64 x, .int .i64 (s:Int)])) (hloc:v.ownBlock=some g1∨g1=H) (hH:B≤H):
 FreshB w' (.slice (some ⟨g1,0,none⟩) (F.length+1) cap1) (F++ [(a,s)]) B:=by
 have e:flat2 (F++ [(a,s)])=flat2 F++ [.int .u64 (a:Int), .int .i64 (s:Int)]:=by simp[flat2]
 have el:(F++ [(a,s)]).length=F.length+1:=by simp
 have hh:HoldsR w' g1 cap1 (F++ [(a,s)]):=own_holds (b:=0) (by rw[e,el,ha];exact hown)
 refine Or.inr ⟨g1,cap1,by rw[el],?_,by rw[el];omega,hh⟩
 rcases hloc with h|h
 ·rcases hF with ⟨rfl,_⟩|⟨h',c,rfl,h2,_,_⟩
  ·simp[Value.ownBlock] at h
  ·simp[Value.ownBlock] at h;omega
 ·omega
theorem FreshB.below {w w' w4:World} {v:Value} {F:List (Nat×Nat)} {B:Nat} (hF:FreshB w v F B) (hg:w.grownBy w' v.ownBlock) (hb:Below B w4 w) (hB:B≤w.heap.size):Below B w4 w':=
 hb.grown hg hB (fun k hk=>by
  rcases hF with ⟨rfl,_⟩|⟨h',c,rfl,h2,_,_⟩
  ·simp[Value.ownBlock] at hk
  ·simp[Value.ownBlock] at hk;omega)
theorem FreshB.at {w:World} {v:Value} {F:List (Nat×Nat)} {B g:Nat} (hF:FreshB w v F B) (hg:g<B):FreshAt w v F g:=by
 rcases hF with h|⟨h',c,h1,h2,h3,h4⟩
 ·exact Or.inl h
 ·exact Or.inr ⟨h',c,h1,by omega,h3,h4⟩
theorem set_ready {b o g cap i j fr tt p q s:Nat} {R F1 F2:List (Nat×Nat)} {f C:Nat→Nat} {w w1 w4 wX:World} {v:Value} (hM:RowsM w b o g cap R f) (hb:b<w.heap.size) (b1:Below w.heap.size w w1) (cw:CW b o w1 w4 C) (bX:Below w4.heap.size w4 wX) (hn:R.length≤1099511627777)
 (hpq:p<q) (hi:i<R.length) (i1:R[i].1≤p) (i2:p<startR R 34359738368 (i+1)) (hj:j<R.length) (j1:R[j].1<q) (j2:q≤startR R 34359738368 (j+1))
 (hfr:fr=if R[i].1<p then i+1 else i) (hF1:F1=if fr=0∨(R[fr - 1]?.map (·.2))≠some s then [(p,s)] else [])
 (hto:tt=if ¬q<startR R 34359738368 (j+1)∧(R[j+1]?.map (·.2))=some s then j+2 else j+1) (hF2:F2=if q<startR R 34359738368 (j+1)∧R[j].2≠s then [(q,R[j].2)] else [])
 (hF:FreshB wX v (F1++F2) w4.heap.size):
 wX.cell? ⟨b,o,none⟩=some (.slice (some ⟨g,0,none⟩) R.length cap)∧wX.frozen? ⟨b,o,none⟩=false∧b<wX.heap.size∧
 Calls Tryz.prog 207 #[.slice (some ⟨g,0,none⟩) R.length cap, .int .i64 (fr:Int), .int .i64 (tt:Int),v] wX fun e w'=>∃v',e= .returned v'∧Now wX w' g v' (R.take fr++(F1++F2)++R.drop tt):=by
 obtain ⟨_,_,h1,h2⟩:=set_rows hM.seg hM.alt hpq hi i1 i2 hj j1 j2 fr hfr F1 hF1 tt hto F2 hF2
 have l1:F1.length≤1:=by rw[hF1];split<;>simp
 have l2:F2.length≤1:=by rw[hF2];split<;>simp
 clear hfr hF1 hto hF2
 have s1:=b1.size
 have s4:=cw.size
 have sX:=bX.size
 have h4:=cw.holds (holds_below hM.holds b1) hM.ne
 obtain ⟨cur,hcur⟩:=h4.row
 have hg4:g<w4.heap.size:=(Array.getElem?_eq_some_iff.1 hcur.1.heap).1
 have hb4:b<w4.heap.size:=by omega
 refine ⟨?_,?_,by omega,replace_core g cap v R (F1++F2) fr tt wX (holds_below h4 bX) h1 h2 (by omega) (by rw[List.length_append];omega) (hF.at hg4)⟩
 ·rw[bX.cell (p:=⟨b,o,none⟩) hb4,cw.cell o (Or.inl (by omega)),b1.cell (p:=⟨b,o,none⟩) hb];exact hM.list
 ·rw[bX.frozen (p:=⟨b,o,none⟩) hb4,cw.fz,b1.frozen (p:=⟨b,o,none⟩) hb];exact hM.fz o
end Go.Proofs.YtdgdhnnakcncoaaGreatDoor.V
