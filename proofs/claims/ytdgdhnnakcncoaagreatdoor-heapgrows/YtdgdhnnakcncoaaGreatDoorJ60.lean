/- Of the proof of HeapGrows: texts VVmVc, VVmVd, VVmVe. -/
import Derived.Test.YtdgdhnnakcncoaaGreatDoorJ59
namespace Go.Proofs.YtdgdhnnakcncoaaGreatDoor.V
set_option maxHeartbeats 1600000
open Go.ChangeShapes Go.WideShapes Go.ChangeAt Go.RowKit Go.Proofs.Sp
structure FillAt (w wr:World) (b:Nat) (pl:List Nat) (re:List Bool) (fi:List Nat) (f:Nat→Nat) (g0 g1 g2 g cap:Nat) (R:List (Nat×Nat)) (bp bf n:Nat) (MP MF:Nat→Nat) (A:Nat→Nat→Nat) (p i ni:Nat) (MFi:Nat→Nat):Prop where
 lies:Lies wr b pl re (fi.drop i) f g0 g1 g2 g cap R bp bf ni MP MFi A
 moves:Moves (Foot b g0 g1 g2 g bp bf pl re fi MP) (Foot b g0 g1 g2 g bp bf pl re (fi.drop i) MP) w wr
 nle:ni≤n+ i
 at_:∀q j,j<1024→wordAt MP MFi A q j=if p≤q∧q<p+ i then fi.getD (q - p) 0 else wordAt MP MF A q j
 non:∀q,(q<p∨p+ i≤q)→MP q=0→MF q=0→MFi q=0
variable {w wr w1 w2:World} {b:Nat} {pl:List Nat} {re:List Bool} {fi:List Nat} {f:Nat→Nat} {g0 g1 g2 g cap:Nat} {R:List (Nat×Nat)} {bp bf n:Nat} {MP MF:Nat→Nat} {A:Nat→Nat→Nat} {p i ni:Nat} {MFi:Nat→Nat}
theorem FillAt.start (h:Lies w b pl re fi f g0 g1 g2 g cap R bp bf n MP MF A) (p:Nat):FillAt w w b pl re fi f g0 g1 g2 g cap R bp bf n MP MF A p 0 n MF:=
 ⟨h,Moves.refl _ _,Nat.le_refl _,fun q j _=>by rw[if_neg (by omega)],fun _ _ _ h=>h⟩
theorem FillAt.next (h:FillAt w wr b pl re fi f g0 g1 g2 g cap R bp bf n MP MF A p i ni MFi) {v:Value} (k:Cell1 b 2 wr w1 v) (hv:SlB w1 v (u64s (fi.drop i).tail) g2) {x:Nat} {MF':Nat→Nat} (hx:fi[i]? =some x)
 (kw:WNow w1 w2 b bp bf (ni+1) MP MFi (fun q=>q≠p+ i) (fun q j=>if q=p+ i then x else wordAt MP MFi A q j) MP MF' A):
 FillAt w w2 b pl re fi f g0 g1 g2 g cap R bp bf n MP MF A p (i+1) (ni+1) MF':=by
 obtain ⟨l1,m1⟩:=h.lies.fill k hv
 obtain ⟨l2,m2⟩:=l1.turn kw
 rw[List.tail_drop] at l2 m1 m2
 refine ⟨l2,h.moves.trans (m1.trans m2),by have:=h.nle;omega,fun q j hj=> ?_,fun q hq a c=> ?_⟩
 ·rw[kw.at_ q j hj]
  by_cases z:q=p+ i
  ·rw[if_pos z,if_pos (by omega),show q - p=i by omega,List.getD_eq_getElem?_getD,hx];rfl
  ·rw[if_neg z,h.at_ q j hj]
   by_cases y:p≤q∧q<p+ i
   ·rw[if_pos y,if_pos (by omega)]
   ·rw[if_neg y,if_neg (by omega)]
 ·exact (kw.non q (by omega) a (h.non q (by omega) a c)).2
theorem FillAt.stop (h:FillAt w wr b pl re fi f g0 g1 g2 g cap R bp bf n MP MF A p i ni MFi) (hi:fi.drop i= []) {e:Nat} (he:i≤e) (hz:∀q,p≤q→q<p+e→MP q=0∧MF q=0):FillAt w wr b pl re fi f g0 g1 g2 g cap R bp bf n MP MF A p e ni MFi:=by
 have hl:fi.length≤i:=List.drop_eq_nil_iff.1 hi
 have e2:fi.drop e= []:=List.drop_eq_nil_iff.2 (by omega)
 have l:=h.lies
 have m:=h.moves
 rw[hi] at l m
 refine ⟨by rw[e2];exact l,by rw[e2];exact m,by have:=h.nle;omega,fun q j hj=> ?_,fun q hq a c=>h.non q (by omega) a c⟩
 rw[h.at_ q j hj]
 by_cases y:p≤q∧q<p+ i
 ·rw[if_pos y,if_pos (by omega)]
 ·rw[if_neg y]
  by_cases z:p≤q∧q<p+e
  ·rw[if_pos z,List.getD_eq_getElem?_getD,List.getElem?_eq_none (by omega)]
   obtain ⟨a,c⟩:=hz q z.1 z.2
   simp[wordAt,a,c]
  ·rw[if_neg z]
theorem FillAt.free (h:FillAt w wr b pl re fi f g0 g1 g2 g cap R bp bf n MP MF A p i ni MFi) {q:Nat} (hq:p+ i≤q) (hz:MP q=0∧MF q=0):MP q=0∧MFi q=0:=⟨hz.1,h.non q (Or.inr hq) hz.1 hz.2⟩
theorem FillAt.same (h:FillAt w wr b pl re fi f g0 g1 g2 g cap R bp bf n MP MF A p i ni MFi) {v:Value} (k:Cell1 b 2 wr w1 v) (hv:SlB w1 v (u64s (fi.drop i).tail) g2) (hi:fi.drop i= []):FillAt w w1 b pl re fi f g0 g1 g2 g cap R bp bf n MP MF A p i ni MFi:=by
 obtain ⟨l1,m1⟩:=h.lies.fill k hv
 have e:(fi.drop i).tail=fi.drop i:=by rw[hi];rfl
 rw[e] at l1 m1
 exact ⟨l1,h.moves.trans m1,h.nle,h.at_,h.non⟩
set_option maxRecDepth 100000 in
set_option maxHeartbeats 1000000 in
theorem fill_core (b:Nat) (pl:List Nat) (re:List Bool) (fi:List Nat) (f:Nat→Nat) (g0 g1 g2 g cap:Nat) (R:List (Nat×Nat)) (bp bf n:Nat) (MP MF:Nat→Nat) (A:Nat→Nat→Nat) (w:World) (p e:Nat) (hpe:p≤e) (he:e≤34359738368) (hn:n≤4363686772736)
 (h:Lies w b pl re fi f g0 g1 g2 g cap R bp bf n MP MF A) (hz:∀q,p≤q→q<e→MP q=0∧MF q=0) (hfi:∀x∈fi,x<18446744073709551616):
 Calls Tryz.prog 238 #[.pointer (some ⟨b,0,none⟩), .int .u64 (p:Int), .int .u64 (e:Int)] w fun r w'=>r= .returned (.tuple #[])∧Hid (∃n' MF',FillAt w w' b pl re fi f g0 g1 g2 g cap R bp bf n MP MF A p (e - p) n' MF'):=by
 have H:=hide h
 have HZ:=hide hz
 have HF:=hide hfi
 clear h hz hfi
 obtain ⟨PO,hPO⟩:∃PO:World→Prop,PO=fun w'=>∃n' MF',FillAt w w' b pl re fi f g0 g1 g2 g cap R bp bf n MP MF A p (e - p) n' MF':=⟨_,rfl⟩
 suffices Calls Tryz.prog 238 #[.pointer (some ⟨b,0,none⟩), .int .u64 (p:Int), .int .u64 (e:Int)] w fun r w'=>r= .returned (.tuple #[])∧Hid (PO w') by rw[hPO] at this;exact this
 have PE:=hide hPO
 clear hPO
 go_enter Tryz.func238,Tryz.ntmps238
 go_wp2_with fail
 go_loopw [6] (fun iv wr=>∃(i ni:Nat) (MFi:Nat→Nat),iv= .int .u64 ((p+ i:Nat):Int)∧p+ i≤e∧Hid (FillAt w wr b pl re fi f g0 g1 g2 g cap R bp bf n MP MF A p i ni MFi)) (fun iv _=>e -(intOf iv).toNat)
 case atStart=>exact ⟨0,n,MF,rfl,hpe,hide (FillAt.start H.out p)⟩
 case round=>
  obtain ⟨i,ni,MFi,rfl,hi,hFA⟩:=hrel
  by_cases hlt:p+ i<e
  ·have d1:((p+ i:Nat):Int)<(e:Int):=by omega
   obtain ⟨v2,v2c,v2s⟩:=hFA.out.lies.s2
   have v2f:=hFA.out.lies.rows.fz 2
   have S2:=hide v2s
   clear v2s
   cases hd:fi[i]? with
   |none=>
    have e0:fi.drop i= []:=List.drop_eq_nil_iff.2 (List.getElem?_eq_none_iff.1 hd)
    have E0:=hide e0
    clear e0 hd
    go_wp2_with (go_at_call 285;refine (next_u64 b 2 g2 v2 (fi.drop i) _ v2c v2f S2.out).mono ?_;rintro r w1 ⟨rfl,hT⟩;obtain ⟨v',k1,k2⟩:=took_u64 v2c hT S2.out hFA.out.lies.n2;have F1:=hide (hFA.out.same k1 k2 E0.out);rw[E0.out];clear hT k1 k2)
    ((try simp only[Exit.inBlock,Exit.then]);refine bodyPost_ret (results_none rfl _ _ _) rfl ?_)
    refine ⟨rfl,hide ?_⟩
    rw[PE.out]
    exact ⟨ni,MFi,F1.out.stop E0.out (by omega) (fun q q1 q2=>HZ.out q q1 (by omega))⟩
   |some x=>
    obtain ⟨xl,xe⟩:=List.getElem?_eq_some_iff.1 hd
    have X:=hide (show (fi.drop i).head?.getD 0=x by rw[List.head?_drop,hd];rfl)
    have X2:=hide (show (!(fi.drop i).isEmpty)=true by rw[List.drop_eq_getElem_cons xl];rfl)
    have hx64:x<18446744073709551616:=HF.out x (xe▸List.getElem_mem xl)
    have HD:=hide hd
    have hnn:=hFA.out.nle
    clear hd xe xl
    go_wp2_with (first
     |(go_at_call 285;refine (next_u64 b 2 g2 v2 (fi.drop i) _ v2c v2f S2.out).mono ?_;rintro r w1 ⟨rfl,hT⟩;obtain ⟨v',k1,k2⟩:=took_u64 v2c hT S2.out hFA.out.lies.n2;have L1:=hide (hFA.out.lies.fill k1 k2).1;have C1:=hide (And.intro k1 k2);rw[X.out,X2.out];clear hT k1 k2))
    refine (wfill_core b bp bf ni (p+ i) x MP MFi A w1 L1.out.words (by omega) (by omega) hx64 (hFA.out.free (Nat.le_refl _) (HZ.out _ (by omega) hlt)).1 (hFA.out.free (Nat.le_refl _) (HZ.out _ (by omega) hlt)).2).mono ?_
    rintro r w2 ⟨rfl,hW⟩
    go_wp2_with fail
    obtain ⟨MF',kw⟩:=hW.out
    refine ⟨⟨i+1,ni+1,MF',?_,by omega,hide (hFA.out.next C1.out.1 C1.out.2 HD.out kw)⟩,by simp[intOf];omega⟩
    rw[show ((p+(i+1):Nat):Int)=(p:Int)+(i:Int)+1 by omega]
  ·have d1:¬((p+ i:Nat):Int)<(e:Int):=by omega
   have ei:i=e - p:=by omega
   go_wp2_with fail
   go_end0
   refine ⟨rfl,hide ?_⟩
   rw[PE.out]
   exact ⟨ni,MFi,ei▸hFA.out⟩
end Go.Proofs.YtdgdhnnakcncoaaGreatDoor.V
namespace Go.Proofs.YtdgdhnnakcncoaaGreatDoor.V
set_option maxHeartbeats 1600000
open Go.ChangeShapes Go.WideShapes Go.ChangeAt Go.RowKit Go.Proofs.Sp
theorem readyN_split (S:Sp) (page n:Nat):∀m,readyN S page (n+m)=readyN (readyN S page n) (page+n) m
 |0=>rfl
 |m+1=>by
  show readyOne (readyN S page (n+m)) (page+(n+m))=readyOne (readyN (readyN S page n) (page+n) m) (page+n+m)
  rw[readyN_split S page n m,Nat.add_assoc]
theorem readyN_id (S:Sp) (page:Nat):∀n,(∀i,i<n→S.st (page+ i)=2)→readyN S page n=S
 |0,_=>rfl
 |n+1,h=>by
  show readyOne (readyN S page n) (page+n)=S
  rw[readyN_id S page n (fun i hi=>h i (by omega))]
  unfold readyOne
  rw[if_pos (h n (by omega))]
theorem cover_none {f:Nat→Nat} {a e:Nat} {Ps:List (Nat×Nat×Nat)} (h:Cover f a Ps e):(Ps.any fun x=>((x.2.2:Int)==0))=false↔∀p,a≤p→p<e→f p≠0:=by
 rw[←h.all (fun s=>s≠0)]
 simp
structure CommitAt (w wr:World) (b:Nat) (S:Sp) (g0 g1 g2 g cap:Nat) (R:List (Nat×Nat)) (bp bf n:Nat) (MP:Nat→Nat) (A:Nat→Nat→Nat) (page c nk:Nat) (MFk:Nat→Nat):Prop where
 lies:Lies wr b S.places S.refuse (readyN S page (c - page)).fills S.st g0 g1 g2 g cap R bp bf nk MP MFk A
 moves:Moves (Foot b g0 g1 g2 g bp bf S.places S.refuse S.fills MP) (Foot b g0 g1 g2 g bp bf S.places S.refuse (readyN S page (c - page)).fills MP) w wr
 nle:nk≤n+(c - page)
 at_:∀p j,j<1024→(readyN S page (c - page)).st p=2→(readyN S page (c - page)).wd (p * 8192+j * 8)=wordAt MP MFk A p j
 non:∀p,(readyN S page (c - page)).st p≠2→MP p=0∧MFk p=0
 fi:∀x∈(readyN S page (c - page)).fills,x<18446744073709551616
variable {w wr w1 w2:World} {b:Nat} {S:Sp} {g0 g1 g2 g cap:Nat} {R:List (Nat×Nat)} {bp bf n:Nat} {MP MF:Nat→Nat} {A:Nat→Nat→Nat} {page c d nk K:Nat} {MFk:Nat→Nat}
theorem CommitAt.start (h:Lies w b S.places S.refuse S.fills S.st g0 g1 g2 g cap R bp bf n MP MF A) (k:Fits S K R n MP MF A) (page:Nat):CommitAt w w b S g0 g1 g2 g cap R bp bf n MP A page page n MF:=by
 have e:readyN S page (page - page)=S:=by rw[Nat.sub_self];rfl
 refine ⟨?_,?_,by omega,?_,?_,?_⟩<;>rw[e]
 ·exact h
 ·exact Moves.refl _ _
 ·exact k.at_
 ·exact k.non
 ·exact k.fi
theorem CommitAt.below (h:CommitAt w wr b S g0 g1 g2 g cap R bp bf n MP A page c nk MFk) (k:Below wr.heap.size wr w1):CommitAt w w1 b S g0 g1 g2 g cap R bp bf n MP A page c nk MFk:=
 ⟨h.lies.below k,h.moves.trans (Moves.below k),h.nle,h.at_,h.non,h.fi⟩
theorem CommitAt.step (hc:page≤c) (hd:c≤d):readyN S page (d - page)=readyN (readyN S page (c - page)) c (d - c):=by
 rw[show d - page=(c - page)+(d - c) by omega,readyN_split,show page+(c - page)=c by omega]
theorem CommitAt.st (hc:page≤c) {p:Nat} (hp:c≤p):(readyN S page (c - page)).st p=S.st p:=by
 rw[readyN_st,if_neg (by omega)]
theorem CommitAt.ready (h:CommitAt w wr b S g0 g1 g2 g cap R bp bf n MP A page c nk MFk) (hc:page≤c) (hd:c≤d) (hs:∀p,c≤p→p<d→S.st p=2):CommitAt w wr b S g0 g1 g2 g cap R bp bf n MP A page d nk MFk:=by
 have e:readyN S page (d - page)=readyN S page (c - page):=by
  rw[CommitAt.step hc hd]
  exact readyN_id _ _ _ (fun i hi=>by rw[CommitAt.st hc (by omega)];exact hs _ (by omega) (by omega))
 have nl:=h.nle
 refine ⟨?_,?_,by omega,?_,?_,?_⟩<;>rw[e]
 ·exact h.lies
 ·exact h.moves
 ·exact h.at_
 ·exact h.non
 ·exact h.fi
theorem CommitAt.fresh (h:CommitAt w wr b S g0 g1 g2 g cap R bp bf n MP A page c nk MFk) (hc:page≤c) (hd:c≤d) (hs:∀p,c≤p→p<d→S.st p=1):CommitAt w wr b S g0 g1 g2 g cap R bp bf n MP A page d nk MFk:=by
 have e:=CommitAt.step (S:=S) hc hd
 obtain ⟨e1,e2⟩:=readyN_new (readyN S page (c - page)) c (d - c) (fun i hi=>by rw[CommitAt.st hc (by omega)];exact hs _ (by omega) (by omega))
 have e3:=readyN_st (readyN S page (c - page)) c (d - c)
 rw[←e] at e1 e2 e3
 have nl:=h.nle
 refine ⟨by rw[e1];exact h.lies,by rw[e1];exact h.moves,by omega,fun p j hj hp=> ?_,fun p hp=> ?_,by rw[e1];exact h.fi⟩
 ·rw[e2,show (p * 8192+j * 8)/8192=p by omega]
  by_cases z:c≤p∧p<c+(d - c)
  ·rw[if_pos z]
   obtain ⟨a1,a2⟩:=h.non p (by rw[CommitAt.st hc z.1,hs p z.1 (by omega)];decide)
   simp[wordAt,a1,a2]
  ·rw[if_neg z]
   rw[e3,if_neg z] at hp
   exact h.at_ p j hj hp
 ·rw[e3] at hp
  by_cases z:c≤p∧p<c+(d - c)
  ·rw[if_pos z] at hp;exact absurd rfl hp
  ·rw[if_neg z] at hp;exact h.non p hp
theorem CommitAt.again {nf:Nat} {MF':Nat→Nat} (h:CommitAt w wr b S g0 g1 g2 g cap R bp bf n MP A page c nk MFk) (hc:page≤c) (hd:c≤d) (hs:∀p,c≤p→p<d→S.st p=3)
 (k:FillAt wr w1 b S.places S.refuse (readyN S page (c - page)).fills S.st g0 g1 g2 g cap R bp bf nk MP MFk A c (d - c) nf MF'):CommitAt w w1 b S g0 g1 g2 g cap R bp bf n MP A page d nf MF':=by
 have e:=CommitAt.step (S:=S) hc hd
 obtain ⟨e1,e2⟩:=readyN_again (readyN S page (c - page)) c (d - c) (fun i hi=>by rw[CommitAt.st hc (by omega)];exact hs _ (by omega) (by omega))
 have e3:=readyN_st (readyN S page (c - page)) c (d - c)
 rw[←e] at e1 e2 e3
 have nl:=h.nle
 have kl:=k.nle
 refine ⟨by rw[e1];exact k.lies,by rw[e1];exact h.moves.trans k.moves,by omega,fun p j hj hp=> ?_,fun p hp=> ?_,by rw[e1];exact fun x hx=>h.fi x (List.mem_of_mem_drop hx)⟩
 ·rw[e2,show (p * 8192+j * 8)/8192=p by omega,k.at_ p j hj]
  by_cases z:c≤p∧p<c+(d - c)
  ·rw[if_pos z,if_pos z]
  ·rw[if_neg z,if_neg z]
   rw[e3,if_neg z] at hp
   exact h.at_ p j hj hp
 ·rw[e3] at hp
  by_cases z:c≤p∧p<c+(d - c)
  ·rw[if_pos z] at hp;exact absurd rfl hp
  ·rw[if_neg z] at hp
   obtain ⟨a1,a2⟩:=h.non p hp
   exact ⟨a1,k.non p (by omega) a1 a2⟩
theorem commit_fits {K':Nat} {R':List (Nat×Nat)} (k:Fits S K R n MP MF A) (h:CommitAt w wr b S g0 g1 g2 g cap R bp bf n MP A page (page+c) nk MFk) (hs:∀q,page≤q→q<page+c→S.st q≠0) (hR:R'.length≤R.length+2) (hK:K+c+1≤K') (hc:0<c):
 Fits (readyN S page c) K' R' nk MP MFk A:=by
 have e:page+c - page=c:=by omega
 have st:=readyN_st S page c
 have ha:=h.at_
 have hn:=h.non
 have hf:=h.fi
 have nl:=h.nle
 rw[e] at ha hn hf nl
 have kl:=k.nl
 have kr:=k.rl
 have e0:∀q,(readyN S page c).st q=0↔S.st q=0:=fun q=>by
  rw[st]
  by_cases z:page≤q∧q<page+c
  ·rw[if_pos z];have:=hs q z.1 z.2;omega
  ·rw[if_neg z]
 refine ⟨k.wf.ready ((row_all (P:=fun x=>x≠0)).2 hs),fun p=> ?_,?_,ha,hn,?_,hf,by omega,by omega⟩
 ·rw[e0,e0];exact k.chunk p
 ·rw[e0];exact k.zero
 ·rw[(readyN_keeps S page c).2.1];exact k.pl
end Go.Proofs.YtdgdhnnakcncoaaGreatDoor.V
namespace Go.Proofs.YtdgdhnnakcncoaaGreatDoor.V
set_option maxHeartbeats 1600000
open Go.ChangeShapes Go.WideShapes Go.ChangeAt Go.RowKit Go.Proofs.Sp
theorem any_false {Ps:List (Nat×Nat×Nat)} {P:Nat×Nat×Nat→Bool} (h:¬Ps.any P=false):Ps.any P=true:=by simpa using h
set_option maxRecDepth 100000 in
set_option maxHeartbeats 2000000 in
theorem vcommit {w:World} {m:Addr} {S:Sp} {F:Nat→Prop} {K:Nat} (a c:Int) (ha:two64 a) (hc:two64 c) (h:VI w m S F K) (hK:K≤lim):
 Calls Tryz.prog vm.commit #[.pointer (some m), .int .u64 a, .int .u64 c] w fun e w'=>e= .returned (.int .i64 ((commitS S a.toNat c.toNat).1:Nat))∧Step VI F w w' m (commitS S a.toNat c.toNat).2 (K+cost (commitS S a.toNat c.toNat).1 c.toNat):=by
 have V:=hide h
 obtain ⟨b,g0,g1,g2,g,cap,R,bp,bf,n,MP,MF,A,rfl,e,l,k⟩:=h
 have h0:=ha.1
 have h1:=ha.2
 have c0:=hc.1
 have c1:=hc.2
 have rl:=k.rl
 have nl:=k.nl
 have hn:R.length≤1099511627777:=by unfold lim at hK;omega
 have hn2:n≤2199023255552:=by unfold lim at hK;omega
 have L:=hide l
 have KF:=hide k
 have EF:=hide e
 clear l k e rl nl ha hc
 show Calls Tryz.prog 183 _ w _
 by_cases r:right a.toNat c.toNat
 ·have r':=r
  unfold right at r'
  have ac:a+c≤34359738368:=by omega
  have cp:0<c:=by omega
  have DR:=hide (decide_eq_true r)
  have act:Hid ((a+c).toNat=a.toNat+c.toNat):=hide (by omega)
  by_cases q:∀i,i<c.toNat→S.st (a.toNat+ i)≠0
  ·have q2:=(row_all (P:=fun x=>x≠0)).1 q
   have Q2:=hide q2
   by_cases u:∀i,i<c.toNat→S.st (a.toNat+ i)=2
   ·have hl:commitS S a.toNat c.toNat=(0,S):=by
     unfold commitS
     rw[if_neg (fun z=>z r),if_neg (fun z=>z q),if_pos u]
    rw[hl]
    have U2:=hide ((row_all (P:=fun x=>x=2)).1 u)
    have FIN:Hid (∀w1,Below w.heap.size w w1→Step VI F w w1 ⟨b,0,none⟩ S (K+cost 0 c.toNat)):=hide (fun w1 k1=>(V.out.more (by omega)).below k1)
    obtain ⟨PO,hPO⟩:∃PO:World→Prop,PO=fun w'=>Step VI F w w' ⟨b,0,none⟩ S (K+cost 0 c.toNat):=⟨_,rfl⟩
    suffices Calls Tryz.prog 183 #[.pointer (some ⟨b,0,none⟩), .int .u64 a, .int .u64 c] w fun e w'=>e= .returned (.int .i64 0)∧PO w' by rw[hPO] at this;exact this
    have PE:=hide hPO
    clear q q2 u hl hPO r r'
    go_enter Tryz.func183,Tryz.ntmps183
    go_wp2_with (first
     |(go_at_call 146;refine (right_core a c h0 c0 h1 _).mono ?_;rintro e w' ⟨rfl,hw'⟩;rw[hw',DR.out];clear hw' w'))
    refine (parts_core b 3 g cap R S.st a (a+c) h0 (by omega) ac (by omega) w L.out.rows.listAt L.out.rows.seg).mono ?_
    rintro e w1 ⟨v,Ps,rfl,hP,hC,hl,_,B1⟩
    rw[act.out] at hC
    have E0:=hide ((cover_none hC).2 Q2.out)
    have E:=hide ((cover_ready hC).2 U2.out)
    have HP:=hide hP
    have HB:=hide B1
    clear hP hC B1
    go_wp2_with fail
    refine (anyNone_core v Ps (by omega) w1 HP.out).mono ?_
    rintro e w2 ⟨rfl,B2⟩
    rw[E0.out]
    have HP2:=hide (HP.out.below B2)
    have HB2:=hide (HB.out.trans (B2.mono HB.out.size))
    clear B2 HP HB
    go_wp2_with fail
    refine (allReady_core v Ps (by omega) w2 HP2.out).mono ?_
    rintro e w3 ⟨rfl,B3⟩
    rw[E.out]
    have HB3:=hide (HB2.out.trans (B3.mono HB2.out.size))
    clear B3 HB2 HP2
    go_wp2_with fail
    go_ret
    refine ⟨rfl,?_⟩
    rw[PE.out]
    exact FIN.out _ HB3.out
   ·have U2:=hide (fun z=>u ((row_all (P:=fun x=>x=2)).2 z))
    by_cases t:S.refuse.headD false=true
    ·have hl:commitS S a.toNat c.toNat=(13,takeRefuse S):=by
      unfold commitS
      rw[if_neg (fun z=>z r),if_neg (fun z=>z q),if_neg u,if_pos t]
     rw[hl]
     have T1:=hide (show S.refuse.head?.getD false=true by rw[←List.headD_eq_head?_getD];exact t)
     have FIN:Hid (∀w1 w2 v',Below w.heap.size w w1→Cell1 b 1 w1 w2 v'→SlB w2 v' (bools S.refuse.tail) g1→Step VI F w w2 ⟨b,0,none⟩ (takeRefuse S) (K+cost 13 c.toNat)):=hide (by
      intro w1 w2 v' k0 k1 k2
      obtain ⟨l1,m1⟩:=(L.out.below k0).refuse k1 k2
      rw[EF.out]
      exact VI.step ((Moves.below k0).trans m1) ⟨b,g0,g1,g2,g,cap,R,bp,bf,n,MP,MF,A,rfl,rfl,l1,KF.out.asked.more (by omega)⟩)
     obtain ⟨PO,hPO⟩:∃PO:World→Prop,PO=fun w'=>Step VI F w w' ⟨b,0,none⟩ (takeRefuse S) (K+cost 13 c.toNat):=⟨_,rfl⟩
     suffices Calls Tryz.prog 183 #[.pointer (some ⟨b,0,none⟩), .int .u64 a, .int .u64 c] w fun e w'=>e= .returned (.int .i64 13)∧PO w' by rw[hPO] at this;exact this
     have PE:=hide hPO
     clear q q2 u t hl hPO r r'
     go_enter Tryz.func183,Tryz.ntmps183
     go_wp2_with (first
      |(go_at_call 146;refine (right_core a c h0 c0 h1 _).mono ?_;rintro e w' ⟨rfl,hw'⟩;rw[hw',DR.out];clear hw' w'))
     refine (parts_core b 3 g cap R S.st a (a+c) h0 (by omega) ac (by omega) w L.out.rows.listAt L.out.rows.seg).mono ?_
     rintro e w1 ⟨v,Ps,rfl,hP,hC,hl,_,B1⟩
     rw[act.out] at hC
     have E0:=hide ((cover_none hC).2 Q2.out)
     have E:Hid ((!(Ps.any fun x=>((x.2.2:Int) != 2)))=false):=hide (by
      cases z:(!(Ps.any fun x=>((x.2.2:Int) != 2)))
      ·rfl
      ·exact absurd ((cover_ready hC).1 z) U2.out)
     have HP:=hide hP
     have HB:=hide B1
     clear hP hC B1
     go_wp2_with fail
     refine (anyNone_core v Ps (by omega) w1 HP.out).mono ?_
     rintro e w2 ⟨rfl,B2⟩
     rw[E0.out]
     have HP2:=hide (HP.out.below B2)
     have HB2:=hide (HB.out.trans (B2.mono HB.out.size))
     clear B2 HP HB
     go_wp2_with fail
     refine (allReady_core v Ps (by omega) w2 HP2.out).mono ?_
     rintro e w3 ⟨rfl,B3⟩
     rw[E.out]
     have HB3:=hide (HB2.out.trans (B3.mono HB2.out.size))
     have L3:=hide (L.out.below HB3.out)
     clear B3 HB2 HP2
     go_wp2_with fail
     obtain ⟨v1,v1c,v1s⟩:=L3.out.s1
     refine (refused_core b g1 v1 S.refuse w3 v1c (L3.out.rows.fz 1) v1s).mono ?_
     rintro e w4 ⟨rfl,hT⟩
     rw[T1.out]
     obtain ⟨v',k1,k2⟩:=took_bool v1c hT v1s L3.out.n1
     have FI:=hide (FIN.out w3 w4 v' HB3.out k1 k2)
     clear hT k1 k2 v1c v1s
     go_wp2_with fail
     go_ret
     refine ⟨rfl,?_⟩
     rw[PE.out]
     exact FI.out
    ·have hl:commitS S a.toNat c.toNat=(0,readyN (takeRefuse S) a.toNat c.toNat):=by
      unfold commitS
      rw[if_neg (fun z=>z r),if_neg (fun z=>z q),if_neg u,if_neg t]
     rw[hl]
     have T1:=hide (show S.refuse.head?.getD false=false by rw[←List.headD_eq_head?_getD];simpa using t)
     have a0:0<a:=by
      have z:=KF.out.zero
      by_cases y:a.toNat=0
      ·have:=q2 0 (by omega) (by omega);omega
      ·omega
     have FIN:Hid (∀w3 w4 w5 w6 nk MFk,Moves F (Foot b g0 g1 g2 g bp bf (takeRefuse S).places (takeRefuse S).refuse (takeRefuse S).fills MP) w w3→w4=w3→CommitAt w4 w5 b (takeRefuse S) g0 g1 g2 g cap R bp bf n MP A a.toNat (a.toNat+c.toNat) nk MFk→SetPost b 3 g R (putSt S.st a.toNat (a.toNat+c.toNat) 2) w5 w6→Step VI F w w6 ⟨b,0,none⟩ (readyN (takeRefuse S) a.toNat c.toNat) (K+cost 0 c.toNat)):=hide (by
      intro w3 w4 w5 w6 nk MFk m3 e4 k5 k6
      subst e4
      obtain ⟨g',c',R',l6,hR,m6⟩:=k5.lies.rowed k6
      have fts:=commit_fits (R':=R') (K':=K+cost 0 c.toNat) KF.out.asked k5 q2 hR (by simp[cost];omega) (by omega)
      have e1:a.toNat+c.toNat - a.toNat=c.toNat:=by omega
      have m5:=k5.moves
      rw[e1] at l6 m5 m6
      obtain ⟨y1,y2,y3⟩:=readyN_keeps (takeRefuse S) a.toNat c.toNat
      refine VI.step (m3.trans (m5.trans m6)) ⟨b,g0,g1,g2,g',c',R',bp,bf,nk,MP,MFk,A,rfl,by rw[y2,y3],?_,fts⟩
      rw[y2,y3,show (readyN (takeRefuse S) a.toNat c.toNat).st=putSt S.st a.toNat (a.toNat+c.toNat) 2 from funext fun x=>by rw[readyN_st];rfl]
      exact l6)
     obtain ⟨PO,hPO⟩:∃PO:World→Prop,PO=fun w'=>Step VI F w w' ⟨b,0,none⟩ (readyN (takeRefuse S) a.toNat c.toNat) (K+cost 0 c.toNat):=⟨_,rfl⟩
     suffices Calls Tryz.prog 183 #[.pointer (some ⟨b,0,none⟩), .int .u64 a, .int .u64 c] w fun e w'=>e= .returned (.int .i64 0)∧PO w' by rw[hPO] at this;exact this
     have PE:=hide hPO
     clear q q2 u t hl hPO r r'
     go_enter Tryz.func183,Tryz.ntmps183
     go_wp2_with (first
      |(go_at_call 146;refine (right_core a c h0 c0 h1 _).mono ?_;rintro e w' ⟨rfl,hw'⟩;rw[hw',DR.out];clear hw' w'))
     refine (parts_core b 3 g cap R S.st a (a+c) h0 (by omega) ac (by omega) w L.out.rows.listAt L.out.rows.seg).mono ?_
     rintro e w1 ⟨v,Ps,rfl,hP,hC,hl,hpb,B1⟩
     rw[act.out] at hC
     have E0:=hide ((cover_none hC).2 Q2.out)
     have E:Hid ((!(Ps.any fun x=>((x.2.2:Int) != 2)))=false):=hide (by
      cases z:(!(Ps.any fun x=>((x.2.2:Int) != 2)))
      ·rfl
      ·exact absurd ((cover_ready hC).1 z) U2.out)
     have CS0:Hid (CState S.st a.toNat (a.toNat+c.toNat) Ps 0 a.toNat):=hide ⟨by rw[List.drop_zero];exact hC,Nat.le_refl _⟩
     have hne:Ps≠ []:=fun z=>by
      subst z
      have hC:a.toNat=a.toNat+c.toNat:=hC
      omega
     have HP:=hide hP
     have HB:=hide B1
     clear hP hC B1
     go_wp2_with fail
     refine (anyNone_core v Ps (by omega) w1 HP.out).mono ?_
     rintro e w2 ⟨rfl,B2⟩
     rw[E0.out]
     have HP2:=hide (HP.out.below B2)
     have HB2:=hide (HB.out.trans (B2.mono HB.out.size))
     clear B2 HP HB
     go_wp2_with fail
     refine (allReady_core v Ps (by omega) w2 HP2.out).mono ?_
     rintro e w3 ⟨rfl,B3⟩
     rw[E.out]
     have HP3:=hide (HP2.out.below B3)
     have HB3:=hide (HB2.out.trans (B3.mono HB2.out.size))
     have L3:=hide (L.out.below HB3.out)
     clear B3 HB2 HP2
     go_wp2_with fail
     obtain ⟨v1,v1c,v1s⟩:=L3.out.s1
     refine (refused_core b g1 v1 S.refuse w3 v1c (L3.out.rows.fz 1) v1s).mono ?_
     rintro e w4 ⟨rfl,hT⟩
     rw[T1.out]
     obtain ⟨v',k1,k2⟩:=took_bool v1c hT v1s L3.out.n1
     obtain ⟨l4,m4⟩:=L3.out.refuse k1 k2
     have M4:Hid (Moves F (Foot b g0 g1 g2 g bp bf (takeRefuse S).places (takeRefuse S).refuse (takeRefuse S).fills MP) w w4):=hide (by rw[EF.out];exact (Moves.below HB3.out).trans m4)
     have C4:Hid (CommitAt w4 w4 b (takeRefuse S) g0 g1 g2 g cap R bp bf n MP A a.toNat a.toNat n MF):=hide (CommitAt.start (S:=takeRefuse S) l4 KF.out.asked a.toNat)
     obtain ⟨gp,cpp,rfl,hgp,hPc⟩:=HP3.out.resolve_left (fun z=>hne z.2)
     have hgw:w.heap.size≤gp:=hpb gp rfl
     have hg4:gp<w4.heap.size:=Nat.lt_of_lt_of_le hgp k1.size
     have hgF:Hid (¬Foot b g0 g1 g2 g bp bf (takeRefuse S).places (takeRefuse S).refuse (takeRefuse S).fills MP gp):=hide (fun z=>by
      rcases M4.out.new gp z with y|y
      ·rw[EF.out] at y;have:=L.out.lt y;omega
      ·have hm:=m4.new gp z
       rcases hm with y|y
       ·have:=L.out.lt y;omega
       ·omega)
     have hPc4:Hid (∀i (h:i<Ps.length),w4.cell? ⟨gp,i * 3,none⟩=some (.int .u64 (Ps[i].1:Int))∧w4.cell? ⟨gp,i * 3+1,none⟩=some (.int .u64 (Ps[i].2.1:Int))∧w4.cell? ⟨gp,i * 3+2,none⟩=some (.int .i64 (Ps[i].2.2:Int))):=hide (fun i hi=>by
      have hbw:b<w.heap.size:=cell_lt L.out.rows.list
      have e4:w4.heap[gp]? =w3.heap[gp]? :=k1.block gp hgp (by omega)
      obtain ⟨p1,p2,p3⟩:=hPc i hi
      exact ⟨(World.cell?_of_block (a:=⟨gp,i * 3,none⟩) e4).trans p1,(World.cell?_of_block (a:=⟨gp,i * 3+1,none⟩) e4).trans p2,(World.cell?_of_block (a:=⟨gp,i * 3+2,none⟩) e4).trans p3⟩)
     clear hT k1 k2 v1c v1s l4 m4 hPc hpb HP3 hne
     go_wp2_with fail
     go_loopw [30] (fun iv wr=>∃(k d nk:Nat) (MFk:Nat→Nat),iv= .int .i64 (k:Int)∧k≤Ps.length∧a.toNat≤d∧Hid (CState S.st a.toNat (a.toNat+c.toNat) Ps k d)∧Hid (CommitAt w4 wr b (takeRefuse S) g0 g1 g2 g cap R bp bf n MP A a.toNat d nk MFk)) (fun iv _=>Ps.length -(intOf iv).toNat)
     case atStart=>exact ⟨0,a.toNat,n,MF,rfl,Nat.zero_le _,Nat.le_refl _,CS0,C4⟩
     case round=>
      obtain ⟨k,d,nk,MFk,rfl,hk,had,hS,hC⟩:=hrel
      clear CS0 C4
      by_cases hlt:k<Ps.length
      ·obtain ⟨s1,s2,s3,s4,nx⟩:=hS.out.next hlt
       obtain ⟨c1',c2',c3'⟩:=hPc4.out k hlt
       have eb:=hC.out.moves.fr.block gp hg4 hgF.out
       rw[←World.cell?_of_block eb] at c1' c2' c3'
       obtain ⟨x,hx⟩:∃x,x=Ps[k].2.1:=⟨_,rfl⟩
       obtain ⟨s,hs⟩:∃s,s=Ps[k].2.2:=⟨_,rfl⟩
       rw[s1] at c1'
       rw[←hx] at c2' s2 s3 s4 nx
       rw[←hs] at c3' s4
       have NX:=hide nx
       have S4:=hide s4
       have hgr:gp<wr.heap.size:=Nat.lt_of_lt_of_le hg4 hC.out.moves.fr.size
       clear nx s4 s1 hx hs eb
       by_cases z3:s=3
       ·subst z3
        go_wp2_with fail
        have hA:=hide (hC.out.below ((Below.refl _ _).alloc (Nat.le_refl _) (.cells #[.int .u64 (d:Int), .int .u64 (x:Int), .int .i64 3] 301)))
        have nk1:=hC.out.nle
        refine (fill_core b (takeRefuse S).places (takeRefuse S).refuse (readyN (takeRefuse S) a.toNat (d - a.toNat)).fills S.st g0 g1 g2 g cap R bp bf nk MP MFk A _ d x (by omega) (by omega) (by omega) hA.out.lies (fun q q1 q2=>hA.out.non q (by rw[CommitAt.st had q1];show S.st q≠2;rw[S4.out q q1 q2];decide)) hA.out.fi).mono ?_
        rintro e w5 ⟨rfl,hF⟩
        go_wp2_with fail
        obtain ⟨nf,MF',kf⟩:=hF.out
        exact ⟨⟨k+1,x,nf,MF',by go_num,by omega,by omega,NX,hide (hA.out.again had (by omega) S4.out kf)⟩,by simp[intOf];omega⟩
       ·have y3:((s:Int)==3)=false:=beq_eq_false_iff_ne.2 (by omega)
        go_wp2_with fail
        have hA:=hC.out.below ((Below.refl _ _).alloc (Nat.le_refl _) (.cells #[.int .u64 (d:Int), .int .u64 (x:Int), .int .i64 (s:Int)] 301))
        have sx:=S4.out d (Nat.le_refl _) s2
        have le3:=KF.out.wf.le3 d
        have ne0:=Q2.out d had (by omega)
        by_cases z2:s=2
        ·subst z2
         exact ⟨⟨k+1,x,nk,MFk,by go_num,by omega,by omega,NX,hide (hA.ready had (by omega) S4.out)⟩,by simp[intOf];omega⟩
        ·obtain rfl:s=1:=by omega
         exact ⟨⟨k+1,x,nk,MFk,by go_num,by omega,by omega,NX,hide (hA.fresh had (by omega) S4.out)⟩,by simp[intOf];omega⟩
      ·have hd:d=a.toNat+c.toNat:=by
        have:=hS.out.rest
        rw[List.drop_eq_nil_of_le (by omega)] at this
        exact this
       subst hd
       have kl:¬(k:Int)<(Ps.length:Int):=by omega
       go_wp2_with fail
       have MM:=hide hC.out.lies.rows
       refine (set_core b 3 g cap R S.st a (a+c) 2 a0 (by omega) ac (by omega) hn wr MM.out).mono ?_
       rintro e w6 ⟨rfl,hS6⟩
       rw[act.out] at hS6
       have HS6:=hide hS6
       clear hS6
       go_wp2_with fail
       go_ret
       refine ⟨rfl,?_⟩
       rw[PE.out]
       exact FIN.out w4 w4 wr w6 nk MFk M4.out rfl hC.out HS6.out
  ·have hl:commitS S a.toNat c.toNat=(33,S):=by
    unfold commitS
    rw[if_neg (fun z=>z r),if_pos q]
   rw[hl]
   have Q2:=hide (fun z=>q ((row_all (P:=fun x=>x≠0)).2 z))
   have FIN:Hid (∀w1,Below w.heap.size w w1→Step VI F w w1 ⟨b,0,none⟩ S (K+cost 33 c.toNat)):=hide (fun w1 k1=>(V.out.more (by omega)).below k1)
   obtain ⟨PO,hPO⟩:∃PO:World→Prop,PO=fun w'=>Step VI F w w' ⟨b,0,none⟩ S (K+cost 33 c.toNat):=⟨_,rfl⟩
   suffices Calls Tryz.prog 183 #[.pointer (some ⟨b,0,none⟩), .int .u64 a, .int .u64 c] w fun e w'=>e= .returned (.int .i64 33)∧PO w' by rw[hPO] at this;exact this
   have PE:=hide hPO
   clear q hl hPO r r'
   go_enter Tryz.func183,Tryz.ntmps183
   go_wp2_with (first
    |(go_at_call 146;refine (right_core a c h0 c0 h1 _).mono ?_;rintro e w' ⟨rfl,hw'⟩;rw[hw',DR.out];clear hw' w'))
   refine (parts_core b 3 g cap R S.st a (a+c) h0 (by omega) ac (by omega) w L.out.rows.listAt L.out.rows.seg).mono ?_
   rintro e w1 ⟨v,Ps,rfl,hP,hC,hl,_,B1⟩
   rw[act.out] at hC
   have E0:Hid ((Ps.any fun x=>((x.2.2:Int)==0))=true):=hide (any_false fun z=>Q2.out ((cover_none hC).1 z))
   have HP:=hide hP
   have HB:=hide B1
   clear hP hC B1
   go_wp2_with fail
   refine (anyNone_core v Ps (by omega) w1 HP.out).mono ?_
   rintro e w2 ⟨rfl,B2⟩
   rw[E0.out]
   have HB2:=hide (HB.out.trans (B2.mono HB.out.size))
   clear B2 HP HB
   go_wp2_with fail
   go_ret
   refine ⟨rfl,?_⟩
   rw[PE.out]
   exact FIN.out _ HB2.out
 ·have hl:commitS S a.toNat c.toNat=(1,S):=by
   unfold commitS
   rw[if_pos r]
  rw[hl]
  have DR:=hide (decide_eq_false r)
  have T:=hide ((V.out.more (K':=K+cost 1 c.toNat) (by omega)).below (Below.refl _ _))
  clear r hl
  go_enter Tryz.func183,Tryz.ntmps183
  go_wp2_with (first
   |(go_at_call 146;refine (right_core a c h0 c0 h1 _).mono ?_;rintro e w' ⟨rfl,hw'⟩;rw[hw',DR.out];clear hw' w'))
  go_ret
  exact ⟨rfl,T.out⟩
end Go.Proofs.YtdgdhnnakcncoaaGreatDoor.V
