/- Of the proof of HeapCached: texts VVmVe, VVmNa, VVmNb. -/
import Derived.Test.YtdgdhnnakcncoaaGreatDoorK35
import Derived.Deep.RegionWith
namespace Go.Proofs.YtdgdhnnakcncoaaGreatDoor.V
set_option maxHeartbeats 1600000
open Go.ChangeShapes Go.WideShapes Go.ChangeAt Go.RowKit Go.Proofs.Sp
theorem any_false {Ps:List (Nat×Nat×Nat)} {P:Nat×Nat×Nat→Bool} (h:¬Ps.any P=false):Ps.any P=true:=by simpa using h
set_option maxRecDepth 100000 in
set_option maxHeartbeats 2000000 in
theorem vcommit {w:World} {m:Addr} {S:Sp} {F:Nat→Prop} {K:Nat} (a c:Int) (ha:two64 a) (hc:two64 c) (h:VI w m S F K) (hK:K≤lim):
 Calls Tryz.prog vm.commit #[.pointer (some m), .int .u64 a, .int .u64 c] w fun e w'=>e= .returned (.int .i64 ((commitS S a.toNat c.toNat).1:Nat))∧Step VI F w w' m (commitS S a.toNat c.toNat).2 (K+cost (commitS S a.toNat c.toNat).1 c.toNat):=by
 have V:=hide h
 obtain ⟨b,g0,g1,g2,g,cap,R,bp,bf,n,MP,MF,A,rfl,e,l,k⟩:=h
 have h0:=ha.1
 have h1:=ha.2
 have c0:=hc.1
 have c1:=hc.2
 have rl:=k.rl
 have nl:=k.nl
 have hn:R.length≤1099511627777:=by unfold lim at hK;omega
 have hn2:n≤2199023255552:=by unfold lim at hK;omega
 have L:=hide l
 have KF:=hide k
 have EF:=hide e
 clear l k e rl nl ha hc
 show Calls Tryz.prog 183 _ w _
 by_cases r:right a.toNat c.toNat
 ·have r':=r
  unfold right at r'
  have ac:a+c≤34359738368:=by omega
  have cp:0<c:=by omega
  have DR:=hide (decide_eq_true r)
  have act:Hid ((a+c).toNat=a.toNat+c.toNat):=hide (by omega)
  by_cases q:∀i,i<c.toNat→S.st (a.toNat+ i)≠0
  ·have q2:=(row_all (P:=fun x=>x≠0)).1 q
   have Q2:=hide q2
   by_cases u:∀i,i<c.toNat→S.st (a.toNat+ i)=2
   ·have hl:commitS S a.toNat c.toNat=(0,S):=by
     unfold commitS
     rw[if_neg (fun z=>z r),if_neg (fun z=>z q),if_pos u]
    rw[hl]
    have U2:=hide ((row_all (P:=fun x=>x=2)).1 u)
    have FIN:Hid (∀w1,Below w.heap.size w w1→Step VI F w w1 ⟨b,0,none⟩ S (K+cost 0 c.toNat)):=hide (fun w1 k1=>(V.out.more (by omega)).below k1)
    obtain ⟨PO,hPO⟩:∃PO:World→Prop,PO=fun w'=>Step VI F w w' ⟨b,0,none⟩ S (K+cost 0 c.toNat):=⟨_,rfl⟩
    suffices Calls Tryz.prog 183 #[.pointer (some ⟨b,0,none⟩), .int .u64 a, .int .u64 c] w fun e w'=>e= .returned (.int .i64 0)∧PO w' by rw[hPO] at this;exact this
    have PE:=hide hPO
    clear q q2 u hl hPO r r'
    go_enter Tryz.func183,Tryz.ntmps183
    go_wp2_with (first
     |(go_at_call 146;refine (right_core a c h0 c0 h1 _).mono ?_;rintro e w' ⟨rfl,hw'⟩;rw[hw',DR.out];clear hw' w'))
    refine (parts_core b 3 g cap R S.st a (a+c) h0 (by omega) ac (by omega) w L.out.rows.listAt L.out.rows.seg).mono ?_
    rintro e w1 ⟨v,Ps,rfl,hP,hC,hl,_,B1⟩
    rw[act.out] at hC
    have E0:=hide ((cover_none hC).2 Q2.out)
    have E:=hide ((cover_ready hC).2 U2.out)
    have HP:=hide hP
    have HB:=hide B1
    clear hP hC B1
    go_wp2_with fail
    refine (anyNone_core v Ps (by omega) w1 HP.out).mono ?_
    rintro e w2 ⟨rfl,B2⟩
    rw[E0.out]
    have HP2:=hide (HP.out.below B2)
    have HB2:=hide (HB.out.trans (B2.mono HB.out.size))
    clear B2 HP HB
    go_wp2_with fail
    refine (allReady_core v Ps (by omega) w2 HP2.out).mono ?_
    rintro e w3 ⟨rfl,B3⟩
    rw[E.out]
    have HB3:=hide (HB2.out.trans (B3.mono HB2.out.size))
    clear B3 HB2 HP2
    go_wp2_with fail
    go_ret
    refine ⟨rfl,?_⟩
    rw[PE.out]
    exact FIN.out _ HB3.out
   ·have U2:=hide (fun z=>u ((row_all (P:=fun x=>x=2)).2 z))
    by_cases t:S.refuse.headD false=true
    ·have hl:commitS S a.toNat c.toNat=(13,takeRefuse S):=by
      unfold commitS
      rw[if_neg (fun z=>z r),if_neg (fun z=>z q),if_neg u,if_pos t]
     rw[hl]
     have T1:=hide (show S.refuse.head?.getD false=true by rw[←List.headD_eq_head?_getD];exact t)
     have FIN:Hid (∀w1 w2 v',Below w.heap.size w w1→Cell1 b 1 w1 w2 v'→SlB w2 v' (bools S.refuse.tail) g1→Step VI F w w2 ⟨b,0,none⟩ (takeRefuse S) (K+cost 13 c.toNat)):=hide (by
      intro w1 w2 v' k0 k1 k2
      obtain ⟨l1,m1⟩:=(L.out.below k0).refuse k1 k2
      rw[EF.out]
      exact VI.step ((Moves.below k0).trans m1) ⟨b,g0,g1,g2,g,cap,R,bp,bf,n,MP,MF,A,rfl,rfl,l1,KF.out.asked.more (by omega)⟩)
     obtain ⟨PO,hPO⟩:∃PO:World→Prop,PO=fun w'=>Step VI F w w' ⟨b,0,none⟩ (takeRefuse S) (K+cost 13 c.toNat):=⟨_,rfl⟩
     suffices Calls Tryz.prog 183 #[.pointer (some ⟨b,0,none⟩), .int .u64 a, .int .u64 c] w fun e w'=>e= .returned (.int .i64 13)∧PO w' by rw[hPO] at this;exact this
     have PE:=hide hPO
     clear q q2 u t hl hPO r r'
     go_enter Tryz.func183,Tryz.ntmps183
     go_wp2_with (first
      |(go_at_call 146;refine (right_core a c h0 c0 h1 _).mono ?_;rintro e w' ⟨rfl,hw'⟩;rw[hw',DR.out];clear hw' w'))
     refine (parts_core b 3 g cap R S.st a (a+c) h0 (by omega) ac (by omega) w L.out.rows.listAt L.out.rows.seg).mono ?_
     rintro e w1 ⟨v,Ps,rfl,hP,hC,hl,_,B1⟩
     rw[act.out] at hC
     have E0:=hide ((cover_none hC).2 Q2.out)
     have E:Hid ((!(Ps.any fun x=>((x.2.2:Int) != 2)))=false):=hide (by
      cases z:(!(Ps.any fun x=>((x.2.2:Int) != 2)))
      ·rfl
      ·exact absurd ((cover_ready hC).1 z) U2.out)
     have HP:=hide hP
     have HB:=hide B1
     clear hP hC B1
     go_wp2_with fail
     refine (anyNone_core v Ps (by omega) w1 HP.out).mono ?_
     rintro e w2 ⟨rfl,B2⟩
     rw[E0.out]
     have HP2:=hide (HP.out.below B2)
     have HB2:=hide (HB.out.trans (B2.mono HB.out.size))
     clear B2 HP HB
     go_wp2_with fail
     refine (allReady_core v Ps (by omega) w2 HP2.out).mono ?_
     rintro e w3 ⟨rfl,B3⟩
     rw[E.out]
     have HB3:=hide (HB2.out.trans (B3.mono HB2.out.size))
     have L3:=hide (L.out.below HB3.out)
     clear B3 HB2 HP2
     go_wp2_with fail
     obtain ⟨v1,v1c,v1s⟩:=L3.out.s1
     refine (refused_core b g1 v1 S.refuse w3 v1c (L3.out.rows.fz 1) v1s).mono ?_
     rintro e w4 ⟨rfl,hT⟩
     rw[T1.out]
     obtain ⟨v',k1,k2⟩:=took_bool v1c hT v1s L3.out.n1
     have FI:=hide (FIN.out w3 w4 v' HB3.out k1 k2)
     clear hT k1 k2 v1c v1s
     go_wp2_with fail
     go_ret
     refine ⟨rfl,?_⟩
     rw[PE.out]
     exact FI.out
    ·have hl:commitS S a.toNat c.toNat=(0,readyN (takeRefuse S) a.toNat c.toNat):=by
      unfold commitS
      rw[if_neg (fun z=>z r),if_neg (fun z=>z q),if_neg u,if_neg t]
     rw[hl]
     have T1:=hide (show S.refuse.head?.getD false=false by rw[←List.headD_eq_head?_getD];simpa using t)
     have a0:0<a:=by
      have z:=KF.out.zero
      by_cases y:a.toNat=0
      ·have:=q2 0 (by omega) (by omega);omega
      ·omega
     have FIN:Hid (∀w3 w4 w5 w6 nk MFk,Moves F (Foot b g0 g1 g2 g bp bf (takeRefuse S).places (takeRefuse S).refuse (takeRefuse S).fills MP) w w3→w4=w3→CommitAt w4 w5 b (takeRefuse S) g0 g1 g2 g cap R bp bf n MP A a.toNat (a.toNat+c.toNat) nk MFk→SetPost b 3 g R (putSt S.st a.toNat (a.toNat+c.toNat) 2) w5 w6→Step VI F w w6 ⟨b,0,none⟩ (readyN (takeRefuse S) a.toNat c.toNat) (K+cost 0 c.toNat)):=hide (by
      intro w3 w4 w5 w6 nk MFk m3 e4 k5 k6
      subst e4
      obtain ⟨g',c',R',l6,hR,m6⟩:=k5.lies.rowed k6
      have fts:=commit_fits (R':=R') (K':=K+cost 0 c.toNat) KF.out.asked k5 q2 hR (by simp[cost];omega) (by omega)
      have e1:a.toNat+c.toNat - a.toNat=c.toNat:=by omega
      have m5:=k5.moves
      rw[e1] at l6 m5 m6
      obtain ⟨y1,y2,y3⟩:=readyN_keeps (takeRefuse S) a.toNat c.toNat
      refine VI.step (m3.trans (m5.trans m6)) ⟨b,g0,g1,g2,g',c',R',bp,bf,nk,MP,MFk,A,rfl,by rw[y2,y3],?_,fts⟩
      rw[y2,y3,show (readyN (takeRefuse S) a.toNat c.toNat).st=putSt S.st a.toNat (a.toNat+c.toNat) 2 from funext fun x=>by rw[readyN_st];rfl]
      exact l6)
     obtain ⟨PO,hPO⟩:∃PO:World→Prop,PO=fun w'=>Step VI F w w' ⟨b,0,none⟩ (readyN (takeRefuse S) a.toNat c.toNat) (K+cost 0 c.toNat):=⟨_,rfl⟩
     suffices Calls Tryz.prog 183 #[.pointer (some ⟨b,0,none⟩), .int .u64 a, .int .u64 c] w fun e w'=>e= .returned (.int .i64 0)∧PO w' by rw[hPO] at this;exact this
     have PE:=hide hPO
     clear q q2 u t hl hPO r r'
     go_enter Tryz.func183,Tryz.ntmps183
     go_wp2_with (first
      |(go_at_call 146;refine (right_core a c h0 c0 h1 _).mono ?_;rintro e w' ⟨rfl,hw'⟩;rw[hw',DR.out];clear hw' w'))
     refine (parts_core b 3 g cap R S.st a (a+c) h0 (by omega) ac (by omega) w L.out.rows.listAt L.out.rows.seg).mono ?_
     rintro e w1 ⟨v,Ps,rfl,hP,hC,hl,hpb,B1⟩
     rw[act.out] at hC
     have E0:=hide ((cover_none hC).2 Q2.out)
     have E:Hid ((!(Ps.any fun x=>((x.2.2:Int) != 2)))=false):=hide (by
      cases z:(!(Ps.any fun x=>((x.2.2:Int) != 2)))
      ·rfl
      ·exact absurd ((cover_ready hC).1 z) U2.out)
     have CS0:Hid (CState S.st a.toNat (a.toNat+c.toNat) Ps 0 a.toNat):=hide ⟨by rw[List.drop_zero];exact hC,Nat.le_refl _⟩
     have hne:Ps≠ []:=fun z=>by
      subst z
      have hC:a.toNat=a.toNat+c.toNat:=hC
      omega
     have HP:=hide hP
     have HB:=hide B1
     clear hP hC B1
     go_wp2_with fail
     refine (anyNone_core v Ps (by omega) w1 HP.out).mono ?_
     rintro e w2 ⟨rfl,B2⟩
     rw[E0.out]
     have HP2:=hide (HP.out.below B2)
     have HB2:=hide (HB.out.trans (B2.mono HB.out.size))
     clear B2 HP HB
     go_wp2_with fail
     refine (allReady_core v Ps (by omega) w2 HP2.out).mono ?_
     rintro e w3 ⟨rfl,B3⟩
     rw[E.out]
     have HP3:=hide (HP2.out.below B3)
     have HB3:=hide (HB2.out.trans (B3.mono HB2.out.size))
     have L3:=hide (L.out.below HB3.out)
     clear B3 HB2 HP2
     go_wp2_with fail
     obtain ⟨v1,v1c,v1s⟩:=L3.out.s1
     refine (refused_core b g1 v1 S.refuse w3 v1c (L3.out.rows.fz 1) v1s).mono ?_
     rintro e w4 ⟨rfl,hT⟩
     rw[T1.out]
     obtain ⟨v',k1,k2⟩:=took_bool v1c hT v1s L3.out.n1
     obtain ⟨l4,m4⟩:=L3.out.refuse k1 k2
     have M4:Hid (Moves F (Foot b g0 g1 g2 g bp bf (takeRefuse S).places (takeRefuse S).refuse (takeRefuse S).fills MP) w w4):=hide (by rw[EF.out];exact (Moves.below HB3.out).trans m4)
     have C4:Hid (CommitAt w4 w4 b (takeRefuse S) g0 g1 g2 g cap R bp bf n MP A a.toNat a.toNat n MF):=hide (CommitAt.start (S:=takeRefuse S) l4 KF.out.asked a.toNat)
     obtain ⟨gp,cpp,rfl,hgp,hPc⟩:=HP3.out.resolve_left (fun z=>hne z.2)
     have hgw:w.heap.size≤gp:=hpb gp rfl
     have hg4:gp<w4.heap.size:=Nat.lt_of_lt_of_le hgp k1.size
     have hgF:Hid (¬Foot b g0 g1 g2 g bp bf (takeRefuse S).places (takeRefuse S).refuse (takeRefuse S).fills MP gp):=hide (fun z=>by
      rcases M4.out.new gp z with y|y
      ·rw[EF.out] at y;have:=L.out.lt y;omega
      ·have hm:=m4.new gp z
       rcases hm with y|y
       ·have:=L.out.lt y;omega
       ·omega)
     have hPc4:Hid (∀i (h:i<Ps.length),w4.cell? ⟨gp,i * 3,none⟩=some (.int .u64 (Ps[i].1:Int))∧w4.cell? ⟨gp,i * 3+1,none⟩=some (.int .u64 (Ps[i].2.1:Int))∧w4.cell? ⟨gp,i * 3+2,none⟩=some (.int .i64 (Ps[i].2.2:Int))):=hide (fun i hi=>by
      have hbw:b<w.heap.size:=cell_lt L.out.rows.list
      have e4:w4.heap[gp]? =w3.heap[gp]? :=k1.block gp hgp (by omega)
      obtain ⟨p1,p2,p3⟩:=hPc i hi
      exact ⟨(World.cell?_of_block (a:=⟨gp,i * 3,none⟩) e4).trans p1,(World.cell?_of_block (a:=⟨gp,i * 3+1,none⟩) e4).trans p2,(World.cell?_of_block (a:=⟨gp,i * 3+2,none⟩) e4).trans p3⟩)
     clear hT k1 k2 v1c v1s l4 m4 hPc hpb HP3 hne
     go_wp2_with fail
     go_loopw [30] (fun iv wr=>∃(k d nk:Nat) (MFk:Nat→Nat),iv= .int .i64 (k:Int)∧k≤Ps.length∧a.toNat≤d∧Hid (CState S.st a.toNat (a.toNat+c.toNat) Ps k d)∧Hid (CommitAt w4 wr b (takeRefuse S) g0 g1 g2 g cap R bp bf n MP A a.toNat d nk MFk)) (fun iv _=>Ps.length -(intOf iv).toNat)
     case atStart=>exact ⟨0,a.toNat,n,MF,rfl,Nat.zero_le _,Nat.le_refl _,CS0,C4⟩
     case round=>
      obtain ⟨k,d,nk,MFk,rfl,hk,had,hS,hC⟩:=hrel
      clear CS0 C4
      by_cases hlt:k<Ps.length
      ·obtain ⟨s1,s2,s3,s4,nx⟩:=hS.out.next hlt
       obtain ⟨c1',c2',c3'⟩:=hPc4.out k hlt
       have eb:=hC.out.moves.fr.block gp hg4 hgF.out
       rw[←World.cell?_of_block eb] at c1' c2' c3'
       obtain ⟨x,hx⟩:∃x,x=Ps[k].2.1:=⟨_,rfl⟩
       obtain ⟨s,hs⟩:∃s,s=Ps[k].2.2:=⟨_,rfl⟩
       rw[s1] at c1'
       rw[←hx] at c2' s2 s3 s4 nx
       rw[←hs] at c3' s4
       have NX:=hide nx
       have S4:=hide s4
       have hgr:gp<wr.heap.size:=Nat.lt_of_lt_of_le hg4 hC.out.moves.fr.size
       clear nx s4 s1 hx hs eb
       by_cases z3:s=3
       ·subst z3
        go_wp2_with fail
        have hA:=hide (hC.out.below ((Below.refl _ _).alloc (Nat.le_refl _) (.cells #[.int .u64 (d:Int), .int .u64 (x:Int), .int .i64 3] 301)))
        have nk1:=hC.out.nle
        refine (fill_core b (takeRefuse S).places (takeRefuse S).refuse (readyN (takeRefuse S) a.toNat (d - a.toNat)).fills S.st g0 g1 g2 g cap R bp bf nk MP MFk A _ d x (by omega) (by omega) (by omega) hA.out.lies (fun q q1 q2=>hA.out.non q (by rw[CommitAt.st had q1];show S.st q≠2;rw[S4.out q q1 q2];decide)) hA.out.fi).mono ?_
        rintro e w5 ⟨rfl,hF⟩
        go_wp2_with fail
        obtain ⟨nf,MF',kf⟩:=hF.out
        exact ⟨⟨k+1,x,nf,MF',by go_num,by omega,by omega,NX,hide (hA.out.again had (by omega) S4.out kf)⟩,by simp[intOf];omega⟩
       ·have y3:((s:Int)==3)=false:=beq_eq_false_iff_ne.2 (by omega)
        go_wp2_with fail
        have hA:=hC.out.below ((Below.refl _ _).alloc (Nat.le_refl _) (.cells #[.int .u64 (d:Int), .int .u64 (x:Int), .int .i64 (s:Int)] 301))
        have sx:=S4.out d (Nat.le_refl _) s2
        have le3:=KF.out.wf.le3 d
        have ne0:=Q2.out d had (by omega)
        by_cases z2:s=2
        ·subst z2
         exact ⟨⟨k+1,x,nk,MFk,by go_num,by omega,by omega,NX,hide (hA.ready had (by omega) S4.out)⟩,by simp[intOf];omega⟩
        ·obtain rfl:s=1:=by omega
         exact ⟨⟨k+1,x,nk,MFk,by go_num,by omega,by omega,NX,hide (hA.fresh had (by omega) S4.out)⟩,by simp[intOf];omega⟩
      ·have hd:d=a.toNat+c.toNat:=by
        have:=hS.out.rest
        rw[List.drop_eq_nil_of_le (by omega)] at this
        exact this
       subst hd
       have kl:¬(k:Int)<(Ps.length:Int):=by omega
       go_wp2_with fail
       have MM:=hide hC.out.lies.rows
       refine (set_core b 3 g cap R S.st a (a+c) 2 a0 (by omega) ac (by omega) hn wr MM.out).mono ?_
       rintro e w6 ⟨rfl,hS6⟩
       rw[act.out] at hS6
       have HS6:=hide hS6
       clear hS6
       go_wp2_with fail
       go_ret
       refine ⟨rfl,?_⟩
       rw[PE.out]
       exact FIN.out w4 w4 wr w6 nk MFk M4.out rfl hC.out HS6.out
  ·have hl:commitS S a.toNat c.toNat=(33,S):=by
    unfold commitS
    rw[if_neg (fun z=>z r),if_pos q]
   rw[hl]
   have Q2:=hide (fun z=>q ((row_all (P:=fun x=>x≠0)).2 z))
   have FIN:Hid (∀w1,Below w.heap.size w w1→Step VI F w w1 ⟨b,0,none⟩ S (K+cost 33 c.toNat)):=hide (fun w1 k1=>(V.out.more (by omega)).below k1)
   obtain ⟨PO,hPO⟩:∃PO:World→Prop,PO=fun w'=>Step VI F w w' ⟨b,0,none⟩ S (K+cost 33 c.toNat):=⟨_,rfl⟩
   suffices Calls Tryz.prog 183 #[.pointer (some ⟨b,0,none⟩), .int .u64 a, .int .u64 c] w fun e w'=>e= .returned (.int .i64 33)∧PO w' by rw[hPO] at this;exact this
   have PE:=hide hPO
   clear q hl hPO r r'
   go_enter Tryz.func183,Tryz.ntmps183
   go_wp2_with (first
    |(go_at_call 146;refine (right_core a c h0 c0 h1 _).mono ?_;rintro e w' ⟨rfl,hw'⟩;rw[hw',DR.out];clear hw' w'))
   refine (parts_core b 3 g cap R S.st a (a+c) h0 (by omega) ac (by omega) w L.out.rows.listAt L.out.rows.seg).mono ?_
   rintro e w1 ⟨v,Ps,rfl,hP,hC,hl,_,B1⟩
   rw[act.out] at hC
   have E0:Hid ((Ps.any fun x=>((x.2.2:Int)==0))=true):=hide (any_false fun z=>Q2.out ((cover_none hC).1 z))
   have HP:=hide hP
   have HB:=hide B1
   clear hP hC B1
   go_wp2_with fail
   refine (anyNone_core v Ps (by omega) w1 HP.out).mono ?_
   rintro e w2 ⟨rfl,B2⟩
   rw[E0.out]
   have HB2:=hide (HB.out.trans (B2.mono HB.out.size))
   clear B2 HP HB
   go_wp2_with fail
   go_ret
   refine ⟨rfl,?_⟩
   rw[PE.out]
   exact FIN.out _ HB2.out
 ·have hl:commitS S a.toNat c.toNat=(1,S):=by
   unfold commitS
   rw[if_pos r]
  rw[hl]
  have DR:=hide (decide_eq_false r)
  have T:=hide ((V.out.more (K':=K+cost 1 c.toNat) (by omega)).below (Below.refl _ _))
  clear r hl
  go_enter Tryz.func183,Tryz.ntmps183
  go_wp2_with (first
   |(go_at_call 146;refine (right_core a c h0 c0 h1 _).mono ?_;rintro e w' ⟨rfl,hw'⟩;rw[hw',DR.out];clear hw' w'))
  go_ret
  exact ⟨rfl,T.out⟩
end Go.Proofs.YtdgdhnnakcncoaaGreatDoor.V
namespace Go.Proofs.YtdgdhnnakcncoaaGreatDoor.V
set_option maxHeartbeats 1600000
open Go.ChangeShapes Go.WideShapes Go.ChangeAt Go.RowKit Go.Proofs.Sp
theorem infoBo:(Tryz.prog.info? 4).map (fun i=>(i.zero,i.size,i.bytes))=some (some (.bool false),1,1):=by kernel_rfl
theorem slB_of_owns {w:World} {base:Nat} {e:TypeId} {v:Value} {n:Nat} {xs:List Value} (h:w.ownsRow base e 1 v n xs) (hv:v≠ .slice none 0 0):∃g,SlB w v xs g∧base≤g∧g<w.heap.size:=by
 have hs:=Sl.of_owns h
 obtain ⟨hl,h|⟨g,cap,cur,hv',hg,hh,hc,hm,hs',ht⟩⟩:=h
 ·exact absurd h.1 hv
 ·have hgl:=(Array.getElem?_eq_some_iff.1 hh).1
  rcases hs with ⟨e,_⟩|⟨b,off,cp,e,h1,h2,h3⟩
  ·exact absurd e hv
  ·rw[hv'] at e
   injection e with e1 e2 e3
   injection e1 with e1
   injection e1 with e4 e5
   subst e4 e5 e3
   exact ⟨g,Or.inr ⟨0,cap,by rw[hv',e2],h1,by unfold maxLen at hm;omega,h2,h3⟩,hg,hgl⟩
theorem own_blk (B:Nat):∀k,(Value.slice (some ⟨B,0,none⟩) 0 0).ownBlock=some k→B≤k:=fun k hk=>by
 have:B=k:=by simpa [Value.ownBlock] using hk
 omega
set_option maxRecDepth 100000 in
theorem clone_u64 (v:Value) (xs:List Nat) (w:World) (hs:Sl w v (u64s xs)) (hn:xs.length≤1048576):
 Calls Tryz.prog 37 #[v] w fun e w'=>∃v' g,e= .returned v'∧SlB w' v' (u64s xs) g∧w.heap.size≤g∧g≤w'.heap.size∧Below w.heap.size w w':=by
 have hq0:∀w:World,(binOp .eql 22 (.slice none 0 0) (.slice none 0 0)).run Tryz.prog w= .ok (.bool true) w:=fun _=>rfl
 have hq1:∀(ad:Addr) (n c:Nat) (w:World),(binOp .eql 22 (.slice (some ad) n c) (.slice none 0 0)).run Tryz.prog w= .ok (.bool false) w:=fun _ _ _ _=>rfl
 rcases hs with ⟨rfl,h0⟩|⟨b,off,cap,rfl,h1,h2,h3⟩
 ·have H0:=hide h0
  clear h0
  go_enter Tryz.func37,Tryz.ntmps37
  go_wp2_with fail
  go_ret
  exact ⟨_,w.heap.size,rfl,Or.inl ⟨rfl,H0.out⟩,Nat.le_refl _,Nat.le_refl _,Below.refl _ _⟩
 ·obtain ⟨ii,hii,hz0,hz1,hz2⟩:=info_parts infoU
  have H3:Hid (∀j u,(u64s xs)[j]? =some u→(w.alloc (.cells #[] 39)).cell? ((⟨b,off,none⟩:Addr).add j)=some u):=hide (fun j u hu=>by
   rw[addr_add0,World.cell?_of_block (Below.heap_alloc _ _ b h2)]
   exact h3 j u hu)
  have HL:Hid ((u64s xs).length=(u64s xs).length * 1):=hide (by omega)
  have e0:(u64s xs).length=xs.length:=by simp[u64s]
  obtain ⟨n,hnn⟩:∃n,n=(u64s xs).length:=⟨_,rfl⟩
  rw[←hnn] at HL e0 h1 ⊢
  have HN:=hide hnn
  have hn':n≤1048576:=by omega
  clear h3 hnn e0
  go_enter Tryz.func37,Tryz.ntmps37
  go_wp2_with (first|(at_builtin;refine wpList_append_own _ rfl (.tmp 5) (.tmp 6) 22 rfl w.heap.size 39 ii (.int .u64 0) 1 8 Tryz.underlying22 hii hz0 hz1 hz2 rfl (by decide) (.slice (some ⟨w.heap.size,0,none⟩) 0 0) 0 [] rfl (own_empty w 39 1) ⟨b,off,none⟩ n cap (u64s xs) rfl (HN.out▸HL.out) H3.out (u64s_one xs) (by unfold maxLen;omega) (by omega) (by simp) ?_;intro v' w1 hown hgrow hnil))
  go_ret
  have hv:v'≠ .slice none 0 0:=fun z=>by have:=(hnil.1 z).1;cases this
  obtain ⟨g,k1,k2,k3⟩:=slB_of_owns hown hv
  exact ⟨v',g,rfl,k1,k2,Nat.le_of_lt k3,((Below.refl _ _).alloc (Nat.le_refl _) _).grown hgrow (by simp) (own_blk _)⟩
theorem bools_one (l:List Bool):∀u∈bools l,u.oneCell'=true:=by
 intro u hu
 unfold bools at hu
 obtain ⟨x,_,rfl⟩:=List.mem_map.1 hu
 rfl
set_option maxRecDepth 100000 in
theorem clone_bool (v:Value) (xs:List Bool) (w:World) (hs:Sl w v (bools xs)) (hn:xs.length≤1048576):
 Calls Tryz.prog 38 #[v] w fun e w'=>∃v' g,e= .returned v'∧SlB w' v' (bools xs) g∧w.heap.size≤g∧g≤w'.heap.size∧Below w.heap.size w w':=by
 have hq0:∀w:World,(binOp .eql 23 (.slice none 0 0) (.slice none 0 0)).run Tryz.prog w= .ok (.bool true) w:=fun _=>rfl
 have hq1:∀(ad:Addr) (n c:Nat) (w:World),(binOp .eql 23 (.slice (some ad) n c) (.slice none 0 0)).run Tryz.prog w= .ok (.bool false) w:=fun _ _ _ _=>rfl
 rcases hs with ⟨rfl,h0⟩|⟨b,off,cap,rfl,h1,h2,h3⟩
 ·have H0:=hide h0
  clear h0
  go_enter Tryz.func38,Tryz.ntmps38
  go_wp2_with fail
  go_ret
  exact ⟨_,w.heap.size,rfl,Or.inl ⟨rfl,H0.out⟩,Nat.le_refl _,Nat.le_refl _,Below.refl _ _⟩
 ·obtain ⟨ii,hii,hz0,hz1,hz2⟩:=info_parts infoBo
  have H3:Hid (∀j u,(bools xs)[j]? =some u→(w.alloc (.cells #[] 4)).cell? ((⟨b,off,none⟩:Addr).add j)=some u):=hide (fun j u hu=>by
   rw[addr_add0,World.cell?_of_block (Below.heap_alloc _ _ b h2)]
   exact h3 j u hu)
  have HL:Hid ((bools xs).length=(bools xs).length * 1):=hide (by omega)
  have e0:(bools xs).length=xs.length:=by simp[bools]
  obtain ⟨n,hnn⟩:∃n,n=(bools xs).length:=⟨_,rfl⟩
  rw[←hnn] at HL e0 h1 ⊢
  have HN:=hide hnn
  have hn':n≤1048576:=by omega
  clear h3 hnn e0
  go_enter Tryz.func38,Tryz.ntmps38
  go_wp2_with (first|(at_builtin;refine wpList_append_own _ rfl (.tmp 5) (.tmp 6) 23 rfl w.heap.size 4 ii (.bool false) 1 1 Tryz.underlying23 hii hz0 hz1 hz2 rfl (by decide) (.slice (some ⟨w.heap.size,0,none⟩) 0 0) 0 [] rfl (own_empty w 4 1) ⟨b,off,none⟩ n cap (bools xs) rfl (HN.out▸HL.out) H3.out (bools_one xs) (by unfold maxLen;omega) (by omega) (by simp) ?_;intro v' w1 hown hgrow hnil))
  go_ret
  have hv:v'≠ .slice none 0 0:=fun z=>by have:=(hnil.1 z).1;cases this
  obtain ⟨g,k1,k2,k3⟩:=slB_of_owns hown hv
  exact ⟨v',g,rfl,k1,k2,Nat.le_of_lt k3,((Below.refl _ _).alloc (Nat.le_refl _) _).grown hgrow (by simp) (own_blk _)⟩
theorem newRows_core (w:World):Calls Tryz.prog 39 #[] w fun e w'=>∃g,e= .returned (.agg #[.slice (some ⟨g,0,none⟩) 1 1, .int .u64 34359738368, .int .u64 0, .int .u64 0, .int .u64 0])∧HoldsR w' g 1 [(0,0)]∧w.heap.size≤g∧g<w'.heap.size∧Below w.heap.size w w':=by
 go_enter Tryz.func39,Tryz.ntmps39
 go_wp2_with fail
 simp[bodyPost,results,Tryz.results39,go_sem]
 refine ⟨⟨⟨[.int .u64 0, .int .i64 0],⟨?_,rfl,by decide⟩,rfl⟩,by decide⟩,(((Below.refl _ _).alloc (Nat.le_refl _) _).alloc (by simp) _).alloc (by simp;omega) _⟩
 rw[Below.heap_alloc _ _ (w.heap.size+1) (by simp)]
 have:=heap_alloc_new (w.alloc (.cells #[.slice (some ⟨w.heap.size+1,0,none⟩) 1 1, .int .u64 34359738368, .int .u64 0, .int .u64 0, .int .u64 0] 87)) (.cells #[.int .u64 0, .int .i64 0] 170)
 rwa[show (w.alloc (.cells #[.slice (some ⟨w.heap.size+1,0,none⟩) 1 1, .int .u64 34359738368, .int .u64 0, .int .u64 0, .int .u64 0] 87)).heap.size=w.heap.size+1 by simp] at this
theorem newWords_core (w:World):Calls Tryz.prog 40 #[] w fun e w'=>∃bp bf,e= .returned (.agg #[.map (some bp), .map (some bf)])∧MapIs w' ptrElem bp 0 (fun _=>0)∧MapIs w' numElem bf 0 (fun _=>0)∧bp≠bf∧w.heap.size≤bp∧w.heap.size≤bf∧Below w.heap.size w w':=by
 have hmk:∀w:World,(Instr.makeMap 89 none).run Tryz.prog w= .ok (.map (some w.heap.size)) (w.alloc (.map #[] 0)):=fun _=>rfl
 have hmk2:∀w:World,(Instr.makeMap 90 none).run Tryz.prog w= .ok (.map (some w.heap.size)) (w.alloc (.map #[] 0)):=fun _=>rfl
 go_enter Tryz.func40,Tryz.ntmps40
 go_wp2_with fail
 have key:∀o:Obj,MapIs (((w.alloc o).alloc (.map #[] 0)).alloc (.map #[] 0)) ptrElem (w.heap.size+1) 0 (fun _=>0)∧MapIs (((w.alloc o).alloc (.map #[] 0)).alloc (.map #[] 0)) numElem (w.heap.size+1+1) 0 (fun _=>0):=fun o=>by
  have h1:=MapIs.made (w.alloc o) ptrElem
  have h2:=MapIs.made ((w.alloc o).alloc (.map #[] 0)) numElem
  rw[show (w.alloc o).heap.size=w.heap.size+1 by simp] at h1
  rw[show ((w.alloc o).alloc (.map #[] 0)).heap.size=w.heap.size+1+1 by simp] at h2
  exact ⟨h1.kept (Below.heap_alloc _ _ _ (by simp)),h2⟩
 simp[bodyPost,results,Tryz.results40,go_sem]
 exact ⟨_,_,⟨rfl,rfl⟩,(key _).1,(key _).2,by omega,by omega,by omega,(((Below.refl _ _).alloc (Nat.le_refl _) _).alloc (by simp) _).alloc (by simp;omega) _⟩
end Go.Proofs.YtdgdhnnakcncoaaGreatDoor.V
namespace Go.Proofs.YtdgdhnnakcncoaaGreatDoor.V
set_option maxHeartbeats 1600000
open Go.ChangeShapes Go.WideShapes Go.ChangeAt Go.RowKit Go.Proofs.Sp
theorem Sl.below {w w':World} {v:Value} {xs:List Value} (h:Sl w v xs) (hb:Below w.heap.size w w'):Sl w' v xs:=by
 rcases h with h|⟨b,off,cap,h1,h2,h3,h4⟩
 ·exact Or.inl h
 ·exact Or.inr ⟨b,off,cap,h1,h2,Nat.lt_of_lt_of_le h3 hb.size,fun j u hu=>by rw[hb.cell (p:=⟨b,off+j,none⟩) h3];exact h4 j u hu⟩
theorem SlB.shape {w:World} {v:Value} {xs:List Value} {g:Nat} (h:SlB w v xs g):∃o m c,v= .slice o m c:=by
 rcases h with ⟨h,_⟩|⟨off,cap,h,_⟩
 ·exact ⟨_,_,_,h⟩
 ·exact ⟨_,_,_,h⟩
theorem cell_new (w:World) (c:Array Value) (t:TypeId) (k:Nat):(w.alloc (.cells c t)).cell? ⟨w.heap.size,k,none⟩=c[k]? :=by
 rw[cell_of_row _ w.heap.size k c t (0,0) (heap_alloc_new w (.cells c t))]
theorem SlB.below {w w':World} {v:Value} {xs:List Value} {g:Nat} (h:SlB w v xs g) (hb:Below w.heap.size w w'):SlB w' v xs g:=h.kept hb.size (fun hg=>hb.block g hg)
theorem new_lies {A1 A2 A3 A4 A5:World} {x0 x1 x2:Value} {pl:List Nat} {re:List Bool} {fi:List Nat} {g0 g1 g2 g bp bf:Nat} (B2:Below A1.heap.size A1 A2) (B3:Below A2.heap.size A2 A3) (B4:Below A3.heap.size A3 A4) (B5:Below A4.heap.size A4 A5)
 (P0:SlB A1 x0 (u64s pl) g0) (P1:SlB A2 x1 (bools re) g1) (P2:SlB A3 x2 (u64s fi) g2) (r0:g0≤A1.heap.size) (r1:g1≤A2.heap.size) (r2:g2≤A3.heap.size) (P3:HoldsR A4 g 1 [(0,0)]) (q3:A3.heap.size≤g) (r3:g<A4.heap.size)
 (P4:MapIs A5 ptrElem bp 0 (fun _=>0)) (P5:MapIs A5 numElem bf 0 (fun _=>0)) (q4:bp≠bf) (q5:A4.heap.size≤bp) (q6:A4.heap.size≤bf):
 Lies (A5.alloc (.cells #[x0,x1,x2, .slice (some ⟨g,0,none⟩) 1 1, .int .u64 34359738368, .int .u64 0, .int .u64 0, .int .u64 0, .map (some bp), .map (some bf)] 95)) A5.heap.size pl re fi (fun _=>0) g0 g1 g2 g 1 [(0,0)] bp bf 0 (fun _=>0) (fun _=>0) (fun _ _=>0):=by
 have s2:=B2.size
 have s3:=B3.size
 have s4:=B4.size
 have s5:=B5.size
 have hc:=cell_new A5 #[x0,x1,x2, .slice (some ⟨g,0,none⟩) 1 1, .int .u64 34359738368, .int .u64 0, .int .u64 0, .int .u64 0, .map (some bp), .map (some bf)] 95
 have B6:Below A5.heap.size A5 (A5.alloc (.cells #[x0,x1,x2, .slice (some ⟨g,0,none⟩) 1 1, .int .u64 34359738368, .int .u64 0, .int .u64 0, .int .u64 0, .map (some bp), .map (some bf)] 95)):=(Below.refl _ _).alloc (Nat.le_refl _) _
 have fzn:∀k,(A5.alloc (.cells #[x0,x1,x2, .slice (some ⟨g,0,none⟩) 1 1, .int .u64 34359738368, .int .u64 0, .int .u64 0, .int .u64 0, .map (some bp), .map (some bf)] 95)).frozen? ⟨A5.heap.size,k,none⟩=false:=fun k=>by simp[go_sem]
 generalize (A5.alloc (.cells #[x0,x1,x2, .slice (some ⟨g,0,none⟩) 1 1, .int .u64 34359738368, .int .u64 0, .int .u64 0, .int .u64 0, .map (some bp), .map (some bf)] 95))=W at *
 have C5:Below A4.heap.size A4 W:=B5.trans (B6.mono s5)
 have C4:Below A3.heap.size A3 W:=B4.trans (C5.mono s4)
 have C3:Below A2.heap.size A2 W:=B3.trans (C4.mono s3)
 have C2:Below A1.heap.size A1 W:=B2.trans (C3.mono s2)
 have wf:∀x,WFoot bp bf (fun _=>0) x→x=bp∨x=bf:=by
  rintro x (h|h|⟨q,h⟩)
  ·exact Or.inl h
  ·exact Or.inr h
  ·cases h
 have hbp:=P4.lt
 have hbf:=P5.lt
 have ct:∀k,cntI (fun _=>0) 0 34359738368 k=if 0=k then 34359738368 else 0:=fun k=>cntI_all (fun _ _ _=>rfl)
 refine ⟨⟨x0,hc 0,P0.below C2⟩,⟨x1,hc 1,P1.below C3⟩,⟨x2,hc 2,P2.below C4⟩,⟨hc 3,?_,fun k hk=> ?_,fzn,?_,?_,fun _=>Nat.zero_le _,by omega⟩,⟨hc 8,hc 9,P4.kept (B6.block bp hbp),P5.kept (B6.block bf hbf),fun p h=>absurd rfl h,fun p q h=>absurd rfl h,fun p h=>absurd rfl h,⟨by omega,by omega,q4⟩⟩,
  by omega,by omega,by omega,fun z=> ?_,fun z=> ?_,fun z=> ?_,fun z=> ?_⟩
 ·obtain ⟨⟨cur,hr,ht⟩,hl⟩:=P3
  exact ⟨⟨cur,⟨(C5.block g r3).trans hr.heap,hr.len,hr.cap⟩,ht⟩,hl⟩
 ·rw[ct,hc]
  have:k=0∨k=1∨k=2∨k=3:=by omega
  rcases this with rfl|rfl|rfl|rfl<;>rfl
 ·exact ⟨rfl,34359738368,by decide,fun _ _ _=>rfl,rfl⟩
 ·trivial
 ·have:=P0.lt (u64s_ne.2 z)
  exact ⟨by omega,fun y=>by rcases wf _ y with y|y<;>omega⟩
 ·have:=P1.lt (bools_ne.2 z)
  exact ⟨by omega,fun y=>by rcases wf _ y with y|y<;>omega⟩
 ·have:=P2.lt (u64s_ne.2 z)
  exact ⟨by omega,fun y=>by rcases wf _ y with y|y<;>omega⟩
 ·rcases wf _ z with y|y<;>omega
theorem new_fits (pl:List Nat) (re:List Bool) (fi:List Nat) (b0:∀x∈pl,x<18446744073709551616) (b2:∀x∈fi,x<18446744073709551616):Fits (Sp.new pl re fi) 0 [(0,0)] 0 (fun _=>0) (fun _=>0) (fun _ _=>0):=
 ⟨WF.new _ _ _,fun _=>Iff.rfl,rfl,fun p j _ h=>(by cases h),fun _ _=>⟨rfl,rfl⟩,b0,b2,by decide,by decide⟩
set_option maxRecDepth 100000 in
set_option maxHeartbeats 2000000 in
theorem vnew (w:World) (v0 v1 v2:Value) (pl:List Nat) (re:List Bool) (fi:List Nat) (h0:Sl w v0 (u64s pl)) (h1:Sl w v1 (bools re)) (h2:Sl w v2 (u64s fi)) (b0:∀x∈pl,x<18446744073709551616) (b2:∀x∈fi,x<18446744073709551616)
 (l0:pl.length≤1048576) (l1:re.length≤1048576) (l2:fi.length≤1048576):
 Calls Tryz.prog vm.new #[.agg #[v0,v1,v2]] w fun e w'=>∃m F,e= .returned (.pointer (some m))∧VI w' m (Sp.new pl re fi) F 0∧Kept (fun _=>False) w w'∧∀b,F b→w.heap.size≤b:=by
 have H0:=hide h0
 have H1:=hide h1
 have H2:=hide h2
 clear h0 h1 h2
 show Calls Tryz.prog 10 _ w _
 go_enter Tryz.func10,Tryz.ntmps10
 go_wp2_with fail
 have BW:Below w.heap.size w (w.alloc (.cells #[v0,v1,v2] 25)):=(Below.refl _ _).alloc (Nat.le_refl _) _
 have hlt:w.heap.size<(w.alloc (.cells #[v0,v1,v2] 25)).heap.size:=by simp
 have c0:(w.alloc (.cells #[v0,v1,v2] 25)).cell? ⟨w.heap.size,0,none⟩=some v0:=by simp[go_sem]
 have c1:(w.alloc (.cells #[v0,v1,v2] 25)).cell? ⟨w.heap.size,1,none⟩=some v1:=by simp[go_sem]
 have c2:(w.alloc (.cells #[v0,v1,v2] 25)).cell? ⟨w.heap.size,2,none⟩=some v2:=by simp[go_sem]
 generalize w.alloc (.cells #[v0,v1,v2] 25)=W at *
 have BD:Below w.heap.size w (W.drewN 1):=below_drewN BW 1
 go_region_held3 (fun w'=>w'.cell? ⟨w.heap.size,0,none⟩=some v0∧w'.cell? ⟨w.heap.size,1,none⟩=some v1∧w'.cell? ⟨w.heap.size,2,none⟩=some v2) (go_keep) (first
  |(go_at_call_of 37 v0;refine (clone_u64 v0 pl _ (H0.out.below BD) l0).mono ?_;rintro e A1 ⟨x0,g0,rfl,p0,q0,r0,B1⟩;obtain ⟨o0,u0,d0,rfl⟩:=p0.shape;have P0:=hide p0;have E1:Below w.heap.size w A1:=BD.trans (B1.mono BD.size);have t1:w.heap.size<A1.heap.size:=Nat.lt_of_lt_of_le hlt B1.size;have k0:=((bcell B1).1 w.heap.size 0 hlt).trans c0;have k1:=((bcell B1).1 w.heap.size 1 hlt).trans c1;have k2:=((bcell B1).1 w.heap.size 2 hlt).trans c2;clear p0)
  |(go_at_call_of 38 v1;refine (clone_bool v1 re _ (H1.out.below E1) l1).mono ?_;rintro e A2 ⟨x1,g1,rfl,p1,q1,r1,B2⟩;obtain ⟨o1,u1,d1,rfl⟩:=p1.shape;have P1:=hide p1;have E2:Below w.heap.size w A2:=E1.trans (B2.mono E1.size);have t2:w.heap.size<A2.heap.size:=Nat.lt_of_lt_of_le t1 B2.size;have m0:=((bcell B2).1 w.heap.size 0 t1).trans k0;have m1:=((bcell B2).1 w.heap.size 1 t1).trans k1;have m2:=((bcell B2).1 w.heap.size 2 t1).trans k2;clear p1)
  |(go_at_call_of 37 v2;refine (clone_u64 v2 fi _ (H2.out.below E2) l2).mono ?_;rintro e A3 ⟨x2,g2,rfl,p2,q2,r2,B3⟩;obtain ⟨o2,u2,d2,rfl⟩:=p2.shape;have P2:=hide p2;have E3:Below w.heap.size w A3:=E2.trans (B3.mono E2.size);have t3:w.heap.size<A3.heap.size:=Nat.lt_of_lt_of_le t2 B3.size;have n0:=((bcell B3).1 w.heap.size 0 t2).trans m0;have n1:=((bcell B3).1 w.heap.size 1 t2).trans m1;have n2:=((bcell B3).1 w.heap.size 2 t2).trans m2;clear p2)
  |(go_at_call 39;refine (newRows_core _).mono ?_;rintro e A4 ⟨g,rfl,p3,q3,r3,B4⟩;have P3:=hide p3;have E4:Below w.heap.size w A4:=E3.trans (B4.mono E3.size);have t4:w.heap.size<A4.heap.size:=Nat.lt_of_lt_of_le t3 B4.size;have y0:=((bcell B4).1 w.heap.size 0 t3).trans n0;have y1:=((bcell B4).1 w.heap.size 1 t3).trans n1;have y2:=((bcell B4).1 w.heap.size 2 t3).trans n2;clear p3)
  |(go_at_call 40;refine (newWords_core _).mono ?_;rintro e A5 ⟨bp,bf,rfl,p4,p5,q4,q5,q6,B5⟩;have P4:=hide p4;have P5:=hide p5;have E5:Below w.heap.size w A5:=E4.trans (B5.mono E4.size);have t5:w.heap.size<A5.heap.size:=Nat.lt_of_lt_of_le t4 B5.size;have z0:=((bcell B5).1 w.heap.size 0 t4).trans y0;have z1:=((bcell B5).1 w.heap.size 1 t4).trans y1;have z2:=((bcell B5).1 w.heap.size 2 t4).trans y2;clear p4 p5))
 have L:=hide (new_lies B2 B3 B4 B5 P0.out P1.out P2.out r0 r1 r2 P3.out q3 r3 P4.out P5.out q4 q5 q6)
 have hq:w.heap.size≤g0∧w.heap.size≤g1∧w.heap.size≤g2∧w.heap.size≤g∧w.heap.size≤bp∧w.heap.size≤bf∧w.heap.size≤A5.heap.size:=⟨Nat.le_trans (Nat.le_of_lt hlt) q0,Nat.le_trans (Nat.le_of_lt t1) q1,Nat.le_trans (Nat.le_of_lt t2) q2,Nat.le_trans (Nat.le_of_lt t3) q3,Nat.le_trans (Nat.le_of_lt t4) q5,Nat.le_trans (Nat.le_of_lt t4) q6,Nat.le_of_lt t5⟩
 have HQ:=hide hq
 clear hq
 go_wp2_with fail
 go_ret
 have hB:Below w.heap.size w (A5.alloc (.cells #[.slice o0 u0 d0, .slice o1 u1 d1, .slice o2 u2 d2, .slice (some ⟨g,0,none⟩) 1 1, .int .u64 34359738368, .int .u64 0, .int .u64 0, .int .u64 0, .map (some bp), .map (some bf)] 95)):=E5.alloc E5.size _
 refine ⟨⟨A5.heap.size,0,none⟩,rfl,Foot A5.heap.size g0 g1 g2 g bp bf pl re fi (fun _=>0),⟨A5.heap.size,g0,g1,g2,g,1,[(0,0)],bp,bf,0,fun _=>0,fun _=>0,fun _ _=>0,rfl,rfl,L.out,new_fits pl re fi b0 b2⟩,⟨hB.os,hB.tape,hB.output,hB.size,fun x hx _=>hB.block x hx⟩,?_⟩
 obtain ⟨a1,a2,a3,a4,a5,a6,a7⟩:=HQ.out
 rintro x (rfl|⟨_,rfl⟩|⟨_,rfl⟩|⟨_,rfl⟩|rfl|(rfl|rfl|⟨q,hq⟩))
 ·exact a7
 ·exact a1
 ·exact a2
 ·exact a3
 ·exact a4
 ·exact a5
 ·exact a6
 ·cases hq
end Go.Proofs.YtdgdhnnakcncoaaGreatDoor.V
