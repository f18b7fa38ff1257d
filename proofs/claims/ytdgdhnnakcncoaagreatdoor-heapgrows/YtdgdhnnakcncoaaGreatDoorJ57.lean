/- Of the proof of HeapGrows: texts VVmK, VFr, VVmP. -/
import Derived.Test.YtdgdhnnakcncoaaGreatDoorJ56
import Derived.Test.YtdgdhnnakcncoaaGreatDoorJ27
import Derived.Test.YtdgdhnnakcncoaaGreatDoorJ28
import Derived.Deep.CutRange
import Derived.Deep.Cut
namespace Go.Proofs.YtdgdhnnakcncoaaGreatDoor.V
set_option maxHeartbeats 1600000
open Go.ChangeShapes Go.WideShapes Go.ChangeAt Go.RowKit Go.Proofs.Sp
set_option maxRecDepth 100000 in
set_option maxHeartbeats 4000000 in
theorem set_core (b o g cap:Nat) (R:List (Nat×Nat)) (f:Nat→Nat) (p q:Int) (s:Nat) (hp:0<p) (hpq:p<q) (hq:q≤34359738368) (hs3:s≤3) (hn:R.length≤1099511627777) (w:World) (hM:RowsM w b o g cap R f):
 Calls Tryz.prog 150 #[.pointer (some ⟨b,o,none⟩), .int .u64 p, .int .u64 q, .int .i64 (s:Int)] w fun e w'=>e= .returned (.tuple #[])∧SetPost b o g R (putSt f p.toNat q.toNat s) w w':=by
 have hL:=hM.listAt
 have hseg:=hM.seg
 have hl:=hL.list
 have hbl:=cell_lt hl
 have HM:=hide hM
 have HL:=hide hL
 have hfz:=hM.fz
 clear hM hL
 go_enter Tryz.func150,Tryz.ntmps150
 go_wp2_with fail
 refine (parts_core b o g cap R f p q (by omega) hpq hq (by omega) w HL.out HM.out.seg).mono ?_
 rintro e w1 ⟨v,Ps,rfl,hP,hcov,hplen,hpb,b1⟩
 have hne:Ps≠ []:=by
  rintro rfl
  have:p.toNat=q.toNat:=hcov
  omega
 rcases hP with ⟨_,h0⟩|⟨gp,cp,rfl,hgp,hPc⟩
 ·exact absurd h0 hne
 have hgpw:w.heap.size≤gp:=hpb gp rfl
 have cw0:CW b o w1 w1 (fun k=>cntI f 0 34359738368 k - cntI f p.toNat (p.toNat - p.toNat) k):=CW.start fun k hk=>by
  rw[b1.cell (p:=⟨b,o+1+k,none⟩) hbl,HM.out.cnt k hk]
  have:cntI f p.toNat (p.toNat - p.toNat) k=0:=by rw[Nat.sub_self];rfl
  rw[this,Nat.sub_zero]
 have cs0:CState f p.toNat q.toNat Ps 0 p.toNat:=⟨by rw[List.drop_zero];exact hcov,Nat.le_refl _⟩
 have CW0:=hide cw0
 have CS0:=hide cs0
 have HP:=hide hPc
 have hb1:b<w1.heap.size:=Nat.lt_of_lt_of_le hbl b1.size
 have HFZ:=hide hfz
 clear cw0 cs0 hPc hcov hne hpb hfz hseg
 go_wp2_with fail
 go_loopw [20] (fun iv wr=>∃(k c:Nat),iv= .int .i64 (k:Int)∧k≤Ps.length∧Hid (CState f p.toNat q.toNat Ps k c)∧Hid (CW b o w1 wr (fun j=>cntI f 0 34359738368 j - cntI f p.toNat (c - p.toNat) j))) (fun iv _=>Ps.length -(intOf iv).toNat)
 case atStart=>exact ⟨0,p.toNat,rfl,Nat.zero_le _,CS0,CW0⟩
 case round=>
  obtain ⟨k,c,rfl,hk,hS,hC⟩:=hrel
  clear CS0 CW0
  by_cases hlt:k<Ps.length
  ·obtain ⟨s1,s2,s3,s4,nx⟩:=hS.out.next hlt
   obtain ⟨c1,c2,c3⟩:=HP.out k hlt
   have hngb:gp≠b:=by omega
   rw[←hC.out.old hgp (Or.inl hngb)] at c1 c2 c3
   obtain ⟨d,hd⟩:∃d,d=Ps[k].2.1:=⟨_,rfl⟩
   obtain ⟨t,ht⟩:∃t,t=Ps[k].2.2:=⟨_,rfl⟩
   rw[s1] at c1
   rw[←hd] at c2 s2 s3 s4 nx
   rw[←ht] at c3 s4
   have ht3:t≤3:=by rw[←s4 c (Nat.le_refl _) s2];exact HM.out.le3 c
   have NX:=hide nx
   have S4:=hide s4
   have hcn:=hC.out.cnt t (by omega)
   have hf0:wr.frozen? ⟨b,o+1+t,none⟩=false:=by rw[hC.out.fz,b1.frozen (p:=⟨b,o+1+t,none⟩) hbl];exact HFZ.out _
   obtain ⟨z,hz⟩:∃z,z=cntI f 0 34359738368 t - cntI f p.toNat (c - p.toNat) t:=⟨_,rfl⟩
   rw[←hz] at hcn
   have hbr:b<wr.heap.size:=Nat.lt_of_lt_of_le hb1 hC.out.size
   have HZ:=hide hz
   clear nx s4 s1 hd ht hz
   have ht0:(0:Int)≤(t:Int):=by omega
   have ht4:(t:Int)<4:=by omega
   go_wp2_with fail
   refine still_tail 16 (by kernel_rfl) (by kernel_rfl) ?_
   simp only[List.take_succ_cons,List.take_zero,List.drop_succ_cons,List.drop_zero]
   repeat still_step
   refine wpStill_nil ?_
   go_wp2_with fail
   refine ⟨⟨k+1,d,by go_num,by omega,NX,?_⟩,by simp[intOf];omega⟩
   have hz:=HZ.out
   have tk:=fun j=>taken (k:=j) hS.out.fc (Nat.le_of_lt s2) S4.out
   have tt:=tk t
   rw[if_pos rfl] at tt
   have sub:=cntI_sub f p.toNat (d - p.toNat) 34359738368 t (by have:=hS.out.fc;omega)
   have lim:=cntI_lim f t
   rw[u64_nat _ (z -(d - c)) (by omega) (by omega)]
   have cw:=((hC.out.put t (by omega) (z -(d - c))).below hb1 (((Below.refl _ _).alloc (Nat.le_refl _) (Obj.cells #[Value.int IntKind.u64 (c:Int),Value.int IntKind.u64 (d:Int),Value.int IntKind.i64 (t:Int)] 301)).drew))
   exact cw.ext fun j hj=>by
    by_cases e:j=t
    ·subst e;rw[if_pos rfl];omega
    ·rw[if_neg e]
     have:=tk j
     rw[if_neg (fun z=>e z.symm)] at this
     omega
  ·have hke:k=Ps.length:=by omega
   have hce:c=q.toNat:=by
    have:=hS.out.rest
    rw[hke,List.drop_length] at this
    exact this
   subst hke hce
   have hCW:=hC.out
   have hcn:=hCW.cnt s (by omega)
   have hf0:wr.frozen? ⟨b,o+1+s,none⟩=false:=by rw[hCW.fz,b1.frozen (p:=⟨b,o+1+s,none⟩) hbl];exact HFZ.out _
   obtain ⟨z,hz⟩:∃z,z=cntI f 0 34359738368 s - cntI f p.toNat (q.toNat - p.toNat) s:=⟨_,rfl⟩
   rw[←hz] at hcn
   have HZ:=hide hz
   have hbr:b<wr.heap.size:=Nat.lt_of_lt_of_le hb1 hCW.size
   clear hCW hz hS hk hlt
   have ht0:(0:Int)≤(s:Int):=by omega
   have ht4:(s:Int)<4:=by omega
   go_wp2_with fail
   refine still_tail 13 (by kernel_rfl) (by kernel_rfl) ?_
   simp only[List.take_succ_cons,List.take_zero,List.drop_succ_cons,List.drop_zero]
   repeat still_step
   refine wpStill_nil ?_
   go_wp2_with fail
   obtain ⟨w2,hw2,cw2⟩:∃w2,w2=(wr.setCell ⟨b,o+1+s,none⟩ (Value.int IntKind.u64 (IntKind.u64.wrap ((z:Int)+(q - p))))).drew∧CW b o w1 w2 (fun j=>cntI (putSt f p.toNat q.toNat s) 0 34359738368 j):=by
    refine ⟨_,rfl,?_⟩
    have hz:=HZ.out
    have cs:=fun j=>cnt_set f p.toNat (q.toNat - p.toNat) s 34359738368 j (by omega)
    rw[show p.toNat+(q.toNat - p.toNat)=q.toNat by omega] at cs
    have css:=cs s
    rw[if_pos rfl] at css
    have sub:=fun j=>cntI_sub f p.toNat (q.toNat - p.toNat) 34359738368 j (by omega)
    have lim:=cntI_lim (putSt f p.toNat q.toNat s) s
    have subs:=sub s
    rw[u64_nat _ (z+(q.toNat - p.toNat)) (by omega) (by omega)]
    have cw:=(hC.out.put s (by omega) (z+(q.toNat - p.toNat))).below hb1 (Below.refl _ _).drew
    refine cw.ext fun j hj=> ?_
    by_cases e:j=s
    ·subst e;rw[if_pos rfl];omega
    ·rw[if_neg e]
     have h1:=cs j
     have h2:=sub j
     rw[if_neg (fun z=>e z.symm)] at h1
     omega
   rw[←hw2]
   clear hw2 hcn hf0 HZ hC HP hgp
   obtain ⟨i,hi,i1,i2⟩:=HM.out.seg.at p.toNat (by omega) (by omega)
   obtain ⟨j,hj,j1,j2⟩:=HM.out.seg.at (q - 1).toNat (by omega) (by omega)
   have L2:=hide (cw2.listAt (HL.out.below b1) HM.out.ne)
   have I12:=hide (And.intro i1 i2)
   have J12:=hide (And.intro j1 j2)
   have CW2:=hide cw2
   clear cw2 i1 i2 j1 j2
   refine (at_core b o g cap R f p (by omega) (by omega) (by omega) w2 L2.out HM.out.seg i hi I12.out.1 I12.out.2).mono ?_
   rintro e w3 ⟨rfl,b3⟩
   go_wp2_with fail
   refine (at_core b o g cap R f (q - 1) (by omega) (by omega) (by omega) w3 (L2.out.below b3) HM.out.seg j hj J12.out.1 J12.out.2).mono ?_
   rintro e w4 ⟨rfl,b4⟩
   have cw4:=(CW2.out.below hb1 b3).below hb1 b4
   have l4:=cw4.listAt (HL.out.below b1) HM.out.ne
   have sj:=l4.state j hj
   have fi:=l4.first i hi
   have ll:=l4.list
   have ec:=end_core b o g cap R (j:Int) (by omega) (by omega) (by omega)
   rw[show ((j:Int).toNat+1)=j+1 by omega] at ec
   have EC:=hide ec
   have L4:=hide l4
   have CW4:=hide cw4
   clear cw4 l4 ec L2 CW2 b3 b4
   obtain ⟨sb,hsb⟩:∃sb,sb=R[j].2:=⟨_,rfl⟩
   obtain ⟨y,hy⟩:∃y,y=startR R 34359738368 (j+1):=⟨_,rfl⟩
   obtain ⟨fi1,hfi1⟩:∃fi1,fi1=R[i].1:=⟨_,rfl⟩
   rw[←hsb] at sj
   rw[←hfi1] at fi
   rw[←hy] at EC
   have HSB:=hide hsb
   have HY:=hide hy
   have HFI:=hide hfi1
   clear hsb hy hfi1
   have k0:(0:Int)≤(j:Int):=by omega
   have k1:(j:Int)<(R.length:Int):=by omega
   go_wp2_with fail
   generalize hu:(j:Int)+1=u
   have k2:IntKind.i64.wrap (u - 1)=(j:Int):=by rw[←hu,IntKind.wrap_i64];omega
   have HU:=hide hu
   clear hu
   go_region_held3 (fun w'=>w'.cell? ⟨b,o,none⟩=some (.slice (some ⟨g,0,none⟩) R.length cap)∧w'.cell? ⟨g,j * 2+1,none⟩=some (.int .i64 (sb:Int))) (go_keep) (first
    |(go_at_call 204;refine (EC.out _ (L4.out.drewN 1)).mono ?_;rintro e w' ⟨rfl,rfl⟩))
   rw[←HU.out]
   clear k2 HU EC
   go_upto_if 86 with fail
   go_cut [10] from 15 (fun s10 wc=>∃e:Nat,s10= .int .i64 ((e:Int)+1)∧wc=w4.drewN 1∧e<R.length∧Hid (e+1=if R[i].1<p.toNat then i+1 else i))
   case first=>
    by_cases hA:(fi1:Int)<p
    ·go_wp2_with fail
     go_meet
     case rel=>exact ⟨i,by go_num,rfl,hi,hide (by rw[←HFI.out,if_pos (by omega)])⟩
    ·have hi0:0<i:=by
      by_cases z:i=0
      ·subst z
       have:=HM.out.seg.start
       rw[startR_lt hi] at this
       have:=HFI.out
       omega
      ·omega
     go_wp2_with fail
     go_meet
     case rel=>exact ⟨i - 1,by rw[show ((i - 1:Nat):Int)+1=(i:Int) by omega],rfl,by omega,hide (by rw[←HFI.out,if_neg (by omega)];omega)⟩
   case rest=>
    obtain ⟨e,rfl,rfl,he,HE⟩:=hcut
    obtain ⟨ii,hii,hz0,hz1,hz2⟩:=info_parts infoR
    have se:=L4.out.state e he
    obtain ⟨sp,hsp⟩:∃sp,sp=R[e].2:=⟨_,rfl⟩
    rw[←hsp] at se
    have HSP:=hide hsp
    clear hsp
    have k3:(0:Int)≤(e:Int):=by omega
    have k4:(e:Int)<(R.length:Int):=by omega
    have k5:(((e:Int)+1)==0)=false:=beq_eq_false_iff_ne.2 (by omega)
    have hfr0:FreshB (w4.drewN 1) (.slice none 0 0) [] w4.heap.size:=Or.inl ⟨rfl,rfl⟩
    have FR0:=hide hfr0
    clear hfr0
    go_upto_if 103 with fail
    go_cut [14] from 15 (fun s14 wc=>∃F1:List (Nat×Nat),Below w4.heap.size w4 wc∧Hid (FreshB wc s14 F1 w4.heap.size)∧Hid (F1=if sp≠s then [(p.toNat,s)] else []))
    case first=>
     by_cases hB:sp=s
     ·have hB':((sp:Int) != (s:Int))=false:=by rw[hB];simp
      go_wp2_with fail
      go_meet
      case rel=>exact ⟨[],below_drewN (Below.refl _ _) 1,FR0,hide (by rw[if_neg (fun z=>z hB)])⟩
     ·have hB':((sp:Int) != (s:Int))=true:=by rw[bne_iff_ne];omega
      go_wp2_with (first|(at_builtin;refine wpList_append_lies _ rfl (.tmp 104) (.tmp 108) 84 rfl 0 170 ii _ 2 16 Tryz.underlying84 hii hz0 hz1 hz2 rfl (by decide) (.slice none 0 0) 0 [] rfl (World.ownsRow_nil _ _ _ _) ⟨w4.heap.size,0,none⟩ 1 1 [.int .u64 p, .int .i64 (s:Int)] rfl rfl (World.news_of_block (B:=w4.heap.size) (heap_alloc_new (w4.drewN 1) _)) (by simp[Value.oneCell']) (by decide) (by decide) (by decide) (Nat.zero_le _) _ rfl ?_;intro g1 cap1 w5 hown1 hgrow1 hat1 hlt1))
      have hfr1:FreshB ((w4.drewN 1).alloc (Obj.cells #[Value.int .u64 p,Value.int .i64 (s:Int)] 170)) (.slice none 0 0) [] w4.heap.size:=Or.inl ⟨rfl,rfl⟩
      have bel:Below w4.heap.size w4 w5:=FreshB.below hfr1 hgrow1 ((below_drewN (Below.refl _ _) 1).alloc (Nat.le_refl _) _) (by simp)
      have fr1:Hid (FreshB w5 (.slice (some ⟨g1,0,none⟩) (0+1) cap1) [(p.toNat,s)] w4.heap.size):=FreshB.push (F:=[]) (a:=p.toNat) hfr1 (by omega) hown1 hat1 (by simp)
      have e1:Hid ([(p.toNat,s)]=if sp≠s then [(p.toNat,s)] else []):=hide (by rw[if_pos hB])
      clear hown1 hgrow1 hat1 hlt1 hfr1
      go_meet
      case rel=>exact ⟨[(p.toNat,s)],bel,fr1,e1⟩
    case rest=>
     obtain ⟨F1,bc,HF1,HE1⟩:=hcut
     have hl1:F1.length≤1:=by rw[HE1.out];split<;>simp
     have hF1E:=hide (show F1=if e+1=0∨(R[e+1 - 1]?.map (·.2))≠some s then [(p.toNat,s)] else [] by
      rw[HE1.out,show e+1 - 1=e by omega,List.getElem?_eq_getElem he]
      by_cases z:sp=s
      ·rw[if_neg (fun x=>x z),if_neg (by rintro (x|x);omega;exact x (by simp[←HSP.out,z]))]
      ·rw[if_pos z,if_pos (Or.inr (by simp[←HSP.out];exact z))])
     have hwc:=bc.size
     clear FR0
     by_cases hr:q<(y:Int)
     ·have hr':decide (q<(y:Int))=true:=by simpa using hr
      rw[hr']
      clear hr'
      go_upto_if 115 with fail
      go_cut [14] from 15 (fun s14 wd=>∃F2:List (Nat×Nat),F2.length≤1∧Below w4.heap.size w4 wd∧Hid (FreshB wd s14 (F1++F2) w4.heap.size)∧Hid (F2=if q.toNat<startR R 34359738368 (j+1)∧R[j].2≠s then [(q.toNat,R[j].2)] else []))
      case first=>
       by_cases hC:sb=s
       ·have hC':((sb:Int) != (s:Int))=false:=by rw[hC];simp
        have e2:Hid (([]:List (Nat×Nat))=if q.toNat<startR R 34359738368 (j+1)∧R[j].2≠s then [(q.toNat,R[j].2)] else []):=hide (by rw[←HSB.out,if_neg (fun z=>z.2 hC)])
        have fr2:Hid (FreshB wc u14 (F1++ []) w4.heap.size):=by rw[List.append_nil];exact HF1
        go_wp2_with fail
        go_meet
        case rel=>exact ⟨[],by simp,bc,fr2,e2⟩
       ·have hC':((sb:Int) != (s:Int))=true:=by rw[bne_iff_ne];omega
        have hal:FreshB (wc.alloc (Obj.cells #[Value.int .u64 q,Value.int .i64 (sb:Int)] 170)) u14 F1 w4.heap.size:=HF1.out.alloc _
        have HAL:=hide hal
        have e2:Hid ([(q.toNat,sb)]=if q.toNat<startR R 34359738368 (j+1)∧R[j].2≠s then [(q.toNat,R[j].2)] else []):=hide (by rw[←HSB.out,←HY.out,if_pos ⟨by omega,hC⟩])
        clear hal
        go_wp2_with (first|(at_builtin;refine wpList_append_lies _ rfl (.tmp 116) (.tmp 120) 84 rfl 0 170 ii _ 2 16 Tryz.underlying84 hii hz0 hz1 hz2 rfl (by decide) u14 F1.length (flat2 F1) rfl HAL.out.owns ⟨wc.heap.size,0,none⟩ 1 1 [.int .u64 q, .int .i64 (sb:Int)] rfl rfl (World.news_of_block (B:=wc.heap.size) (heap_alloc_new wc _)) (by simp[Value.oneCell']) (by decide) (by unfold maxLen;omega) (by omega) (Nat.zero_le _) _ rfl ?_;intro g1 cap1 w5 hown1 hgrow1 hat1 hlt1))
        have bel:Below w4.heap.size w4 w5:=FreshB.below HAL.out hgrow1 (bc.alloc hwc _) (by simp;omega)
        have fr1:Hid (FreshB w5 (.slice (some ⟨g1,0,none⟩) (F1.length+1) cap1) (F1++ [(q.toNat,sb)]) w4.heap.size):=FreshB.push (a:=q.toNat) HAL.out (by omega) hown1 hat1 (by simp;omega)
        clear hown1 hgrow1 hat1 hlt1 HAL
        go_meet
        case rel=>exact ⟨[(q.toNat,sb)],by simp,bel,fr1,e2⟩
      case rest=>
       obtain ⟨F2,hl2,bd,HF2,HE2⟩:=hcut
       have hto:=hide (show j+1=if ¬q.toNat<startR R 34359738368 (j+1)∧(R[j+1]?.map (·.2))=some s then j+2 else j+1 by rw[←HY.out,if_neg (fun z=>z.1 (by omega))])
       obtain ⟨llx,fzx,bx,rc⟩:=set_ready HM.out hbl b1 CW4.out bd hn (p:=p.toNat) (q:=q.toNat) (s:=s) (by omega) hi I12.out.1 I12.out.2 hj (by have:=J12.out.1;omega) (by have:=J12.out.2;omega) HE.out hF1E.out hto.out HE2.out HF2.out
       have RC:=hide rc
       clear rc ll
       go_wp2_with fail
       rw[show (e:Int)+1=((e+1:Nat):Int) by omega,show (j:Int)+1=((j+1:Nat):Int) by omega]
       refine RC.out.mono ?_
       rintro ee w7 ⟨v7,rfl,hnow⟩
       obtain ⟨c7,f7⟩:=now_cell (k:=o) hnow bx HM.out.ne
       rw[llx] at c7
       rw[fzx] at f7
       obtain ⟨g7,cp7,n7,hv7⟩:=now_form hnow
       subst hv7
       have FIN:=hide (set_fin HM.out hbl b1 CW4.out bd (p:=p.toNat) (q:=q.toNat) (s:=s) (by omega) hs3 hi I12.out.1 I12.out.2 hj (by have:=J12.out.1;omega) (by have:=J12.out.2;omega) HE.out hF1E.out hto.out HE2.out hnow)
       clear RC hnow llx fzx
       go_wp2_with fail
       go_end0
       exact ⟨rfl,FIN.out⟩
     ·have hr':decide (q<(y:Int))=false:=by simpa using hr
      rw[hr']
      clear hr'
      have HE2:=hide (show ([]:List (Nat×Nat))=if q.toNat<startR R 34359738368 (j+1)∧R[j].2≠s then [(q.toNat,R[j].2)] else [] by rw[←HY.out,if_neg (fun z=>hr (by omega))])
      have HF2:Hid (FreshB wc u14 (F1++ []) w4.heap.size):=by rw[List.append_nil];exact HF1
      by_cases hl:j+1<R.length
      ·have sn:=L4.out.state (j+1) hl
       rw[←bc.cell (p:=⟨g,(j+1) * 2+1,none⟩) (cell_lt sn)] at sn
       obtain ⟨sx,hsx⟩:∃sx,sx=R[j+1].2:=⟨_,rfl⟩
       rw[←hsx] at sn
       have HSX:=hide hsx
       clear hsx
       have l1':(j:Int)+1<(R.length:Int):=by omega
       by_cases hD:sx=s
       ·have hD':((sx:Int)==(s:Int))=true:=by rw[hD];simp
        have hto:=hide (show j+2=if ¬q.toNat<startR R 34359738368 (j+1)∧(R[j+1]?.map (·.2))=some s then j+2 else j+1 by rw[←HY.out,List.getElem?_eq_getElem hl,if_pos ⟨by omega,by simp[←HSX.out,hD]⟩])
        obtain ⟨llx,fzx,bx,rc⟩:=set_ready HM.out hbl b1 CW4.out bc hn (p:=p.toNat) (q:=q.toNat) (s:=s) (by omega) hi I12.out.1 I12.out.2 hj (by have:=J12.out.1;omega) (by have:=J12.out.2;omega) HE.out hF1E.out hto.out HE2.out HF2.out
        have RC:=hide rc
        clear rc ll
        go_wp2_with fail
        rw[show (e:Int)+1=((e+1:Nat):Int) by omega,show (j:Int)+1+1=((j+2:Nat):Int) by omega]
        refine RC.out.mono ?_
        rintro ee w7 ⟨v7,rfl,hnow⟩
        obtain ⟨c7,f7⟩:=now_cell (k:=o) hnow bx HM.out.ne
        rw[llx] at c7
        rw[fzx] at f7
        obtain ⟨g7,cp7,n7,hv7⟩:=now_form hnow
        subst hv7
        have FIN:=hide (set_fin HM.out hbl b1 CW4.out bc (p:=p.toNat) (q:=q.toNat) (s:=s) (by omega) hs3 hi I12.out.1 I12.out.2 hj (by have:=J12.out.1;omega) (by have:=J12.out.2;omega) HE.out hF1E.out hto.out HE2.out hnow)
        clear RC hnow llx fzx
        go_wp2_with fail
        go_end0
        exact ⟨rfl,FIN.out⟩
       ·have hD':((sx:Int)==(s:Int))=false:=beq_eq_false_iff_ne.2 (by omega)
        have hto:=hide (show j+1=if ¬q.toNat<startR R 34359738368 (j+1)∧(R[j+1]?.map (·.2))=some s then j+2 else j+1 by rw[List.getElem?_eq_getElem hl,if_neg (fun z=>hD (by simpa [←HSX.out] using z.2))])
        obtain ⟨llx,fzx,bx,rc⟩:=set_ready HM.out hbl b1 CW4.out bc hn (p:=p.toNat) (q:=q.toNat) (s:=s) (by omega) hi I12.out.1 I12.out.2 hj (by have:=J12.out.1;omega) (by have:=J12.out.2;omega) HE.out hF1E.out hto.out HE2.out HF2.out
        have RC:=hide rc
        clear rc ll
        go_wp2_with fail
        rw[show (e:Int)+1=((e+1:Nat):Int) by omega,show (j:Int)+1=((j+1:Nat):Int) by omega]
        refine RC.out.mono ?_
        rintro ee w7 ⟨v7,rfl,hnow⟩
        obtain ⟨c7,f7⟩:=now_cell (k:=o) hnow bx HM.out.ne
        rw[llx] at c7
        rw[fzx] at f7
        obtain ⟨g7,cp7,n7,hv7⟩:=now_form hnow
        subst hv7
        have FIN:=hide (set_fin HM.out hbl b1 CW4.out bc (p:=p.toNat) (q:=q.toNat) (s:=s) (by omega) hs3 hi I12.out.1 I12.out.2 hj (by have:=J12.out.1;omega) (by have:=J12.out.2;omega) HE.out hF1E.out hto.out HE2.out hnow)
        clear RC hnow llx fzx
        go_wp2_with fail
        go_end0
        exact ⟨rfl,FIN.out⟩
      ·have l1':¬(j:Int)+1<(R.length:Int):=by omega
       have l2':decide ((j:Int)+1<(R.length:Int))=false:=by simpa using l1'
       have hto:=hide (show j+1=if ¬q.toNat<startR R 34359738368 (j+1)∧(R[j+1]?.map (·.2))=some s then j+2 else j+1 by rw[List.getElem?_eq_none (by omega),if_neg (fun z=>by simpa using z.2)])
       obtain ⟨llx,fzx,bx,rc⟩:=set_ready HM.out hbl b1 CW4.out bc hn (p:=p.toNat) (q:=q.toNat) (s:=s) (by omega) hi I12.out.1 I12.out.2 hj (by have:=J12.out.1;omega) (by have:=J12.out.2;omega) HE.out hF1E.out hto.out HE2.out HF2.out
       have RC:=hide rc
       clear rc ll
       go_wp2_with fail
       rw[show (e:Int)+1=((e+1:Nat):Int) by omega,show (j:Int)+1=((j+1:Nat):Int) by omega]
       refine RC.out.mono ?_
       rintro ee w7 ⟨v7,rfl,hnow⟩
       obtain ⟨c7,f7⟩:=now_cell (k:=o) hnow bx HM.out.ne
       rw[llx] at c7
       rw[fzx] at f7
       obtain ⟨g7,cp7,n7,hv7⟩:=now_form hnow
       subst hv7
       have FIN:=hide (set_fin HM.out hbl b1 CW4.out bc (p:=p.toNat) (q:=q.toNat) (s:=s) (by omega) hs3 hi I12.out.1 I12.out.2 hj (by have:=J12.out.1;omega) (by have:=J12.out.2;omega) HE.out hF1E.out hto.out HE2.out hnow)
       clear RC hnow llx fzx
       go_wp2_with fail
       go_end0
       exact ⟨rfl,FIN.out⟩
end Go.Proofs.YtdgdhnnakcncoaaGreatDoor.V
namespace Go.Proofs.Sp
set_option linter.unusedVariables false
set_option linter.unusedSimpArgs false
def fitsR (R:List (Nat×Nat)) (a pages i:Nat):Prop:=(R[i]?.map (·.2))=some 0∧max a (startR R 34359738368 i)+pages≤startR R 34359738368 (i+1)
def fromR (hint:Nat):Nat:=max ((hint+511)/512 * 512) 512
theorem rows_of_free {S:Sp} {R:List (Nat×Nat)} {hint pages i0 q:Nat} (h:Seg S.st 0 R 34359738368) (hA:Alt R) (hi0:i0<R.length) (h1:R[i0].1≤fromR hint) (hp:0<pages) (hf:free S pages q) (hq:hint≤q):
 ∃i,i0≤i∧i<R.length∧fitsR R (fromR hint) pages i∧max (fromR hint) (startR R 34359738368 i)≤q:=by
 obtain ⟨f1,f2,f3,f4⟩:=hf
 have hF:fromR hint≤q:=by unfold fromR;omega
 obtain ⟨i,hi,q1,q2⟩:=h.at q (by omega) (by omega)
 have r:=h.row i hi
 have z:R[i].2=0:=by rw[←r.2.2.2 q q1 q2];exact f4 0 hp
 have hlt:q+pages≤startR R 34359738368 (i+1):=by
  by_cases c:q+pages≤startR R 34359738368 (i+1)
  ·exact c
  ·exfalso
   have hi1:i+1<R.length:=by
    by_cases d:i+1<R.length
    ·exact d
    ·rw[startR_ge (by omega)] at c;omega
   have r1:=h.row (i+1) hi1
   have n:=hA.get i hi1
   rw[startR_lt hi1] at c q2
   have e:=f4 (R[i+1].1 - q) (by omega)
   rw[show q+(R[i+1].1 - q)=R[i+1].1 by omega,r1.2.2.2 _ (Nat.le_refl _) r1.2.1] at e
   rw[z,e] at n
   exact n rfl
 refine ⟨i,?_,hi,⟨by rw[List.getElem?_eq_getElem hi];simp[z],by rw[startR_lt hi];omega⟩,by rw[startR_lt hi];omega⟩
 by_cases c:i0≤i
 ·exact c
 ·exfalso
  have:=h.rise (i:=i) (j:=i0) (by omega) hi
  by_cases d:i0=i+1
  ·subst d;rw[startR_lt hi0] at q2;omega
  ·have hi1:i+1<R.length:=by omega
   have:=h.rise (i:=i+1) (j:=i0) (by omega) hi1
   rw[startR_lt hi1] at q2
   rw[startR_lt hi0] at this
   omega
theorem free_found {S:Sp} {R:List (Nat×Nat)} {hint pages i0 i:Nat} (h:Seg S.st 0 R 34359738368) (hA:Alt R) (hc:∀p,S.st p=0↔S.st (p/512 * 512)=0) (hi0:i0<R.length) (h1:R[i0].1≤fromR hint) (h2:fromR hint<startR R 34359738368 (i0+1)) (hp:0<pages)
 (hii:i0≤i) (hi:i<R.length) (hfit:fitsR R (fromR hint) pages i) (hno:∀k,i0≤k→k<i→¬fitsR R (fromR hint) pages k):firstFrom S hint pages=some (max (fromR hint) (startR R 34359738368 i)):=by
 obtain ⟨z,hl⟩:=hfit
 rw[List.getElem?_eq_getElem hi] at z
 have z':R[i].2=0:=by simpa using z
 have r:=h.row i hi
 have b:=none_begins h hA hc hi z'
 rw[startR_lt hi] at hl ⊢
 have hin:fromR hint<startR R 34359738368 (i+1):=by omega
 refine first_at hp ⟨?_,?_,?_,?_⟩ ?_ ?_
 ·have:fromR hint%512=0:=by unfold fromR;omega
  omega
 ·unfold fromR;omega
 ·omega
 ·intro k hk
  rw[r.2.2.2 _ (by omega) (by omega)];exact z'
 ·unfold fromR;omega
 ·intro k k1 k2 hf
  obtain ⟨i',a1,a2,a3,a4⟩:=rows_of_free h hA hi0 h1 hp hf k1
  by_cases c:i'<i
  ·exact hno i' a1 c a3
  ·by_cases d:i'=i
   ·subst d;rw[startR_lt hi] at a4;omega
   ·have:=h.rise (i:=i) (j:=i') (by omega) hi
    rw[startR_lt a2] at a4 this
    omega
theorem free_none {S:Sp} {R:List (Nat×Nat)} {hint pages i0:Nat} (h:Seg S.st 0 R 34359738368) (hA:Alt R) (hi0:i0<R.length) (h1:R[i0].1≤fromR hint) (hp:0<pages) (hno:∀k,i0≤k→k<R.length→¬fitsR R (fromR hint) pages k):firstFrom S hint pages=none:=by
 cases e:firstFrom S hint pages with
 |none=>rfl
 |some q=>
  obtain ⟨a,b,_⟩:=first_some e
  obtain ⟨i',a1,a2,a3,_⟩:=rows_of_free h hA hi0 h1 hp a b
  exact absurd a3 (hno i' a1 a2)
theorem free_high {S:Sp} {hint pages:Nat} (hp:0<pages) (h:34359738368<hint+pages):firstFrom S hint pages=none:=by
 cases e:firstFrom S hint pages with
 |none=>rfl
 |some q=>
  obtain ⟨a,b,_⟩:=first_some e
  have:=a.2.2.1
  omega
end Go.Proofs.Sp
namespace Go.Proofs.YtdgdhnnakcncoaaGreatDoor.V
set_option maxHeartbeats 1600000
open Go.ChangeShapes Go.WideShapes Go.ChangeAt Go.RowKit Go.Proofs.Sp
def opt2 (x:Option Nat):Value:= .tuple #[.int .u64 ((x.getD 0:Nat):Int), .bool x.isSome]
set_option maxRecDepth 100000 in
set_option maxHeartbeats 2000000 in
theorem free_core (b o g cap:Nat) (R:List (Nat×Nat)) (S:Sp) (hint pages:Int) (h0:0≤hint) (h0':hint<18446744073709551616) (hp:0<pages) (hp':pages≤134217728) (hp5:pages%512=0) (hn:R.length≤70368744177664) (w:World) (hL:ListAt w b o g cap R) (hs:Seg S.st 0 R 34359738368) (hA:Alt R) (hc:∀p,S.st p=0↔S.st (p/512 * 512)=0):
 Calls Tryz.prog 316 #[.pointer (some ⟨b,o,none⟩), .int .u64 hint, .int .u64 pages] w fun e w'=>e= .returned (opt2 (firstFrom S hint.toNat pages.toNat))∧Below w.heap.size w w':=by
 by_cases hh:34359738368 - pages<hint
 ·have e0:=free_high (S:=S) (hint:=hint.toNat) (pages:=pages.toNat) (by omega) (by omega)
  rw[e0]
  clear hL hs hA hc e0
  go_enter Tryz.func316,Tryz.ntmps316
  go_wp2_with fail
  go_ret2
  exact ⟨rfl,Below.refl _ _⟩
 ·have hl:=hL.list
  have hlt:=cell_lt hl
  obtain ⟨u,hu⟩:∃u:Nat,u=fromR hint.toNat:=⟨_,rfl⟩
  have hu1:u+pages.toNat≤34359738368:=by rw[hu];unfold fromR;omega
  obtain ⟨i0,hi0,a1,a2⟩:=hs.at u (by omega) (by omega)
  have found:=fun i (x:i0≤i) (y:i<R.length) z t=>free_found hs hA hc hi0 (by rw[←hu];exact a1) (by rw[←hu];exact a2) (pages:=pages.toNat) (by omega) x y z t
  have none:=free_none hs hA hi0 (by rw[←hu];exact a1) (pages:=pages.toNat) (by omega)
  rw[←hu] at found none
  have FOUND:=hide found
  have NONE:=hide none
  have A12:=hide (And.intro a1 a2)
  have HL:=hide hL
  have HS:=hide hs
  have hcu:(hint+511)/512 * 512≤34359738368:=by omega
  have hm:(u:Int)=if (hint+511)/512 * 512<512 then 512 else (hint+511)/512 * 512:=by
   rw[hu];unfold fromR;split<;>omega
  have HMx:=hide hm
  clear found none a1 a2 hL hs hA hc hu hm
  go_enter Tryz.func316,Tryz.ntmps316
  go_wp2_with fail
  refine (chunkUp_core hint h0 (by omega) w).mono ?_
  rintro e w1 ⟨rfl,rfl⟩
  generalize hcx:(hint+511)/512 * 512=cx at *
  clear hcx
  have hmx:(if cx<512 then (512:Int) else cx)=(u:Int):=HMx.out.symm
  clear HMx
  go_wp2_with fail
  refine (at_core b o g cap R S.st (u:Int) (by omega) (by omega) hn _ HL.out HS.out i0 hi0 (by have:=A12.out.1;simpa using this) (by have:=A12.out.2;simpa using this)).mono ?_
  rintro e w2 ⟨rfl,b2⟩
  clear hmx
  have L2:=hide (HL.out.below b2)
  go_wp2_with fail
  go_loopw [8] (fun iv wr=>∃i:Nat,iv= .int .i64 (i:Int)∧i0≤i∧i≤R.length∧wr=w2∧Hid (∀k,i0≤k→k<i→¬fitsR R u pages.toNat k)) (fun iv _=>R.length -(intOf iv).toNat)
  case atStart=>exact ⟨i0,rfl,Nat.le_refl _,by omega,rfl,fun k x y=>by omega⟩
  case round=>
   obtain ⟨i,rfl,hi1,hi2,rfl,hno⟩:=hrel
   have ll:=L2.out.list
   by_cases hi:i<R.length
   ·have f1:=L2.out.first i hi
    have f2:=L2.out.state i hi
    have r:=HS.out.row i hi
    have ec:=end_core b o g cap R (i:Int) (by omega) (by omega) hn wr L2.out
    rw[show ((i:Int).toNat+1)=i+1 by omega] at ec
    have ft:fitsR R u pages.toNat i↔R[i].2=0∧max u R[i].1+pages.toNat≤startR R 34359738368 (i+1):=by
     unfold fitsR;rw[List.getElem?_eq_getElem hi,startR_lt hi];simp
    have fd:=FOUND.out i hi1 hi
    rw[startR_lt hi] at fd
    obtain ⟨x,hx⟩:∃x,x=R[i].1:=⟨_,rfl⟩
    obtain ⟨s,hsx⟩:∃s,s=R[i].2:=⟨_,rfl⟩
    obtain ⟨y,hy⟩:∃y,y=startR R 34359738368 (i+1):=⟨_,rfl⟩
    rw[←hx] at f1 ft fd
    rw[←hsx] at f2 ft
    rw[←hy] at ft ec
    have hxy:x<y:=by rw[hx,hy];exact r.2.1
    have hyl:y≤34359738368:=by rw[hy];exact r.2.2.1
    have huy:u<y:=by
     by_cases c:i=i0
     ·rw[hy,c];exact A12.out.2
     ·have:=HS.out.rise (i:=i0) (j:=i) (by omega) hi0
      have h5:=A12.out.2
      have h6:startR R 34359738368 (i0+1)≤R[i].1:=by
       by_cases d:i=i0+1
       ·subst d;rw[startR_lt hi];exact Nat.le_refl _
       ·have hq:i0+1<R.length:=by omega
        have:=HS.out.rise (i:=i0+1) (j:=i) (by omega) hq
        rw[startR_lt hi] at this
        rw[startR_lt hq];omega
      omega
    obtain ⟨m,hmx⟩:∃m,m=max u x:=⟨_,rfl⟩
    have hmi:((u:Int)<(x:Int)∧m=x)∨(¬(u:Int)<(x:Int)∧m=u):=by omega
    have hmy:m<y:=by omega
    rw[←hmx] at ft fd
    have FTX:=hide ft
    have FDX:=hide fd
    have EC:=hide ec
    clear ft fd ec hx hsx hy hmx r
    rcases hmi with ⟨hux,rfl⟩|⟨hux,rfl⟩
    all_goals
     by_cases hz:s=0
     ·have hz':((s:Int)==0)=true:=by rw[hz];rfl
      by_cases hq:pages≤(y:Int) -(m:Int)
      ·go_wp2_with (go_at_call 204;refine EC.out.mono ?_;rintro e w' ⟨rfl,rfl⟩)
       go_ret2
       have:=FDX.out (FTX.out.2 ⟨hz,by omega⟩) hno.out
       exact ⟨by rw[this];rfl,b2⟩
      ·go_wp2_with (go_at_call 204;refine EC.out.mono ?_;rintro e w' ⟨rfl,rfl⟩)
       go_roundw
       case rel=>exact ⟨i+1,by go_num,by omega,by omega,trivial,hide fun k x y=>by
        by_cases c:k=i
        ·subst c;rw[FTX.out];omega
        ·exact hno.out k x (by omega)⟩
       case measure=>simp[intOf];omega
     ·have hz':((s:Int)==0)=false:=beq_eq_false_iff_ne.2 (by omega)
      go_wp2_with fail
      go_roundw
      case rel=>exact ⟨i+1,by go_num,by omega,by omega,trivial,hide fun k x y=>by
       by_cases c:k=i
       ·subst c;rw[FTX.out];omega
       ·exact hno.out k x (by omega)⟩
      case measure=>simp[intOf];omega
   ·have fn:=NONE.out fun k x y=>hno.out k x (by omega)
    have FN:=hide fn
    clear fn
    go_wp2_with fail
    go_ret2
    exact ⟨by rw[FN.out];rfl,b2⟩
end Go.Proofs.YtdgdhnnakcncoaaGreatDoor.V
