/- Of the proof of HeapClasses: texts RQd. -/
import Derived.Test.YtdgdhnnakcncoaaGreatDoorJ02
import Derived.Test.YtdgdhnnakcncoaaGreatDoorJ23
import Derived.Test.YtdgdhnnakcncoaaGreatDoorJ10
namespace Go.Proofs.YtdgdhnnakcncoaaGreatDoor
set_option maxHeartbeats 1600000
open Go.ChangeShapes Go.WideShapes Go.ChangeAt Go.RowKit Go.Proofs.Bt
set_option linter.unusedVariables false
set_option linter.unusedSimpArgs false
theorem tz_zero (w:World):Calls Tryz.prog 174 #[.int .u64 0] w fun e w'=>e= .returned (.int .i64 64)∧w'=w:=by
 go_enter Tryz.func174,Tryz.ntmps174
 go_wp2
 go_ret
 exact ⟨rfl,rfl⟩
theorem tz_all (x:Nat) (hx:x<18446744073709551616) (w:World) (hT:TabW w):
 Calls Tryz.prog 174 #[.int .u64 x] w fun e w'=>e= .returned (.int .i64 (Lib.ctz 64 x:Nat))∧w'=w:=by
 by_cases z:x=0
 ·subst z
  rw[ctz_zero]
  exact tz_zero w
 ·exact tz_any x z hx w hT
theorem mask_wrap (a n:Nat) (h:a+n≤64):IntKind.u64.wrap ((18446744073709551615:Int)/2^(64 - n) * 2^a)=((on1 a n:Nat):Int):=by
 have e1:((18446744073709551615:Int)/2^(64 - n) * 2^a)=((18446744073709551615/2^(64 - n) * 2^a:Nat):Int):=by simp
 rw[e1,ones_down (by omega)]
 have hb:=on1_lt h
 unfold on1 at hb ⊢
 rw[IntKind.wrap_u64]
 generalize (2^n - 1) * 2^a=x at *
 omega
theorem mask_any (a n:Int) (a0:0≤a) (n1:1≤n) (h:a+n≤64) (w:World):
 Calls Tryz.prog 249 #[.int .i64 a, .int .i64 n] w fun e w'=>e= .returned (.int .u64 (on1 a.toNat n.toNat:Nat))∧w'=w:=by
 have e:=mask_wrap a.toNat n.toNat (by omega)
 rw[show 64 - n.toNat=(64 - n).toNat by omega] at e
 have HE:=hide e
 clear e
 go_enter Tryz.func249,Tryz.ntmps249
 go_wp2_with fail
 go_ret
 rw[HE.out]
 exact ⟨rfl,rfl⟩
def Fnd (x n y:Nat):Prop:=y<18446744073709551616∧∀p,Row y p 1↔Row x p n
set_option maxRecDepth 100000 in
theorem find64_any (x:Nat) (hx:x<18446744073709551616) (n:Int) (n1:1≤n) (n2:n≤64) (w:World) (hT:TabW w):
 Calls Tryz.prog 306 #[.int .u64 (x:Nat), .int .i64 n] w fun e w'=>(∃y,Fnd x n.toNat y∧e= .returned (.tuple #[.int .i64 (Lib.ctz 64 y:Nat), .bool (decide (y≠0))]))∧w'=w:=by
 obtain ⟨R,hR⟩:∃R:Ending→World→Prop,R=fun e w'=>(∃y,Fnd x n.toNat y∧e= .returned (.tuple #[.int .i64 (Lib.ctz 64 y:Nat), .bool (decide (y≠0))]))∧w'=w:=⟨_,rfl⟩
 rw[←hR]
 have HR:=hide hR
 have HT:=hide hT
 clear hR hT
 go_enter Tryz.func306,Tryz.ntmps306
 go_wp2_with fail
 go_loop [0,1] (fun xv nv=>∃(X:Nat) (m:Int),xv= .int .u64 (X:Nat)∧nv= .int .i64 m∧1≤m∧m≤64∧X<18446744073709551616∧Hid (∀p,Row X p m.toNat↔Row x p n.toNat)) (fun _ nv=>(intOf nv).toNat)
 case atStart=>exact ⟨x,n,rfl,rfl,n1,n2,hx,hide (fun _=>Iff.rfl)⟩
 case round=>
  obtain ⟨X,m,rfl,rfl,m1,m2,hX,HI⟩:=hrel
  by_cases hm:1<m
  ·have HH:=hide (show ∀p,Row (X &&& (X/2^(m/2).toNat)) p (m - m/2).toNat↔Row x p n.toNat from fun p=>by
    rw[←HI.out p,show (m/2).toNat=m.toNat/2 by omega,show (m - m/2).toNat=m.toNat - m.toNat/2 by omega]
    exact row_half (by omega) (by omega))
   have HE:=hide (show bits .and .u64 (X:Int) ((X:Int)/2^(m/2).toNat)=((X &&& (X/2^(m/2).toNat):Nat):Int) from by
    have e1:((X:Int)/2^(m/2).toNat)=((X/2^(m/2).toNat:Nat):Int):=by simp
    rw[e1]
    exact w_and _ _ hX (down_lt _ hX))
   clear HI
   go_wp2_with fail
   refine ⟨⟨_,m - m/2,by rw[HE.out],by go_num,by omega,by omega,and_lt _ hX,HH⟩,?_⟩
   simp[intOf];omega
  ·obtain rfl:m=1:=by omega
   have F:=hide (show R (.returned (.tuple #[.int .i64 (Lib.ctz 64 X:Nat), .bool (decide (X≠0))])) w from by
    rw[HR.out]
    exact ⟨⟨X,⟨hX,HI.out⟩,rfl⟩,rfl⟩)
   have CT:=hide (tz_all X hX w HT.out)
   generalize (Lib.ctz 64 X:Int)=z at F CT
   have dz:((X:Int) != 0)=decide (X≠0):=by
    rw[Bool.eq_iff_iff];simp[bne_iff_ne]
   generalize decide (X≠0)=q at F dz
   clear HI hm HR
   go_wp2_with fail
   refine CT.out.mono ?_
   rintro e w1 ⟨rfl,hw⟩
   rw[hw]
   clear hw CT
   go_wp2_with fail
   first|exact F.out|(refine bodyPost_ret (results_tmp2 Tryz.results306 _ _) rfl ?_;exact F.out)
end Go.Proofs.YtdgdhnnakcncoaaGreatDoor
namespace Go.Proofs.YtdgdhnnakcncoaaGreatDoor
open Go.ChangeShapes Go.WideShapes Go.ChangeAt Go.RowKit Go.Proofs.Bt Go.Shelf Go.Proofs.Rx Go.Maps
set_option linter.unusedVariables false
set_option linter.unusedSimpArgs false
attribute [local go_sem] Oper.semAt_some
structure RdW (B0 x:Nat) (w:World):Prop where
 c:w.heap[B0]? =some (.cells #[.int .u64 (x:Nat)] 39 (0,0))
 tab:TabW w
theorem wrows_any (x:Nat) (w:World):
 Calls Tryz.prog 189 #[.int .u64 (x:Nat)] w fun e w'=>e= .returned (.func (.func 248) #[] #[.pointer (some ⟨w.heap.size,0,none⟩)])∧w'=w.alloc (.cells #[.int .u64 (x:Nat)] 39):=by
 go_enter Tryz.func189,Tryz.ntmps189
 go_wp2_with fail
 go_ret
 exact ⟨rfl,rfl⟩
theorem inv_xor (x:Nat) (hx:x<18446744073709551616):bits .xor .u64 IntKind.u64.max (x:Int)=((inv x:Nat):Int):=by
 rw[show IntKind.u64.max=((18446744073709551615:Nat):Int) by decide,u64_xor_nat _ _ (by decide) hx]
 congr 1
 refine eq_of_bits (lt_of_bits fun k hk=> ?_) (inv_lt _) fun k hk=> ?_
 ·rw[Nat.testBit_xor,bit_high hx hk,bit_high (by decide) hk];rfl
 ·rw[Nat.testBit_xor,inv_bit hx hk,show (18446744073709551615:Nat)=2^64 - 1 by decide,Nat.testBit_two_pow_sub_one,decide_eq_true hk]
  cases x.testBit k<;>rfl
def encsW (x k:Nat):Array Value:=#[.int .u64 (at1 (lft x k):Nat), .int .u64 (len1 (lft x k):Nat)]
set_option maxRecDepth 100000 in
set_option maxHeartbeats 1000000 in
theorem word_seq (B0 x N:Nat) (hx:x<18446744073709551616) (hN:lft x N=0) (hk:∀k,k<N→lft x k≠0) (n:Nat):
 SeqB n Tryz.prog 248 #[.pointer (some ⟨B0,0,none⟩)] (encsW x) (RdW B0 x) (List.range N):=by
 intro l J Jx W hR hJ hY h0
 have rd:∀j A,J (List.range j) A→Hid (A.cell? ⟨B0,0,none⟩=some (.int .u64 (x:Nat))∧TabW A):=fun j A h=>by
  have r:=hR _ _ h
  exact hide ⟨by simp[World.cell?,r.c],r.tab⟩
 have HJ:=hide hJ
 have HY:=hide hY
 have H0:=hide h0
 have HK:=hide hk
 have HN:=hide hN
 have HX:=hide hx
 clear hR hJ hY h0 hk hN hx
 refine callsIn_of_wp Tryz.func248 rfl trivial ?_ rfl
 simp only[Tryz.ntmps248,List.size_toArray,List.length_cons,List.length_nil,Nat.reduceAdd,Nat.reduceSub,Array.replicate_succ,Array.replicate_zero,List.push_toArray,List.append_toArray,List.nil_append,List.cons_append]
 obtain ⟨r0',-⟩:=(rd 0 _ H0.out).out
 gi_wp2_with fail
 gi_loopw [3] (fun xv wr=>∃(X:Nat) (j:Nat),xv= .int .u64 (X:Nat)∧j≤N∧X<18446744073709551616∧Hid (X=lft x j)∧Hid (J (List.range j) wr)) (fun xv _=>(intOf xv).toNat)
 case atStart=>exact ⟨x,0,rfl,by omega,HX.out,hide rfl,H0⟩
 case round=>
  obtain ⟨X,j,rfl,hj,hX,HE,HJJ⟩:=hrel
  have HT:=hide (rd j _ HJJ.out).out.2
  clear rd r0'
  by_cases hlt:j<N
  ·have x0:=HK.out j hlt
   rw[←HE.out] at x0
   have dz:((X:Int) != 0)=true:=by simpa using x0
   obtain ⟨a1,a2,a3,a4,-⟩:=row1 x0 hX
   obtain ⟨fn,tmps,assign,body,hy,hRr⟩:=HY.out (List.range j) j _ (range_pre hlt) HJJ.out
   simp only[encsW] at hy
   rw[←HE.out] at hy
   have HRR:=hide hRr
   have C1:=hide (tz_all X hX wr HT.out)
   have C2:=hide (tz_all (inv (X/2^at1 X)) (inv_lt _) wr HT.out)
   rw[show Lib.ctz 64 X=at1 X from rfl] at C1
   rw[show Lib.ctz 64 (inv (X/2^at1 X))=len1 X from rfl] at C2
   rw[←inv_xor _ (down_lt _ hX)] at C2
   obtain ⟨a,ha⟩:∃a:Nat,at1 X=a:=⟨_,rfl⟩
   obtain ⟨m,hm⟩:∃m:Nat,len1 X=m:=⟨_,rfl⟩
   rw[hm,ha,show (((X/2^a:Nat)):Int)=(X:Int)/2^a by simp] at C2
   generalize hY:bits .xor .u64 IntKind.u64.max ((X:Int)/2^a)=Y at C2
   have C3:=fun Z=>hide (mask_any (a:Int) (m:Int) (by omega) (by omega) (by omega) Z)
   have NX:=hide (show andn X (on1 a m)=nx1 X from by rw[←ha,←hm];rfl)
   rw[ha] at C1 a1 a3 hy
   rw[hm] at a2 a3 hy
   clear hRr HT
   gi_wp2_with fail
   refine wcall C1.out ?_
   rintro e w1 ⟨rfl,hw1⟩
   rw[hw1]
   clear hw1
   gi_wp2_with fail
   refine wcall C2.out ?_
   rintro e w1 ⟨rfl,hw1⟩
   rw[hw1]
   clear hw1 C1 C2 hY
   gi_wp2_with fail
   refine ⟨(fun h=>by cases h),HRR.out.mono ?_⟩
   clear HRR hy
   rintro e' w4 (⟨rfl,j4⟩|⟨rfl,jx4⟩)
   ·have X4:=hide j4
    rw[←List.range_succ] at X4
    clear j4
    gi_wp2_with fail
    refine wcall (C3 _).out ?_
    rintro e w5 ⟨rfl,hw5⟩
    rw[hw5]
    clear hw5 C3
    gi_wp2_with fail
    refine ⟨⟨nx1 X,j+1,?_,by omega,nx1_lt hX,hide (by rw[HE.out];rfl),X4⟩,?_⟩
    ·rw[w_andNot _ _ hX (on1_lt (by omega)),NX.out]
    ·have:=nx1_less x0 hX
     rw[w_andNot _ _ hX (on1_lt (by omega)),NX.out]
     simp[intOf];omega
   ·have X4:=hide jx4
    clear jx4 C3
    gi_wp2_with fail
    refine bodyPost_ret (results_none rfl _ _ _) rfl ?_
    exact ⟨⟨_,rfl⟩, .inr ⟨_,_,range_pre hlt,X4.out⟩⟩
  ·obtain rfl:j=N:=by omega
   have x0:X=0:=by rw[HE.out,HN.out]
   have dz:((X:Int) != 0)=false:=by rw[x0];rfl
   clear HE x0
   gi_wp2_with fail
   go_end0
   exact ⟨⟨_,rfl⟩, .inl HJJ.out⟩
end Go.Proofs.YtdgdhnnakcncoaaGreatDoor
namespace Go.Proofs.YtdgdhnnakcncoaaGreatDoor
open Go.ChangeShapes Go.WideShapes Go.ChangeAt Go.RowKit Go.Proofs.Bt Go.Shelf Go.Proofs.Rx Go.Maps
set_option linter.unusedVariables false
set_option linter.unusedSimpArgs false
structure CcAt (W:World) (b B H G:Nat):Prop where
 c0:W.cell? ⟨b,0,none⟩=some (.int .u64 (B:Nat))
 c1:W.cell? ⟨b,1,none⟩=some (.int .u64 (H:Nat))
 c2:W.cell? ⟨b,2,none⟩=some (.int .u64 (G:Nat))
 fz:∀k,W.frozen? ⟨b,k,none⟩=false
 h:H<18446744073709551616
 g:G<18446744073709551616
section
variable {W W':World} {b B H G:Nat}
theorem CcAt.block (h:CcAt W b B H G) (e:W'.heap[b]? =W.heap[b]?):CcAt W' b B H G:=⟨(cell_block e _).trans h.c0,(cell_block e _).trans h.c1,(cell_block e _).trans h.c2,fun k=>(fz_block e).trans (h.fz k),h.h,h.g⟩
theorem CcAt.lt (h:CcAt W b B H G):b<W.heap.size:=World.block_lt_of_cell? W ⟨b,0,none⟩ h.c0
theorem CcAt.kept {F:Nat→Prop} (h:CcAt W b B H G) (k:Kept F W W') (hF:¬F b):CcAt W' b B H G:=h.block (k.block b h.lt hF)
theorem CcAt.below (h:CcAt W b B H G) (k:Below W.heap.size W W'):CcAt W' b B H G:=h.block (k.block b h.lt)
theorem CcAt.drew (h:CcAt W b B H G) (j:Nat):CcAt (W.drewN j) b B H G:=h.block rfl
theorem CcAt.set0 (h:CcAt W b B H G) (x:Nat):CcAt (W.setCell ⟨b,0,none⟩ (.int .u64 (x:Nat))) b x H G:=
 ⟨World.cell?_setCell_same _ _ _ h.c0,by rw[World.cell?_setCell_other _ _ _ _ (by simp)];exact h.c1,by rw[World.cell?_setCell_other _ _ _ _ (by simp)];exact h.c2,fun k=>by rw[World.frozen?_setCell];exact h.fz k,h.h,h.g⟩
theorem CcAt.set1 (h:CcAt W b B H G) (x:Nat) (hx:x<18446744073709551616):CcAt (W.setCell ⟨b,1,none⟩ (.int .u64 (x:Nat))) b B x G:=
 ⟨by rw[World.cell?_setCell_other _ _ _ _ (by simp)];exact h.c0,World.cell?_setCell_same _ _ _ h.c1,by rw[World.cell?_setCell_other _ _ _ _ (by simp)];exact h.c2,fun k=>by rw[World.frozen?_setCell];exact h.fz k,hx,h.g⟩
theorem CcAt.set2 (h:CcAt W b B H G) (x:Nat) (hx:x<18446744073709551616):CcAt (W.setCell ⟨b,2,none⟩ (.int .u64 (x:Nat))) b B H x:=
 ⟨by rw[World.cell?_setCell_other _ _ _ _ (by simp)];exact h.c0,by rw[World.cell?_setCell_other _ _ _ _ (by simp)];exact h.c1,World.cell?_setCell_same _ _ _ h.c2,fun k=>by rw[World.frozen?_setCell];exact h.fz k,h.h,hx⟩
end
theorem ccNew (w:World):Calls Tryz.prog 45 #[] w fun e w'=>e= .returned (.pointer (some ⟨w.heap.size,0,none⟩))∧w'=w.alloc (.cells #[.int .u64 0, .int .u64 0, .int .u64 0] 186):=by
 go_enter Tryz.func45,Tryz.ntmps45
 go_wp2_with fail
 go_ret
 exact ⟨rfl,rfl⟩
theorem CcAt.new {w W:World} {b:Nat} (hW:W=w.alloc (.cells #[.int .u64 0, .int .u64 0, .int .u64 0] 186)) (hb:b=w.heap.size):CcAt W b 0 0 0:=by
 have f:W.heap[b]? =some (.cells #[.int .u64 0, .int .u64 0, .int .u64 0] 186 (0,0)):=by rw[hW,hb];exact World.alloc_heap_new w _
 exact ⟨by simp[World.cell?,f],by simp[World.cell?,f],by simp[World.cell?,f],fun k=>by simp[World.frozen?,f],by decide,by decide⟩
theorem ccEmpty {W:World} {b B H G:Nat} (h:CcAt W b B H G):
 Calls Tryz.prog 187 #[.pointer (some ⟨b,0,none⟩)] W fun e w'=>e= .returned (.bool (decide (H=0)))∧w'=W:=by
 have c1:=h.c1
 have dz:((H:Int)==0)=decide (H=0):=by rw[Bool.eq_iff_iff];simp
 have HE:=hide dz
 obtain ⟨q,hq⟩:∃q,decide (H=0)=q:=⟨_,rfl⟩
 rw[hq] at dz ⊢
 clear h hq HE
 go_enter Tryz.func187,Tryz.ntmps187
 go_wp2_with fail
 first|exact ⟨rfl,rfl⟩|(go_ret;exact ⟨rfl,rfl⟩)
def tellV (B H G:Nat):Value:=if H=0 then .tuple #[.int .u64 0, .int .u64 0, .int .u64 0] else .tuple #[.int .u64 (B:Nat), .int .u64 (H:Nat), .int .u64 (G:Nat)]
set_option maxRecDepth 100000 in
theorem ccTell {W:World} {b B H G:Nat} (h:CcAt W b B H G):
 Calls Tryz.prog 131 #[.pointer (some ⟨b,0,none⟩)] W fun e w'=>e= .returned (tellV B H G)∧∃j,w'=W.drewN j:=by
 obtain ⟨R,hR⟩:∃R:Ending→World→Prop,R=fun e w'=>e= .returned (tellV B H G)∧∃j,w'=W.drewN j:=⟨_,rfl⟩
 rw[←hR]
 have CE:=hide (ccEmpty h)
 have c0:=h.c0
 have c1:=h.c1
 have c2:=h.c2
 by_cases z:H=0
 ·have F0:=hide (show R (.returned (.tuple #[.int .u64 0, .int .u64 0, .int .u64 0])) W from by rw[hR];unfold tellV;rw[if_pos z];exact ⟨rfl,0,rfl⟩)
  rw[decide_eq_true z] at CE
  clear hR h z
  go_enter Tryz.func131,Tryz.ntmps131
  go_wp2_with fail
  refine CE.out.mono ?_
  rintro e w1 ⟨rfl,hw⟩
  rw[hw]
  clear hw w1 CE
  go_wp2_with fail
  first|exact F0.out|(refine bodyPost_ret (results_tmp3 Tryz.results131 _ _ _) rfl ?_;exact F0.out)
 ·have F0:=hide (show ∀j,R (.returned (.tuple #[.int .u64 (B:Nat), .int .u64 (H:Nat), .int .u64 (G:Nat)])) (W.drewN j) from fun j=>by rw[hR];unfold tellV;rw[if_neg z];exact ⟨rfl,j,rfl⟩)
  have F1:=F0.out 0
  rw[show W.drewN 0=W from rfl] at F1
  have F1:=hide F1
  rw[decide_eq_false z] at CE
  clear hR h z
  go_enter Tryz.func131,Tryz.ntmps131
  go_wp2_with fail
  refine CE.out.mono ?_
  rintro e w1 ⟨rfl,hw⟩
  rw[hw]
  clear hw w1 CE
  go_wp2_with fail
  first|exact F1.out|(refine bodyPost_ret (results_tmp3 Tryz.results131 _ _ _) rfl ?_;exact F1.out)|(go_quiet (fail);go_wp2_with fail;first|exact F0.out _|(refine bodyPost_ret (results_tmp3 Tryz.results131 _ _ _) rfl ?_;exact F0.out _))
def CcAl (W:World) (b B H G:Nat) (n:Int) (e:Ending) (W':World):Prop:=
 (¬(1≤n∧n≤64)∧e= .returned (.tuple #[.int .u64 0, .int .i64 0, .int .i64 1])∧W'=W)∨
 ((1≤n∧n≤64)∧(∀p,¬Row H p n.toNat)∧e= .returned (.tuple #[.int .u64 0, .int .i64 0, .int .i64 30])∧W'=W)∨
 ((1≤n∧n≤64)∧∃a:Nat,Row H a n.toNat∧(∀p,p<a→¬Row H p n.toNat)∧a+n.toNat≤64∧e= .returned (.tuple #[.int .u64 ((B+a:Nat):Int), .int .i64 (cnt G.testBit a n.toNat:Nat), .int .i64 0])∧CcAt W' b B (andn H (on1 a n.toNat)) (andn G (on1 a n.toNat))∧Kept (fun x=>x=b) W W')
theorem cnt_mask {G a n:Nat} (hG:G<18446744073709551616) (h:a+n≤64):pc (G &&& on1 a n)=cnt G.testBit a n:=by
 rw[pc_cnt 64 _ (and_lt _ hG),show 64=a+(n+(64 - a - n)) by omega,cnt_add,cnt_add,cnt_none (i:=0) (n:=a),cnt_none (i:=0+a+n),cnt_congr (g:=G.testBit) (j:=a)]
 ·omega
 ·intro k hk;rw[show 0+a+k=a+k by omega,Nat.testBit_and,on1_bit,decide_eq_true (by omega),Bool.and_true]
 ·intro k hk;rw[Nat.testBit_and,on1_bit,decide_eq_false (by omega),Bool.and_false]
 ·intro k hk;rw[Nat.testBit_and,on1_bit,decide_eq_false (by omega),Bool.and_false]
set_option maxRecDepth 100000 in
set_option maxHeartbeats 1000000 in
theorem ccAlloc {W:World} {b B H G:Nat} (h:CcAt W b B H G) (hT:TabW W) (hB:B+64≤34359738368) (n:Int):
 Calls Tryz.prog 278 #[.pointer (some ⟨b,0,none⟩), .int .i64 n] W (CcAl W b B H G n):=by
 obtain ⟨R,hR⟩:∃R,R=CcAl W b B H G n:=⟨_,rfl⟩
 rw[←hR]
 have c0:=h.c0
 have c1:=h.c1
 have c2:=h.c2
 by_cases ok:1≤n∧n≤64
 ·obtain ⟨n1,n2⟩:=ok
  have CF:=hide (find64_any H h.h n n1 n2 W hT)
  have HR:=hide hR
  have HH:=hide h
  clear hR h hT
  go_enter Tryz.func278,Tryz.ntmps278
  go_wp2_with fail
  refine CF.out.mono ?_
  rintro e w1 ⟨⟨y,⟨hy,hf⟩,rfl⟩,hw1⟩
  rw[hw1]
  clear hw1 w1 CF
  by_cases z:y=0
  ·have F0:=hide (show R (.returned (.tuple #[.int .u64 0, .int .i64 0, .int .i64 30])) W from by
    rw[HR.out]
    refine .inr (.inl ⟨⟨n1,n2⟩,fun p hp=> ?_,rfl,rfl⟩)
    have:=row_one.1 ((hf p).2 hp)
    rw[z,Nat.zero_testBit] at this
    cases this)
   have dz:decide (y≠0)=false:=by simp[z]
   generalize (Lib.ctz 64 y:Int)=t
   rw[dz]
   clear z hf hy dz HR
   go_wp2_with fail
   first|exact F0.out|(refine bodyPost_ret (results_tmp3 Tryz.results278 _ _ _) rfl ?_;exact F0.out)
  ·obtain ⟨t1,t2,t3⟩:=ctz_bit z hy
   obtain ⟨a,ha⟩:∃a,Lib.ctz 64 y=a:=⟨_,rfl⟩
   rw[ha] at t1 t2 t3 ⊢
   have ra:Row H a n.toNat:=(hf a).1 (row_one.2 t2)
   have la:=row_lt HH.out.h (by omega) ra
   have dz:decide (y≠0)=true:=by simp[z]
   rw[dz]
   have CM:=hide (mask_any (a:Int) n (by omega) n1 (by omega) W)
   rw[Int.toNat_natCast] at CM
   obtain ⟨M,hM⟩:∃M:Nat,on1 a n.toNat=M:=⟨_,rfl⟩
   have lM:M<18446744073709551616:=by rw[←hM];exact on1_lt la
   have CO:=hide (ones_any (G &&& M) (and_lt _ HH.out.g) W)
   have e1:bits .and .u64 (G:Int) (M:Int)=((G &&& M:Nat):Int):=w_and _ _ HH.out.g lM
   have e2:bits .andNot .u64 (H:Int) (M:Int)=((andn H M:Nat):Int):=w_andNot _ _ HH.out.h lM
   have e3:bits .andNot .u64 (G:Int) (M:Int)=((andn G M:Nat):Int):=w_andNot _ _ HH.out.g lM
   rw[←hM,cnt_mask HH.out.g la,hM] at CO
   rw[hM] at CM
   have fz1:=HH.out.fz 1
   have fz2:=HH.out.fz 2
   obtain ⟨c,hc⟩:∃c:Int,(cnt G.testBit a n.toNat:Int)=c:=⟨_,rfl⟩
   obtain ⟨BI,hBI⟩:∃BI:Int,(B:Int)=BI:=⟨_,rfl⟩
   have F0:=hide (show ∀j X,X=((W.setCell ⟨b,1,none⟩ (.int .u64 (andn H M:Nat))).setCell ⟨b,2,none⟩ (.int .u64 (andn G M:Nat))).drewN j→R (.returned (.tuple #[.int .u64 (BI+(a:Int)), .int .i64 c, .int .i64 0])) X from fun j X hX=>by
    rw[HR.out,←hc,←hBI]
    have q:=((HH.out.set1 _ (andn_lt M HH.out.h)).set2 _ (andn_lt M HH.out.g)).drew j
    refine .inr (.inr ⟨⟨n1,n2⟩,a,ra,fun p hp hr=> ?_,la,rfl,?_,?_⟩)
    ·have:=row_one.1 ((hf p).2 hr)
     rw[t3 p hp] at this
     cases this
    ·rw[hX,hM];exact q
    ·rw[hX]
     exact ((kept_set (F:=fun x=>x=b) W b _ _ rfl).trans (kept_set (F:=fun x=>x=b) _ b _ _ rfl) (fun _ _ z=>z)).trans (Kept.of_below (F:=fun x=>x=b) ⟨rfl,rfl,rfl,Nat.le_refl _,fun _ _=>rfl⟩) (fun _ _ z=>z))
   rw[hc] at CO
   rw[hBI] at c0
   have b0:0≤BI:=by omega
   have b1:BI+64≤34359738368:=by omega
   clear ha hf t2 t3 ra dz hM hc hBI HR
   go_wp2_with fail
   refine CM.out.mono ?_
   rintro e w1 ⟨rfl,hw1⟩
   rw[hw1]
   clear hw1 w1 CM
   go_wp2_with fail
   refine CO.out.mono ?_
   rintro e w1 ⟨rfl,hw1⟩
   rw[hw1]
   clear hw1 w1 CO
   go_wp2_with fail
   refine bodyPost_ret (results_tmp3 Tryz.results278 _ _ _) rfl ?_
   exact F0.out 0 _ rfl
 ·have F0:=hide (show R (.returned (.tuple #[.int .u64 0, .int .i64 0, .int .i64 1])) W from by rw[hR];exact .inl ⟨ok,rfl,rfl⟩)
  clear hR h c0 c1 c2 hT
  by_cases z:n<1
  ·have d1:decide (n<1)=true:=decide_eq_true z
   clear ok z
   go_enter Tryz.func278,Tryz.ntmps278
   go_wp2_with fail
   first|exact F0.out|(refine bodyPost_ret (results_tmp3 Tryz.results278 _ _ _) rfl ?_;exact F0.out)
  ·have d1:decide (n<1)=false:=decide_eq_false z
   have d2:decide (64<n)=true:=decide_eq_true (by omega)
   clear ok z
   go_enter Tryz.func278,Tryz.ntmps278
   go_wp2_with fail
   first|exact F0.out|(refine bodyPost_ret (results_tmp3 Tryz.results278 _ _ _) rfl ?_;exact F0.out)
end Go.Proofs.YtdgdhnnakcncoaaGreatDoor
