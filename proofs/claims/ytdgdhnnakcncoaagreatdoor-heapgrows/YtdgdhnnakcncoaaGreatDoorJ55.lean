/- Of the proof of HeapGrows: texts VVmH, VVmI, VVmJ, VVmX, VVmY. -/
import Derived.Test.YtdgdhnnakcncoaaGreatDoorJ30
import Derived.Test.YtdgdhnnakcncoaaGreatDoorJ28
namespace Go.Proofs.YtdgdhnnakcncoaaGreatDoor.V
set_option maxHeartbeats 1600000
open Go.ChangeShapes Go.WideShapes Go.ChangeAt Go.RowKit Go.Proofs.Sp
set_option linter.unusedVariables false
set_option linter.unusedSimpArgs false
theorem holds_own {w:World} {g cap:Nat} {R:List (Nat×Nat)} (h:HoldsR w g cap R):w.ownsRow 0 170 2 (.slice (some ⟨g,0,none⟩) R.length cap) R.length (flat2 R):=by
 obtain ⟨⟨cur,hr,ht⟩,hl⟩:=h
 exact ⟨flat2_length R,Or.inr ⟨g,cap,cur.toArray,rfl,Nat.zero_le _,hr.heap,hl,hr.cap,by simpa using hr.len,by simpa using ht⟩⟩
theorem own_holds {w:World} {b g cap:Nat} {R:List (Nat×Nat)} (h:w.ownsRow b 170 2 (.slice (some ⟨g,0,none⟩) R.length cap) R.length (flat2 R)):HoldsR w g cap R:=by
 rcases h.2 with ⟨h1,_⟩|⟨g',cap',cur,h1,h2,h3,h4,h5,h6,h7⟩
 ·cases h1
 ·cases h1
  exact ⟨⟨cur.toList,⟨by simpa using h3,by simpa using h6,h5⟩,h7⟩,h4⟩
theorem holds_take {w:World} {g cap:Nat} {R:List (Nat×Nat)} (h:HoldsR w g cap R) (i:Nat):HoldsR w g cap (R.take i):=by
 obtain ⟨⟨cur,hr,ht⟩,hl⟩:=h
 refine ⟨⟨cur,hr,?_⟩,by rw[List.length_take];omega⟩
 rw[flat2_take,←ht,List.take_take,List.length_take]
 by_cases c:i≤R.length
 ·congr 1;omega
 ·rw[Nat.min_eq_right (by omega),Nat.min_eq_right (by omega)]
theorem insert_none (g cap n i:Nat) (fp:Option Addr) (c:Nat) (w:World) (hrc:n≤cap) (hi:i≤n) (hn:cap≤9223372036854775807):
 Calls Tryz.prog 262 #[.slice (some ⟨g,0,none⟩) n cap, .int .i64 (i:Int), .slice fp 0 c] w fun e w'=>e= .returned (.slice (some ⟨g,0,none⟩) n cap)∧w'=w:=by
 have d0:(0:Int)≤(i:Int):=by omega
 have d1:(i:Int)≤(n:Int):=by omega
 by_cases c1:cap=i
 all_goals
  go_enter Tryz.func262,Tryz.ntmps262
  go_wp2_with fail
  go_ret
  exact ⟨rfl,rfl⟩
set_option maxRecDepth 100000 in
set_option maxHeartbeats 4000000 in
theorem insert_end (g cap h c:Nat) (cur curF:List Value) (R F:List (Nat×Nat)) (n m:Nat) (w:World) (hr:RowIs w g cap cur) (hR:cur.take (R.length * 2)=flat2 R) (hln:R.length=n) (hlm:F.length=m) (hrc:n≤cap) (hn:n≤4398046511104) (hm:0<m) (hm2:m≤2)
 (hf:RowIs w h c curF) (hF:curF.take (m * 2)=flat2 F) (hfc:m≤c):
 Calls Tryz.prog 262 #[.slice (some ⟨g,0,none⟩) n cap, .int .i64 (n:Int), .slice (some ⟨h,0,none⟩) m c] w fun e w'=>∃g' c',e= .returned (.slice (some ⟨g',0,none⟩) (n+m) c')∧HoldsR w' g' c' (R++F)∧w.grownBy w' (some g)∧(g'=g∨w.heap.size≤g'):=by
 obtain ⟨i0,hi0,hz0,hz1,hz2⟩:=info_parts infoR
 have OW:=hide (holds_own (HoldsR.mk ⟨cur,hr,hR⟩ (by rw[hln];exact hrc)))
 rw[hln] at OW
 have SF:=hide (src_cells0 hf (by rw[hlm];exact hF))
 have LF:=hide (show (flat2 F).length=m * 2 by rw[flat2_length,hlm])
 have HLN:=hide hln
 have HLM:=hide hlm
 clear hr hR hf hF hln hlm
 have b0:((m:Int)==0)=false:=beq_eq_false_iff_ne.2 (by omega)
 have d0:(0:Int)≤(n:Int):=by omega
 have fin:∀(g1 cap1:Nat) (w1:World),w1.ownsRow 0 170 2 (.slice (some ⟨g1,0,none⟩) (n+m) cap1) (n+m) (flat2 R++flat2 F)→HoldsR w1 g1 cap1 (R++F):=fun g1 cap1 w1 ho=>by
  refine own_holds (b:=0) ?_
  rw[List.length_append,flat2_append,HLN.out,HLM.out];exact ho
 have FIN:=hide fin
 clear fin
 by_cases c1:cap=n
 ·subst c1
  go_enter Tryz.func262,Tryz.ntmps262
  go_wp2_with (at_builtin;refine wpList_append_lies _ rfl (.tmp 23) (.tmp 24) 84 rfl 0 170 i0 _ 2 16 Tryz.underlying84 hi0 hz0 hz1 hz2 rfl (by decide) (.slice (some ⟨g,0,none⟩) cap cap) cap (flat2 R) rfl OW.out ⟨h,0,none⟩ m c (flat2 F) rfl LF.out SF.out (flat2_one _) hm (by unfold maxLen;omega) (by omega) (Nat.zero_le _) w.heap.size rfl ?_;intro g1 cap1 w1 hown1 hgrow1 hat1 hlt1)
  have fin:=FIN.out g1 cap1 w1 hown1
  clear hown1
  go_ret
  exact ⟨g1,cap1,rfl,fin,hgrow1,hat1.imp (fun e=>by simpa [Value.ownBlock] using e.symm) (fun e=>by omega)⟩
 ·go_enter Tryz.func262,Tryz.ntmps262
  go_wp2_with (at_builtin;refine wpList_append_lies _ rfl (.tmp 23) (.tmp 24) 84 rfl 0 170 i0 _ 2 16 Tryz.underlying84 hi0 hz0 hz1 hz2 rfl (by decide) (.slice (some ⟨g,0,none⟩) n cap) n (flat2 R) rfl OW.out ⟨h,0,none⟩ m c (flat2 F) rfl LF.out SF.out (flat2_one _) hm (by unfold maxLen;omega) (by omega) (Nat.zero_le _) w.heap.size rfl ?_;intro g1 cap1 w1 hown1 hgrow1 hat1 hlt1)
  have fin:=FIN.out g1 cap1 w1 hown1
  clear hown1
  go_ret
  exact ⟨g1,cap1,rfl,fin,hgrow1,hat1.imp (fun e=>by simpa [Value.ownBlock] using e.symm) (fun e=>by omega)⟩
set_option maxRecDepth 100000 in
set_option maxHeartbeats 4000000 in
theorem replace_end_grow (g cap h c:Nat) (R F:List (Nat×Nat)) (i j m:Nat) (w:World) (hr:HoldsR w g cap R) (hln:R.length=j) (hlm:F.length=m) (hrc:j≤cap) (hn:j≤4398046511104) (hij:i<j) (hm2:m≤2) (hm:cap<i+m)
 (hf:HoldsR w h c F):
 Calls Tryz.prog 207 #[.slice (some ⟨g,0,none⟩) j cap, .int .i64 (i:Int), .int .i64 (j:Int), .slice (some ⟨h,0,none⟩) m c] w fun e w'=>∃g' c',e= .returned (.slice (some ⟨g',0,none⟩) (i+m) c')∧HoldsR w' g' c' (R.take i++F)∧w.grownBy w' (some g)∧(g'=g∨w.heap.size≤g'):=by
 obtain ⟨i0,hi0,hz0,hz1,hz2⟩:=info_parts infoR
 have hti:(R.take i).length=i:=by rw[List.length_take];omega
 have OW:=hide (holds_own (holds_take hr i))
 rw[hti] at OW
 obtain ⟨⟨curF,hf1,hf2⟩,hf3⟩:=hf
 have SF:=hide (src_cells0 hf1 hf2)
 have LF:=hide (show (flat2 F).length=m * 2 by rw[flat2_length,hlm])
 have fin:∀(g1 cap1:Nat) (w1:World),w1.ownsRow 0 170 2 (.slice (some ⟨g1,0,none⟩) (i+m) cap1) (i+m) (flat2 (R.take i)++flat2 F)→HoldsR w1 g1 cap1 (R.take i++F):=fun g1 cap1 w1 ho=>by
  refine own_holds (b:=0) ?_
  rw[List.length_append,flat2_append,hti,hlm];exact ho
 have FIN:=hide fin
 clear fin hr hf1 hf2 hf3 hln hlm hti
 have b1:((i:Int)==(j:Int))=false:=beq_eq_false_iff_ne.2 (by omega)
 have c1:¬cap=i:=by omega
 have d0:(0:Int)≤(i:Int):=by omega
 have d1:(i:Int)≤(j:Int):=by omega
 have d11:(i:Int)≤(cap:Int):=by omega
 have b5:¬(i:Int)+(m:Int)<(j:Int):=by omega
 go_enter Tryz.func207,Tryz.ntmps207
 go_wp2_with (at_builtin;refine wpList_append_lies _ rfl (.tmp 32) (.tmp 33) 84 rfl 0 170 i0 _ 2 16 Tryz.underlying84 hi0 hz0 hz1 hz2 rfl (by decide) (.slice (some ⟨g,0,none⟩) i cap) i (flat2 (R.take i)) rfl OW.out ⟨h,0,none⟩ m c (flat2 F) rfl LF.out SF.out (flat2_one _) (by omega) (by unfold maxLen;omega) (by omega) (Nat.zero_le _) w.heap.size rfl ?_;intro g1 cap1 w1 hown1 hgrow1 hat1 hlt1)
 have fin:=FIN.out g1 cap1 w1 hown1
 clear hown1
 go_ret
 exact ⟨g1,cap1,rfl,fin,hgrow1,hat1.imp (fun e=>by simpa [Value.ownBlock] using e.symm) (fun e=>by omega)⟩
set_option maxRecDepth 100000 in
set_option maxHeartbeats 4000000 in
theorem replace_end_room (g cap:Nat) (fp:Option Addr) (c:Nat) (R F:List (Nat×Nat)) (i j m:Nat) (w:World) (hr:HoldsR w g cap R) (hln:R.length=j) (hlm:F.length=m) (hrc:j≤cap) (hn:cap≤9223372036854775807) (hij:i<j) (hm:i+m≤cap)
 (hf:(m=0∧fp=none∧c=0)∨(0<m∧∃h,fp=some ⟨h,0,none⟩∧HoldsR w h c F)):
 Calls Tryz.prog 207 #[.slice (some ⟨g,0,none⟩) j cap, .int .i64 (i:Int), .int .i64 (j:Int), .slice fp m c] w fun e w'=>e= .returned (.slice (some ⟨g,0,none⟩) (i+m) cap)∧HoldsR w' g cap (R.take i++F)∧w.grownBy w' (some g):=by
 obtain ⟨i0,hi0,hz0,hz1,hz2⟩:=info_parts infoR
 have hti:(R.take i).length=i:=by rw[List.length_take];omega
 have OW:=hide (holds_own (holds_take hr i))
 rw[hti] at OW
 obtain ⟨⟨cur,hr1,hr2⟩,hr3⟩:=hr
 have hA:=hide (head_of hr2 (i:=i) (by omega))
 have hcl:=hr1.len
 have Hr:=hide hr1
 have b1:((i:Int)==(j:Int))=false:=beq_eq_false_iff_ne.2 (by omega)
 have c1:¬cap=i:=by omega
 have d0:(0:Int)≤(i:Int):=by omega
 have d1:(i:Int)≤(j:Int):=by omega
 have d11:(i:Int)≤(cap:Int):=by omega
 have d8:(0:Int)≤(i:Int)+(m:Int):=by omega
 rcases hf with ⟨hm0,hfp,hc0⟩|⟨hm0,h,hfp,⟨curF,hf1,hf2⟩,hf3⟩
 ·subst hm0 hfp hc0
  have hF0:F= []:=List.eq_nil_of_length_eq_zero hlm
  subst hF0
  rw[List.append_nil,Nat.add_zero]
  have HLN:=hide hln
  have HTI:=hide hti
  clear hr1 hr2 hr3 hln hlm hti
  go_enter Tryz.func207,Tryz.ntmps207
  go_wp2_with (at_builtin;refine wpList_append_own_none rfl (.tmp 32) (.tmp 33) 84 rfl 0 170 i0 2 Tryz.underlying84 hi0 (.slice (some ⟨g,0,none⟩) i cap) i (flat2 (R.take i)) rfl OW.out rfl ?_)
  obtain ⟨w4,cur4,hrun4,hg4,hl4,ht4,hgrow4⟩:=run_clear_behind (P:=Tryz.prog) w 84 0 170 _ Tryz.underlying84 (zeroR w) zc2 (some ⟨g,i * 2,none⟩) (j - i) (cap - i) g (i * 2) _ 170 Hr.out.heap (fun _=>rfl) (by show i * 2+(j - i) * 2≤_;rw[hcl];omega)
  rw[hrun4]
  clear hrun4
  have FIN4:Hid (HoldsR w4 g cap (R.take i)):=by
   refine HoldsR.mk ⟨cur4,⟨hg4,by rw[hl4];exact hcl,Hr.out.cap⟩,?_⟩ (by rw[HTI.out];omega)
   rw[HTI.out,ht4];exact hA.out
  clear hg4 hl4 ht4
  go_wp2_with fail
  go_ret
  exact ⟨rfl,FIN4.out,hgrow4⟩
 ·subst hfp
  have SF:=hide (src_cells0 hf1 hf2)
  have LF:=hide (show (flat2 F).length=m * 2 by rw[flat2_length,hlm])
  have HLN:=hide hln
  have HLM:=hide hlm
  have HTI:=hide hti
  have FT:=hide (show i * 2+(flat2 F).length≤cur.length by rw[flat2_length,hlm,hcl];omega)
  clear hr1 hr2 hr3 hln hlm hf1 hf2 hf3 hti OW
  have hR1:∀(w1:World) (cur1:List Value),w1.heap[g]? =some (.cells (List.toArray cur1) 170 (0,0))→cur1.length=cur.length→cur1.take ((i+m) * 2)=(splice cur (i * 2) (flat2 F)).take ((i+m) * 2)→HoldsR w1 g cap (R.take i++F):=fun w1 cur1 a1 a2 a3=>by
   refine HoldsR.mk ⟨cur1,⟨a1,by rw[a2];exact hcl,Hr.out.cap⟩,?_⟩ (by rw[List.length_append,HTI.out,HLM.out];omega)
   rw[List.length_append,HTI.out,HLM.out,a3,flat2_append,←hA.out]
   unfold splice
   have l1:(cur.take (i * 2)).length=i * 2:=by rw[List.length_take];omega
   have l2:=LF.out
   rw[←List.append_assoc,List.take_append_of_le_length (by rw[List.length_append];omega)]
   exact List.take_of_length_le (by rw[List.length_append];omega)
  have HR1:=hide hR1
  clear hR1
  by_cases b5:(i:Int)+(m:Int)<(j:Int)
  ·have c3:¬cap=i+m:=by omega
   have d5:((i:Int)+(m:Int)).toNat=i+m:=by omega
   have d10:(i:Int)+(m:Int)≤(j:Int):=by omega
   go_enter Tryz.func207,Tryz.ntmps207
   go_wp2_with (at_builtin;refine wpList_append_room2 rfl (.tmp 32) (.tmp 33) 84 rfl 170 i0 2 Tryz.underlying84 hi0 hz1 g i cap rfl cur Hr.out.heap ⟨h,0,none⟩ m c rfl (flat2 F) LF.out SF.out (flat2_one _) hm FT.out ?_;intro w1 HG1 hgrow1)
   obtain ⟨w4,cur4,hrun4,hg4,hl4,ht4,hgrow4⟩:=run_clear_behind (P:=Tryz.prog) w1 84 0 170 _ Tryz.underlying84 (zeroR w1) zc2 (some ⟨g,(i+m) * 2,none⟩) (j -(i+m)) (cap -(i+m)) g ((i+m) * 2) _ 170 HG1.out (fun _=>rfl) (by show (i+m) * 2+(j -(i+m)) * 2≤_;rw[length_splice _ _ _ FT.out,hcl];omega)
   rw[hrun4]
   clear hrun4
   have FIN4:=hide (HR1.out w4 cur4 hg4 (by rw[hl4,length_splice _ _ _ FT.out]) ht4)
   clear hg4 hl4 ht4 HG1
   go_wp2_with fail
   go_ret
   exact ⟨rfl,FIN4.out,hgrow1.trans hgrow4⟩
  ·go_enter Tryz.func207,Tryz.ntmps207
   go_wp2_with (at_builtin;refine wpList_append_room2 rfl (.tmp 32) (.tmp 33) 84 rfl 170 i0 2 Tryz.underlying84 hi0 hz1 g i cap rfl cur Hr.out.heap ⟨h,0,none⟩ m c rfl (flat2 F) LF.out SF.out (flat2_one _) hm FT.out ?_;intro w1 HG1 hgrow1)
   have FIN4:=hide (HR1.out w1 _ HG1.out (length_splice _ _ _ FT.out) rfl)
   clear HG1
   go_ret
   exact ⟨rfl,FIN4.out,hgrow1⟩
end Go.Proofs.YtdgdhnnakcncoaaGreatDoor.V
namespace Go.Proofs.YtdgdhnnakcncoaaGreatDoor.V
set_option maxHeartbeats 1600000
open Go.ChangeShapes Go.WideShapes Go.ChangeAt Go.RowKit Go.Proofs.Sp
set_option maxRecDepth 100000 in
set_option maxHeartbeats 4000000 in
theorem replace_fit (g:Nat) (cur:List Value) (R F:List (Nat×Nat)) (i d:Nat) (fp:Option Addr) (c:Nat) (w:World) (hr:RowIs w g (i+F.length+d) cur) (hR:cur.take (R.length * 2)=flat2 R) (hln:R.length=i+F.length+d) (hn:i+F.length+d≤70368744177664) (hd:0<d) (hij:0<F.length)
 (hF:0<F.length→∃h curF,fp=some ⟨h,0,none⟩∧h≠g∧RowIs w h c curF∧curF.take (F.length * 2)=flat2 F):
 Calls Tryz.prog 207 #[.slice (some ⟨g,0,none⟩) (i+F.length+d) (i+F.length+d), .int .i64 (i:Int), .int .i64 ((i:Int)+(F.length:Int)), .slice fp F.length c] w fun e w'=>e= .returned (.slice (some ⟨g,0,none⟩) (i+F.length+d) (i+F.length+d))∧HoldsR w' g (i+F.length+d) (R.take i++F++R.drop (i+F.length))∧w.grownBy w' (some g):=by
 obtain ⟨m,hlm⟩:∃m,F.length=m:=⟨_,rfl⟩
 rw[hlm] at hF hr hln hn hij ⊢
 have HR:=hide hR
 have Hr:=hide hr
 have HLN:=hide hln
 have HLM:=hide hlm
 have HF:=hide hF
 clear hR hr hln hlm hF
 have b1:((i:Int)==((i:Int)+(m:Int)))=false:=beq_eq_false_iff_ne.2 (by omega)
 have c1:¬(i+m+d)=i:=by omega
 have c2:¬(i+m+d)=(i+m):=by omega
 have d0:(0:Int)≤(i:Int):=by omega
 have d4:IntKind.i64.wrap ((i:Int)+(m:Int))=(i:Int)+(m:Int):=by rw[IntKind.wrap_i64];omega
 have d5:((i:Int)+(m:Int)).toNat=i+m:=by omega
 have d6:IntKind.i64.wrap ((i:Int)+(m:Int)+(d:Int))=(i:Int)+(m:Int)+(d:Int):=by rw[IntKind.wrap_i64];omega
 have d7:((i:Int)+(m:Int)+(d:Int)).toNat=i+m+d:=by omega
 have d8:(0:Int)≤(i:Int)+(m:Int):=by omega
 have d9:(0:Int)≤(i:Int)+(m:Int)+(d:Int):=by omega
 have b2:(((i:Int)+(m:Int))==((i:Int)+(m:Int)+(d:Int)))=false:=beq_eq_false_iff_ne.2 (by omega)
 have d1:(i:Int)≤(i:Int)+(m:Int):=by omega
 have d10:(i:Int)+(m:Int)≤(i:Int)+(m:Int)+(d:Int):=by omega
 have d11:(i:Int)≤(i:Int)+(m:Int)+(d:Int):=by omega
 go_enter Tryz.func207,Tryz.ntmps207
 go_wp2_with fail
 go_quiet (fail)
 go_wp2_with fail
 have hA:=hide (head_of HR.out (i:=i) (by rw[HLN.out];omega))
 have hcl:=Hr.out.len
 have FT1:=hide (show i * 2+(flat2 F).length≤cur.length by rw[hcl,flat2_length,HLM.out];omega)
 obtain ⟨w2,hrun2,hg2',hgrow2⟩:=run_copy_splice (P:=Tryz.prog) (w.drewN nq) 84 84 3 170 2 Tryz.underlying84 sizeR (some ⟨g,i * 2,none⟩) fp (i+m+d - i) ((i+m+d) - i) m c g (i * 2) cur 170 Hr.out.heap (flat2 F) (by rw[flat2_length,HLM.out];show _=min _ _ * 2;omega) (by decide) (fun h0=>by
  have h0':0<m:=by have:0<min m (i+m+d - i):=h0;omega
  obtain ⟨h,curF,e1,e2,e3,e4⟩:=HF.out h0'
  exact ⟨rfl,_,e1,src_cells0 (W:=w.drewN nq) ⟨e3.heap,e3.len,e3.cap⟩ (by rw[HLM.out];exact e4)⟩) FT1.out (flat2_one _)
 have R2:Hid (RowIs w2 g (i+m+d) (splice cur (i * 2) (flat2 F))):=RowIs.mk hg2' (by rw[length_splice _ _ _ FT1.out];exact hcl) Hr.out.cap
 clear hg2'
 rw[hrun2]
 clear hrun2
 have D2:Hid (∀jj v,(flat2 (R.drop (i+m)))[jj]? =some v→w2.cell? ((⟨g,(i+m) * 2,none⟩:Addr).add jj)=some v):=fun jj v hv=>by
  rw[addr_add0,R2.out.cell]
  rw[flat2_drop,←HR.out,List.getElem?_drop,List.getElem?_take] at hv
  split at hv
  ·rw[←hv]
   show (cur.take (i * 2)++(flat2 F++cur.drop (i * 2+(flat2 F).length)))[(i+m) * 2+jj]? =_
   have l1:(cur.take (i * 2)).length=i * 2:=by rw[List.length_take];omega
   have l2:(flat2 F).length=m * 2:=by rw[flat2_length,HLM.out]
   rw[List.getElem?_append_right (by omega),List.getElem?_append_right (by omega),List.getElem?_drop,l1,l2]
   congr 1;omega
  ·cases hv
 have FT2:=hide (show (i+m) * 2+(flat2 (R.drop (i+m))).length≤(splice cur (i * 2) (flat2 F)).length by rw[R2.out.len,flat2_length,List.length_drop,HLN.out];omega)
 have LN2:=hide (show ∀x y,min x y=d→(flat2 (R.drop (i+m))).length=Nat.min x y * 2 from fun x y hxy=>by rw[flat2_length,List.length_drop,HLN.out];show _=min x y * 2;omega)
 go_wp2_with fail
 go_region_held3 (fun w'=>True) (trivial) (first
  |(refine step_copy_sized rfl (.tmp 103) (.tmp 106) 84 84 rfl 170 2 Tryz.underlying84 sizeR (some ⟨g,(i+m) * 2,none⟩) (some ⟨g,(i+m) * 2,none⟩) d d d d (by simp[Act.eval]<;>omega) (by simp[Act.eval]<;>omega) g ((i+m) * 2) _ 170 R2.out.heap (flat2 (R.drop (i+m))) (LN2.out _ _ (by show min _ _=_;omega)) (by decide) (fun _=>⟨rfl,_,rfl,D2.out⟩) FT2.out (flat2_one _) ?_;intro w3 HG3 hgrow3))
 have hgrow3:=undrew hgrow3
 have FIN:=hide (copies_fd (cur:=cur) (R:=R) (F:=F) (i:=i) (j:=i+m) (by rw[HLN.out];omega) hA.out (by rw[hcl,HLN.out,HLM.out];omega))
 have R3:Hid (RowIs w3 g (i+m+d) (splice (splice cur (i * 2) (flat2 F)) ((i+m) * 2) (flat2 (R.drop (i+m))))):=RowIs.mk HG3.out (by rw[length_splice _ _ _ FT2.out];exact R2.out.len) Hr.out.cap
 clear HG3
 go_wp2_with fail
 obtain ⟨w4,cur4,hrun4,hg4,hl4,ht4,hgrow4⟩:=run_clear_behind (P:=Tryz.prog) w3 84 0 170 _ Tryz.underlying84 (zeroR w3) zc2 (some ⟨g,0,none⟩) 0 0 g ((i+m+d) * 2) _ 170 R3.out.heap (fun h=>absurd h (by omega)) (by show (i+m+d) * 2+0 * 2≤_;rw[R3.out.len];omega)
 rw[hrun4]
 clear hrun4
 have FIN4:Hid (HoldsR w4 g (i+m+d) (R.take i++F++R.drop (i+m))):=by
  refine HoldsR.mk ⟨cur4,⟨hg4,by rw[hl4];exact R3.out.len,Hr.out.cap⟩,?_⟩ (by rw[len_of (by rw[HLN.out];omega),HLN.out,HLM.out];omega)
  have e:=FIN.out
  rw[HLM.out] at e
  rw[←e]
  exact tail_take ht4 (by rw[len_of (by rw[HLN.out];omega),HLN.out,HLM.out];omega)
 have hgrow:w.grownBy w4 (some g):=((show w.grownBy w2 (some g) from ⟨hgrow2.os,hgrow2.tape,hgrow2.output,hgrow2.size,hgrow2.block⟩).trans hgrow3).trans hgrow4
 clear hg4 hl4 ht4 hgrow2 hgrow3 hgrow4
 go_wp2_with fail
 go_ret
 exact ⟨rfl,FIN4.out,hgrow⟩
def Now (w w':World) (g:Nat) (v:Value) (R:List (Nat×Nat)):Prop:=∃g' c',v= .slice (some ⟨g',0,none⟩) R.length c'∧HoldsR w' g' c' R∧w.grownBy w' (some g)∧(g'=g∨w.heap.size≤g')
theorem none_some {w w':World} {row:Option Nat} (h:w.grownBy w' none):w.grownBy w' row:=⟨h.os,h.tape,h.output,h.size,fun k hk _=>h.block k hk (by simp)⟩
theorem insert_core (g cap:Nat) (v:Value) (R F:List (Nat×Nat)) (i:Nat) (w:World) (hh:HoldsR w g cap R) (hi:i≤R.length) (hn:R.length≤2199023255552) (hm2:F.length≤2) (hv:FreshAt w v F g):
 Calls Tryz.prog 262 #[.slice (some ⟨g,0,none⟩) R.length cap, .int .i64 (i:Int),v] w fun e w'=>∃v',e= .returned v'∧Now w w' g v' (R.take i++F++R.drop i):=by
 have hle:=hh.le
 obtain ⟨⟨cur,hr,ht⟩,_⟩:=id hh
 have hcm:=hr.cap
 unfold maxLen at hcm
 rcases hv with ⟨rfl,rfl⟩|⟨h,c,rfl,hgh,hm,hF⟩
 ·refine (insert_none g cap R.length i none 0 w hle hi (by omega)).mono ?_
  rintro e w' ⟨rfl,rfl⟩
  refine ⟨_,rfl,g,cap,?_,?_,⟨rfl,rfl,rfl,Nat.le_refl _,fun _ _ _=>rfl⟩,Or.inl rfl⟩
  ·simp
  ·simpa using hh
 ·have hfc:=hF.le
  obtain ⟨⟨curF,hf,hft⟩,_⟩:=id hF
  by_cases e:i=R.length
  ·subst e
   refine (insert_end g cap h c cur curF R F R.length F.length w hr ht rfl rfl hle (by omega) hm hm2 hf hft hfc).mono ?_
   rintro e w' ⟨g',c',rfl,h1,h2,h3⟩
   refine ⟨_,rfl,g',c',?_,?_,h2,h3⟩
   ·simp
   ·simpa using h1
  ·by_cases q:R.length+F.length≤cap
   ·refine (insert_room g cap h c cur curF R F i w hr ht q (by omega) (by omega) hf hft hgh hm).mono ?_
    rintro e w' ⟨rfl,h1,h2⟩
    exact ⟨_,rfl,g,cap,by rw[len_of hi,show i+F.length+(R.length - i)=R.length+F.length by omega],h1,h2,Or.inl rfl⟩
   ·refine (insert_grow g cap h c cur curF R F i w hr ht hle (by omega) (by omega) (by omega) hf hft hgh hm).mono ?_
    rintro e w' ⟨c',rfl,h1,h2⟩
    exact ⟨_,rfl,_,c',by rw[len_of hi,show i+F.length+(R.length - i)=R.length+F.length by omega],h1,none_some h2,Or.inr (Nat.le_refl _)⟩
set_option maxRecDepth 100000 in
set_option maxHeartbeats 4000000 in
theorem replace_core (g cap:Nat) (v:Value) (R F:List (Nat×Nat)) (i j:Nat) (w:World) (hh:HoldsR w g cap R) (hij:i≤j) (hj:j≤R.length) (hn:R.length≤2199023255552) (hm2:F.length≤2) (hv:FreshAt w v F g):
 Calls Tryz.prog 207 #[.slice (some ⟨g,0,none⟩) R.length cap, .int .i64 (i:Int), .int .i64 (j:Int),v] w fun e w'=>∃v',e= .returned v'∧Now w w' g v' (R.take i++F++R.drop j):=by
 have hle:=hh.le
 obtain ⟨⟨cur,hr,ht⟩,_⟩:=id hh
 have hcm:=hr.cap
 unfold maxLen at hcm
 have HV:=hide hv
 clear hv
 have hlen:=len_of (R:=R) (F:=F) (i:=i) (j:=j) (by omega)
 by_cases e:i=j
 ·subst e
  have ic:=insert_core g cap v R F i w hh hj hn hm2 HV.out
  have IC:=hide ic
  have b1:((i:Int)==(i:Int))=true:=beq_self_eq_true _
  have d0:(0:Int)≤(i:Int):=by omega
  have d1:(i:Int)≤(cap:Int):=by omega
  obtain ⟨n,hln⟩:∃n,R.length=n:=⟨_,rfl⟩
  rw[hln] at IC hle hj ⊢
  clear ic hh hr ht HV hlen hln
  by_cases c1:cap=i
  ·subst c1
   go_enter Tryz.func207,Tryz.ntmps207
   go_wp2_with fail
   refine IC.out.mono ?_
   rintro e w' ⟨v',rfl,hnow⟩
   have HN:=hide hnow
   clear hnow IC
   go_wp2_with fail
   go_ret
   exact ⟨v',rfl,HN.out⟩
  ·go_enter Tryz.func207,Tryz.ntmps207
   go_wp2_with fail
   refine IC.out.mono ?_
   rintro e w' ⟨v',rfl,hnow⟩
   have HN:=hide hnow
   clear hnow IC
   go_wp2_with fail
   go_ret
   exact ⟨v',rfl,HN.out⟩
 ·obtain ⟨d,hd⟩:∃d,R.length=j+d:=⟨R.length - j,by omega⟩
  obtain ⟨fp,c,hvv,hfr⟩:∃fp c,v= .slice fp F.length c∧((F.length=0∧fp=none∧c=0)∨(0<F.length∧∃h,fp=some ⟨h,0,none⟩∧h≠g∧HoldsR w h c F)):=by
   rcases HV.out with ⟨rfl,rfl⟩|⟨h,c,rfl,hgh,hm,hF⟩
   ·exact ⟨none,0,rfl,Or.inl ⟨rfl,rfl,rfl⟩⟩
   ·exact ⟨_,c,rfl,Or.inr ⟨hm,h,rfl,hgh,hF⟩⟩
  subst hvv
  have HFR:=hide hfr
  clear hfr HV
  by_cases d0:d=0
  ·subst d0
   have hnil:R.drop j= []:=List.drop_eq_nil_of_le (by omega)
   rw[hnil,List.append_nil] at hlen ⊢
   rw[show R.length=j by omega] at hle ⊢
   have hlen2:(R.take i++F).length=i+F.length:=by omega
   by_cases q:i+F.length≤cap
   ·refine (replace_end_room g cap fp c R F i j F.length w hh (by omega) rfl hle (by omega) (by omega) q (HFR.out.imp id fun ⟨a,h,b,_,c⟩=>⟨a,h,b,c⟩)).mono ?_
    rintro e w' ⟨rfl,h1,h2⟩
    exact ⟨_,rfl,g,cap,by rw[hlen2],h1,h2,Or.inl rfl⟩
   ·rcases HFR.out with ⟨a,_,_⟩|⟨a,h,rfl,b,hF⟩
    ·omega
    ·refine (replace_end_grow g cap h c R F i j F.length w hh (by omega) rfl hle (by omega) (by omega) hm2 (by omega) hF).mono ?_
     rintro e w' ⟨g',c',rfl,h1,h2,h3⟩
     exact ⟨_,rfl,g',c',by rw[hlen2],h1,h2,h3⟩
  ·have hlen2:(R.take i++F++R.drop j).length=i+F.length+d:=by omega
   have hFF:0<F.length→∃h curF,fp=some ⟨h,0,none⟩∧h≠g∧RowIs w h c curF∧curF.take (F.length * 2)=flat2 F:=fun hm=>by
    rcases HFR.out with ⟨a,_,_⟩|⟨a,h,rfl,b,⟨curF,hf,hft⟩,_⟩
    ·omega
    ·exact ⟨h,curF,rfl,b,hf,hft⟩
   have HFF:=hide hFF
   clear hFF
   rw[hd] at hle ⊢
   by_cases q:i+F.length≤j
   ·by_cases q2:cap=i+F.length+d
    ·have hj2:j=i+F.length:=by omega
     subst q2 hj2
     have:=replace_fit g cur R F i d fp c w hr ht hd (by omega) (by omega) (by omega) HFF.out
     rw[show (((i+F.length:Nat):Int))=(i:Int)+(F.length:Int) by omega]
     refine this.mono ?_
     rintro e w' ⟨rfl,h1,h2⟩
     exact ⟨_,rfl,g,_,by rw[hlen2],h1,h2,Or.inl rfl⟩
    ·refine (replace_less g cap cur R F i j d fp c w hr ht hd hle (by omega) (by omega) (by omega) q q2 HFF.out).mono ?_
     rintro e w' ⟨rfl,h1,h2⟩
     exact ⟨_,rfl,g,cap,by rw[hlen2],h1,h2,Or.inl rfl⟩
   ·obtain ⟨h,curF,rfl,b,hf,hft⟩:=HFF.out (by omega)
    by_cases q2:i+F.length+d≤cap
    ·refine (replace_more g cap h c cur curF R F i j d w hr ht hd (by omega) (by omega) (by omega) (by omega) q2 hf hft b).mono ?_
     rintro e w' ⟨rfl,h1,h2⟩
     exact ⟨_,rfl,g,cap,by rw[hlen2],h1,h2,Or.inl rfl⟩
    ·refine (replace_grow g cap h c cur curF R F i j d w hr ht hd hle (by omega) (by omega) (by omega) (by omega) hf hft b).mono ?_
     rintro e w' ⟨c',rfl,h1,h2⟩
     exact ⟨_,rfl,_,c',by rw[hlen2,Nat.add_assoc],h1,none_some h2,Or.inr (Nat.le_refl _)⟩
end Go.Proofs.YtdgdhnnakcncoaaGreatDoor.V
namespace Go.Proofs.YtdgdhnnakcncoaaGreatDoor.V
set_option maxHeartbeats 1600000
open Go.ChangeShapes Go.WideShapes Go.ChangeAt Go.RowKit Go.Proofs.Sp Go.Maps
theorem zeros1024:Tryz.zeroCells277=Array.replicate 1024 (.int .u64 0):=by kernel_rfl
theorem arr_zero (w:World):ArrAt (w.alloc (.cells Tryz.zeroCells277 277)) w.heap.size (fun _=>0):=by
 refine ⟨List.replicate 1024 (.int .u64 0),?_,List.length_replicate,fun k hk=> ?_⟩
 ·rw[heap_alloc_new,zeros1024]
  rfl
 ·rw[List.getElem?_replicate,if_pos hk];rfl
theorem ArrAt.put {w:World} {a:Nat} {f:Nat→Nat} (h:ArrAt w a f) (k x:Nat) (hk:k<1024):ArrAt (w.setCell ⟨a,k,none⟩ (.int .u64 (x:Int))) a (fun j=>if j=k then x else f j):=by
 obtain ⟨arr,h1,h2,h3⟩:=h
 refine ⟨arr.set k (.int .u64 (x:Int)),?_,by simpa using h2,fun j hj=> ?_⟩
 ·rw[setCell_eq_setRow w a k arr.toArray _ (0,0) _ h1,setRow_heap w a _ _ _ _ h1]
  congr 2
  simp
 ·show _=some (Value.int .u64 ((if j=k then x else f j:Nat):Int))
  by_cases c:j=k
  ·subst c;rw[if_pos rfl,List.getElem?_set_self (by omega)]
  ·rw[if_neg c,List.getElem?_set_ne (fun z=>c z.symm)];exact h3 j hj
theorem ArrAt.kept {w w':World} {a:Nat} {f:Nat→Nat} (h:ArrAt w a f) (hb:w'.heap[a]? =w.heap[a]?):ArrAt w' a f:=by
 obtain ⟨arr,h1,h2⟩:=h
 exact ⟨arr,hb.trans h1,h2⟩
theorem ArrAt.lt {w:World} {a:Nat} {f:Nat→Nat} (h:ArrAt w a f):a<w.heap.size:=by
 obtain ⟨arr,h1,_⟩:=h
 exact (Array.getElem?_eq_some_iff.1 h1).1
structure FrB (X:Nat→Prop) (w w':World):Prop where
 os:w'.os=w.os
 tape:w'.tape=w.tape
 output:w'.output=w.output
 size:w.heap.size≤w'.heap.size
 block:∀x,x<w.heap.size→¬X x→w'.heap[x]? =w.heap[x]?
theorem FrB.refl (X:Nat→Prop) (w:World):FrB X w w:=⟨rfl,rfl,rfl,Nat.le_refl _,fun _ _ _=>rfl⟩
theorem FrB.trans {X:Nat→Prop} {a b c:World} (h:FrB X a b) (k:FrB X b c):FrB X a c:=
 ⟨k.os.trans h.os,k.tape.trans h.tape,k.output.trans h.output,Nat.le_trans h.size k.size,fun x hx hn=>by rw[k.block x (Nat.lt_of_lt_of_le hx h.size) hn];exact h.block x hx hn⟩
theorem FrB.mono {X Y:Nat→Prop} {a b:World} (h:FrB X a b) (hy:∀x,x<a.heap.size→X x→Y x):FrB Y a b:=⟨h.os,h.tape,h.output,h.size,fun x hx hn=>h.block x hx (fun z=>hn (hy x hx z))⟩
theorem FrB.grown {w w':World} {b:Nat} (h:w.grownBy w' (some b)):FrB (fun x=>x=b) w w':=⟨h.os,h.tape,h.output,h.size,fun x hx hn=>h.block x hx (by simpa using hn)⟩
theorem FrB.set {X:Nat→Prop} {a w:World} (h:FrB X a w) {p:Addr} (hp:X p.block∨a.heap.size≤p.block) (u:Value):FrB X a (w.setCell p u):=
 ⟨h.os,h.tape,h.output,by simpa using h.size,fun x hx hn=>by
  rw[Below.heap_setCell _ _ _ _ (fun e=>by subst e;rcases hp with hp|hp;exact hn hp;omega)]
  exact h.block x hx hn⟩
theorem FrB.alloc {X:Nat→Prop} {a w:World} (h:FrB X a w) (o:Obj):FrB X a (w.alloc o):=
 ⟨h.os,h.tape,h.output,by have:=h.size;simp;omega,fun x hx hn=>by rw[Below.heap_alloc w o x (Nat.lt_of_lt_of_le hx h.size)];exact h.block x hx hn⟩
set_option maxRecDepth 100000 in
set_option maxHeartbeats 2000000 in
theorem array_has (b bp bf n p a:Nat) (MP MF:Nat→Nat) (A:Nat→Nat→Nat) (w:World) (h:WordsM w b bp bf n MP MF A) (hp:p<18446744073709551616) (ha:MP p=a+1):
 Calls Tryz.prog 129 #[.pointer (some ⟨b,8,none⟩), .int .u64 (p:Int)] w fun e w'=>e= .returned (.pointer (some ⟨a,0,none⟩))∧w'=w:=by
 have c8:=h.c8
 obtain ⟨v,hrun,hv⟩:=look_ptr h.mp p hp
 rcases hv with ⟨hz,_⟩|⟨x,hx,rfl⟩
 ·omega
 ·obtain rfl:x=a:=by omega
  clear h hx
  go_enter Tryz.func129,Tryz.ntmps129
  go_wp2_with fail
  go_ret
  exact ⟨rfl,rfl⟩
theorem FrB.cell {X:Nat→Prop} {w w':World} (h:FrB X w w') {b k:Nat} (hb:b<w.heap.size) (hx:¬X b):w'.cell? ⟨b,k,none⟩=w.cell? ⟨b,k,none⟩:=World.cell?_of_block (h.block b hb hx)
theorem words_made {w w':World} {b bp bf n p a:Nat} {MP MF MF':Nat→Nat} {A:Nat→Nat→Nat} {f:Nat→Nat} (h:WordsM w b bp bf n MP MF A) (hz:MP p=0) (hf:FrB (fun x=>x=bp∨x=bf) w w') (hm:MapIs w' ptrElem bp (n+1) (fun q=>if q=p then a+1 else MP q)) (hn:MapIs w' numElem bf (n+1) MF') (ha:ArrAt w' a f) (hal:w.heap.size≤a):
 WordsM w' b bp bf (n+1) (fun q=>if q=p then a+1 else MP q) MF' (fun q=>if q=p then f else A q):=by
 have hbl:=cell_lt h.c8
 obtain ⟨n1,n2,n3⟩:=h.ne
 have l1:=h.mp.lt
 have l2:=h.mf.lt
 refine ⟨?_,?_,hm,hn,fun q hq=> ?_,fun q r hq hqr=> ?_,fun q hq=> ?_,h.ne⟩
 ·rw[hf.cell hbl (by rintro (e|e);exact n1 e.symm;exact n2 e.symm)];exact h.c8
 ·rw[hf.cell hbl (by rintro (e|e);exact n1 e.symm;exact n2 e.symm)];exact h.c9
 ·by_cases c:q=p
  ·subst c
   simp only[if_true] at hq ⊢
   simpa using ha
  ·simp only[if_neg c] at hq ⊢
   have ar:=h.arr q hq
   obtain ⟨s1,s2,s3⟩:=h.sep q hq
   exact ar.kept (hf.block _ ar.lt (by rintro (e|e);exact s2 e;exact s3 e))
 ·by_cases c:q=p
  ·by_cases d:r=p
   ·rw[c,d]
   ·simp only[if_pos c,if_neg d] at hq hqr
    have ar:=(h.arr r (by omega)).lt
    omega
  ·by_cases d:r=p
   ·simp only[if_neg c,if_pos d] at hq hqr
    have ar:=(h.arr q hq).lt
    omega
   ·simp only[if_neg c,if_neg d] at hq hqr
    exact h.one q r hq hqr
 ·by_cases c:q=p
  ·simp only[if_pos c] at hq ⊢
   exact ⟨by omega,by omega,by omega⟩
  ·simp only[if_neg c] at hq ⊢
   exact h.sep q hq
set_option maxRecDepth 100000 in
set_option maxHeartbeats 2000000 in
theorem array_zero (b bp bf n p:Nat) (MP MF:Nat→Nat) (A:Nat→Nat→Nat) (w:World) (h:WordsM w b bp bf n MP MF A) (hp:p<18446744073709551616) (hz:MP p=0) (hz2:MF p=0) (hn:n≤4398046511104):
 Calls Tryz.prog 129 #[.pointer (some ⟨b,8,none⟩), .int .u64 (p:Int)] w fun e w'=>e= .returned (.pointer (some ⟨w.heap.size,0,none⟩))∧WordsM w' b bp bf (n+1) (fun q=>if q=p then w.heap.size+1 else MP q) MF (fun q=>if q=p then (fun _=>0) else A q)∧FrB (fun x=>x=bp∨x=bf) w w':=by
 have c8:=h.c8
 have c9:=h.c9
 have hbl:=cell_lt c8
 obtain ⟨v,hrun,hv⟩:=look_ptr h.mp p hp
 rcases hv with ⟨_,rfl⟩|⟨x,hx,_⟩
 ·have l1:=h.mp.lt
  have l2:=h.mf.lt
  have mf1:MapIs (w.alloc (.cells Tryz.zeroCells277 277)) numElem bf n MF:=h.mf.kept (Below.heap_alloc w _ bf l2)
  have mp1:MapIs (w.alloc (.cells Tryz.zeroCells277 277)) ptrElem bp n MP:=h.mp.kept (Below.heap_alloc w _ bp l1)
  have hnum:(Instr.lookup 90 (.map (some bf)) (.int .u64 (p:Int)) false).run Tryz.prog (w.alloc (.cells Tryz.zeroCells277 277))= .ok (.int .u64 0) (w.alloc (.cells Tryz.zeroCells277 277)):=by
   have:=look_num mf1 p hp
   rw[hz2] at this
   exact this
  obtain ⟨w2,hup,m2,g2⟩:=mp1.put Tryz.underlying89 (by unfold maxLen;omega) p hp (v:= .pointer (some ⟨w.heap.size,0,none⟩)) (x:=w.heap.size+1) (ps:=[]) (by simp[ptrElem,dat])
  have fr:FrB (fun x=>x=bp∨x=bf) w w2:=((FrB.refl _ w).alloc _).trans ((FrB.grown g2).mono (fun x _ e=>Or.inl e))
  have ar2:ArrAt w2 w.heap.size (fun _=>0):=(arr_zero w).kept (g2.block _ (by simp) (by simp;omega))
  have mf2:MapIs w2 numElem bf (n+1) MF:=(mf1.kept (g2.block _ (by simp;omega) (by have:=h.ne.2.2;simp;omega))).mono (by omega)
  have FIN:=hide (And.intro (words_made h hz fr m2 mf2 ar2 (Nat.le_refl _)) fr)
  clear h mf1 mp1 m2 g2 fr ar2 mf2
  go_enter Tryz.func129,Tryz.ntmps129
  go_wp2_with fail
  go_ret
  exact ⟨rfl,FIN.out⟩
 ·omega
set_option maxRecDepth 100000 in
set_option maxHeartbeats 2000000 in
theorem array_fill (b bp bf n p x:Nat) (MP MF:Nat→Nat) (A:Nat→Nat→Nat) (w:World) (h:WordsM w b bp bf n MP MF A) (hp:p<18446744073709551616) (hz:MP p=0) (hx:MF p=x) (hx0:x≠0) (hn:n≤4398046511104):
 Calls Tryz.prog 129 #[.pointer (some ⟨b,8,none⟩), .int .u64 (p:Int)] w fun e w'=>e= .returned (.pointer (some ⟨w.heap.size,0,none⟩))∧WordsM w' b bp bf (n+1) (fun q=>if q=p then w.heap.size+1 else MP q) (fun q=>if q=p then 0 else MF q) (fun q=>if q=p then (fun _=>x) else A q)∧FrB (fun x=>x=bp∨x=bf) w w':=by
 have c8:=h.c8
 have c9:=h.c9
 have hbl:=cell_lt c8
 obtain ⟨v,hrun,hv⟩:=look_ptr h.mp p hp
 rcases hv with ⟨_,rfl⟩|⟨y,hy,_⟩
 ·have l1:=h.mp.lt
  have l2:=h.mf.lt
  have mf1:MapIs (w.alloc (.cells Tryz.zeroCells277 277)) numElem bf n MF:=h.mf.kept (Below.heap_alloc w _ bf l2)
  have hnum:=look_num mf1 p hp
  rw[hx] at hnum
  have bx:((x:Int) != 0)=true:=by rw[bne_iff_ne];omega
  have az:=arr_zero w
  have AZ:=hide az
  have H:=hide h
  clear h mf1 az
  go_enter Tryz.func129,Tryz.ntmps129
  go_wp2_with fail
  go_loopw [27] (fun iv wr=>∃k:Nat,iv= .int .i64 (k:Int)∧k≤1024∧Hid (ArrAt wr w.heap.size (fun j=>if j<k then x else 0))∧FrB (fun _=>False) w wr) (fun iv _=>1024 -(intOf iv).toNat)
  case atStart=>exact ⟨0,rfl,by omega,hide (by have:=AZ.out;simpa using this),(FrB.refl _ w).alloc _⟩
  case round=>
   obtain ⟨k,rfl,hk,hA,hF⟩:=hrel
   have hbr:wr.cell? ⟨b,8,none⟩=some (.map (some bp)):=by rw[hF.cell hbl (fun z=>z)];exact c8
   have hb9:wr.cell? ⟨b,9,none⟩=some (.map (some bf)):=by rw[hF.cell hbl (fun z=>z)];exact c9
   by_cases hlt:k<1024
   ·have hc:=hA.out.cell k hlt
    have hfz:=hA.out.fz k
    have nxt:=hA.out.put k x hlt
    have NX:Hid (ArrAt (wr.setCell ⟨w.heap.size,k,none⟩ (.int .u64 (x:Int))) w.heap.size (fun j=>if j<k+1 then x else 0)):=by
     have e:(fun j=>if j<k+1 then x else 0)=(fun j=>if j=k then x else if j<k then x else 0):=by
      funext j
      by_cases c:j=k
      ·rw[if_pos c,if_pos (by omega)]
      ·rw[if_neg c]
       by_cases d:j<k
       ·rw[if_pos d,if_pos (by omega)]
       ·rw[if_neg d,if_neg (by omega)]
     rw[e];exact nxt
    have k1:(k:Int)<1024:=by omega
    clear nxt
    go_wp2_with fail
    go_roundw
    case rel=>exact ⟨k+1,by go_num,by omega,NX,hF.set (Or.inr (Nat.le_refl _)) _⟩
    case measure=>simp[intOf];omega
   ·obtain rfl:k=1024:=by omega
    have hh:=H.out
    have mf1:MapIs wr numElem bf n MF:=hh.mf.kept (hF.block bf l2 (fun z=>z))
    have mp1:MapIs wr ptrElem bp n MP:=hh.mp.kept (hF.block bp l1 (fun z=>z))
    obtain ⟨w2,hdel,m2,g2⟩:=mf1.del (ty:=0) Tryz.underlying90 p hp
    have l3:=hF.size
    have hla:=hA.out.lt
    have mp2:MapIs w2 ptrElem bp n MP:=mp1.kept (g2.block bp (by omega) (by have:=hh.ne.2.2;simp;omega))
    obtain ⟨w3,hup,m3,g3⟩:=mp2.put Tryz.underlying89 (by unfold maxLen;omega) p hp (v:= .pointer (some ⟨w.heap.size,0,none⟩)) (x:=w.heap.size+1) (ps:=[]) (by simp[ptrElem,dat])
    have l4:=g2.size
    have fr:FrB (fun x=>x=bp∨x=bf) w w3:=((hF.mono (fun x _ e=>e.elim)).trans ((FrB.grown g2).mono (fun x _ e=>Or.inr e))).trans ((FrB.grown g3).mono (fun x _ e=>Or.inl e))
    have ar3:ArrAt w3 w.heap.size (fun _=>x):=by
     have a2:=(hA.out.kept (g2.block _ hla (by simp;omega))).kept (g3.block _ (by omega) (by simp;omega))
     obtain ⟨arr,q1,q2,q3⟩:=a2
     exact ⟨arr,q1,q2,fun j hj=>by have:=q3 j hj;simp only[if_pos hj] at this;exact this⟩
    have mf3:MapIs w3 numElem bf (n+1) (fun q=>if q=p then 0 else MF q):=(m2.kept (g3.block _ (by omega) (by have:=hh.ne.2.2;simp;omega))).mono (by omega)
    have FIN:=hide (And.intro (words_made hh hz fr m3 mf3 ar3 (Nat.le_refl _)) fr)
    have hb2:w2.cell? ⟨b,8,none⟩=some (.map (some bp)):=by rw[World.cell?_of_block (g2.block b (by omega) (by have:=hh.ne.2.1;simp;omega))];exact hbr
    clear mf1 mp1 m2 g2 mp2 m3 g3 fr ar3 mf3 hh hA
    go_wp2_with fail
    go_ret
    exact ⟨rfl,FIN.out⟩
 ·omega
end Go.Proofs.YtdgdhnnakcncoaaGreatDoor.V
