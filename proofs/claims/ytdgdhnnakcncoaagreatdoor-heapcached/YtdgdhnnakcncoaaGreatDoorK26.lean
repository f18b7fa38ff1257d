/- Of the proof of HeapCached: texts RQi. -/
import Derived.Test.YtdgdhnnakcncoaaGreatDoorK25
namespace Go.Proofs.YtdgdhnnakcncoaaGreatDoor
set_option maxHeartbeats 1600000
open Go.ChangeShapes Go.WideShapes Go.ChangeAt Go.RowKit Go.Proofs.Bt Go.Shelf Go.Proofs.Rx Go.Maps Go.Proofs.Pk
set_option linter.unusedVariables false
set_option linter.unusedSimpArgs false
attribute [local go_sem] Oper.semAt_some
structure GiL (N:Nat) (O:Nat→Prop) (w W:World) (M:Nat) (gv:Value) (tb:Nat) (st:Nat→Nat) (B x s S k:Nat) (A:World):Prop where
 t:T9 N (FiO O M S A.heap.size) w A tb (wS st B x (lft x k) s)
 bg:Bk A M 56 #[gv]
 bb:Bk A (M+1) 39 #[.int .u64 (B:Nat)]
 rd:RdW S x A
 kw:Left9 N O W A
section
variable {N:Nat} {O:Nat→Prop} {w W:World} {tb:Nat} {st:Nat→Nat} {M:Nat} {gv:Value} {B x s S k:Nat}
theorem GiL.kept {A A':World} (h:GiL N O w W M gv tb st B x s S k A) (hN:N≤M) (hS:M+2≤S) (hO:∀x,O x→x<M) (kk:Kept (fun b=>b=S+1∨b=S+1+1) A A'):GiL N O w W M gv tb st B x s S k A':=
 ⟨T9.two h.t (by omega) kk,h.bg.kept kk (by omega),h.bb.kept kk (by omega),⟨kept_at kk h.rd.c (by omega),(T9.two h.t (by omega) kk).tab⟩,Kept.trans h.kw kk (fun x _ z=>⟨by omega,fun y=>by have:=hO x y;omega⟩)⟩
theorem GiL.next {a n:Nat} {A X8:World} (h:GiL N O w W M gv tb st B x s S k A) (hs:S+1+1<A.heap.size) (ha:at1 (lft x k)=a) (hn:len1 (lft x k)=n) (hr:Row (lft x k) a n) (t8:T9 N (FiO O M S A.heap.size) w X8 tb (setSt (wS st B x (lft x k) s) (B+a) (B+a+n) s)) (l8:Left9 N (FiO O M S A.heap.size) A X8):
 GiL N O w W M gv tb st B x s S (k+1) X8∧Two (S+1) A X8:=by
 have e:wS st B x (lft x (k+1)) s=setSt (wS st B x (lft x k) s) (B+a) (B+a+n) s:=wS_next (fun j hj=>lft_sub k j hj) hr _ (fun j=>by rw[←ha,←hn];exact nx1_bit (lft x k) j)
 have sz:=Kept.size l8
 refine ⟨⟨?_,h.bg.kept l8 (fun z=>z.2 (.inl (.inl (.inr (.inl rfl))))),h.bb.kept l8 (fun z=>z.2 (.inl (.inl (.inr (.inr rfl))))),⟨kept_at l8 h.rd.c (fun z=>z.2 (.inl (.inr rfl))),t8.tab⟩,Kept.trans h.kw l8 (fun x _ z=>⟨z.1,fun y=>z.2 (.inl (.inl (.inl y)))⟩)⟩,?_⟩
 ·rw[e]
  refine t8.more (Below.refl _ _) (fun x hx=> .inl ?_)
  rcases hx with z|⟨z,_⟩
  ·exact .inl z
  ·exact .inr ⟨z,by omega⟩
 ·exact Two.kept l8 (fun z=>z.2 (.inr ⟨.inl rfl,by omega⟩)) (fun z=>z.2 (.inr ⟨.inr rfl,by omega⟩))
theorem GiL.start {X4 X5 X6:World} (h:T9 N O w W tb st) (hM:W.heap.size=M) (hX4:X4=(W.alloc (.cells #[gv] 56)).alloc (.cells #[.int .u64 (B:Nat)] 39)) (hS:X4.heap.size=S) (hX5:X5=X4.alloc (.cells #[.int .u64 (x:Nat)] 39)):GiL N O w W M gv tb st B x s S 0 X5:=by
 have b4:Below W.heap.size W X4:=by rw[hX4];exact ((Below.refl _ W).alloc (Nat.le_refl _) _).alloc (by simp) _
 have s4:X4.heap.size=M+2:=by rw[hX4,←hM];simp
 have b5:Below W.heap.size W X5:=b4.trans (by rw[hX5];exact (grown1 X4 _).mono (by omega))
 have s5:X5.heap.size=S+1:=by rw[hX5,←hS];simp
 refine ⟨?_,?_,?_,⟨?_,(h.read b5).1.tab⟩,Kept.of_below b5⟩
 ·have e:wS st B x (lft x 0) s=st:=wS_none st B x s
  rw[e]
  refine h.more b5 (fun y hy=> ?_)
  rcases hy with ((z|z|z)|z)|⟨z,y⟩
  ·exact .inl z
  ·exact .inr ⟨by omega,by omega⟩
  ·exact .inr ⟨by omega,by omega⟩
  ·exact .inr ⟨by omega,by omega⟩
  ·omega
 ·unfold Bk
  rw[hX5,alloc_at,if_neg (by omega),hX4,alloc_at,if_neg (by simp;omega),alloc_at,if_pos hM.symm]
 ·unfold Bk
  rw[hX5,alloc_at,if_neg (by omega),hX4,alloc_at,if_pos (by simp;omega)]
 ·rw[hX5,←hS];exact World.alloc_heap_new X4 _
end
set_option maxRecDepth 100000 in
theorem giveRow_Give {N:Nat} {O:Nat→Prop} {w W:World} {tb:Nat} {st:Nat→Nat} (h:T9 N O w W tb st) (p n:Nat) (hi:InT st p n) (hf:(tl st p n).f=0):
 Calls Tryz.prog 190 #[.func (.func 88) #[.pointer (some ⟨tb,0,none⟩)] #[], .int .u64 (p:Nat), .int .u64 (n:Nat)] W fun e W'=>e= .returned (.tuple #[])∧T9 N O w W' tb (setSt st p (p+n) 2)∧Left9 N O W W':=by
 obtain ⟨R,hR⟩:∃R:Ending→World→Prop,R=fun e W'=>e= .returned (.tuple #[])∧T9 N O w W' tb (setSt st p (p+n) 2)∧Left9 N O W W':=⟨_,rfl⟩
 rw[←hR]
 have HR:=hide hR
 have CG:=hide (t9_give h p n hi hf)
 obtain ⟨P,hP⟩:∃P:Int,(p:Int)=P:=⟨_,rfl⟩
 obtain ⟨NI,hNI⟩:∃NI:Int,(n:Int)=NI:=⟨_,rfl⟩
 rw[hP,hNI] at CG
 rw[hP,hNI]
 clear hR h hi hf hP hNI
 go_enter Tryz.func190,Tryz.ntmps190
 go_wp2_with fail
 refine CG.out.mono ?_
 rintro e W1 ⟨rfl,t1,l1⟩
 have F0:=hide (show R (.returned (.tuple #[])) W1 from by rw[HR.out];exact ⟨rfl,t1,l1⟩)
 clear t1 l1 CG HR
 go_wp2_with fail
 exact bodyPost_ret (v:= .tuple #[]) (by simp[results,Tryz.results190,go_sem]) rfl F0.out
set_option maxRecDepth 100000 in
set_option maxHeartbeats 2000000 in
theorem giveAll_Give {N:Nat} {O:Nat→Prop} {w W:World} {tb:Nat} {st:Nat→Nat} (h:T9 N O w W tb st) (hOl:∀x,O x→N≤x∧x<W.heap.size) (B x:Nat) (hB:B+64≤34359738368) (hx:x<18446744073709551616) (own:∀j,x.testBit j=true→st (B+j)=1):
 Calls Tryz.prog 135 #[.func (.func 88) #[.pointer (some ⟨tb,0,none⟩)] #[], .int .u64 (B:Nat), .int .u64 (x:Nat)] W fun e W'=>e= .returned (.tuple #[])∧T9 N O w W' tb (wS st B x 0 2)∧Left9 N O W W':=by
 obtain ⟨R,hR⟩:∃R:Ending→World→Prop,R=fun e W'=>e= .returned (.tuple #[])∧T9 N O w W' tb (wS st B x 0 2)∧Left9 N O W W':=⟨_,rfl⟩
 rw[←hR]
 have HR:=hide hR
 obtain ⟨M,hM⟩:∃M,W.heap.size=M:=⟨_,rfl⟩
 obtain ⟨gv,hgv⟩:∃gv:Value,gv= .func (.func 88) #[.pointer (some ⟨tb,0,none⟩)] #[]:=⟨_,rfl⟩
 obtain ⟨X4,hX4⟩:∃X4,X4=(W.alloc (.cells #[gv] 56)).alloc (.cells #[.int .u64 (B:Nat)] 39):=⟨_,rfl⟩
 obtain ⟨S,hS⟩:∃S,X4.heap.size=S:=⟨_,rfl⟩
 have mS:M+2≤S:=by rw[←hS,hX4,←hM];simp
 obtain ⟨X5,hX5⟩:∃X5,X5=X4.alloc (.cells #[.int .u64 (x:Nat)] 39):=⟨_,rfl⟩
 have I0:=hide (GiL.start (gv:=gv) (B:=B) (x:=x) (s:=2) (X6:=W) h hM hX4 hS hX5)
 have s5:X5.heap.size=S+1:=by rw[hX5,←hS];simp
 have HOL:=hide (show ∀x,O x→x<M from fun x hx=>by rw[←hM];exact (hOl x hx).2)
 have NM:=hide (show N≤M from by rw[←hM];exact h.tr.lt.2.2)
 obtain ⟨Nr,-,hend,hne⟩:=rows_many hx
 have SEQ:=hide (word_seq S x Nr hx hend hne 2)
 have HEND:=hide hend
 have HNE:=hide hne
 have OWN:=hide own
 have CW:=hide (wrows_any x X4)
 rw[←hX5,hS] at CW
 have HM:=hide hM
 rw[hgv] at hX4
 have HX4:=hide hX4
 have HGV:=hide hgv
 clear hR h hOl own hend hne hM hX4 hX5 hgv hS
 refine (callsIn_wide (n:=3)).1 ?_
 refine callsIn_of_wp_marks Tryz.func135 rfl trivial ?_ rfl
 simp only[Tryz.ntmps135,List.size_toArray,List.length_cons,List.length_nil,Nat.reduceAdd,Nat.reduceSub,Array.replicate_succ,Array.replicate_zero,List.push_toArray,List.append_toArray,List.nil_append,List.cons_append]
 gi_wp2_with fail
 rw[←HX4.out,HM.out]
 refine wcall2 CW.out ?_
 rintro e w5 ⟨rfl,hw5⟩
 rw[hw5]
 clear hw5 w5 CW HX4
 gi_wp2_with fail
 refine range_two (w:=X5) rfl (enters_of Tryz.func248 (by kernel_rfl) rfl) SEQ.out (fun _=>rfl) (fun pre A=>GiL N O w W M gv tb st B x 2 S pre.length A) (fun s A h=>h.rd) ?hI I0.out ?round ?done
 case hI=>
  intro s A A' h k
  rw[s5] at k
  exact h.kept NM.out mS HOL.out k
 case round=>
  rintro pre y A ⟨r0,hr0⟩ hdf h hp
  obtain ⟨-,e2,e3⟩:=pre_range hp
  subst e2
  rw[s5] at hr0 hdf ⊢
  have HI:=hide h
  have HR0:=hide hr0
  clear h hr0 hdf
  obtain ⟨k,hk⟩:∃k,pre.length=k:=⟨_,rfl⟩
  rw[hk] at HI e3
  have FIN:=hide (show ∀(W1 X8:World) (a:Act),GiL N O w W M gv tb st B x 2 S (k+1) X8∧Two (S+1) W1 X8→endT (S+1) (fun pre A=>GiL N O w W M gv tb st B x 2 S pre.length A) (pre++ [k]) W1 .normal a X8 from fun W1 X8 a q=>⟨q.2,by
   have e:(pre++ [k]).length=k+1:=by rw[List.length_append,hk];rfl
   show GiL N O w W M gv tb st B x 2 S (pre++ [k]).length X8
   rw[e];exact q.1⟩)
  rw[hk]
  have x0:=HNE.out k e3
  have xl:=lft_lt hx k
  obtain ⟨a1,a2,a3,a4,-⟩:=row1 x0 xl
  obtain ⟨a,ha⟩:∃a,at1 (lft x k)=a:=⟨_,rfl⟩
  obtain ⟨m,hm⟩:∃m,len1 (lft x k)=m:=⟨_,rfl⟩
  rw[ha,hm] at a3 a4
  rw[ha] at a1
  rw[hm] at a2
  simp only[encsW,ha,hm]
  have US:=hide (show ∀q,B+a≤q→q<B+a+m→wS st B x (lft x k) 2 q=1 from fun q q1 q2=>by
   rw[wS_row a4 q1 q2]
   have b:=OWN.out _ (lft_sub k _ (a4 (q - B - a) (by omega)))
   rwa[show B+(a+(q - B - a))=q by omega] at b)
  have A4:=hide (And.intro ha (And.intro hm a4))
  clear hp x0 xl ha hm a4
  gi_wp2_with fail
  refine ⟨Two.refl _ _,fun r=> ?_⟩
  obtain ⟨X6,hX6⟩:∃X6,A.putObj (S+1+1) (.loop r)=X6:=⟨_,rfl⟩
  have I6:=hide (show GiL N O w W M gv tb st B x 2 S k X6 from by rw[←hX6];exact HI.out.kept NM.out mS HOL.out (Kept.put _ _ _ (.inr rfl)))
  have s6:S+1+1<X6.heap.size:=by
   have h1:=(Array.getElem?_eq_some_iff.1 HR0.out).1
   have h2:=(Kept.put (F:=fun _=>True) A (S+1+1) (.loop r) trivial).size
   rw[hX6] at h2
   omega
  rw[hX6]
  have c0:=I6.out.bg.cell 0 _ rfl
  rw[HGV.out] at c0
  have c1:=I6.out.bb.cell 0 _ rfl
  have l1:=I6.out.bg.lt
  have l2:=I6.out.bb.lt
  have hx:= @ext_cell X6
  have hne:=ext_ne X6
  have CT:=hide (show ∀Y,Below X6.heap.size X6 Y→Calls Tryz.prog 190 #[.func (.func 88) #[.pointer (some ⟨tb,0,none⟩)] #[], .int .u64 ((B+a:Nat):Int), .int .u64 (m:Nat)] Y fun e X8=>e= .returned (.tuple #[])∧GiL N O w W M gv tb st B x 2 S (k+1) X8∧Two (S+1) X6 X8 from fun Y hY=>by
   have tY:T9 N (FiO O M S X6.heap.size) w Y tb (wS st B x (lft x k) 2):=(T9.read I6.out.t hY).1
   refine (giveRow_Give tY (B+a) m (inT_run a2 (by omega) (fun q q1 q2=>by rw[US.out q q1 q2];decide)) (tl_run_used (fun q q1 q2=>by rw[US.out q q1 q2];decide))).mono ?_
   rintro e X8 ⟨rfl,t8,l8⟩
   exact ⟨rfl,I6.out.next s6 A4.out.1 A4.out.2.1 A4.out.2.2 t8 (Kept.trans (Kept.of_below hY) l8 (fun _ _ z=>z))⟩)
  rw[show ((B+a:Nat):Int)=(B:Int)+(a:Int) from rfl] at CT
  have e1:IntKind.u64.wrap ((B:Int)+(a:Int))=(B:Int)+(a:Int):=by rw[IntKind.wrap_u64];omega
  clear hX6 HI HR0
  gi_wp2_with fail
  have C2:=hide (CT.out X6 (Below.refl _ _))
  clear c0 c1 l1 l2 hx hne CT US A4 I6
  refine wcall_r C2.out ?_
  rintro e X8 ⟨rfl,hq⟩
  have F8:=hide (fun a=>FIN.out X6 X8 a hq)
  clear hq C2 FIN
  gi_wp2_with fail
  exact F8.out _
 case done=>
  rintro A h hdf
  rw[s5] at hdf ⊢
  rw[List.length_range] at h
  have HI:=hide h
  have HD:=hide hdf
  clear h hdf
  gi_wp2_with fail
  refine ⟨by simp, .inl ⟨_,_,rfl,run_takeDeferred HD.out,?_⟩⟩
  have q:=HI.out.kept NM.out mS HOL.out (Kept.put A (S+1) (.deferred none) (.inl rfl))
  refine ⟨.tuple #[],by simp[results,Tryz.results135,go_sem],?_⟩
  rw[HR.out]
  refine ⟨rfl,?_,q.kw⟩
  have t:=q.t
  rw[HEND.out] at t
  exact t.more (Below.refl _ _) (fun x hx=> .inl (.inl (.inl (.inl hx))))
set_option maxRecDepth 100000 in
theorem giveRow_Back {N:Nat} {O:Nat→Prop} {w W:World} {tb:Nat} {st:Nat→Nat} (h:T9 N O w W tb st) (p n:Nat) (hi:InT st p n) (hf:(tl st p n).f=0):
 Calls Tryz.prog 190 #[.func (.func 136) #[.pointer (some ⟨tb,0,none⟩)] #[], .int .u64 (p:Nat), .int .u64 (n:Nat)] W fun e W'=>e= .returned (.tuple #[])∧T9 N O w W' tb (setSt st p (p+n) 3)∧Left9 N O W W':=by
 obtain ⟨R,hR⟩:∃R:Ending→World→Prop,R=fun e W'=>e= .returned (.tuple #[])∧T9 N O w W' tb (setSt st p (p+n) 3)∧Left9 N O W W':=⟨_,rfl⟩
 rw[←hR]
 have HR:=hide hR
 have CG:=hide (t9_back h p n hi hf)
 obtain ⟨P,hP⟩:∃P:Int,(p:Int)=P:=⟨_,rfl⟩
 obtain ⟨NI,hNI⟩:∃NI:Int,(n:Int)=NI:=⟨_,rfl⟩
 rw[hP,hNI] at CG
 rw[hP,hNI]
 clear hR h hi hf hP hNI
 go_enter Tryz.func190,Tryz.ntmps190
 go_wp2_with fail
 refine CG.out.mono ?_
 rintro e W1 ⟨rfl,t1,l1⟩
 have F0:=hide (show R (.returned (.tuple #[])) W1 from by rw[HR.out];exact ⟨rfl,t1,l1⟩)
 clear t1 l1 CG HR
 go_wp2_with fail
 exact bodyPost_ret (v:= .tuple #[]) (by simp[results,Tryz.results190,go_sem]) rfl F0.out
set_option maxRecDepth 100000 in
set_option maxHeartbeats 2000000 in
theorem giveAll_Back {N:Nat} {O:Nat→Prop} {w W:World} {tb:Nat} {st:Nat→Nat} (h:T9 N O w W tb st) (hOl:∀x,O x→N≤x∧x<W.heap.size) (B x:Nat) (hB:B+64≤34359738368) (hx:x<18446744073709551616) (own:∀j,x.testBit j=true→st (B+j)=1):
 Calls Tryz.prog 135 #[.func (.func 136) #[.pointer (some ⟨tb,0,none⟩)] #[], .int .u64 (B:Nat), .int .u64 (x:Nat)] W fun e W'=>e= .returned (.tuple #[])∧T9 N O w W' tb (wS st B x 0 3)∧Left9 N O W W':=by
 obtain ⟨R,hR⟩:∃R:Ending→World→Prop,R=fun e W'=>e= .returned (.tuple #[])∧T9 N O w W' tb (wS st B x 0 3)∧Left9 N O W W':=⟨_,rfl⟩
 rw[←hR]
 have HR:=hide hR
 obtain ⟨M,hM⟩:∃M,W.heap.size=M:=⟨_,rfl⟩
 obtain ⟨gv,hgv⟩:∃gv:Value,gv= .func (.func 136) #[.pointer (some ⟨tb,0,none⟩)] #[]:=⟨_,rfl⟩
 obtain ⟨X4,hX4⟩:∃X4,X4=(W.alloc (.cells #[gv] 56)).alloc (.cells #[.int .u64 (B:Nat)] 39):=⟨_,rfl⟩
 obtain ⟨S,hS⟩:∃S,X4.heap.size=S:=⟨_,rfl⟩
 have mS:M+2≤S:=by rw[←hS,hX4,←hM];simp
 obtain ⟨X5,hX5⟩:∃X5,X5=X4.alloc (.cells #[.int .u64 (x:Nat)] 39):=⟨_,rfl⟩
 have I0:=hide (GiL.start (gv:=gv) (B:=B) (x:=x) (s:=3) (X6:=W) h hM hX4 hS hX5)
 have s5:X5.heap.size=S+1:=by rw[hX5,←hS];simp
 have HOL:=hide (show ∀x,O x→x<M from fun x hx=>by rw[←hM];exact (hOl x hx).2)
 have NM:=hide (show N≤M from by rw[←hM];exact h.tr.lt.2.2)
 obtain ⟨Nr,-,hend,hne⟩:=rows_many hx
 have SEQ:=hide (word_seq S x Nr hx hend hne 2)
 have HEND:=hide hend
 have HNE:=hide hne
 have OWN:=hide own
 have CW:=hide (wrows_any x X4)
 rw[←hX5,hS] at CW
 have HM:=hide hM
 rw[hgv] at hX4
 have HX4:=hide hX4
 have HGV:=hide hgv
 clear hR h hOl own hend hne hM hX4 hX5 hgv hS
 refine (callsIn_wide (n:=3)).1 ?_
 refine callsIn_of_wp_marks Tryz.func135 rfl trivial ?_ rfl
 simp only[Tryz.ntmps135,List.size_toArray,List.length_cons,List.length_nil,Nat.reduceAdd,Nat.reduceSub,Array.replicate_succ,Array.replicate_zero,List.push_toArray,List.append_toArray,List.nil_append,List.cons_append]
 gi_wp2_with fail
 rw[←HX4.out,HM.out]
 refine wcall2 CW.out ?_
 rintro e w5 ⟨rfl,hw5⟩
 rw[hw5]
 clear hw5 w5 CW HX4
 gi_wp2_with fail
 refine range_two (w:=X5) rfl (enters_of Tryz.func248 (by kernel_rfl) rfl) SEQ.out (fun _=>rfl) (fun pre A=>GiL N O w W M gv tb st B x 3 S pre.length A) (fun s A h=>h.rd) ?hI I0.out ?round ?done
 case hI=>
  intro s A A' h k
  rw[s5] at k
  exact h.kept NM.out mS HOL.out k
 case round=>
  rintro pre y A ⟨r0,hr0⟩ hdf h hp
  obtain ⟨-,e2,e3⟩:=pre_range hp
  subst e2
  rw[s5] at hr0 hdf ⊢
  have HI:=hide h
  have HR0:=hide hr0
  clear h hr0 hdf
  obtain ⟨k,hk⟩:∃k,pre.length=k:=⟨_,rfl⟩
  rw[hk] at HI e3
  have FIN:=hide (show ∀(W1 X8:World) (a:Act),GiL N O w W M gv tb st B x 3 S (k+1) X8∧Two (S+1) W1 X8→endT (S+1) (fun pre A=>GiL N O w W M gv tb st B x 3 S pre.length A) (pre++ [k]) W1 .normal a X8 from fun W1 X8 a q=>⟨q.2,by
   have e:(pre++ [k]).length=k+1:=by rw[List.length_append,hk];rfl
   show GiL N O w W M gv tb st B x 3 S (pre++ [k]).length X8
   rw[e];exact q.1⟩)
  rw[hk]
  have x0:=HNE.out k e3
  have xl:=lft_lt hx k
  obtain ⟨a1,a2,a3,a4,-⟩:=row1 x0 xl
  obtain ⟨a,ha⟩:∃a,at1 (lft x k)=a:=⟨_,rfl⟩
  obtain ⟨m,hm⟩:∃m,len1 (lft x k)=m:=⟨_,rfl⟩
  rw[ha,hm] at a3 a4
  rw[ha] at a1
  rw[hm] at a2
  simp only[encsW,ha,hm]
  have US:=hide (show ∀q,B+a≤q→q<B+a+m→wS st B x (lft x k) 3 q=1 from fun q q1 q2=>by
   rw[wS_row a4 q1 q2]
   have b:=OWN.out _ (lft_sub k _ (a4 (q - B - a) (by omega)))
   rwa[show B+(a+(q - B - a))=q by omega] at b)
  have A4:=hide (And.intro ha (And.intro hm a4))
  clear hp x0 xl ha hm a4
  gi_wp2_with fail
  refine ⟨Two.refl _ _,fun r=> ?_⟩
  obtain ⟨X6,hX6⟩:∃X6,A.putObj (S+1+1) (.loop r)=X6:=⟨_,rfl⟩
  have I6:=hide (show GiL N O w W M gv tb st B x 3 S k X6 from by rw[←hX6];exact HI.out.kept NM.out mS HOL.out (Kept.put _ _ _ (.inr rfl)))
  have s6:S+1+1<X6.heap.size:=by
   have h1:=(Array.getElem?_eq_some_iff.1 HR0.out).1
   have h2:=(Kept.put (F:=fun _=>True) A (S+1+1) (.loop r) trivial).size
   rw[hX6] at h2
   omega
  rw[hX6]
  have c0:=I6.out.bg.cell 0 _ rfl
  rw[HGV.out] at c0
  have c1:=I6.out.bb.cell 0 _ rfl
  have l1:=I6.out.bg.lt
  have l2:=I6.out.bb.lt
  have hx:= @ext_cell X6
  have hne:=ext_ne X6
  have CT:=hide (show ∀Y,Below X6.heap.size X6 Y→Calls Tryz.prog 190 #[.func (.func 136) #[.pointer (some ⟨tb,0,none⟩)] #[], .int .u64 ((B+a:Nat):Int), .int .u64 (m:Nat)] Y fun e X8=>e= .returned (.tuple #[])∧GiL N O w W M gv tb st B x 3 S (k+1) X8∧Two (S+1) X6 X8 from fun Y hY=>by
   have tY:T9 N (FiO O M S X6.heap.size) w Y tb (wS st B x (lft x k) 3):=(T9.read I6.out.t hY).1
   refine (giveRow_Back tY (B+a) m (inT_run a2 (by omega) (fun q q1 q2=>by rw[US.out q q1 q2];decide)) (tl_run_used (fun q q1 q2=>by rw[US.out q q1 q2];decide))).mono ?_
   rintro e X8 ⟨rfl,t8,l8⟩
   exact ⟨rfl,I6.out.next s6 A4.out.1 A4.out.2.1 A4.out.2.2 t8 (Kept.trans (Kept.of_below hY) l8 (fun _ _ z=>z))⟩)
  rw[show ((B+a:Nat):Int)=(B:Int)+(a:Int) from rfl] at CT
  have e1:IntKind.u64.wrap ((B:Int)+(a:Int))=(B:Int)+(a:Int):=by rw[IntKind.wrap_u64];omega
  clear hX6 HI HR0
  gi_wp2_with fail
  have C2:=hide (CT.out X6 (Below.refl _ _))
  clear c0 c1 l1 l2 hx hne CT US A4 I6
  refine wcall_r C2.out ?_
  rintro e X8 ⟨rfl,hq⟩
  have F8:=hide (fun a=>FIN.out X6 X8 a hq)
  clear hq C2 FIN
  gi_wp2_with fail
  exact F8.out _
 case done=>
  rintro A h hdf
  rw[s5] at hdf ⊢
  rw[List.length_range] at h
  have HI:=hide h
  have HD:=hide hdf
  clear h hdf
  gi_wp2_with fail
  refine ⟨by simp, .inl ⟨_,_,rfl,run_takeDeferred HD.out,?_⟩⟩
  have q:=HI.out.kept NM.out mS HOL.out (Kept.put A (S+1) (.deferred none) (.inl rfl))
  refine ⟨.tuple #[],by simp[results,Tryz.results135,go_sem],?_⟩
  rw[HR.out]
  refine ⟨rfl,?_,q.kw⟩
  have t:=q.t
  rw[HEND.out] at t
  exact t.more (Below.refl _ _) (fun x hx=> .inl (.inl (.inl (.inl hx))))
end Go.Proofs.YtdgdhnnakcncoaaGreatDoor
namespace Go.Proofs.YtdgdhnnakcncoaaGreatDoor
open Go.ChangeShapes Go.WideShapes Go.ChangeAt Go.RowKit Go.Proofs.Bt Go.Shelf Go.Proofs.Rx Go.Maps Go.Proofs.Pk
set_option linter.unusedVariables false
set_option linter.unusedSimpArgs false
theorem flush_end (st:Nat→Nat) (B H G:Nat) (hH:H<18446744073709551616) (hG:∀j,G.testBit j=true→H.testBit j=true):wS (wS st B (andn H G) 0 2) B G 0 3=flushS st B H.testBit G.testBit 64:=by
 funext q
 unfold wS flushS
 rw[andn_bit,Nat.zero_testBit]
 by_cases z:B≤q∧q<B+64∧H.testBit (q - B)=true
 ·rw[if_pos z]
  cases g:G.testBit (q - B) with
  |true=>rw[if_pos ⟨z.1,rfl,rfl⟩,if_pos rfl]
  |false=>rw[if_neg (fun y=>by cases y.2.1),if_pos ⟨z.1,by rw[z.2.2];rfl,rfl⟩,if_neg (by decide)]
 ·rw[if_neg z]
  by_cases b:B≤q
  ·have hh:H.testBit (q - B)=false:=by
    cases h:H.testBit (q - B) with
    |false=>rfl
    |true=>
     by_cases y:q<B+64
     ·exact absurd ⟨b,y,h⟩ z
     ·rw[bit_high hH (by omega)] at h;cases h
   have gg:G.testBit (q - B)=false:=by
    cases g:G.testBit (q - B) with
    |false=>rfl
    |true=>rw[hG _ g] at hh;cases hh
   rw[gg,hh,if_neg (fun y=>by cases y.2.1),if_neg (fun y=>by cases y.2.1)]
  ·rw[if_neg (fun y=>b y.1),if_neg (fun y=>b y.1)]
section
variable {N:Nat} {O:Nat→Prop} {w W:World} {cb tb:Nat} {st:Nat→Nat} {B H G:Nat}
set_option maxRecDepth 100000 in
set_option maxHeartbeats 1000000 in
theorem ccFlush (h:T9 N O w W tb st) (hc:CcAt W cb B H G) (hO:O cb) (hOl:∀x,O x→N≤x∧x<W.heap.size) (hB:B+64≤34359738368) (hG:∀j,G.testBit j=true→H.testBit j=true) (own:∀j,H.testBit j=true→st (B+j)=1):
 Calls Tryz.prog 82 #[.pointer (some ⟨cb,0,none⟩), .pointer (some ⟨tb,0,none⟩)] W fun e W'=>e= .returned (.tuple #[])∧T9 N O w W' tb (flushS st B H.testBit G.testBit 64)∧CcAt W' cb 0 0 0∧LeftC N O cb W W':=by
 obtain ⟨R,hR⟩:∃R:Ending→World→Prop,R=fun e W'=>e= .returned (.tuple #[])∧T9 N O w W' tb (flushS st B H.testBit G.testBit 64)∧CcAt W' cb 0 0 0∧LeftC N O cb W W':=⟨_,rfl⟩
 rw[←hR]
 have HR:=hide hR
 have HC:=hide hc
 have lH:=hc.h
 have lG:=hc.g
 have c0:=hc.c0
 have c1:=hc.c1
 have c2:=hc.c2
 have FE:=hide (flush_end st B H G lH hG)
 have e1:bits .andNot .u64 (H:Int) (G:Int)=((andn H G:Nat):Int):=w_andNot _ _ lH lG
 have HOL:=hide hOl
 have CA:=hide (fun Z (hZ:Below W.heap.size W Z)=>giveAll_Give (h.read hZ).1 (fun x hx=>⟨(hOl x hx).1,Nat.lt_of_lt_of_le (hOl x hx).2 hZ.size⟩) B (andn H G) hB (andn_lt _ lH) (fun j hj=>own j (by rw[andn_bit,Bool.and_eq_true] at hj;exact hj.1)))
 have CB:=hide (fun Z (hZ:T9 N O w Z tb (wS st B (andn H G) 0 2)) (hl:∀x,O x→N≤x∧x<Z.heap.size)=>giveAll_Back hZ hl B G hB lG (fun j hj=>by
  unfold wS
  rw[if_neg (fun z=>by rw[show B+j - B=j by omega,andn_bit,hj] at z;simp at z)]
  exact own j (hG j hj)))
 obtain ⟨HG,hHG⟩:∃HG:Nat,andn H G=HG:=⟨_,rfl⟩
 rw[hHG] at e1 CA CB FE
 have hmf:∀(fn:Fn) (first cap:Array Value) (w:World),(Instr.makeFunc fn first cap).run Tryz.prog w= .ok (.func fn first cap) w:=fun _ _ _ _=>rfl
 clear hR h hc hOl hG own hHG
 go_enter Tryz.func82,Tryz.ntmps82
 go_wp2_with fail
 refine still_tail 15 (by kernel_rfl) (by kernel_rfl) ?_
 simp only[List.take_succ_cons,List.take_zero,List.drop_succ_cons,List.drop_zero]
 repeat still_step
 refine wpStill_nil ?_
 have C1:=hide (CA.out W.drew (drew_below W))
 clear CA
 go_wp2_with fail
 refine C1.out.mono ?_
 rintro e W1 ⟨rfl,t1,l1⟩
 have k1:=Kept.trans (Kept.of_below (F:=fun x=>N≤x∧¬O x) (drew_below W)) l1 (fun _ _ z=>z)
 have HC1:=hide (HC.out.kept k1 (fun z=>z.2 hO))
 have C2:=hide (CB.out W1.drew (t1.read (drew_below W1)).1 (fun x hx=>⟨(HOL.out x hx).1,Nat.lt_of_lt_of_le (HOL.out x hx).2 k1.size⟩))
 have C3:=hide (CB.out W1 t1 (fun x hx=>⟨(HOL.out x hx).1,Nat.lt_of_lt_of_le (HOL.out x hx).2 k1.size⟩))
 have K1:=hide k1
 clear t1 l1 k1 C1 CB c0 c1 c2
 have c0:=HC1.out.c0
 have c2:=HC1.out.c2
 go_wp2_with fail
 refine still_tail 10 (by kernel_rfl) (by kernel_rfl) ?_
 simp only[List.take_succ_cons,List.take_zero,List.drop_succ_cons,List.drop_zero]
 repeat still_step
 refine wpStill_nil ?_
 clear C3
 go_wp2_with fail
 refine C2.out.mono ?_
 rintro e W2 ⟨rfl,t2,l2⟩
 have k2:=Kept.trans (Kept.of_below (F:=fun x=>N≤x∧¬O x) (drew_below W1)) l2 (fun _ _ z=>z)
 have HC2:=hide (HC1.out.kept k2 (fun z=>z.2 hO))
 have FI:=hide (show ∀W3,CcAt W3 cb 0 0 0→Kept (fun x=>x=cb) W2 W3→R (.returned (.tuple #[])) W3 from fun W3 h3 k3=>by
  rw[HR.out]
  refine ⟨rfl,?_,h3,?_⟩
  ·rw[←FE.out]
   exact t2.own k3 (fun x hx=>by subst hx;exact ⟨hO,(HOL.out x hO).1⟩)
  ·refine Kept.trans (Kept.trans (K1.out.mono ?_) k2 ?_) k3 ?_
   ·exact fun x hx=>⟨hx.1, .inl hx.2⟩
   ·exact fun x _ hx=>⟨hx.1, .inl hx.2⟩
   ·exact fun x _ hx=>by subst hx;exact ⟨(HOL.out x hO).1, .inr rfl⟩)
 clear t2 l2 k2 C2 c0 c2
 have c0:=HC2.out.c0
 have c1:=HC2.out.c1
 have c2:=HC2.out.c2
 have z0:=HC2.out.fz 0
 have z1:=HC2.out.fz 1
 have z2:=HC2.out.fz 2
 go_wp2_with fail
 have F3:=FI.out _ (((HC2.out.set0 0).set1 0 (by decide)).set2 0 (by decide)) (((kept_set (F:=fun x=>x=cb) W2 cb 0 (.int .u64 0) rfl).trans (kept_set (F:=fun x=>x=cb) _ cb 1 (.int .u64 0) rfl) (fun _ _ z=>z)).trans (kept_set (F:=fun x=>x=cb) _ cb 2 (.int .u64 0) rfl) (fun _ _ z=>z))
 first
 |exact bodyPost_ret (v:= .tuple #[]) (by simp[results,Tryz.results82,go_sem]) rfl F3
 |(go_end0;exact F3)
end
end Go.Proofs.YtdgdhnnakcncoaaGreatDoor
namespace Go.Proofs.YtdgdhnnakcncoaaGreatDoor
open Go.ChangeShapes Go.WideShapes Go.ChangeAt Go.RowKit Go.Proofs.Bt Go.Shelf Go.Proofs.Rx Go.Maps Go.Proofs.Pk
set_option linter.unusedVariables false
set_option linter.unusedSimpArgs false
section
variable {N:Nat} {O:Nat→Prop} {w W W':World} {tb cb:Nat} {st st':Nat→Nat} {B H G:Nat}
theorem T9.inOb (h:T9 N O w W tb st) {x:Nat} (hx:O x):N≤x∧x<W.heap.size:=by
 obtain ⟨T,L,C,_,_,_,h2⟩:=h.tr
 exact (h2 x hx).2
theorem T9.free_lt (h:T9 N O w W tb st) {p:Nat} (hp:st p≠0):p<34359738368:=by
 rcases Nat.lt_or_ge p 34359738368 with y|y
 ·exact y
 ·exact absurd (h.out p y) hp
structure TC (N:Nat) (O:Nat→Prop) (w W:World) (tb cb:Nat) (st:Nat→Nat) (B H G:Nat):Prop where
 t:T9 N O w W tb st
 c:CcAt W cb B H G
 o:O cb
theorem TC.read (h:TC N O w W tb cb st B H G) (b:Below W.heap.size W W'):TC N O w W' tb cb st B H G:=⟨(h.t.read b).1,h.c.below b,h.o⟩
theorem TC.tree (h:TC N O w W tb cb st B H G) (t:T9 N O w W' tb st') (l:Left9 N O W W'):TC N O w W' tb cb st' B H G:=⟨t,h.c.kept l (fun z=>z.2 h.o),h.o⟩
theorem TC.lb (h:TC N O w W tb cb st B H G):N≤cb∧cb<W.heap.size:=h.t.inOb h.o
theorem TC.wr (h:TC N O w W tb cb st B H G) {B' H' G':Nat} (c:CcAt W' cb B' H' G') (k:Kept (fun x=>x=cb) W W'):TC N O w W' tb cb st B' H' G'∧LeftC N O cb W W':=
 ⟨⟨h.t.own k (fun x hx=>by subst hx;exact ⟨h.o,h.lb.1⟩),c,h.o⟩,k.mono (fun x hx=>by subst hx;exact ⟨h.lb.1, .inr rfl⟩)⟩
theorem tc_fill (h:TC N O w W tb cb st B 0 G) (p:Nat) (hf:First st 1 p):
 Calls Tryz.prog 277 #[.pointer (some ⟨cb,0,none⟩), .pointer (some ⟨tb,0,none⟩)] W fun e W'=>e= .returned (.int .i64 0)∧TC N O w W' tb cb (fillS st (p/64 * 64) 64) (p/64 * 64) (wd (fun j=>fre st (p/64 * 64+j)) 64) (wd (fun j=>rel st (p/64 * 64+j)) 64)∧LeftC N O cb W W':=by
 have hp:p<34359738368:=h.t.free_lt (by have:=hf.1 p (Nat.le_refl _) (by omega);omega)
 refine (ccFill h.t h.c h.o (fun x hx=>h.t.inOb hx) rfl p hp hf).mono ?_
 rintro e W' ⟨e1,t1,c1,l1⟩
 exact ⟨e1,⟨t1,c1,h.o⟩,l1⟩
theorem tc_fill_full (h:TC N O w W tb cb st B 0 G) (hf:∀p,¬Run st p 1):
 Calls Tryz.prog 277 #[.pointer (some ⟨cb,0,none⟩), .pointer (some ⟨tb,0,none⟩)] W fun e W'=>e= .returned (.int .i64 30)∧TC N O w W' tb cb st B 0 G∧LeftC N O cb W W':=by
 refine (ccFill_full h.t h.c h.o rfl hf).mono ?_
 rintro e W' ⟨e1,t1,c1,l1⟩
 exact ⟨e1,⟨t1,c1,h.o⟩,l1⟩
theorem tc_flush (h:TC N O w W tb cb st B H G) (hB:B+64≤34359738368) (hG:∀j,G.testBit j=true→H.testBit j=true) (own:∀j,H.testBit j=true→st (B+j)=1):
 Calls Tryz.prog 82 #[.pointer (some ⟨cb,0,none⟩), .pointer (some ⟨tb,0,none⟩)] W fun e W'=>e= .returned (.tuple #[])∧TC N O w W' tb cb (flushS st B H.testBit G.testBit 64) 0 0 0∧LeftC N O cb W W':=by
 refine (ccFlush h.t h.c h.o (fun x hx=>h.t.inOb hx) hB hG own).mono ?_
 rintro e W' ⟨e1,t1,c1,l1⟩
 exact ⟨e1,⟨t1,c1,h.o⟩,l1⟩
theorem tc_alloc (h:TC N O w W tb cb st B H G) (hB:B+64≤34359738368) (n:Int) (n1:1≤n) (n2:n≤64) (a:Nat) (hr:Row H a n.toNat) (hf:∀p,p<a→¬Row H p n.toNat):
 Calls Tryz.prog 278 #[.pointer (some ⟨cb,0,none⟩), .int .i64 n] W fun e W'=>e= .returned (.tuple #[.int .u64 ((B+a:Nat):Int), .int .i64 (cnt G.testBit a n.toNat:Nat), .int .i64 0])∧TC N O w W' tb cb st B (andn H (on1 a n.toNat)) (andn G (on1 a n.toNat))∧LeftC N O cb W W':=by
 refine (ccAlloc h.c h.t.tab hB n).mono ?_
 rintro e W' (⟨h1,_⟩|⟨_,h2,_⟩|⟨_,b,h2,h3,h4,e1,c1,k1⟩)
 ·exact absurd ⟨n1,n2⟩ h1
 ·exact absurd hr (h2 a)
 ·obtain rfl:b=a:=by
   rcases Nat.lt_trichotomy a b with y|y|y
   ·exact absurd hr (h3 a y)
   ·exact y.symm
   ·exact absurd h2 (hf b y)
  exact ⟨e1,h.wr c1 k1⟩
theorem tc_alloc_no (h:TC N O w W tb cb st B H G) (hB:B+64≤34359738368) (n:Int) (n1:1≤n) (n2:n≤64) (hr:∀a,¬Row H a n.toNat):
 Calls Tryz.prog 278 #[.pointer (some ⟨cb,0,none⟩), .int .i64 n] W fun e W'=>e= .returned (.tuple #[.int .u64 0, .int .i64 0, .int .i64 30])∧W'=W:=by
 refine (ccAlloc h.c h.t.tab hB n).mono ?_
 rintro e W' (⟨h1,_⟩|⟨_,h2,e1,e2⟩|⟨_,b,h2,h3,h4,e1,c1,k1⟩)
 ·exact absurd ⟨n1,n2⟩ h1
 ·exact ⟨e1,e2⟩
 ·exact absurd h2 (hr b)
end
end Go.Proofs.YtdgdhnnakcncoaaGreatDoor
namespace Go.Proofs.YtdgdhnnakcncoaaGreatDoor
open Go.ChangeShapes Go.WideShapes Go.ChangeAt Go.RowKit Go.Proofs.Bt Go.Shelf Go.WideMaps
set_option linter.unusedVariables false
set_option linter.unusedSimpArgs false
structure IntsAt (w:World) (o:Option Addr) (len cap:Nat) (X:Nat→Int):Prop where
 nil:o=none→len=0∧cap=0
 cells:∀ad,o=some ad→∀i,i<len→w.cell? (ad.add i)=some (.int .i64 (X i))
 lo:∀i,-9223372036854775808≤X i
 hi:∀i,X i≤9223372036854775807
theorem IntsAt.at {w:World} {o:Option Addr} {len cap:Nat} {X:Nat→Int} (h:IntsAt w o len cap X) {i:Nat} (hi:i<len):∃b off,o=some ⟨b,off,none⟩∧b<w.heap.size∧∀i,i<len→w.cell? ⟨b,off+ i,none⟩=some (.int .i64 (X i)):=by
 cases ho:o with
 |none=>have:=(h.nil ho).1;omega
 |some a=>
  obtain ⟨b,off,sp⟩:=a
  have c0:=h.cells _ ho 0 (by omega)
  have hs:sp=none:=act_spot (by simpa [Addr.add] using c0)
  subst hs
  have hb:b<w.heap.size:=cell_lt (by simpa [Addr.add] using c0)
  refine ⟨b,off,rfl,hb,fun j hj=> ?_⟩
  have:=h.cells _ ho j hj
  rwa[addr_add0] at this
end Go.Proofs.YtdgdhnnakcncoaaGreatDoor
