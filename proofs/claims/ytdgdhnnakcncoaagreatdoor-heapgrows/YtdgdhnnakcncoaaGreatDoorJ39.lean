/- Of the proof of HeapClasses: texts APt, AHa. -/
import Derived.Test.YtdgdhnnakcncoaaGreatDoorJ10
import Derived.Test.YtdgdhnnakcncoaaGreatDoorJ38
namespace Go.Proofs.YtdgdhnnakcncoaaGreatDoor.A
set_option maxHeartbeats 1600000
open Go.ChangeShapes Go.WideShapes Go.ChangeAt Go.RowKit Go.Shelf Go.Proofs.Rx Go.Maps
set_option linter.unusedVariables false
set_option linter.unusedSimpArgs false
attribute [local go_sem] Oper.semAt_some
theorem range_pre {j N:Nat} (h:j<N):List.range j++ [j] <+: List.range N:=by
 rw[←List.range_succ];exact ⟨(List.range (N -(j+1))).map (j+1+ ·),by rw[←List.range_add];congr 1;omega⟩
def nxt (E a:Nat):Nat:=a+min (512 - a%512) (E - a)
def stp (p E:Nat):Nat→Nat
 |0=>p
 |j+1=>nxt E (stp p E j)
theorem nxt_le {E a:Nat} (h:a≤E):nxt E a≤E:=by unfold nxt;omega
theorem nxt_gt {E a:Nat} (h:a<E):a<nxt E a:=by unfold nxt;omega
theorem stp_le {p E:Nat} (h:p≤E):∀j,stp p E j≤E
 |0=>h
 |j+1=>nxt_le (stp_le h j)
theorem stp_ge {p E:Nat}:∀j,p≤stp p E j
 |0=>Nat.le_refl _
 |j+1=>Nat.le_trans (stp_ge j) (Nat.le_add_right _ _)
theorem stp_end {p E:Nat} (h:p≤E):∃m,stp p E m=E∧∀j,j<m→stp p E j<E:=by
 have key:∀d j,E - stp p E j≤d→(∀i,i<j→stp p E i<E)→∃m,stp p E m=E∧∀i,i<m→stp p E i<E:=by
  intro d
  induction d with
  |zero=>exact fun j hd hi=>⟨j,by have:=stp_le h j;omega,hi⟩
  |succ d ih=>
   intro j hd hi
   by_cases c:stp p E j<E
   ·refine ih (j+1) ?_ (fun i hij=> ?_)
    ·have:=nxt_gt c
     have:stp p E (j+1)=nxt E (stp p E j):=rfl
     omega
    ·by_cases z:i=j
     ·rw[z];exact c
     ·exact hi i (by omega)
   ·exact ⟨j,by have:=stp_le h j;omega,hi⟩
 exact key _ 0 (Nat.le_refl _) (fun i hi=>by omega)
theorem nxt_in {E a:Nat} (h:a<E) {q:Nat} (h1:a≤q) (h2:q<nxt E a):q/512=a/512:=by unfold nxt at h2;omega
def encsP (E a:Nat):Array Value:=#[.int .u64 ((a/512:Nat):Int), .agg #[.int .u64 ((a%512:Nat):Int), .int .u64 ((a%512+(nxt E a - a):Nat):Int)]]
structure RdP (B0 B1 p n:Nat) (w:World):Prop where
 c0:Boxed w B0 39 (.int .u64 (p:Nat))
 c1:Boxed w B1 39 (.int .u64 (n:Nat))
theorem parts_any (p n:Nat) (w:World):
 Calls Tryz.prog 139 #[.int .u64 (p:Nat), .int .u64 (n:Nat)] w fun e w'=>e= .returned (.func (.func 192) #[] #[.pointer (some ⟨w.heap.size,0,none⟩), .pointer (some ⟨w.heap.size+1,0,none⟩)])∧w'=(w.alloc (.cells #[.int .u64 (p:Nat)] 39)).alloc (.cells #[.int .u64 (n:Nat)] 39):=by
 go_enter Tryz.func139,Tryz.ntmps139
 go_wp2_with fail
 go_ret
 exact ⟨rfl,rfl⟩
set_option maxRecDepth 100000 in
set_option maxHeartbeats 1000000 in
theorem parts_seq (B0 B1 p n m:Nat) (hE:p+n<9223372036854775808) (hm:stp p (p+n) m=p+n) (hlt:∀j,j<m→stp p (p+n) j<p+n) (k:Nat):
 SeqB k Tryz.prog 192 #[.pointer (some ⟨B0,0,none⟩), .pointer (some ⟨B1,0,none⟩)] (fun j=>encsP (p+n) (stp p (p+n) j)) (RdP B0 B1 p n) (List.range m):=by
 intro l J Jx W hR hJ hY h0
 have r0:=hR _ _ h0
 have c0:=r0.c0.cell
 have c1:=r0.c1.cell
 have HJ:=hide hJ
 have HY:=hide hY
 have H0:=hide h0
 have HM:=hide hm
 have HL:=hide hlt
 clear hR hJ hY h0 hm hlt r0
 refine callsIn_of_wp Tryz.func192 rfl trivial ?_ rfl
 simp only[Tryz.ntmps192,List.size_toArray,List.length_cons,List.length_nil,Nat.reduceAdd,Nat.reduceSub,Array.replicate_succ,Array.replicate_zero,List.push_toArray,List.append_toArray,List.nil_append,List.cons_append]
 have hx:= @ext_cell W
 have hne:=ext_ne W
 have l0:B0<W.heap.size:=World.block_lt_of_cell? W ⟨B0,0,none⟩ c0
 have l1:B1<W.heap.size:=World.block_lt_of_cell? W ⟨B1,0,none⟩ c1
 have e1:(p:Int)+(n:Int)<9223372036854775808:=by omega
 obtain ⟨E,hEE⟩:∃E:Nat,p+n=E:=⟨_,rfl⟩
 rw[hEE] at HY HM HL hE
 gi_wp2_with fail
 refine all_w (by kernel_rfl) (by kernel_rfl) ?_
 repeat (refine wpQuiet_step (fun K hK=> ?_);go_simp;refine hK _ ?_;clear hK K)
 refine wpQuiet_nil ?_
 rintro _ ⟨w1,rfl⟩
 have J1:=hide (HJ.out _ _ _ H0.out w1.h)
 obtain ⟨W1,hW1⟩:∃W1,w1.v=W1:=⟨_,rfl⟩
 rw[hW1] at J1 ⊢
 rw[show (p:Int)+(n:Int)=(E:Int) by omega]
 try rw[show IntKind.u64.wrap (E:Int)=(E:Int) by rw[IntKind.wrap_u64];omega]
 clear hx hne c0 c1 l0 l1 hW1 w1 H0
 gi_wp2_with fail
 gi_loopw [4] (fun xv wr=>∃(a j:Nat),xv= .int .u64 (a:Nat)∧j≤m∧Hid (a=stp p E j)∧Hid (J (List.range j) wr)) (fun xv _=>E -(zi xv).toNat)
 case atStart=>exact ⟨p,0,rfl,by omega,hide rfl,J1⟩
 case round=>
  obtain ⟨a,j,rfl,hj,HE,HJJ⟩:=hrel
  by_cases hlt:j<m
  ·have x0:=HL.out j hlt
   rw[←HE.out] at x0
   have d0:decide ((a:Int)<(E:Int))=true:=decide_eq_true (by omega)
   obtain ⟨fn,tmps,assign,body,hy,hRr⟩:=HY.out (List.range j) j _ (range_pre hlt) HJJ.out
   simp only[encsP] at hy
   rw[←HE.out] at hy
   have HRR:=hide hRr
   obtain ⟨b,hb⟩:∃b:Nat,nxt E a=b:=⟨_,rfl⟩
   have g1:a<b:=by rw[←hb];exact nxt_gt x0
   have g2:b≤E:=by rw[←hb];exact nxt_le (by omega)
   have HS:=hide (show b=stp p E (j+1) from by show b=nxt E (stp p E j);rw[←HE.out,hb])
   rw[hb,show ((a/512:Nat):Int)=(a:Int)/512 by omega,show ((a%512:Nat):Int)=(a:Int)%512 by omega,show ((a%512+(b - a):Nat):Int)=(a:Int)%512+((b:Int) -(a:Int)) by omega] at hy
   obtain ⟨f,hf⟩:∃f:Nat,a%512=f:=⟨_,rfl⟩
   have f1:(f:Int)<512:=by omega
   have m0:b=a+min (512 - f) (E - a):=by rw[←hb,←hf];rfl
   have hf':(a:Int)%512=(f:Int):=by omega
   rw[hf'] at hy
   have HB:=hide (And.intro g1 g2)
   obtain ⟨A,hA⟩:∃A:Int,(a:Int)=A:=⟨_,rfl⟩
   obtain ⟨B,hB⟩:∃B:Int,(b:Int)=B:=⟨_,rfl⟩
   obtain ⟨F,hF⟩:∃F:Int,(f:Int)=F:=⟨_,rfl⟩
   obtain ⟨X,hX⟩:∃X:Int,(E:Int)=X:=⟨_,rfl⟩
   rw[hA] at hf' hy d0
   rw[hA]
   rw[hB] at hy
   rw[hF] at hy f1 hf'
   rw[hX] at d0
   rw[hX]
   have q1:0≤A:=by omega
   have q2:A<X:=by omega
   have q3:X<9223372036854775808:=by omega
   have q4:0≤F:=by omega
   have q5:A<B:=by omega
   have q6:B≤X:=by omega
   by_cases c:512 - f≤E - a
   ·have m1:B - A=512 - F:=by omega
    have d1:(512:Int) - F≤X - A:=by omega
    rw[m1] at hy
    have MM:=hide (show A+(512 - F)=B from by omega)
    have BB:=hide (And.intro hA (And.intro hB hX))
    clear hb m0 hf hA hB hF hX x0 g1 g2 c
    gi_wp2_with fail
    refine ⟨(fun h=>by cases h),HRR.out.mono ?_⟩
    clear HRR hy
    rintro e' w4 (⟨rfl,j4⟩|⟨rfl,jx4⟩)
    ·have X4:=hide j4
     rw[←List.range_succ] at X4
     clear j4
     gi_wp2_with fail
     have mm:=MM.out
     obtain ⟨hA,hB,hX⟩:=BB.out
     refine ⟨⟨b,j+1,?_,by omega,HS,X4⟩,?_⟩
     ·rw[mm,←hB]
     ·rw[mm,←hB,←hA]
      simp[zi];omega
    ·have X4:=hide jx4
     clear jx4
     gi_wp2_with fail
     refine bodyPost_ret (results_none rfl _ _ _) rfl ?_
     exact ⟨⟨_,rfl⟩, .inr ⟨_,_,range_pre hlt,X4.out⟩⟩
   ·have m1:B - A=X - A:=by omega
    have d1:¬(512:Int) - F≤X - A:=by omega
    have d2:X - A≤512 - F:=by omega
    rw[m1] at hy
    have MM:=hide (show A+(X - A)=B from by omega)
    have BB:=hide (And.intro hA (And.intro hB hX))
    clear hb m0 hf hA hB hF hX x0 g1 g2 c
    gi_wp2_with fail
    refine ⟨(fun h=>by cases h),HRR.out.mono ?_⟩
    clear HRR hy
    rintro e' w4 (⟨rfl,j4⟩|⟨rfl,jx4⟩)
    ·have X4:=hide j4
     rw[←List.range_succ] at X4
     clear j4
     gi_wp2_with fail
     have mm:=MM.out
     obtain ⟨hA,hB,hX⟩:=BB.out
     refine ⟨⟨b,j+1,?_,by omega,HS,X4⟩,?_⟩
     ·rw[mm,←hB]
     ·rw[mm,←hB,←hA]
      simp[zi];omega
    ·have X4:=hide jx4
     clear jx4
     gi_wp2_with fail
     refine bodyPost_ret (results_none rfl _ _ _) rfl ?_
     exact ⟨⟨_,rfl⟩, .inr ⟨_,_,range_pre hlt,X4.out⟩⟩
  ·obtain rfl:j=m:=by omega
   have x0:a=E:=by rw[HE.out,HM.out]
   obtain ⟨X,hX⟩:∃X:Int,(E:Int)=X:=⟨_,rfl⟩
   rw[x0,hX]
   have d0:decide (X<X)=false:=decide_eq_false (by omega)
   clear HE x0 hX
   gi_wp2_with fail
   go_end0
   exact ⟨⟨_,rfl⟩, .inl HJJ.out⟩
end Go.Proofs.YtdgdhnnakcncoaaGreatDoor.A
namespace Go.Proofs.YtdgdhnnakcncoaaGreatDoor.A
set_option maxHeartbeats 1600000
open Go.ChangeShapes Go.WideShapes Go.ChangeAt Go.RowKit Go.Shelf Go.Proofs.Rx Go.Maps
set_option linter.unusedVariables false
set_option linter.unusedSimpArgs false
attribute [local go_sem] Oper.semAt_some
theorem alloc_at (w:World) (o:Obj) (k:Nat):(w.alloc o).heap[k]? =if k=w.heap.size then some o else w.heap[k]? :=by
 by_cases h:k=w.heap.size
 ·rw[if_pos h,h];exact World.alloc_heap_new w o
 ·rw[if_neg h]
  by_cases hk:k<w.heap.size
  ·exact Below.heap_alloc _ _ _ hk
  ·have h1:(w.alloc o).heap.size≤k:=by rw[World.size_alloc];omega
   have h2:w.heap.size≤k:=by omega
   rw[Array.getElem?_eq_none h1,Array.getElem?_eq_none h2]
theorem allocs4 (w:World) (o0 o1 o2 o3:Obj) (w6:World) (h:w6=(((w.alloc o0).alloc o1).alloc o2).alloc o3) (N:Nat) (hN:w.heap.size=N):
 w6.heap.size=N+4∧Below N w w6∧w6.heap[N]? =some o0∧w6.heap[N+1]? =some o1∧w6.heap[N+2]? =some o2∧w6.heap[N+3]? =some o3:=by
 subst h hN
 refine ⟨by simp,?_,?_,?_,?_,?_⟩
 ·exact ((((Below.refl _ w).alloc (Nat.le_refl _) _).alloc (by simp) _).alloc (by simp;omega) _).alloc (by simp;omega) _
 all_goals
  simp only[alloc_at,World.size_alloc]
  (repeat' split)<;>first|rfl|omega|simp_all
def AllIn (C:Nat→Bool) (p n:Nat):Prop:=p<34359738368∧p+n≤34359738368∧∀q,p≤q→q<p+n→C (q/512)=true
structure HI (N:Nat) (w:World) (mb:Nat) (Φ:Nat→Prop) (C:Nat→Bool) (V:Nat→Int) (p n:Nat) (pre:List Nat) (W:World):Prop where
 bm:Boxed W N 116 (.pointer (some ⟨mb,0,none⟩))
 br:Boxed W (N+1) 4 (.bool false)
 rd:RdP (N+2) (N+3) p n W
 ar:Ar W mb Φ C V
 al:∀q,p≤q→q<stp p (p+n) pre.length→C (q/512)=true
 be:Below N w W
theorem HI.kept {F:Nat→Prop} {N:Nat} {w:World} {mb:Nat} {Φ:Nat→Prop} {C:Nat→Bool} {V:Nat→Int} {p n:Nat} {pre:List Nat} {W W':World} (h:HI N w mb Φ C V p n pre W) (k:Kept F W W') (hF:∀x,F x→N+4≤x) (hP:∀b,Φ b→b<N):HI N w mb Φ C V p n pre W':=
 ⟨boxed_kept h.bm k (fun x=>by have:=hF _ x;omega),boxed_kept h.br k (fun x=>by have:=hF _ x;omega),⟨boxed_kept h.rd.c0 k (fun x=>by have:=hF _ x;omega),boxed_kept h.rd.c1 k (fun x=>by have:=hF _ x;omega)⟩,
  h.ar.kept k (fun b hb x=>by have:=hF _ x;have:=hP b hb;omega),h.al,below_kept h.be k (fun x f=>by have:=hF _ f;omega) (by have:=box_lt h.bm;omega)⟩
set_option maxRecDepth 100000 in
set_option maxHeartbeats 2000000 in
theorem hasAll_in {w:World} {mb:Nat} {Φ:Nat→Prop} {C:Nat→Bool} {V:Nat→Int} (h:Ar w mb Φ C V) (p n:Nat) (hp:p<34359738368) (hn:p+n≤34359738368) (b:Bool) (hb:b=true↔AllIn C p n):
 Calls Tryz.prog 138 #[.pointer (some ⟨mb,0,none⟩), .int .u64 (p:Nat), .int .u64 (n:Nat)] w fun e w'=>e= .returned (.bool b)∧Below w.heap.size w w':=by
 obtain ⟨N,hN⟩:∃N,w.heap.size=N:=⟨_,rfl⟩
 obtain ⟨m,hm1,hm2⟩:=stp_end (p:=p) (E:=p+n) (by omega)
 have H:=hide h
 have HB:=hide hb
 have HP:=hide (show ∀x,Φ x→x<N from fun x hx=>by rw[←hN];exact h.lt x hx)
 have CP:=hide (parts_any p n)
 have SEQ:=hide (parts_seq (N+2) (N+3) p n m (by omega) hm1 hm2 2)
 have HM:=hide (And.intro hm1 hm2)
 have d1:decide ((34359738368:Int)≤(p:Int))=false:=decide_eq_false (by omega)
 have d2:decide ((34359738368:Int) -(p:Int)<(n:Int))=false:=decide_eq_false (by omega)
 obtain ⟨P,hP⟩:∃P:Int,(p:Int)=P:=⟨_,rfl⟩
 obtain ⟨M,hM⟩:∃M:Int,(n:Int)=M:=⟨_,rfl⟩
 have q1:0≤P:=by omega
 have q2:P<34359738368:=by omega
 have q3:0≤M:=by omega
 rw[hP] at d1 d2 CP ⊢
 rw[hM] at d2 CP ⊢
 have HPM:=hide (And.intro hP hM)
 have HPN:=hide (And.intro hp hn)
 clear h hb hm1 hm2 hP hM hp hn
 refine (callsIn_wide (n:=3)).1 ?_
 refine callsIn_of_wp_marks Tryz.func138 rfl trivial ?_ rfl
 simp only[Tryz.ntmps138,List.size_toArray,List.length_cons,List.length_nil,Nat.reduceAdd,Nat.reduceSub,Array.replicate_succ,Array.replicate_zero,List.push_toArray,List.append_toArray,List.nil_append,List.cons_append]
 gi_wp2_with fail
 refine wcall2 (CP.out _) ?_
 rintro e w4 ⟨rfl,h4⟩
 obtain ⟨s4,b4,z0,z1,z2,z3⟩:=allocs4 w _ _ _ _ w4 h4 N hN
 rw[←HPM.out.1] at z2
 rw[←HPM.out.2] at z3
 have F0:=hide (show HI N w mb Φ C V p n [] w4 from ⟨z0,z1,⟨z2,z3⟩,H.out.below (by rw[hN];exact b4),(fun q h1 h2=>by simp only[List.length_nil,stp] at h2;omega),b4⟩)
 clear z0 z1 z2 z3 b4 h4
 gi_wp2_with fail
 simp only[World.size_alloc,hN,Nat.add_assoc,Nat.reduceAdd]
 refine range_law (w:=w4) rfl (enters_of Tryz.func192 (by kernel_rfl) rfl) SEQ.out (fun _=>rfl) (HI N w mb Φ C V p n) (fun c pre W=>c= .ret∧b=false∧Boxed W (N+1) 4 (.bool false)∧Below N w W) (fun s A h=>h.rd) ?hI ?hIx F0.out ?round ?done ?stop
 case hI=>
  intro s A A' h k
  rw[s4] at k
  exact h.kept k (fun x hx=>by omega) HP.out
 case hIx=>
  rintro c s A o' ⟨rfl,h1,h2,h3⟩ hl
  rw[s4] at hl ⊢
  have k:=Kept.put (F:=fun b=>b=N+5) A (N+4+1) o' rfl
  exact ⟨rfl,h1,boxed_kept h2 k (by omega),below_kept h3 k (fun b hb=>by omega) (by omega)⟩
 case round=>
  rintro pre x W ⟨r0,hr0⟩ _ h hp
  rw[s4] at hr0 ⊢
  obtain ⟨-,e2,e3⟩:=pre_range hp
  subst e2
  have a1:=HM.out.2 _ e3
  obtain ⟨a,ha⟩:∃a,stp p (p+n) pre.length=a:=⟨_,rfl⟩
  have HA:=hide ha
  have H1:=hide h
  have HR0:=hide hr0
  rw[ha] at a1
  simp only[encsP,ha]
  clear h hr0 hp ha
  gi_wp2_with fail
  refine ⟨keepsFrom_of (Kept.refl (fun _=>False) W) (fun b hb e=>e),fun r=> ?_⟩
  have k2:=Kept.put (F:=fun b=>b=N+5) W (N+4+1) (.loop r) rfl
  obtain ⟨W2,hW2⟩:∃W2,W.putObj (N+4+1) (.loop r)=W2:=⟨_,rfl⟩
  rw[hW2] at k2 ⊢
  have H2:=hide (H1.out.kept k2 (fun b hb=>by omega) HP.out)
  have hpn:=HPN.out
  have CH:=hide (has_any H2.out.ar (a/512) (by omega))
  have cm:=H2.out.bm.cell
  have FB:=hide (show C (a/512)=false→b=false from fun z=>by
   cases hb:b with
   |false=>rfl
   |true=>
    have:=(HB.out.1 hb).2.2 a (by have:=stp_ge (p:=p) (E:=p+n) pre.length;rw[HA.out] at this;exact this) a1
    rw[z] at this;cases this)
  have GO:=hide (show C (a/512)=true→∀q,p≤q→q<stp p (p+n) (pre++ [pre.length]).length→C (q/512)=true from fun z q h1 h2=>by
   rw[List.length_append,List.length_singleton] at h2
   by_cases c:q<a
   ·exact H1.out.al q h1 (by rw[HA.out];exact c)
   ·rw[nxt_in a1 (by omega:a≤q) (by rw[←HA.out];exact h2)];exact z)
  rw[show ((a/512:Nat):Int)=(a:Int)/512 by omega] at CH
  obtain ⟨A,hA⟩:∃A:Int,(a:Int)/512=A:=⟨_,rfl⟩
  rw[hA] at CH ⊢
  clear k2 hW2 hpn hA a1
  cases hc:C (a/512) with
  |true=>
   rw[hc] at CH
   have GO2:=hide (GO.out hc)
   clear hc FB GO
   gi_wp2_with fail
   refine wcall_r CH.out ?_
   rintro e W3 ⟨rfl,b3⟩
   have H3:=hide (H2.out.kept (Kept.of_below (F:=fun _=>False) b3) (fun _ f=>f.elim) HP.out)
   gi_wp2_with fail
   exact ⟨keepsFrom_of (Kept.of_below (F:=fun _=>False) b3) (fun b hb e=>e),H3.out.bm,H3.out.br,H3.out.rd,H3.out.ar,GO2.out,H3.out.be⟩
  |false=>
   rw[hc] at CH
   have FB2:=hide (FB.out hc)
   clear hc FB GO
   gi_wp2_with fail
   refine wcall_r CH.out ?_
   rintro e W3 ⟨rfl,b3⟩
   have H3:=hide (H2.out.kept (Kept.of_below (F:=fun _=>False) b3) (fun _ f=>f.elim) HP.out)
   have cr:=H3.out.br.cell
   have fr:=H3.out.br.frozen
   gi_wp2_with fail
   have k4:=kept_set (F:=fun b=>b=N+1) W3 (N+1) 0 (.bool false) rfl
   exact ⟨keepsFrom_of ((Kept.of_below (F:=fun b=>b=N+1) b3).trans k4 (fun _ _ h=>h)) (fun b hb e=>by omega),rfl,FB2.out,H3.out.br.set (.bool false),below_kept H3.out.be k4 (fun b hb=>by omega) (by have:=box_lt H3.out.bm;omega)⟩
 case done=>
  rintro W h hd
  rw[s4] at hd ⊢
  have cr:=h.br.cell
  have fr:=h.br.frozen
  have HH:=hide h
  have HD:=hide hd
  have hlt:=box_lt h.br
  clear h hd SEQ
  gi_wp2_with fail
  have k3:=kept_set (F:=fun b=>b=N+1) W (N+1) 0 (.bool true) rfl
  have b3:=HH.out.br.set (.bool true)
  have d3:=kept_at k3 HD.out (by omega)
  have be:=below_kept HH.out.be k3 (fun b hb=>by omega) (by omega)
  obtain ⟨Wf,hWf⟩:∃Wf,W.setCell ⟨N+1,0,none⟩ (.bool true)=Wf:=⟨_,rfl⟩
  rw[hWf] at b3 d3 be ⊢
  have k6:=Kept.put (F:=fun b=>b=N+4) Wf (N+4) (.deferred none) rfl
  have r1:=(boxed_kept b3 k6 (by omega)).cell
  have B6:=below_kept be k6 (fun b hb=>by omega) (by have:=box_lt b3;omega)
  refine ⟨by simp, .inl ⟨_,_,rfl,run_takeDeferred d3,?_⟩⟩
  refine ⟨.bool true,?_,?_⟩
  ·try simp at r1
   simp[results,Tryz.results138,go_sem,Nat.add_assoc,r1,Result.andThen]
  ·have hb:b=true:=HB.out.2 ⟨HPN.out.1,HPN.out.2,fun q h1 h2=>HH.out.al q h1 (by rw[List.length_range,HM.out.1];exact h2)⟩
   exact ⟨by rw[hb],by rw[hN];exact B6⟩
 case stop=>
  rintro c pre x W hpre ⟨rfl,hb,br,be⟩ hd
  rw[s4] at hd ⊢
  have hlt:=box_lt br
  have k6:=Kept.put (F:=fun b=>b=N+4) W (N+4) (.deferred none) rfl
  have r1:=(boxed_kept br k6 (by omega)).cell
  have B6:=hide (below_kept be k6 (fun b hb=>by omega) (by omega))
  have HD:=hide hd
  have HB2:=hide hb
  clear hd SEQ hpre k6 br be hb
  gi_wp2_with fail
  refine ⟨by simp, .inl ⟨_,_,rfl,run_takeDeferred HD.out,?_⟩⟩
  refine ⟨.bool false,?_,?_⟩
  ·try simp at r1
   simp[results,Tryz.results138,go_sem,Nat.add_assoc,r1,Result.andThen]
  ·exact ⟨by rw[HB2.out],by rw[hN];exact B6.out⟩
theorem loadB {W:World} {b:Nat} {x:Bool} (h:Boxed W b 4 (.bool x)):(loadVar 4 ⟨b,0,none⟩).run Tryz.prog W= .ok (.bool x) W:=by
 have c0:=h.cell
 simp[go_sem,c0]
theorem hasAll_out {w:World} {mb:Nat} (p n:Nat) (hp:¬(p<34359738368∧p+n≤34359738368)):
 Calls Tryz.prog 138 #[.pointer (some ⟨mb,0,none⟩), .int .u64 (p:Nat), .int .u64 (n:Nat)] w fun e w'=>e= .returned (.bool false)∧Below w.heap.size w w':=by
 have HW:=hide (show (decide ((34359738368:Int)≤(p:Int))=true)∨(decide ((34359738368:Int)≤(p:Int))=false∧decide ((34359738368:Int) -(p:Int)<(n:Int))=true) from by
  simp only[decide_eq_true_eq,decide_eq_false_iff_not];omega)
 have q1:0≤(p:Int):=by omega
 clear hp
 generalize (p:Int)=P at *
 generalize (n:Int)=M at *
 obtain ⟨N,hN⟩:∃N,w.heap.size=N:=⟨_,rfl⟩
 refine (callsIn_wide (n:=3)).1 ?_
 refine callsIn_of_wp_marks Tryz.func138 rfl trivial ?_ rfl
 simp only[Tryz.ntmps138,List.size_toArray,List.length_cons,List.length_nil,Nat.reduceAdd,Nat.reduceSub,Array.replicate_succ,Array.replicate_zero,List.push_toArray,List.append_toArray,List.nil_append,List.cons_append]
 rcases HW.out with d1|⟨d1,d2⟩
 ·clear HW
  gi_wp2_with fail
  have y0:Boxed ((w.alloc (.cells #[.pointer (some ⟨mb,0,none⟩)] 116)).alloc (.cells #[.bool false] 4)) (N+1) 4 (.bool false):=by
   have:=Boxed.new (w.alloc (.cells #[.pointer (some ⟨mb,0,none⟩)] 116)) 4 (.bool false)
   rw[World.size_alloc,hN] at this
   exact this
  exact ⟨.bool false,results_c Tryz.results138 _ _ ⟨N+1,0,none⟩ _ rfl (loadB y0),rfl,((Below.refl _ w).alloc (Nat.le_refl _) _).alloc (by simp) _⟩
 ·clear HW
  have q2:P<34359738368:=by have:=of_decide_eq_false d1;omega
  gi_wp2_with fail
  have y0:Boxed ((w.alloc (.cells #[.pointer (some ⟨mb,0,none⟩)] 116)).alloc (.cells #[.bool false] 4)) (N+1) 4 (.bool false):=by
   have:=Boxed.new (w.alloc (.cells #[.pointer (some ⟨mb,0,none⟩)] 116)) 4 (.bool false)
   rw[World.size_alloc,hN] at this
   exact this
  exact ⟨.bool false,results_c Tryz.results138 _ _ ⟨N+1,0,none⟩ _ rfl (loadB y0),rfl,((Below.refl _ w).alloc (Nat.le_refl _) _).alloc (by simp) _⟩
theorem hasAll_any {w:World} {mb:Nat} {Φ:Nat→Prop} {C:Nat→Bool} {V:Nat→Int} (h:Ar w mb Φ C V) (p n:Nat) (b:Bool) (hb:b=true↔AllIn C p n):
 Calls Tryz.prog 138 #[.pointer (some ⟨mb,0,none⟩), .int .u64 (p:Nat), .int .u64 (n:Nat)] w fun e w'=>e= .returned (.bool b)∧Below w.heap.size w w':=by
 by_cases c:p<34359738368∧p+n≤34359738368
 ·exact hasAll_in h p n c.1 c.2 b hb
 ·have:b=false:=by
   cases hc:b with
   |false=>rfl
   |true=>exact absurd ⟨(hb.1 hc).1,(hb.1 hc).2.1⟩ c
  rw[this]
  exact hasAll_out p n c
end Go.Proofs.YtdgdhnnakcncoaaGreatDoor.A
