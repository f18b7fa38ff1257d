/- Of the proof of HeapClasses: texts RIt, RFi, RLs. -/
import Derived.Test.YtdgdhnnakcncoaaGreatDoorJ03
import Derived.WalkMore
import Derived.Scope
namespace Go.Proofs.YtdgdhnnakcncoaaGreatDoor
set_option maxHeartbeats 1600000
open Go.ChangeShapes Go.WideShapes Go.ChangeAt Go.RowKit Go.Proofs.Bt Go.Shelf
set_option linter.unusedVariables false
set_option linter.unusedSimpArgs false
attribute [local go_sem] Oper.semAt_some
theorem wide_scope {n:Nat} {P:Program} {c:Code} {Q:Exit→Act→World→Prop} {a:Act} {w:World} (h:c.wpIn Fence.wide n P (Exit.noGoto Q) a w):(Code.scope c).wpIn Fence.wide n P Q a w:=wpIn_wide.2 (wp_scope_straight (wpIn_wide.1 h))
structure Rd (b ro B0 B1 B2:Nat) (f:Nat→Bool) (a e:Nat) (w:World):Prop where
 p:Boxed w B0 344 (.pointer (some ⟨b,ro,none⟩))
 a:Boxed w B1 3 (.int .i64 (a:Nat))
 e:Boxed w B2 3 (.int .i64 (e:Nat))
 r:RowF w b ro f
 t:TabW w
theorem Rd.below {b ro B0 B1 B2:Nat} {f:Nat→Bool} {a e:Nat} {w w':World} (h:Rd b ro B0 B1 B2 f a e w) (k:Below w.heap.size w w'):Rd b ro B0 B1 B2 f a e w':=
 ⟨boxed_block h.p (k.block _ (box_lt h.p)),boxed_block h.a (k.block _ (box_lt h.a)),boxed_block h.e (k.block _ (box_lt h.e)),h.r.below k,h.t.below k⟩
theorem Rd.kept {F:Nat→Prop} {b ro B0 B1 B2:Nat} {f:Nat→Bool} {a e:Nat} {w w':World} (h:Rd b ro B0 B1 B2 f a e w) (k:Kept F w w') (h0:¬F 0∧¬F 1) (hb:¬F b) (h1:¬F B0) (h2:¬F B1) (h3:¬F B2):Rd b ro B0 B1 B2 f a e w':=
 ⟨boxed_kept h.p k h1,boxed_kept h.a k h2,boxed_kept h.e k h3,h.r.kept k hb,h.t.kept k h0⟩
theorem word_bits {g:Nat→Nat} {f:Nat→Bool} (hg:∀k,g k<18446744073709551616) (hf:∀i,i<512→bitW g i=f i) (k a e:Nat) (hk:k<8):
 (g k ||| inv (prt k a e))<18446744073709551616∧∀q,q<64→(g k ||| inv (prt k a e)).testBit q=blk f a e (64 * k+q):=by
 refine ⟨or_lt (hg k) (inv_lt _),fun q hq=> ?_⟩
 rw[Nat.testBit_or,inv_bit (prt_lt _ _ _) hq,prt_bit _ _ _ _ hq,←bitW_at g k q hq,hf _ (by omega)]
 unfold blk
 rw[Bool.or_assoc]
 congr 1
 rw[Bool.eq_iff_iff]
 simp only[Bool.not_eq_true',decide_eq_false_iff_not,Bool.or_eq_true,decide_eq_true_eq]
 omega
def turnsOf (o:Bool) (wd t:Nat):Nat:=andn (if o then wd else inv wd) (low t)
theorem turns_lt {wd:Nat} (h:wd<18446744073709551616) (o:Bool) (t:Nat):turnsOf o wd t<18446744073709551616:=by
 unfold turnsOf
 cases o
 ·exact andn_lt _ (inv_lt _)
 ·exact andn_lt _ h
theorem turns_bit {wd:Nat} (h:wd<18446744073709551616) (o:Bool) (t q:Nat) (hq:q<64):(turnsOf o wd t).testBit q=((wd.testBit q==o)&&decide (t≤q)):=by
 unfold turnsOf
 rw[andn_bit,low_bit]
 have e1:(!decide (q<t∧q<64))=decide (t≤q):=by
  rw[Bool.eq_iff_iff];simp only[Bool.not_eq_true',decide_eq_false_iff_not,decide_eq_true_eq];omega
 rw[e1]
 congr 1
 cases o
 ·simp only[Bool.false_eq_true,if_false];rw[inv_bit h hq];cases wd.testBit q<;>rfl
 ·simp only[if_true];cases wd.testBit q<;>rfl
theorem turns_none {wd:Nat} (h:wd<18446744073709551616) {o:Bool} {t:Nat} (h0:turnsOf o wd t=0):∀q,t≤q→q<64→wd.testBit q= !o:=by
 intro q h1 h2
 have:=turns_bit h o t q h2
 rw[h0,Nat.zero_testBit,decide_eq_true h1,Bool.and_true] at this
 cases hw:wd.testBit q<;>cases o<;>rw[hw] at this<;>first|rfl|cases this
theorem turns_first {wd:Nat} (h:wd<18446744073709551616) {o:Bool} {t:Nat} (h0:turnsOf o wd t≠0):
 Lib.ctz 64 (turnsOf o wd t)<64∧t≤Lib.ctz 64 (turnsOf o wd t)∧wd.testBit (Lib.ctz 64 (turnsOf o wd t))=o∧∀q,t≤q→q<Lib.ctz 64 (turnsOf o wd t)→wd.testBit q= !o:=by
 obtain ⟨h1,h2,h3⟩:=ctz_bit h0 (turns_lt h o t)
 generalize Lib.ctz 64 (turnsOf o wd t)=c at *
 rw[turns_bit h o t c h1,Bool.and_eq_true,beq_iff_eq,decide_eq_true_eq] at h2
 refine ⟨h1,h2.2,h2.1,fun q q1 q2=> ?_⟩
 have:=h3 q q2
 rw[turns_bit h o t q (by omega),decide_eq_true q1,Bool.and_true] at this
 cases hw:wd.testBit q<;>cases o<;>rw[hw] at this<;>first|rfl|cases this
theorem w_inv (x:Nat) (hx:x<18446744073709551616):bits BinOp.xor IntKind.u64 IntKind.u64.max (x:Int)=((inv x:Nat):Int):=by
 have e:IntKind.u64.max=((18446744073709551615:Nat):Int):=by simp[IntKind.max,IntKind.signed,IntKind.bits]
 rw[e,bits_xor_u64_nat _ _ (by omega) hx]
 congr 1
 refine eq_of_bits ?_ (inv_lt x) fun k hk=> ?_
 ·exact lt_of_bits fun k hk=>by rw[Nat.testBit_xor,bit_high (by omega) hk,bit_high hx hk];rfl
 ·rw[Nat.testBit_xor,inv_bit hx hk,show (18446744073709551615:Nat)=2^64 - 1 by decide,Nat.testBit_two_pow_sub_one,decide_eq_true hk]
  cases x.testBit k<;>rfl
def stO (o:Bool) (z:Nat):Option Nat:=if o then some z else none
def encs2 (x:Nat×Nat):Array Value:=#[.int .i64 (x.1:Nat), .int .i64 (x.2:Nat)]
def boolOf:Value→Bool
 | .bool b=>b
 |_=>false
set_option maxRecDepth 100000 in
set_option maxHeartbeats 1000000 in
theorem iter_seq (b ro B0 B1 B2:Nat) (f:Nat→Bool) (a e:Nat) (ha:a≤9223372036854775807) (he:e≤512) (n:Nat):
 SeqB n Tryz.prog 293 #[.pointer (some ⟨B0,0,none⟩), .pointer (some ⟨B1,0,none⟩), .pointer (some ⟨B2,0,none⟩)] encs2 (Rd b ro B0 B1 B2 f a e) (runs (blk f a e)):=by
 intro l J Jx W hR hJ hY h0
 obtain ⟨F,hF⟩:∃F,F=blk f a e:=⟨_,rfl⟩
 obtain ⟨L,hL⟩:∃L,L=runs (blk f a e):=⟨_,rfl⟩
 rw[←hL] at hY ⊢
 have HR:=hide hR
 have HJ:=hide hJ
 have HY:=hide hY
 have H0:=hide h0
 have HF:=hide hF
 have hLF:L=rest F 0 none:=by rw[hL,hF];rfl
 have HL:=hide hLF
 clear hR hJ hY h0 hF hL hLF
 refine callsIn_of_wp Tryz.func293 rfl trivial ?_ rfl
 simp only[Tryz.ntmps293,List.size_toArray,List.length_cons,List.length_nil,Nat.reduceAdd,Nat.reduceSub,Array.replicate_succ,Array.replicate_zero,List.push_toArray,List.append_toArray,List.nil_append,List.cons_append]
 have cp:=(HR.out _ _ H0.out).p.cell
 apply wide_scope
 gi_wp2_with fail
 apply wpIn_label
 gi_wp2_with fail
 gi_loopw [5,6,12] (fun zv ov kv wr=>∃(z:Nat) (o:Bool) (k:Nat) (pre:List (Nat×Nat)),zv= .int .i64 (z:Int)∧ov= .bool o∧kv= .int .i64 (k:Int)∧k≤8∧Hid (pre++rest F (64 * k) (stO o z)=L)∧Hid (J pre wr))
  (fun _ _ kv _=>8 -(intOf kv).toNat)
 case atStart=>exact ⟨0,false,0,[],rfl,rfl,rfl,by omega,hide HL.out.symm,H0⟩
 case round=>
  obtain ⟨z,o,k,pre,rfl,rfl,rfl,hk,HP,HI⟩:=hrel
  have hrd:=HR.out _ _ HI.out
  by_cases hlt:k<8
  ·have hlt':(k:Int)<8:=by omega
   obtain ⟨g,hg,hgf⟩:=hrd.r
   have c1:=hg.cell k hlt
   have ca:=hrd.a.cell
   have ce:=hrd.e.cell
   have cP:=hide (part_any k a e hlt ha (by omega) wr.drew)
   obtain ⟨w1,w2⟩:=word_bits hg.fit hgf k a e hlt
   have ho:bits BinOp.or IntKind.u64 ((g k:Nat):Int) (bits BinOp.xor IntKind.u64 IntKind.u64.max ((prt k a e:Nat):Int))=((g k ||| inv (prt k a e):Nat):Int):=by
    rw[w_inv _ (prt_lt _ _ _),w_or _ _ (hg.fit k) (inv_lt _)]
   obtain ⟨wd,hwd⟩:∃wd,wd=g k ||| inv (prt k a e):=⟨_,rfl⟩
   rw[←hwd] at ho w1 w2
   rw[←HF.out] at w2
   have hv:=w_inv wd w1
   have HW1:=hide w1
   have HW2:=hide w2
   have HI2:=hide (HJ.out _ _ _ HI.out (drew_below wr))
   clear hrd hg hgf w2 w1 hwd HI
   gi_wp2_with fail
   refine wpIn_wide.2 (still_all (by kernel_rfl) (by kernel_rfl) ?_)
   repeat still_step
   refine wpStill_nil ?_
   gi_wp2_with fail
   refine wcall cP.out ?_
   rintro e' w' ⟨rfl,hw'⟩;rw[hw'];clear hw' w' cP
   gi_wp2_with fail
   clear c1 ca ce ho
   gi_loopw [5,6,9] (fun zv ov tv wr=>∃(z:Nat) (o:Bool) (t:Nat) (pre:List (Nat×Nat)),zv= .int .i64 (z:Int)∧ov= .bool o∧tv= .int .i64 (t:Int)∧t≤63∧Hid (pre++rest F (64 * k+t) (stO o z)=L)∧Hid (J pre wr))
    (fun _ ov tv _=>2 *(64 -(intOf tv).toNat)+(if F (64 * k+(intOf tv).toNat)=boolOf ov then 1 else 0))
   case atStart=>exact ⟨z,o,0,pre,rfl,rfl,rfl,by omega,HP,HI2⟩
   case round=>
    obtain ⟨z,o,t,pre,rfl,rfl,rfl,ht,HP,HI⟩:=hrel
    have hrd:=HR.out _ _ HI.out
    have CL:=hide (lowest_any (t:Int) (by omega) wr)
    cases o with
    |false=>
     have hn':bits BinOp.andNot IntKind.u64 ((inv wd:Nat):Int) ((low t:Nat):Int)=((turnsOf false wd t:Nat):Int):=w_andNot _ _ (inv_lt wd) (low_lt t)
     obtain ⟨T,hT⟩:∃T,T=turnsOf false wd t:=⟨_,rfl⟩
     have hT1:T<18446744073709551616:=by rw[hT];exact turns_lt HW1.out false t
     rw[←hT] at hn'
     by_cases h0:T=0
     ·have hn:=turns_none HW1.out (o:=false) (t:=t) (by rw[←hT];exact h0)
      have hz:((T:Int)==0)=true:=by rw[h0];rfl
      have HN:=hide hn
      clear hn hT hT1 h0
      gi_wp2_with fail
      refine wcall CL.out ?_
      rintro e' w' ⟨rfl,hw'⟩;rw[hw'];clear hw' w' CL
      rw[Int.toNat_natCast]
      gi_wp2_with fail
      refine ⟨⟨z,false,k+1,pre,rfl,rfl,by rw[Int.natCast_add];rfl,by omega,hide ?_,HI⟩,?_⟩
      ·rw[show 64 *(k+1)=64 * k+t+(64 - t) by omega,←rest_skip (64 * k+t) (64 - t) (by omega) (fun q q1 q2=> ?_)]
       ·exact HP.out
       ·have:=HN.out (q - 64 * k) (by omega) (by omega)
        rw[HW2.out _ (by omega),show 64 * k+(q - 64 * k)=q by omega] at this
        rw[this];rfl
      ·simp[intOf];omega
     ·have hf:=turns_first HW1.out (o:=false) (t:=t) (by rw[←hT];exact h0)
      have hz:((T:Int)==0)=false:=by simp;omega
      rw[←hT] at hf
      have cT:=tz_any T h0 hT1 wr hrd.t
      obtain ⟨c,hc⟩:∃c,c=Lib.ctz 64 T:=⟨_,rfl⟩
      rw[←hc] at hf cT
      obtain ⟨f1,f2,f3,f4⟩:=hf
      rw[HW2.out c f1] at f3
      have F3:=hide f3
      have F4:=hide f4
      have CT:=hide cT
      have f1':(c:Int)<64:=by omega
      clear hT hT1 h0 hc cT f3 f4
      gi_wp2_with fail
      refine wcall CL.out ?_
      rintro e' w' ⟨rfl,hw'⟩;rw[hw'];clear hw' w' CL
      rw[Int.toNat_natCast]
      gi_wp2_with fail
      refine wcall CT.out ?_
      rintro e' w' ⟨rfl,hw'⟩;rw[hw'];clear hw' w' CT
      gi_wp2_with fail
      refine ⟨fun _ h=>(by cases h),?_⟩
      gi_wp2_with fail
      refine ⟨⟨64 * k+c,true,c,pre,by rw[Int.natCast_add,Int.natCast_mul,Int.mul_comm];rfl,rfl,rfl,by omega,hide ?_,HI⟩,?_⟩
      ·have hs:=rest_skip (F:=F) (s:=none) (64 * k+t) (c - t) (by omega) (fun q q1 q2=>by
        have:=F4.out (q - 64 * k) (by omega) (by omega)
        rw[HW2.out _ (by omega),show 64 * k+(q - 64 * k)=q by omega] at this
        rw[this];rfl)
       have hp:=HP.out
       rw[show stO false z=none from rfl,hs,show 64 * k+t+(c - t)=64 * k+c by omega,rest_open (by omega) F3.out] at hp
       exact hp
      ·have hm:=F3.out
       simp[intOf,boolOf,hm]
       by_cases e:c=t
       ·subst e;simp[hm]
       ·first|omega|(split<;>omega)
    |true=>
     have hn':bits BinOp.andNot IntKind.u64 (wd:Int) ((low t:Nat):Int)=((turnsOf true wd t:Nat):Int):=w_andNot _ _ HW1.out (low_lt t)
     obtain ⟨T,hT⟩:∃T,T=turnsOf true wd t:=⟨_,rfl⟩
     have hT1:T<18446744073709551616:=by rw[hT];exact turns_lt HW1.out true t
     rw[←hT] at hn'
     by_cases h0:T=0
     ·have hn:=turns_none HW1.out (o:=true) (t:=t) (by rw[←hT];exact h0)
      have hz:((T:Int)==0)=true:=by rw[h0];rfl
      have HN:=hide hn
      clear hn hT hT1 h0
      gi_wp2_with fail
      refine wcall CL.out ?_
      rintro e' w' ⟨rfl,hw'⟩;rw[hw'];clear hw' w' CL
      rw[Int.toNat_natCast]
      gi_wp2_with fail
      refine ⟨⟨z,true,k+1,pre,rfl,rfl,by rw[Int.natCast_add];rfl,by omega,hide ?_,HI⟩,?_⟩
      ·rw[show 64 *(k+1)=64 * k+t+(64 - t) by omega,←rest_skip (64 * k+t) (64 - t) (by omega) (fun q q1 q2=> ?_)]
       ·exact HP.out
       ·have:=HN.out (q - 64 * k) (by omega) (by omega)
        rw[HW2.out _ (by omega),show 64 * k+(q - 64 * k)=q by omega] at this
        rw[this];rfl
      ·simp[intOf];omega
     ·have hf:=turns_first HW1.out (o:=true) (t:=t) (by rw[←hT];exact h0)
      have hz:((T:Int)==0)=false:=by simp;omega
      rw[←hT] at hf
      have cT:=tz_any T h0 hT1 wr hrd.t
      obtain ⟨c,hc⟩:∃c,c=Lib.ctz 64 T:=⟨_,rfl⟩
      rw[←hc] at hf cT
      obtain ⟨f1,f2,f3,f4⟩:=hf
      rw[HW2.out c f1] at f3
      have F3:=hide f3
      have F4:=hide f4
      have CT:=hide cT
      have f1':(c:Int)<64:=by omega
      clear hT hT1 h0 hc cT f3 f4
      have hs:=rest_skip (F:=F) (s:=some z) (64 * k+t) (c - t) (by omega) (fun q q1 q2=>by
       have:=F4.out (q - 64 * k) (by omega) (by omega)
       rw[HW2.out _ (by omega),show 64 * k+(q - 64 * k)=q by omega] at this
       rw[this];rfl)
      have hp:=HP.out
      rw[show stO true z=some z from rfl,hs,show 64 * k+t+(c - t)=64 * k+c by omega,rest_shut (by omega) F3.out] at hp
      have hpre:pre++ [(z,64 * k+c)] <+: L:=⟨rest F (64 * k+c) none,by rw[List.append_assoc];exact hp⟩
      obtain ⟨fn,tmps,assign,body,hy,hRr⟩:=HY.out pre (z,64 * k+c) wr hpre HI.out
      have ee:((64 * k+c:Nat):Int)=(k:Int) * 64+(c:Int):=by rw[Int.natCast_add,Int.natCast_mul,Int.mul_comm];rfl
      simp only[encs2] at hy
      rw[ee] at hy
      have HRR:=hide hRr
      have HPP:=hide hp
      have EE:=hide ee
      have HPRE:=hide hpre
      clear hs hp hRr ee hpre
      gi_wp2_with fail
      refine wcall CL.out ?_
      rintro e' w' ⟨rfl,hw'⟩;rw[hw'];clear hw' w' CL
      rw[Int.toNat_natCast]
      gi_wp2_with fail
      refine wcall CT.out ?_
      rintro e' w' ⟨rfl,hw'⟩;rw[hw'];clear hw' w' CT
      gi_wp2_with fail
      refine ⟨(fun h=>by cases h),HRR.out.mono ?_⟩
      clear HRR hy
      rintro e' w4 (⟨rfl,j4⟩|⟨rfl,jx4⟩)
      ·gi_wp2_with fail
       refine ⟨⟨64 * k+c,false,c,pre++ [(z,64 * k+c)],by rw[EE.out],rfl,rfl,by omega,hide ?_,hide j4⟩,?_⟩
       ·have:=HPP.out
        rw[show stO false (64 * k+c)=none from rfl,List.append_assoc]
        exact this
       ·have hm:=F3.out
        simp[intOf,boolOf,hm]
        by_cases e:c=t
        ·subst e;simp[hm]
        ·first|omega|(split<;>omega)
      ·have X:=hide jx4
       clear jx4
       gi_wp2_with fail
       try rw[Exit.noGoto_ret]
       refine bodyPost_ret (results_none rfl _ _ _) rfl ?_
       exact ⟨⟨_,rfl⟩, .inr ⟨_,_,HPRE.out,X.out⟩⟩
  ·have hk8:k=8:=by omega
   subst hk8
   have hp:=HP.out
   cases o with
   |false=>
    rw[show stO false z=none from rfl,rest_end_none,List.append_nil] at hp
    have HPP:=hide hp
    clear hp
    gi_wp2_with fail
    rw[Exit.noGoto_normal]
    go_end0
    refine ⟨⟨_,rfl⟩, .inl ?_⟩
    rw[←HPP.out]
    exact HI.out
   |true=>
    rw[show stO true z=some z from rfl,rest_end_some] at hp
    obtain ⟨fn,tmps,assign,body,hy,hRr⟩:=HY.out pre (z,512) wr ⟨[],by rw[List.append_nil];exact hp⟩ HI.out
    simp only[encs2] at hy
    rw[show ((512:Nat):Int)=(512:Int) from rfl] at hy
    have HRR:=hide hRr
    have HPP:=hide hp
    clear hRr hp
    gi_wp2_with fail
    refine ⟨(fun h=>by cases h),HRR.out.mono ?_⟩
    clear HRR hy
    rintro e' w4 (⟨rfl,j4⟩|⟨rfl,jx4⟩)
    ·have X:=hide j4
     clear j4
     gi_wp2_with fail
     rw[Exit.noGoto_normal]
     go_end0
     refine ⟨⟨_,rfl⟩, .inl ?_⟩
     rw[←HPP.out]
     exact X.out
    ·have X:=hide jx4
     clear jx4
     gi_wp2_with fail
     rw[Exit.noGoto_normal]
     go_end0
     exact ⟨⟨_,rfl⟩, .inr ⟨_,_,⟨[],by rw[List.append_nil];exact HPP.out⟩,X.out⟩⟩
end Go.Proofs.YtdgdhnnakcncoaaGreatDoor
namespace Go.Proofs.YtdgdhnnakcncoaaGreatDoor
set_option maxHeartbeats 1600000
open Go.ChangeShapes Go.WideShapes Go.ChangeAt Go.RowKit Go.Proofs.Bt Go.Shelf
set_option linter.unusedVariables false
set_option linter.unusedSimpArgs false
attribute [local go_sem] Oper.semAt_some
theorem alloc_at (w:World) (o:Obj) (k:Nat):(w.alloc o).heap[k]? =if k=w.heap.size then some o else w.heap[k]? :=by
 by_cases h:k=w.heap.size
 ·subst h;rw[if_pos rfl];exact World.alloc_heap_new w o
 ·rw[if_neg h]
  by_cases hk:k<w.heap.size
  ·exact Below.heap_alloc _ _ _ hk
  ·have h1:(w.alloc o).heap.size≤k:=by rw[World.size_alloc];omega
   have h2:w.heap.size≤k:=by omega
   rw[Array.getElem?_eq_none h1,Array.getElem?_eq_none h2]
theorem allocs6 (w:World) (o0 o1 o2 o3 o4 o5:Obj) (w6:World) (h:w6=(((((w.alloc o0).alloc o1).alloc o2).alloc o3).alloc o4).alloc o5) (N:Nat) (hN:w.heap.size=N):
 w6.heap.size=N+6∧Below N w w6∧w6.heap[N]? =some o0∧w6.heap[N+1]? =some o1∧w6.heap[N+2]? =some o2∧w6.heap[N+3]? =some o3∧w6.heap[N+4]? =some o4∧w6.heap[N+5]? =some o5:=by
 subst h hN
 refine ⟨by simp,?_,?_,?_,?_,?_,?_,?_⟩
 ·exact ((((((Below.refl _ w).alloc (Nat.le_refl _) _).alloc (by simp) _).alloc (by simp;omega) _).alloc (by simp;omega) _).alloc (by simp;omega) _).alloc (by simp;omega) _
 all_goals
  simp only[alloc_at,World.size_alloc]
  (repeat' split)<;>first|rfl|omega|simp_all
structure FI (N:Nat) (w:World) (b ro:Nat) (f:Nat→Bool) (n:Int) (a:Nat) (pre:List (Nat×Nat)) (W:World):Prop where
 bn:Boxed W N 3 (.int .i64 n)
 bi:Boxed W (N+1) 3 (.int .i64 0)
 bo:Boxed W (N+2) 4 (.bool false)
 rd:Rd b ro (N+3) (N+4) (N+5) f a 512 W
 sh:∀y∈pre,((y.2 - y.1:Nat):Int)<n
 be:Below N w W
structure FX (N:Nat) (w:World) (f:Nat→Bool) (n from_:Int) (W:World):Prop where
 bi:∃i,Boxed W (N+1) 3 (.int .i64 i)∧FindP f n from_ i true
 bo:Boxed W (N+2) 4 (.bool true)
 be:Below N w W
theorem FI.kept {F:Nat→Prop} {N:Nat} {w:World} {b ro:Nat} {f:Nat→Bool} {n:Int} {a:Nat} {pre:List (Nat×Nat)} {W W':World} (h:FI N w b ro f n a pre W) (k:Kept F W W') (hN:0<N) (hb:b<N) (hF:∀x,F x→N+6≤x):FI N w b ro f n a pre W':=
 ⟨boxed_kept h.bn k (fun x=>by have:=hF _ x;omega),boxed_kept h.bi k (fun x=>by have:=hF _ x;omega),boxed_kept h.bo k (fun x=>by have:=hF _ x;omega),
  h.rd.kept k ⟨fun x=>by have:=hF _ x;omega,fun x=>by have:=hF _ x;omega⟩ (fun x=>by have:=hF _ x;omega) (fun x=>by have:=hF _ x;omega) (fun x=>by have:=hF _ x;omega) (fun x=>by have:=hF _ x;omega),h.sh,
  below_kept h.be k (fun x f=>by have:=hF _ f;omega) (by have:=box_lt h.bn;omega)⟩
theorem FX.kept {F:Nat→Prop} {N:Nat} {w:World} {f:Nat→Bool} {n from_:Int} {W W':World} (h:FX N w f n from_ W) (k:Kept F W W') (hF:∀x,F x→N+6≤x):FX N w f n from_ W':=by
 obtain ⟨i,h1,h2⟩:=h.bi
 exact ⟨⟨i,boxed_kept h1 k (fun x=>by have:=hF _ x;omega),h2⟩,boxed_kept h.bo k (fun x=>by have:=hF _ x;omega),
  below_kept h.be k (fun x f=>by have:=hF _ f;omega) (by have:=box_lt h.bo;omega)⟩
def FindR (w:World) (f:Nat→Bool) (n from_:Int) (e:Ending) (w':World):Prop:=∃i ok,e= .returned (.tuple #[.int .i64 i, .bool ok])∧FindP f n from_ i ok∧Below w.heap.size w w'
set_option maxRecDepth 100000 in
set_option maxHeartbeats 2000000 in
theorem find_core (b ro:Nat) (f:Nat→Bool) (n from_:Int) (hn:1≤n) (hn':n≤9223372036854775807) (hf:from_≤9223372036854775807) (w:World) (h:RowF w b ro f) (ht:TabW w):
 Calls Tryz.prog 318 #[.pointer (some ⟨b,ro,none⟩), .int .i64 n, .int .i64 from_] w (FindR w f n from_):=by
 obtain ⟨N,hN⟩:∃N,w.heap.size=N:=⟨_,rfl⟩
 have hb:=h.lt
 have h0:=ht.lt
 obtain ⟨R,hR⟩:∃R,R=FindR w f n from_:=⟨_,rfl⟩
 rw[←hR]
 have HR:=hide hR
 have H:=hide h
 have HT:=hide ht
 have HF:=hide hf
 obtain ⟨a,hae⟩:∃a,a=from_.toNat:=⟨_,rfl⟩
 have HA:=hide hae
 have hm:(from_<0∧Hid ((0:Int)=(a:Int)))∨(0≤from_∧Hid (from_=(a:Int))):=by
  by_cases x:from_<0
  ·exact .inl ⟨x,hide (by omega)⟩
  ·exact .inr ⟨by omega,hide (by omega)⟩
 clear hR h ht hf hae
 refine (callsIn_wide (n:=3)).1 ?_
 refine callsIn_of_wp_marks Tryz.func318 rfl trivial ?_ rfl
 simp only[Tryz.ntmps318,List.size_toArray,List.length_cons,List.length_nil,Nat.reduceAdd,Nat.reduceSub,Array.replicate_succ,Array.replicate_zero,List.push_toArray,List.append_toArray,List.nil_append,List.cons_append]
 rcases hm with ⟨m1,hA⟩|⟨m1,hA⟩
 all_goals
  gi_wp2_with fail
  refine wcall2 (clears_any _ _ _ _ _) ?_
  rintro e w6 ⟨rfl,h6⟩
  obtain ⟨s6,b6,q0,q1,q2,q3,q4,q5⟩:=allocs6 w _ _ _ _ _ _ w6 h6 N hN
  rw[hA.out] at q4
  have f0:FI N w b ro f n a [] w6:=⟨q0,q1,q2,⟨q3,q4,q5,H.out.below (by rw[hN];exact b6),HT.out.below (by rw[hN];exact b6)⟩,(fun y hy=>by cases hy),b6⟩
  have F0:=hide f0
  clear f0 q0 q1 q2 q3 q4 q5 b6 h6
  gi_wp2_with fail
  simp only[Nat.add_assoc,Nat.reduceAdd]
  have seq:=iter_seq b ro (N+3) (N+4) (N+5) f a 512 (by have:=HA.out;have:=HF.out;omega) (by omega) (3 - 1)
  refine range_law (w:=w6) rfl (enters_of Tryz.func293 (by kernel_rfl) rfl) seq (fun _=>rfl) (FI N w b ro f n a) (fun c pre W=>c= .ret∧FX N w f n from_ W) (fun s A h=>h.rd) ?hI ?hIx F0.out ?round ?done ?stop
  case hI=>
   intro s A A' h k
   rw[s6] at k
   exact h.kept k (by omega) (by omega) (fun x hx=>by omega)
  case hIx=>
   rintro c s A o' ⟨rfl,h⟩ hl
   rw[s6] at hl ⊢
   exact ⟨rfl,h.kept (Kept.put (F:=fun b=>b=N+7) A (N+6+1) o' rfl) (fun b hb=>by omega)⟩
  case round=>
   rintro pre x W ⟨r0,hr0⟩ _ h hp
   rw[s6] at hr0 ⊢
   have hx:=(runs_facts (blk f a 512)).1 x (hp.subset (by simp))
   have x1:=hx.lt
   have x2:=hx.le
   have H:=hide h
   have HP:=hide hp
   have HR0:=hide hr0
   clear h hr0 seq hx hp
   simp only[encs2]
   gi_wp2_with fail
   refine ⟨keepsFrom_of (Kept.refl (fun _=>False) W) (fun b hb e=>e),fun r=> ?_⟩
   have k2:=Kept.put (F:=fun b=>b=N+7) W (N+6+1) (.loop r) rfl
   obtain ⟨W2,hW2⟩:∃W2,W.putObj (N+6+1) (.loop r)=W2:=⟨_,rfl⟩
   rw[hW2] at k2 ⊢
   have H2:=hide (H.out.kept k2 (by omega) (by omega) (fun b hb=>by omega))
   clear k2 hW2
   have cn:=H2.out.bn.cell
   have ci:=H2.out.bi.cell
   have fi:=H2.out.bi.frozen
   have co:=H2.out.bo.cell
   have fo:=H2.out.bo.frozen
   have ex:((x.2 - x.1:Nat):Int)=(x.2:Int) -(x.1:Int):=by omega
   obtain ⟨X1,hX1⟩:∃X1:Int,(x.1:Int)=X1:=⟨_,rfl⟩
   obtain ⟨X2,hX2⟩:∃X2:Int,(x.2:Int)=X2:=⟨_,rfl⟩
   rw[hX1,hX2] at ex ⊢
   have y0:0≤X1:=by omega
   have y1:X1<X2:=by omega
   have y2:X2≤512:=by omega
   have EX:=hide ex
   have HX1:=hide hX1
   clear hX1 hX2 ex x1 x2
   by_cases hl:n≤X2 - X1
   ·gi_wp2_with fail
    have k3:=kept_set (F:=fun b=>b=N+1∨b=N+2) W2 (N+1) 0 (.int .i64 X1) (.inl rfl)
    have k4:=kept_set (F:=fun b=>b=N+1∨b=N+2) (W2.setCell ⟨N+1,0,none⟩ (.int .i64 X1)) (N+2) 0 (.bool true) (.inr rfl)
    have k5:=k3.trans k4 (fun _ _ h=>h)
    have b3:=H2.out.bi.set (.int .i64 X1)
    have b4:=boxed_kept b3 (kept_set (F:=fun b=>b=N+2) (W2.setCell ⟨N+1,0,none⟩ (.int .i64 X1)) (N+2) 0 (.bool true) rfl) (by omega)
    have o4:=(boxed_kept H2.out.bo (kept_set (F:=fun b=>b=N+1) W2 (N+1) 0 (.int .i64 X1) rfl) (by omega)).set (.bool true)
    refine ⟨keepsFrom_of k5 (fun b hb e=>by omega),rfl,⟨X1,b4,?_⟩,o4,below_kept H2.out.be k5 (fun b hb=>by omega) (by have:=box_lt H2.out.bn;omega)⟩
    rw[←HX1.out]
    have hp:=HP.out
    rw[HA.out] at hp
    exact find_hit hn hp H.out.sh (by rw[EX.out];exact hl)
   ·have hl':X2 - X1<n:=by omega
    clear hl
    gi_wp2_with fail
    refine ⟨keepsFrom_of (Kept.refl (fun _=>False) W2) (fun b hb e=>e),H2.out.bn,H2.out.bi,H2.out.bo,H2.out.rd,fun y hy=> ?_,H2.out.be⟩
    rcases List.mem_append.1 hy with hy|hy
    ·exact H.out.sh y hy
    ·simp at hy;subst hy;have:=EX.out;omega
  case done=>
   rintro W h hd
   rw[s6] at hd ⊢
   have ci:=h.bi.cell
   have fi:=h.bi.frozen
   have co:=h.bo.cell
   have fo:=h.bo.frozen
   have HH:=hide h
   have HD:=hide hd
   have hlt:=box_lt h.bo
   clear h hd seq
   gi_wp2_with fail
   have k3:=kept_set (F:=fun b=>b=N+1∨b=N+2) W (N+1) 0 (.int .i64 0) (.inl rfl)
   have k4:=kept_set (F:=fun b=>b=N+1∨b=N+2) (W.setCell ⟨N+1,0,none⟩ (.int .i64 0)) (N+2) 0 (.bool false) (.inr rfl)
   have k5:=k3.trans k4 (fun _ _ h=>h)
   have b3:=HH.out.bi.set (.int .i64 0)
   have b4:=boxed_kept b3 (kept_set (F:=fun b=>b=N+2) (W.setCell ⟨N+1,0,none⟩ (.int .i64 0)) (N+2) 0 (.bool false) rfl) (by omega)
   have o4:=(boxed_kept HH.out.bo (kept_set (F:=fun b=>b=N+1) W (N+1) 0 (.int .i64 0) rfl) (by omega)).set (.bool false)
   have d4:=kept_at k5 HD.out (by omega)
   have be:=below_kept HH.out.be k5 (fun b hb=>by omega) (by omega)
   obtain ⟨Wf,hWf⟩:∃Wf,(W.setCell ⟨N+1,0,none⟩ (.int .i64 0)).setCell ⟨N+2,0,none⟩ (.bool false)=Wf:=⟨_,rfl⟩
   rw[hWf] at b4 o4 d4 be ⊢
   have k6:=Kept.put (F:=fun b=>b=N+6) Wf (N+6) (.deferred none) rfl
   have r1:=(boxed_kept b4 k6 (by omega)).cell
   have r2:=(boxed_kept o4 k6 (by omega)).cell
   have B6:=below_kept be k6 (fun b hb=>by omega) (by have:=box_lt b4;omega)
   refine ⟨by simp, .inl ⟨_,_,rfl,run_takeDeferred d4,?_⟩⟩
   refine ⟨.tuple #[.int .i64 0, .bool false],?_,?_⟩
   ·try simp at r1 r2
    simp[results,Tryz.results318,go_sem,Nat.add_assoc,r1,r2,Result.andThen]
   ·rw[HR.out]
    refine ⟨0,false,rfl,?_,by rw[hN];exact B6⟩
    have hs:=HH.out.sh
    rw[HA.out] at hs
    exact find_miss hn hs
  case stop=>
   rintro c pre x W hpre ⟨rfl,h⟩ hd
   rw[s6] at hd ⊢
   obtain ⟨i,b1,hi⟩:=h.bi
   have ci:=b1.cell
   have co:=h.bo.cell
   have HH:=hide h
   have HD:=hide hd
   have HI:=hide hi
   have hlt:=box_lt h.bo
   have k6:=Kept.put (F:=fun b=>b=N+6) W (N+6) (.deferred none) rfl
   have r1:=(boxed_kept b1 k6 (by omega)).cell
   have r2:=(boxed_kept h.bo k6 (by omega)).cell
   have B6:=hide (below_kept h.be k6 (fun b hb=>by omega) (by omega))
   clear h hd seq hi hpre b1 k6
   gi_wp2_with fail
   refine ⟨by simp, .inl ⟨_,_,rfl,run_takeDeferred HD.out,?_⟩⟩
   refine ⟨.tuple #[.int .i64 i, .bool true],?_,?_⟩
   ·try simp at r1 r2
    simp[results,Tryz.results318,go_sem,Nat.add_assoc,r1,r2,Result.andThen]
   ·rw[HR.out]
    exact ⟨i,true,rfl,HI.out,by rw[hN];exact B6.out⟩
theorem find_any (b ro:Nat) (f:Nat→Bool) (n from_:Int) (hn':n≤9223372036854775807) (hf:from_≤9223372036854775807) (w:World) (h:RowF w b ro f) (ht:TabW w):
 Calls Tryz.prog 318 #[.pointer (some ⟨b,ro,none⟩), .int .i64 n, .int .i64 from_] w (FindR w f n from_):=by
 by_cases hn:1≤n
 ·exact find_core b ro f n from_ hn hn' hf w h ht
 ·have hn2:n<1:=by omega
  have HH:=hide h
  have HT:=hide ht
  clear hn h ht
  obtain ⟨R,hR⟩:∃R,R=FindR w f n from_:=⟨_,rfl⟩
  rw[←hR]
  have HR:=hide hR
  clear hR
  refine (callsIn_wide (n:=3)).1 ?_
  refine callsIn_of_wp_marks Tryz.func318 rfl trivial ?_ rfl
  simp only[Tryz.ntmps318,List.size_toArray,List.length_cons,List.length_nil,Nat.reduceAdd,Nat.reduceSub,Array.replicate_succ,Array.replicate_zero,List.push_toArray,List.append_toArray,List.nil_append,List.cons_append]
  gi_wp2_with fail
  refine ⟨.tuple #[.int .i64 0, .bool false],?_,?_⟩
  ·simp[results,Tryz.results318,go_sem,Nat.add_assoc,Result.andThen]
  ·rw[HR.out]
   exact ⟨0,false,rfl, .inr ⟨rfl,rfl, .inl hn2⟩,(((Below.refl _ w).alloc (Nat.le_refl _) _).alloc (by simp) _).alloc (by simp;omega) _⟩
end Go.Proofs.YtdgdhnnakcncoaaGreatDoor
namespace Go.Proofs.YtdgdhnnakcncoaaGreatDoor
set_option maxHeartbeats 1600000
open Go.ChangeShapes Go.WideShapes Go.ChangeAt Go.RowKit Go.Proofs.Bt Go.Shelf
set_option linter.unusedVariables false
set_option linter.unusedSimpArgs false
attribute [local go_sem] Oper.semAt_some
def LastI (n:Int) (pre:List (Nat×Nat)) (at_ long:Int):Prop:=
 (pre= []∧at_=0∧long=0)∨∃p x,pre=p++ [x]∧long=min ((x.2:Int) - x.1) n∧at_=(x.2:Int) - min ((x.2:Int) - x.1) n
structure LI (N:Nat) (w:World) (b ro:Nat) (f:Nat→Bool) (n:Int) (e:Nat) (pre:List (Nat×Nat)) (W:World):Prop where
 bn:Boxed W N 3 (.int .i64 n)
 ba:∃at_ long,Boxed W (N+1) 3 (.int .i64 at_)∧Boxed W (N+2) 3 (.int .i64 long)∧LastI n pre at_ long
 rd:Rd b ro (N+3) (N+4) (N+5) f 0 e W
 be:Below N w W
theorem LI.kept {F:Nat→Prop} {N:Nat} {w:World} {b ro:Nat} {f:Nat→Bool} {n:Int} {e:Nat} {pre:List (Nat×Nat)} {W W':World} (h:LI N w b ro f n e pre W) (k:Kept F W W') (hN:0<N) (hb:b<N) (hF:∀x,F x→N+6≤x):LI N w b ro f n e pre W':=by
 obtain ⟨at_,long,h1,h2,h3⟩:=h.ba
 exact ⟨boxed_kept h.bn k (fun x=>by have:=hF _ x;omega),⟨at_,long,boxed_kept h1 k (fun x=>by have:=hF _ x;omega),boxed_kept h2 k (fun x=>by have:=hF _ x;omega),h3⟩,
  h.rd.kept k ⟨fun x=>by have:=hF _ x;omega,fun x=>by have:=hF _ x;omega⟩ (fun x=>by have:=hF _ x;omega) (fun x=>by have:=hF _ x;omega) (fun x=>by have:=hF _ x;omega) (fun x=>by have:=hF _ x;omega),
  below_kept h.be k (fun x f=>by have:=hF _ f;omega) (by have:=box_lt h.bn;omega)⟩
end Go.Proofs.YtdgdhnnakcncoaaGreatDoor
