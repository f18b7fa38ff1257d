/- Of the proof of HeapClasses: texts NIt, NFd, NMk, NTb. -/
import Derived.Test.YtdgdhnnakcncoaaGreatDoorJ03
import Derived.Test.YtdgdhnnakcncoaaGreatDoorJ42
import Derived.Deep.AppendLies
namespace Go.Proofs.YtdgdhnnakcncoaaGreatDoor.N
set_option maxHeartbeats 1600000
open Go.ChangeShapes Go.WideShapes Go.ChangeAt Go.RowKit Go.Proofs.Cl Go.Shelf
set_option linter.unusedVariables false
set_option linter.unusedSimpArgs false
attribute [local go_sem] Oper.semAt_some
def oc (page:Nat):Option Raw→Array Value
 |none=>#[.int .i64 0, .int .i64 0, .int .i64 0, .int .u32 0]
 |some c=>#[.int .i64 (c.size:Nat), .int .i64 (c.k:Nat), .int .i64 (c.slots page:Nat), .int .u32 0]
def ClsAt (w:World) (b:Nat) (cs:Array Value):Prop:=w.heap[b]? =some (.cells cs 80 (0,0))
def Keeps (B Bp Bm:Nat) (W W':World):Prop:=W.heap.size≤W'.heap.size∧W'.heap[Bp]? =W.heap[Bp]? ∧W'.heap[Bm]? =W.heap[Bm]? ∧∀b,B≤b→Box4 W b→W'.heap[b]? =W.heap[b]?
theorem cls_cell {w:World} {b:Nat} {cs:Array Value} (h:ClsAt w b cs) (k:Nat):w.cell? ⟨b,k,none⟩=cs[k]? :=by unfold ClsAt at h;simp[World.cell?,h]
theorem cls_frozen {w:World} {b:Nat} {cs:Array Value} (h:ClsAt w b cs) (k:Nat):w.frozen? ⟨b,k,none⟩=false:=by unfold ClsAt at h;simp[World.frozen?,h]
theorem cls_block {W W':World} {B:Nat} {cs:Array Value} (h:ClsAt W B cs) (hb:W'.heap[B]? =W.heap[B]?):ClsAt W' B cs:=hb.trans h
theorem cls_lt {w:World} {b:Nat} {cs:Array Value} (h:ClsAt w b cs):b<w.heap.size:=(Array.getElem?_eq_some_iff.1 h).1
theorem cls_set {w:World} {b:Nat} {cs:Array Value} (h:ClsAt w b cs) (k:Nat) (v:Value):ClsAt (w.setCell ⟨b,k,none⟩ v) b (cs.setIfInBounds k v):=by
 obtain ⟨hlt,hk⟩:=Array.getElem?_eq_some_iff.1 h
 show (w.heap.modify b _)[b]? =_
 rw[Array.getElem?_eq_getElem (by rw[Array.size_modify];exact hlt),Array.getElem_modify_self,hk]
 rfl
theorem oc_size (page:Nat) (o:Option Raw):(oc page o).size=4:=by cases o<;>rfl
structure In (page most B Bp Bm Bo:Nat) (J:List Cls→World→Prop) (pre:List Cls) (o:Option Raw) (wr:World):Prop where
 j:J pre wr
 o:ClsAt wr Bo (oc page o)
 p:Boxed wr Bp 3 (.int .i64 page)
 m:Boxed wr Bm 3 (.int .i64 most)
 b:B≤wr.heap.size
theorem In.below {page most B Bp Bm Bo:Nat} {J:List Cls→World→Prop} {pre:List Cls} {o:Option Raw} {w w1:World} {B0:Nat} (h:In page most B Bp Bm Bo J pre o w) (hJ:Ab B0 J) (hb:Below w.heap.size w w1):In page most B Bp Bm Bo J pre o w1:=
 ⟨hJ _ _ _ h.j (Kept.of_below hb),cls_block h.o (hb.block _ (cls_lt h.o)),boxed_block h.p (hb.block _ (box_lt h.p)),boxed_block h.m (hb.block _ (box_lt h.m)),Nat.le_trans h.b hb.size⟩
theorem In.kept {page most B Bp Bm Bo:Nat} {J:List Cls→World→Prop} {pre pre':List Cls} {o:Option Raw} {w w1:World} (h:In page most B Bp Bm Bo J pre o w) (hB:B≤Bo) (hk:Keeps B Bp Bm w w1) (hj:J pre' w1):In page most B Bp Bm Bo J pre' o w1:=
 ⟨hj,cls_block h.o (hk.2.2.2 _ hB ⟨_,h.o,oc_size page o⟩),boxed_block h.p hk.2.1,boxed_block h.m hk.2.2.1,Nat.le_trans h.b hk.1⟩
def set4 (w:World) (b:Nat) (v0 v1 v2 v3:Value):World:=(((w.setCell ⟨b,0,none⟩ v0).setCell ⟨b,1,none⟩ v1).setCell ⟨b,2,none⟩ v2).setCell ⟨b,3,none⟩ v3
theorem kept_set4 {F:Nat→Prop} (w:World) (b:Nat) (v0 v1 v2 v3:Value) (h:F b):Kept F w (set4 w b v0 v1 v2 v3):=
 (((kept_set w b 0 v0 h).trans (kept_set _ b 1 v1 h) (fun _ _ h=>h)).trans (kept_set _ b 2 v2 h) (fun _ _ h=>h)).trans (kept_set _ b 3 v3 h) (fun _ _ h=>h)
theorem cls_set4 {w:World} {b:Nat} {cs:Array Value} (h:ClsAt w b cs) (hc:cs.size=4) (v0 v1 v2 v3:Value):ClsAt (set4 w b v0 v1 v2 v3) b #[v0,v1,v2,v3]:=by
 have:=cls_set (cls_set (cls_set (cls_set h 0 v0) 1 v1) 2 v2) 3 v3
 have e:(((cs.setIfInBounds 0 v0).setIfInBounds 1 v1).setIfInBounds 2 v2).setIfInBounds 3 v3=#[v0,v1,v2,v3]:=by
  obtain ⟨l⟩:=cs
  match l,hc with
  | [a,b,c,d],_=>rfl
 rw[e] at this
 exact this
theorem In.store {page most B Bp Bm Bo B0:Nat} {J:List Cls→World→Prop} {pre:List Cls} {o:Option Raw} {w:World} (h:In page most B Bp Bm Bo J pre o w) (hJ:Ab B0 J) (h0:B0≤Bo) (hp:Bp≠Bo) (hm:Bm≠Bo) (d:Raw):
 In page most B Bp Bm Bo J pre (some d) (set4 w Bo (.int .i64 (d.size:Nat)) (.int .i64 (d.k:Nat)) (.int .i64 (d.slots page:Nat)) (.int .u32 0)):=by
 have k:Kept (fun x=>x=Bo) w (set4 w Bo (.int .i64 (d.size:Nat)) (.int .i64 (d.k:Nat)) (.int .i64 (d.slots page:Nat)) (.int .u32 0)):=kept_set4 w Bo _ _ _ _ rfl
 exact ⟨hJ _ _ _ h.j (k.mono fun x e=>by subst e;exact ⟨h0,_,h.o,oc_size page o⟩),cls_set4 h.o (oc_size page o) _ _ _ _,boxed_block h.p (k.block _ (box_lt h.p) hp),boxed_block h.m (k.block _ (box_lt h.m) hm),Nat.le_trans h.b k.size⟩
theorem below_alloc (w:World) (o:Obj):Below w.heap.size w (w.alloc o):=(Below.refl _ _).alloc (Nat.le_refl _) _
set_option maxRecDepth 100000 in
set_option maxHeartbeats 4000000 in
theorem iter_in (page most:Nat) (hp:1024≤page) (hp2:page≤65536) (hm:64≤most) (hm2:most≤262144) (n B Bp Bm l:Nat) (J Jx:List Cls→World→Prop) (W:World) (hB:B≤W.heap.size)
 (xp:Boxed W Bp 3 (.int .i64 page)) (xm:Boxed W Bm 3 (.int .i64 most)) (hJ:Ab W.heap.size J)
 (hY:∀pre x W1,J pre W1→pre.length<(classes page most).length→YieldAt Fence.wide (n - 1) Tryz.prog l #[cv x] W1 fun e W'=>
  (e= .returned (.bool true)∧J (pre++ [x]) W'∧Keeps B Bp Bm W1 W')∨(e= .returned (.bool false)∧Jx (pre++ [x]) W'))
 (h0:J [] W):
 CallsIn Fence.wide n Tryz.prog 214 #[.func (.yield l) #[] #[], .pointer (some ⟨Bm,0,none⟩), .pointer (some ⟨Bp,0,none⟩)] W fun e W'=>(∃v,e= .returned v)∧
  ((∃xs,xs=classes page most∧J xs W')∨(∃pre,pre <+: classes page most∧Jx pre W')):=by
 have np:Bp≠W.heap.size:=by have:=box_lt xp;omega
 have nm:Bm≠W.heap.size:=by have:=box_lt xm;omega
 have HY:=hide hY
 have NP:=hide np
 have NM:=hide nm
 have I0:In page most B Bp Bm W.heap.size J [] none (W.alloc (.cells #[.int .i64 0, .int .i64 0, .int .i64 0, .int .u32 0] 80)):=
  ⟨hJ _ _ _ h0 (Kept.of_below (below_alloc _ _)),World.alloc_heap_new W _,xp.alloc _,xm.alloc _,by simp;omega⟩
 have HJ:=hide hJ
 have HI0:=hide I0
 clear hY np nm I0 hJ xp xm h0
 refine callsIn_of_wp Tryz.func214 rfl trivial ?_ rfl
 simp only[Tryz.ntmps214,List.size_toArray,List.length_cons,List.length_nil,Nat.reduceAdd,Nat.reduceSub,Array.replicate_succ,Array.replicate_zero,List.push_toArray,List.append_toArray,List.nil_append,List.cons_append]
 gi_wp2
 gi_loopw [5,6] (fun st sz wr=>∃(f size step:Nat) (o:Option Raw) (pre:List Cls),st= .int .i64 (step:Int)∧sz= .int .i64 (size:Int)∧8≤size∧8≤step∧step≤256∧size≤most+256∧most<size+8 * f∧
  (o=none→size=8)∧(∀c,o=some c→8<size∧Cl.Good page most c)∧Hid (pre++(rest page most f size step o).map (wide page)=classes page most)∧Hid (In page most B Bp Bm W.heap.size J pre o wr))
  (fun _ sz _=>most+257 -(intOf sz).toNat)
 case atStart=>
  exact ⟨most/8+1,8,8,none,[],rfl,rfl,by omega,by omega,by omega,by omega,by omega,fun _=>rfl,(fun c e=>by cases e),hide rfl,HI0⟩
 case round=>
  obtain ⟨f,size,step,o,pre,rfl,rfl,i1,i2,i3,i4,i5,i6,i7,HR,HI⟩:=hrel
  have cm:=HI.out.m.cell
  have cp:=HI.out.p.cell
  by_cases hlt:size≤most
  ·have i9:(size:Int)≤(most:Int):=by omega
   obtain ⟨g,rfl⟩:∃g,f=g+1:=⟨f - 1,by omega⟩
   obtain ⟨st,hst⟩:∃st,st=stepN size step:=⟨_,rfl⟩
   have st1:8≤st:=by rw[hst];exact step_lo i2
   have st2:st≤256:=by rw[hst];exact step_hi i3
   have C1:=step_any size step (by omega) wr
   rw[←hst] at C1
   have HST:=hide hst
   have CC:=hide C1
   have gn:=good_raw (page:=page) i1 hlt
   have GN:=hide gn
   have I5:=hide i5
   clear hst C1 gn i5
   gi_wp2_with fail
   refine wcall CC.out ?_
   rintro e w' ⟨rfl,hw'⟩;rw[hw'];clear hw' w' CC
   gi_wp2_with fail
   refine wcall (cut_any page size (by omega) hp2 (by omega) (by omega) _) ?_
   rintro e w1 ⟨rfl,b1⟩
   have HI1:=hide (HI.out.below HJ.out b1)
   clear b1 HI cm cp
   have O1:=HI1.out.o
   have x0:=cls_cell O1 0
   have x1:=cls_cell O1 1
   have x2:=cls_cell O1 2
   have x3:=cls_cell O1 3
   have y0:=cls_frozen O1 0
   have y1:=cls_frozen O1 1
   have y2:=cls_frozen O1 2
   have y3:=cls_frozen O1 3
   have l1:=cls_lt O1
   clear O1
   cases o with
   |none=>
    have s8:=i6 rfl
    have S8:=hide s8
    have i10:(size:Int)≤8:=by omega
    clear i6 i7 s8
    simp only[oc] at x0 x1 x2 x3
    gi_wp2_with fail
    refine ⟨trivial,?_⟩
    gi_wp2_with fail
    refine ⟨trivial,?_⟩
    gi_wp2_with fail
    refine ⟨fun _ h=>(by cases h),?_⟩
    gi_wp2_with fail
    refine ⟨⟨g,size+st,st,some (rawOf page size),pre,rfl,by rw[Int.natCast_add],by omega,st1,st2,by omega,by have:=I5.out;omega,(fun h=>by cases h),(fun c e=>by cases e;exact ⟨by omega,GN.out⟩),hide ?_,hide ?_⟩,?_⟩
    ·have hr:=HR.out
     rw[rest_first hlt,←HST.out] at hr
     exact hr
    ·exact (HI1.out.store HJ.out (Nat.le_refl _) NP.out NM.out (rawOf page size)).below HJ.out (below_alloc _ _)
    ·simp[intOf];omega
   |some c=>
    obtain ⟨c8,cg⟩:=i7 c rfl
    have CG:=hide cg
    have i10:(8:Int)<(size:Int):=by omega
    clear i6 i7 cg
    simp only[oc] at x0 x1 x2 x3
    have cp:=HI1.out.p.cell
    cases ha:alikeB page c (rawOf page size) with
    |true=>
     have HA:=hide ha
     have CA:=fun w=>alike_raw page c (rawOf page size) w
     rw[ha] at CA
     have CA':=hide CA
     clear ha CA
     gi_wp2_with fail
     refine wcall (CA'.out _) ?_
     rintro e w2 ⟨rfl,b2⟩
     have N1:ClsAt (w1.alloc (.cells (oc page (some (rawOf page size))) 80)) w1.heap.size (oc page (some (rawOf page size))):=World.alloc_heap_new w1 _
     have HI2:=hide ((HI1.out.below HJ.out (below_alloc _ _)).below HJ.out b2)
     have N2:=cls_block N1 (b2.block _ (cls_lt N1))
     clear b2 N1 x0 x1 x2 x3 y0 y1 y2 y3 HI1 l1 cp
     have O2:=HI2.out.o
     have x0:=cls_cell O2 0
     have x1:=cls_cell O2 1
     have x2:=cls_cell O2 2
     have x3:=cls_cell O2 3
     have y0:=cls_frozen O2 0
     have y1:=cls_frozen O2 1
     have y2:=cls_frozen O2 2
     have y3:=cls_frozen O2 3
     have l1:=cls_lt O2
     have z0:=cls_cell N2 0
     have z1:=cls_cell N2 1
     have z2:=cls_cell N2 2
     have z3:=cls_cell N2 3
     have l2:=cls_lt N2
     have NN2:=hide N2
     simp only[oc] at x0 x1 x2 x3 z0 z1 z2 z3
     clear O2 N2
     gi_wp2_with fail
     refine ⟨trivial,?_⟩
     gi_wp2_with fail
     refine ⟨fun _ h=>(by cases h),?_⟩
     gi_wp2_with fail
     refine ⟨⟨g,size+st,st,some (rawOf page size),pre,rfl,by rw[Int.natCast_add],by omega,st1,st2,by omega,by have:=I5.out;omega,(fun h=>by cases h),(fun c e=>by cases e;exact ⟨by omega,GN.out⟩),hide ?_,hide ?_⟩,?_⟩
     ·have hr:=HR.out
      rw[rest_alike hlt HA.out,←HST.out] at hr
      exact hr
     ·exact HI2.out.store HJ.out (Nat.le_refl _) NP.out NM.out (rawOf page size)
     ·simp[intOf];omega
    |false=>
     have HA:=hide ha
     have CA:=fun w=>alike_raw page c (rawOf page size) w
     rw[ha] at CA
     have CA':=hide CA
     clear ha CA
     gi_wp2_with fail
     refine wcall (CA'.out _) ?_
     rintro e w2 ⟨rfl,b2⟩
     have N1:ClsAt (w1.alloc (.cells (oc page (some (rawOf page size))) 80)) w1.heap.size (oc page (some (rawOf page size))):=World.alloc_heap_new w1 _
     have HI2:=hide ((HI1.out.below HJ.out (below_alloc _ _)).below HJ.out b2)
     have N2:=cls_block N1 (b2.block _ (cls_lt N1))
     have bn:B≤w1.heap.size:=HI1.out.b
     have BN:=hide bn
     have cp:=HI2.out.p.cell
     clear b2 N1 x0 x1 x2 x3 y0 y1 y2 y3 HI1 l1 bn
     have O2:=HI2.out.o
     have x0:=cls_cell O2 0
     have x1:=cls_cell O2 1
     have x2:=cls_cell O2 2
     have x3:=cls_cell O2 3
     have y0:=cls_frozen O2 0
     have y1:=cls_frozen O2 1
     have y2:=cls_frozen O2 2
     have y3:=cls_frozen O2 3
     have l1:=cls_lt O2
     have z0:=cls_cell N2 0
     have z1:=cls_cell N2 1
     have z2:=cls_cell N2 2
     have z3:=cls_cell N2 3
     have l2:=cls_lt N2
     have NN2:=hide N2
     simp only[oc] at x0 x1 x2 x3 z0 z1 z2 z3
     clear O2 N2
     gi_wp2_with fail
     refine wcall (wide_raw page most c (by omega) hp2 hm2 CG.out _) ?_
     rintro e w3 ⟨rfl,b3⟩
     have HI3:=hide (HI2.out.below HJ.out b3)
     have N3:=cls_block NN2.out (b3.block _ (cls_lt NN2.out))
     have hr:=HR.out
     rw[rest_new hlt HA.out,←HST.out,List.map_cons] at hr
     have hlen:pre.length<(classes page most).length:=by rw[←hr];simp
     obtain ⟨fn,tmps,assign,body,hy,hRr⟩:=HY.out pre (wide page c) w3 HI3.out.j hlen
     have HRR:=hide hRr
     have HR':=hide hr
     have N3':=hide N3
     clear hr hlen hRr b3 HI2 NN2 N3 x0 x1 x2 x3 y0 y1 y2 y3 z0 z1 z2 z3 cp l1 l2
     gi_wp2_with fail
     refine ⟨(fun h=>by cases h),HRR.out.mono ?_⟩
     clear HRR
     rintro e w4 (⟨rfl,j4,k4⟩|⟨rfl,jx4⟩)
     ·have HI4:=hide (HI3.out.kept hB k4 j4)
      have N4:=cls_block N3'.out (k4.2.2.2 _ BN.out ⟨_,N3'.out,oc_size page _⟩)
      clear j4 k4 HI3 N3' hy
      have O4:=HI4.out.o
      have x0:=cls_cell O4 0
      have x1:=cls_cell O4 1
      have x2:=cls_cell O4 2
      have x3:=cls_cell O4 3
      have y0:=cls_frozen O4 0
      have y1:=cls_frozen O4 1
      have y2:=cls_frozen O4 2
      have y3:=cls_frozen O4 3
      have l1:=cls_lt O4
      have z0:=cls_cell N4 0
      have z1:=cls_cell N4 1
      have z2:=cls_cell N4 2
      have z3:=cls_cell N4 3
      have l2:=cls_lt N4
      simp only[oc] at x0 x1 x2 x3 z0 z1 z2 z3
      clear O4 N4
      gi_wp2_with fail
      refine ⟨⟨g,size+st,st,some (rawOf page size),pre++ [wide page c],rfl,by rw[Int.natCast_add],by omega,st1,st2,by omega,by have:=I5.out;omega,(fun h=>by cases h),(fun c e=>by cases e;exact ⟨by omega,GN.out⟩),hide ?_,hide ?_⟩,?_⟩
      ·have hr:=HR'.out
       rw[List.append_assoc]
       exact hr
      ·exact HI4.out.store HJ.out (Nat.le_refl _) NP.out NM.out (rawOf page size)
      ·simp[intOf];omega
     ·have X:=hide jx4
      clear jx4 hy
      gi_wp2_with fail
      refine bodyPost_ret (results_none rfl _ _ _) rfl ?_
      refine ⟨⟨_,rfl⟩, .inr ⟨_,?_,X.out⟩⟩
      rw[←HR'.out]
      exact ⟨_,by rw[List.append_assoc];rfl⟩
  ·have i9:(most:Int)<(size:Int):=by omega
   cases o with
   |none=>have:=i6 rfl;omega
   |some c=>
    obtain ⟨c8,cg⟩:=i7 c rfl
    have CG:=hide cg
    have O1:=HI.out.o
    have x0:=cls_cell O1 0
    have x1:=cls_cell O1 1
    have x2:=cls_cell O1 2
    have x3:=cls_cell O1 3
    simp only[oc] at x0 x1 x2 x3
    clear i6 i7 cg O1
    gi_wp2_with fail
    refine wcall (wide_raw page most c (by omega) hp2 hm2 CG.out _) ?_
    rintro e w3 ⟨rfl,b3⟩
    have HI3:=hide (HI.out.below HJ.out b3)
    have hr:=HR.out
    rw[rest_stop (by omega)] at hr
    have hlen:pre.length<(classes page most).length:=by rw[←hr];simp
    obtain ⟨fn,tmps,assign,body,hy,hRr⟩:=HY.out pre (wide page c) w3 HI3.out.j hlen
    have HRR:=hide hRr
    have HR':=hide hr
    clear hr hlen hRr b3 HI x0 x1 x2 x3 cp cm
    gi_wp2_with fail
    refine ⟨(fun h=>by cases h),HRR.out.mono ?_⟩
    clear HRR
    rintro e w4 (⟨rfl,j4,k4⟩|⟨rfl,jx4⟩)
    ·have X:=hide j4
     clear j4 k4 hy
     gi_wp2_with fail
     go_end0
     exact ⟨⟨_,rfl⟩, .inl ⟨_,by rw[←HR'.out];rfl,X.out⟩⟩
    ·have X:=hide jx4
     clear jx4 hy
     gi_wp2_with fail
     go_end0
     exact ⟨⟨_,rfl⟩, .inr ⟨_,by rw[←HR'.out];exact ⟨[],by simp⟩,X.out⟩⟩
end Go.Proofs.YtdgdhnnakcncoaaGreatDoor.N
namespace Go.Proofs.YtdgdhnnakcncoaaGreatDoor.N
set_option maxHeartbeats 1600000
open Go.ChangeShapes Go.WideShapes Go.ChangeAt Go.RowKit Go.Proofs.Cl Go.Shelf
set_option linter.unusedVariables false
set_option linter.unusedSimpArgs false
attribute [local go_sem] Oper.semAt_some
theorem classes_any (page most:Int) (w:World):Calls Tryz.prog 158 #[.int .i64 page, .int .i64 most] w fun e w'=>
 e= .returned (.func (.func 214) #[] #[.pointer (some ⟨w.heap.size+1,0,none⟩), .pointer (some ⟨w.heap.size,0,none⟩)])∧w'=(w.alloc (.cells #[.int .i64 page] 3)).alloc (.cells #[.int .i64 most] 3):=by
 go_enter Tryz.func158,Tryz.ntmps158
 go_wp2
 go_ret
 exact ⟨rfl,rfl⟩
theorem iter_seq (page most:Nat) (hp:1024≤page) (hp2:page≤65536) (hm:64≤most) (hm2:most≤262144) (n B Bp Bm:Nat) (w:World) (hB:B≤w.heap.size) (xp:Boxed w Bp 3 (.int .i64 page)) (xm:Boxed w Bm 3 (.int .i64 most)):
 SeqC n Tryz.prog 214 #[.pointer (some ⟨Bm,0,none⟩), .pointer (some ⟨Bp,0,none⟩)] (fun c=>#[cv c]) (Keeps B Bp Bm) (fun xs=>xs=classes page most) (fun pre=>pre <+: classes page most) (classes page most).length w:=
 fun l J Jx W hW hJ hY h0=>iter_in page most hp hp2 hm hm2 n B Bp Bm l J Jx W (Nat.le_trans hB hW.size) (boxed_block xp (hW.block _ (box_lt xp))) (boxed_block xm (hW.block _ (box_lt xm))) hJ hY h0
theorem box4_block {W W':World} {b:Nat} (h:Box4 W b) (hb:W'.heap[b]? =W.heap[b]?):Box4 W' b:=by obtain ⟨cs,h1,h2⟩:=h;exact ⟨cs,hb.trans h1,h2⟩
theorem keeps_t {B Bp Bm:Nat} {X Y Z:World} (h:Keeps B Bp Bm X Y) (k:Keeps B Bp Bm Y Z):Keeps B Bp Bm X Z:=
 ⟨Nat.le_trans h.1 k.1,k.2.1.trans h.2.1,k.2.2.1.trans h.2.2.1,fun b hb x=>(k.2.2.2 b hb (box4_block x (h.2.2.2 b hb x))).trans (h.2.2.2 b hb x)⟩
theorem keeps_of {F:Nat→Prop} {B Bp Bm:Nat} {W W':World} (h:Kept F W W') (lp:Bp<W.heap.size) (lm:Bm<W.heap.size) (hp:¬F Bp) (hm:¬F Bm) (hb:∀b,B≤b→Box4 W b→¬F b):Keeps B Bp Bm W W':=
 ⟨h.size,h.block _ lp hp,h.block _ lm hm,fun b hB x=>h.block b (by obtain ⟨cs,h1,_⟩:=x;exact (Array.getElem?_eq_some_iff.1 h1).1) (hb b hB x)⟩
theorem not_box {W:World} {b:Nat} {o:Obj} (h:W.heap[b]? =some o) (hc:o.isCells=false):¬Box4 W b:=fun ⟨cs,h1,_⟩=>by rw[h] at h1;cases h1;cases hc
theorem cls_kept {F:Nat→Prop} {W W':World} {b:Nat} {cs:Array Value} (h:ClsAt W b cs) (k:Kept F W W') (hb:¬F b):ClsAt W' b cs:=cls_block h (k.block _ (cls_lt h) hb)
def cc (c:Cls):Array Value:=#[.int .i64 (c.size:Nat), .int .i64 (c.pages:Nat), .int .i64 (c.slots:Nat), .int .u32 (c.magic:Nat)]
structure FI (N:Nat) (w:World) (sz:Nat) (pre:List Cls) (W:World):Prop where
 s:Boxed W N 3 (.int .i64 sz)
 n:Boxed W (N+1) 3 (.int .i64 (pre.length:Nat))
 c:∃cs:Array Value,ClsAt W (N+2) cs∧cs.size=4
 small:∀c∈pre,c.size<sz
 b:Below N w W
structure FX (N:Nat) (w:World) (sz:Nat) (pre:List Cls) (W:World):Prop where
 s:Boxed W N 3 (.int .i64 sz)
 n:Boxed W (N+1) 3 (.int .i64 (pre.length:Nat))
 c:∃p c,pre=p++ [c]∧ClsAt W (N+2) (cc c)∧(∀c∈p,c.size<sz)∧sz≤c.size
 b:Below N w W
theorem FI.kept {F:Nat→Prop} {N:Nat} {w:World} {sz:Nat} {pre:List Cls} {W W':World} (h:FI N w sz pre W) (k:Kept F W W') (hF:∀b,F b→N+3≤b):FI N w sz pre W':=by
 obtain ⟨cs,h1,h2⟩:=h.c
 exact ⟨boxed_kept h.s k (fun f=>by have:=hF _ f;omega),boxed_kept h.n k (fun f=>by have:=hF _ f;omega),⟨cs,cls_kept h1 k (fun f=>by have:=hF _ f;omega),h2⟩,h.small,below_kept h.b k (fun b f=>by have:=hF _ f;omega) (by have:=box_lt h.s;omega)⟩
theorem FX.kept {F:Nat→Prop} {N:Nat} {w:World} {sz:Nat} {pre:List Cls} {W W':World} (h:FX N w sz pre W) (k:Kept F W W') (hF:∀b,F b→N+3≤b):FX N w sz pre W':=by
 obtain ⟨p,c,h1,h2,h3,h4⟩:=h.c
 exact ⟨boxed_kept h.s k (fun f=>by have:=hF _ f;omega),boxed_kept h.n k (fun f=>by have:=hF _ f;omega),⟨p,c,h1,cls_kept h2 k (fun f=>by have:=hF _ f;omega),h3,h4⟩,below_kept h.b k (fun b f=>by have:=hF _ f;omega) (by have:=box_lt h.s;omega)⟩
end Go.Proofs.YtdgdhnnakcncoaaGreatDoor.N
namespace Go.Proofs.YtdgdhnnakcncoaaGreatDoor.N
set_option maxHeartbeats 1600000
open Go.ChangeShapes Go.WideShapes Go.ChangeAt Go.RowKit Go.Proofs.Cl Go.Shelf
set_option linter.unusedVariables false
set_option linter.unusedSimpArgs false
attribute [local go_sem] Oper.semAt_some
def flatC (l:List Cls):List Value:=l.flatMap fun c=>[.int .i64 (c.size:Nat), .int .i64 (c.pages:Nat), .int .i64 (c.slots:Nat), .int .u32 (c.magic:Nat)]
theorem flatC_len (l:List Cls):(flatC l).length=l.length * 4:=by
 induction l with
 |nil=>rfl
 |cons a l ih=>simp only[flatC,List.flatMap_cons,List.length_append,List.length_cons,List.length_nil] at ih ⊢;omega
theorem flatC_append (a b:List Cls):flatC (a++b)=flatC a++flatC b:=by simp[flatC]
theorem infoC:(Tryz.prog.info? 80).map (fun i=>(i.zero,i.size,i.bytes))=some (some (.agg #[.int .i64 0, .int .i64 0, .int .i64 0, .int .u32 0]),4,32):=by kernel_rfl
theorem flatC_one' (l:List Cls):∀u∈flatC l,u.oneCell'=true:=by
 intro u hu
 simp only[flatC,List.mem_flatMap] at hu
 obtain ⟨c,_,h⟩:=hu
 simp at h
 rcases h with rfl|rfl|rfl|rfl<;>rfl
theorem own_eq {g0 g n c:Nat} (h:(Value.slice (some ⟨g0,0,none⟩) n c).ownBlock=some g):g0=g:=by simpa [Value.ownBlock] using h
structure AI (M N page most Bp Bm:Nat) (w:World) (pre:List Cls) (W:World):Prop where
 row:∃v,Boxed W N 76 v∧W.ownsRow M 80 4 v (pre.length+1) (flatC (Go.Proofs.Cl.zeroC::pre))∧∀g,v.ownBlock=some g→g<N∨N+3≤g∧¬Box4 W g
 b:Below M w W
 p:Boxed W Bp 3 (.int .i64 page)
 m:Boxed W Bm 3 (.int .i64 most)
theorem owns_kept {F:Nat→Prop} {W W':World} {M e sz n:Nat} {v:Value} {xs:List Value} (h:W.ownsRow M e sz v n xs) (k:Kept F W W') (hF:∀g,v.ownBlock=some g→¬F g):W'.ownsRow M e sz v n xs:=by
 refine ⟨h.1,?_⟩
 rcases h.2 with ⟨a,b⟩|⟨g,cap,cur,a,b,c,d⟩
 ·exact .inl ⟨a,b⟩
 ·exact .inr ⟨g,cap,cur,a,b,kept_at k c (hF g (by rw[a];rfl)),d⟩
theorem AI.kept {F:Nat→Prop} {M N page most Bp Bm:Nat} {w:World} {pre:List Cls} {W W':World} (h:AI M N page most Bp Bm w pre W) (k:Kept F W W') (hM:M≤N) (hp:Bp<N) (hm:Bm<N) (hF:∀b,F b→N+1≤b∧(b<N+3∨Box4 W b)):AI M N page most Bp Bm w pre W':=by
 obtain ⟨v,h1,h2,h3⟩:=h.row
 have nf:∀g,v.ownBlock=some g→¬F g:=fun g hg f=>by
  have:=hF g f
  rcases h3 g hg with z|z
  ·omega
  ·rcases this.2 with y|y
   ·omega
   ·exact z.2 y
 refine ⟨⟨v,boxed_kept h1 k (fun f=>by have:=hF _ f;omega),owns_kept h2 k nf,fun g hg=> ?_⟩,below_kept h.b k (fun b f=>by have:=hF _ f;omega) (by have:=box_lt h1;omega),boxed_kept h.p k (fun f=>by have:=hF _ f;omega),boxed_kept h.m k (fun f=>by have:=hF _ f;omega)⟩
 rcases h3 g hg with z|z
 ·exact .inl z
 ·refine .inr ⟨z.1,fun hb=>z.2 ?_⟩
  have hl:=(h2.lt g hg).2
  exact box4_block hb (k.block g hl (nf g hg)).symm
set_option maxRecDepth 100000 in
set_option maxHeartbeats 4000000 in
theorem appendSeq_any (page most:Nat) (hp:1024≤page) (hp2:page≤65536) (hm:64≤most) (hm2:most≤262144) (M Bp Bm:Nat) (w:World) (hM:M≤w.heap.size) (xp:Boxed w Bp 3 (.int .i64 page)) (xm:Boxed w Bm 3 (.int .i64 most)) (v0:Value)
 (hv0:w.ownsRow M 80 4 v0 1 (flatC [Go.Proofs.Cl.zeroC])):
 Calls Tryz.prog 157 #[v0, .func (.func 214) #[] #[.pointer (some ⟨Bm,0,none⟩), .pointer (some ⟨Bp,0,none⟩)]] w fun e w'=>
  ∃v,e= .returned v∧w'.ownsRow M 80 4 v (make page most).length (flatC (make page most))∧Below M w w':=by
 obtain ⟨i0,hi,hz0,hz1,hz2⟩:=info_parts infoC
 obtain ⟨g0,cap0,rfl⟩:=ownsRow_succ hv0
 have len:=classes_len page most
 have lb:=box_lt xp
 have lm:=box_lt xm
 refine (callsIn_wide (n:=3)).1 ?_
 refine callsIn_of_wp_marks Tryz.func157 rfl trivial ?_ rfl
 simp only[Tryz.ntmps157,List.size_toArray,List.length_cons,List.length_nil,Nat.reduceAdd,Nat.reduceSub,Array.replicate_succ,Array.replicate_zero,List.push_toArray,List.append_toArray,List.nil_append,List.cons_append]
 gi_wp2_with fail
 obtain ⟨N,hN⟩:∃N,w.heap.size=N:=⟨_,rfl⟩
 obtain ⟨w5,h5⟩:∃w5,w.alloc (.cells #[.slice (some ⟨g0,0,none⟩) 1 cap0] 76)=w5:=⟨_,rfl⟩
 have s5:w5.heap.size=N+1:=by rw[←h5];simp[hN]
 have b5:Below M w w5:=by rw[←h5];exact (Below.refl _ w).alloc hM _
 have q0:Boxed w5 N 76 (.slice (some ⟨g0,0,none⟩) 1 cap0):=by rw[←h5,←hN];exact Boxed.new w _ _
 have q1:w5.ownsRow M 80 4 (.slice (some ⟨g0,0,none⟩) 1 cap0) 1 (flatC [Go.Proofs.Cl.zeroC]):=by rw[←h5];exact hv0.alloc _
 have q3:Boxed w5 Bp 3 (.int .i64 page):=by rw[←h5];exact xp.alloc _
 have q4:Boxed w5 Bm 3 (.int .i64 most):=by rw[←h5];exact xm.alloc _
 have seq:=iter_seq page most hp hp2 hm hm2 (3 - 1) (N+1) Bp Bm w5 (by omega) q3 q4
 have f0:AI M N page most Bp Bm w [] w5:=⟨⟨_,q0,q1,fun g hg=> .inl (by rw[←own_eq hg];have:=(hv0.lt g0 rfl).2;omega)⟩,b5,q3,q4⟩
 rw[h5,hN]
 refine range_law (w:=w5) rfl (enters_of Tryz.func214 (by kernel_rfl) rfl) seq keeps_t ?hKb (Below.refl _ _) (fun _=>rfl) (AI M N page most Bp Bm w) (fun _ _ _=>False) ?hI (fun _ _ _ _ h _=>h) f0 ?round ?done (fun _ _ _ _ h _=>h.elim)
 case hKb=>
  intro W o' hl hr
  rw[s5] at hl hr ⊢
  refine keeps_of (Kept.put (F:=fun b=>b=N+2) W (N+1+1) o' rfl) (by omega) (by omega) (by omega) (by omega) ?_
  rintro b _ ⟨cs,h1,_⟩ rfl
  cases hr _ h1
 case hI=>
  intro s A A' h k
  rw[s5] at k
  exact h.kept k (by omega) (by omega) (by omega) (fun b hb=>by rcases hb with ⟨a,b|b⟩;exact ⟨a, .inl (by omega)⟩;exact ⟨a, .inr b⟩)
 case round=>
  rintro pre x W ⟨r0,hr0⟩ hd0 h hlen
  rw[s5] at hr0 hd0 ⊢
  have hlW:N+2<W.heap.size:=(Array.getElem?_eq_some_iff.1 hr0).1
  have H:=hide h
  have HR0:=hide hr0
  have HD0:=hide hd0
  clear h hr0 hd0 seq f0 q0 q1 q3 q4 b5 h5
  simp only[cv]
  gi_wp2_with fail
  refine ⟨(KeepsOthers.alloc _ _).from _,fun r=> ?_⟩
  obtain ⟨v,hv,hrow,hfar⟩:=H.out.row
  obtain ⟨g,cap,rfl⟩:=ownsRow_succ hrow
  obtain ⟨W1,hW1⟩:∃W1,W.alloc (.cells #[.int .i64 (x.size:Nat), .int .i64 (x.pages:Nat), .int .i64 (x.slots:Nat), .int .u32 (x.magic:Nat)] 80)=W1:=⟨_,rfl⟩
  obtain ⟨W2,hW2⟩:∃W2,W1.putObj (N+1+1) (.loop r)=W2:=⟨_,rfl⟩
  have s1:W1.heap.size=W.heap.size+1:=by rw[←hW1];simp
  have k1:Kept (fun b=>b=N+2) W W1:=by rw[←hW1];exact Kept.of_below (below_alloc _ _)
  have k2:Kept (fun b=>b=N+2) W1 W2:=by rw[←hW2];exact Kept.put W1 (N+1+1) _ rfl
  have kk:=k1.trans k2 (fun _ _ h=>h)
  have hng:g≠N+2:=fun e=>by
   rcases hfar g rfl with z|z<;>omega
  have hng1:g≠N+1:=fun e=>by
   rcases hfar g rfl with z|z<;>omega
  have hv2:=boxed_kept hv kk (by omega)
  have hrow2:=owns_kept hrow kk (fun g' e=>by rw[←own_eq e];exact hng)
  have c1:ClsAt W1 W.heap.size (cc x):=by rw[←hW1];exact World.alloc_heap_new W _
  have c2:=cls_kept c1 k2 (by omega)
  have hB2:=below_kept H.out.b kk (fun b hb=>by omega) (by omega)
  have s2:=hB2.size
  have hs2:=k2.size
  rw[hW1,hW2]
  have HL2:Hid (∃r,W2.heap[N+2]? =some (.loop r)):=⟨r,by rw[←hW2];exact World.putObj_heap_same (by rw[s1];omega)⟩
  have cb:=hv2.cell
  have x0:=cls_cell c2 0
  have x1:=cls_cell c2 1
  have x2:=cls_cell c2 2
  have x3:=cls_cell c2 3
  simp only[cc] at x0 x1 x2 x3
  have pl:pre.length<most/8+2:=by omega
  have KK:=hide kk
  have HV2:=hide hv2
  have HROW2:=hide hrow2
  have HROW:=hide hrow
  have HV:=hide hv
  have HFAR:=hide hfar
  have HB2:=hide hB2
  have MM:M≤W2.heap.size:=by omega
  clear hW1 hW2 k1 k2 kk hv2 hrow2 hrow hv hfar hB2 c1 c2
  gi_wp2_with (gi_at_builtin;refine wpListIn_append_own _ rfl _ _ 76 rfl M 80 i0 (.agg #[.int .i64 0, .int .i64 0, .int .i64 0, .int .u32 0]) 4 32 Tryz.underlying76 hi hz0 hz1 hz2 rfl (by decide) _ _ _ rfl (HROW2.out.alloc _) ⟨W2.heap.size,0,none⟩ 1 1 (flatC [x]) rfl (flatC_len [x]) (World.news_of_block (World.alloc_heap_new W2 _)) (flatC_one' [x]) (by unfold maxLen;omega) (by omega) (by simp;omega) ?_;intro v' w1 hown' hgrow _;obtain ⟨g',cap',rfl⟩:=ownsRow_succ hown';obtain ⟨hv1,hv3,hr3,hk3,hb3⟩:=HV2.out.appended (by decide) HROW2.out MM (by omega) hown' hgrow;have hc1:=hv1.cell;have hf1:=hv1.frozen)
  have k3:Kept (fun b=>b=g∨b=N) W2 (w1.setCell ⟨N,0,none⟩ (.slice (some ⟨g',0,none⟩) (pre.length+1+1) cap')):=
   ((Kept.of_below (below_alloc W2 _)).trans (Kept.of_grown hgrow (fun k e=> .inl (own_eq e).symm)) (fun _ _ h=>h)).trans (kept_set w1 N 0 _ (.inr rfl)) (fun _ _ h=>h)
  have k4:Kept (fun b=>b=g∨b=N∨b=N+2) W _:=(KK.out.mono (fun b h=> .inr (.inr h))).trans k3 (fun _ _ h=>by rcases h with h|h;exact .inl h;exact .inr (.inl h))
  have hgp:g≠Bp:=fun e=>H.out.p.not_row (by decide) HROW.out (by rw[←e];rfl)
  have hgm:g≠Bm:=fun e=>H.out.m.not_row (by decide) HROW.out (by rw[←e];rfl)
  have lp:=box_lt H.out.p
  have ln:=box_lt H.out.m
  have d3:(w1.setCell ⟨N,0,none⟩ (.slice (some ⟨g',0,none⟩) (pre.length+1+1) cap')).heap[N+1]? =some (.deferred (some [])):=kept_at k4 HD0.out (by omega)
  have l3:∃r,(w1.setCell ⟨N,0,none⟩ (.slice (some ⟨g',0,none⟩) (pre.length+1+1) cap')).heap[N+2]? =some (.loop r):=by
   have hl2:∃r,W2.heap[N+2]? =some (.loop r):=HL2.out
   obtain ⟨r,hl2⟩:=hl2
   exact ⟨r,kept_at k3 hl2 (by omega)⟩
  obtain ⟨r3,l3⟩:=l3
  have e3:flatC (Go.Proofs.Cl.zeroC::(pre++ [x]))=flatC (Go.Proofs.Cl.zeroC::pre)++flatC [x]:=by rw[←List.cons_append,flatC_append]
  refine ⟨hk3.from _,?_,⟨⟨_,hv3,?_,?_⟩,HB2.out.trans hb3,boxed_kept H.out.p k4 (by omega),boxed_kept H.out.m k4 (by omega)⟩⟩
  ·refine keeps_of k4 lp ln (by omega) (by omega) (fun b hb hx e=> ?_)
   rcases e with e|e|e
   ·subst e
    rcases HFAR.out b rfl with z|z
    ·omega
    ·exact z.2 hx
   ·omega
   ·subst e;exact not_box HR0.out rfl hx
  ·rw[e3,List.length_append,List.length_singleton];exact hr3
  ·intro b hb
   have e:=own_eq hb
   subst e
   rcases hr3.2 with ⟨z,_⟩|⟨q,qc,cur,q1,q2,q3,q4,q5,q6,q7⟩
   ·cases z
   ·obtain ⟨rfl,_,rfl⟩:g'=q∧pre.length+1+1=pre.length+1+1∧cap'=qc:=by simp at q1;exact ⟨q1.1,rfl,q1.2⟩
    have n0:g'≠N:=fun e=>hv3.not_row (by decide) hr3 (by rw[←e];rfl)
    have n1:g'≠N+1:=fun e=>by have h:=d3;rw[←e,q3] at h;cases h
    have n2:g'≠N+2:=fun e=>by have h:=l3;rw[←e,q3] at h;cases h
    by_cases hlt:g'<N
    ·exact .inl hlt
    ·refine .inr ⟨by omega,fun ⟨cs,c1,c2⟩=> ?_⟩
     rw[q3] at c1
     cases c1
     omega
 case done=>
  rintro xs W rfl h hd
  rw[s5] at hd ⊢
  obtain ⟨v,hv,hrow,hfar⟩:=h.row
  obtain ⟨g,cap,rfl⟩:=ownsRow_succ hrow
  have cb:=hv.cell
  have hng1:g≠N+1:=fun e=>by
   rcases hfar g rfl with z|z<;>omega
  have k6:=Kept.put (F:=fun b=>b=N+1) W (N+1) (.deferred none) rfl
  have r6:=owns_kept hrow k6 (fun g' e=>by rw[←own_eq e];exact hng1)
  have b6:=below_kept h.b k6 (fun b hb=>by omega) (by have:=box_lt hv;omega)
  have R6:=hide r6
  have B6:=hide b6
  have HD:=hide hd
  clear r6 b6 k6 hd h seq f0 q0 q1 q3 q4 b5 h5 hrow hfar hv
  gi_wp2_with fail
  refine ⟨by simp, .inl ⟨_,_,rfl,run_takeDeferred HD.out,?_⟩⟩
  exact ⟨_,results_tmp (t:=4) rfl _ _ _, .slice (some ⟨g,0,none⟩) _ cap,rfl,R6.out,B6.out⟩
end Go.Proofs.YtdgdhnnakcncoaaGreatDoor.N
namespace Go.Proofs.YtdgdhnnakcncoaaGreatDoor.N
set_option maxHeartbeats 1600000
open Go.ChangeShapes Go.WideShapes Go.ChangeAt Go.RowKit Go.Proofs.Cl Go.Shelf
set_option linter.unusedVariables false
set_option linter.unusedSimpArgs false
def okB (page most:Int):Bool:=powerB page 1024 65536&&powerB most 64 (4 * page)
theorem okB_page {page most:Int} (h:okB page most=true):1024≤page∧page≤65536∧64≤most∧most≤4 * page∧Cl.pow page.toNat=true∧Cl.pow most.toNat=true:=by
 simp[okB,powerB] at h
 obtain ⟨⟨⟨a,b⟩,c⟩,⟨d,e⟩,f⟩:=h
 exact ⟨a,b,d,e,c,f⟩
theorem make_ok (page most:Nat) (h:okB page most=true) (w:World):
 Calls Tryz.prog 97 #[.int .i64 page, .int .i64 most] w fun e w'=>∃v,e= .returned (.tuple #[v, .int .i64 0])∧w'.ownsRow w.heap.size 80 4 v (make page most).length (flatC (make page most))∧Below w.heap.size w w':=by
 obtain ⟨b1,b2,b3,b4,_,_⟩:=okB_page h
 have h1:powerB page 1024 65536=true:=by simp[okB] at h;exact h.1
 have h2:powerB most 64 (4 * page)=true:=by simp[okB] at h;exact h.2
 have c1:=fun w=>power_core page 1024 65536 (by omega) (by omega) w
 have c2:=fun w=>power_core most 64 (4 * page) (by omega) (by omega) w
 rw[h1] at c1
 rw[h2] at c2
 have C1:=hide c1
 have C2:=hide c2
 clear h h1 h2 c1 c2
 go_enter Tryz.func97,Tryz.ntmps97
 go_wp2_with fail
 refine (C1.out _).mono ?_
 rintro e w' ⟨rfl,hw'⟩;rw[hw'];clear hw' w' C1
 go_wp2_with fail
 refine (C2.out _).mono ?_
 rintro e w' ⟨rfl,hw'⟩;rw[hw'];clear hw' w' C2
 go_wp2_with fail
 refine (classes_any _ _ _).mono ?_
 rintro e w3 ⟨rfl,h3⟩
 have o1:(w.alloc (.cells #[.int .i64 0, .int .i64 0, .int .i64 0, .int .u32 0] 80)).ownsRow w.heap.size 80 4 (.slice (some ⟨w.heap.size,0,none⟩) 1 1) 1 (flatC [Go.Proofs.Cl.zeroC]):=
  ⟨rfl, .inr ⟨_,1,_,rfl,Nat.le_refl _,World.alloc_heap_new w _,by omega,by unfold maxLen;omega,rfl,rfl⟩⟩
 have b0:Below w.heap.size w w3:=by
  rw[h3];exact ((below_alloc w _).alloc (by simp) _).alloc (by simp;omega) _
 have s3:w3.heap.size=w.heap.size+3:=by rw[h3];simp
 have o3:w3.ownsRow w.heap.size 80 4 (.slice (some ⟨w.heap.size,0,none⟩) 1 1) 1 (flatC [Go.Proofs.Cl.zeroC]):=by
  rw[h3];exact (o1.alloc _).alloc _
 have q1:Boxed w3 (w.heap.size+1) 3 (.int .i64 (page:Int)):=by
  have:=(Boxed.new (w.alloc (.cells #[.int .i64 0, .int .i64 0, .int .i64 0, .int .u32 0] 80)) 3 (.int .i64 (page:Int))).alloc (.cells #[.int .i64 (most:Int)] 3)
  rw[h3];simp only[World.size_alloc] at this;exact this
 have q2:Boxed w3 (w.heap.size+2) 3 (.int .i64 (most:Int)):=by
  have:=Boxed.new ((w.alloc (.cells #[.int .i64 0, .int .i64 0, .int .i64 0, .int .u32 0] 80)).alloc (.cells #[.int .i64 (page:Int)] 3)) 3 (.int .i64 (most:Int))
  rw[h3];simp only[World.size_alloc] at this;exact this
 have A:=hide (appendSeq_any page most (by omega) (by omega) (by omega) (by omega) w.heap.size (w.heap.size+1) (w.heap.size+2) w3 (by omega) q1 q2 _ o3)
 have B0:=hide b0
 clear h3 o1 o3 q1 q2 b0
 go_wp2_with fail
 refine A.out.mono ?_
 rintro e w4 ⟨v,rfl,o4,b4⟩
 have B4:=hide (B0.out.trans b4)
 have O4:=hide o4
 obtain ⟨g,cap,rfl⟩:=ownsRow_succ o4
 clear A o4 b4 B0
 go_wp2_with fail
 go_ret2
 exact ⟨_,rfl,O4.out,B4.out⟩
theorem table_any (w:World):Calls Tryz.prog 36 #[] w fun e w'=>∃g cap,e= .returned (.slice (some ⟨g,0,none⟩) 68 cap)∧w'.ownsRow w.heap.size 80 4 (.slice (some ⟨g,0,none⟩) 68 cap) 68 (flatC (Go.Proofs.Cl.zeroC::table))∧Below w.heap.size w w':=by
 have M:=hide (make_ok 8192 32768 (by decide+kernel) w)
 go_enter Tryz.func36,Tryz.ntmps36
 go_wp2_with fail
 refine M.out.mono ?_
 rintro e w1 ⟨v,rfl,o1,b1⟩
 rw[make_eq,List.length_cons,table_len] at o1
 obtain ⟨g,cap,rfl⟩:=ownsRow_succ o1
 have O1:=hide o1
 have B1:=hide b1
 clear M o1 b1
 go_wp2_with fail
 go_ret
 exact ⟨g,cap,rfl,O1.out,B1.out⟩
end Go.Proofs.YtdgdhnnakcncoaaGreatDoor.N
