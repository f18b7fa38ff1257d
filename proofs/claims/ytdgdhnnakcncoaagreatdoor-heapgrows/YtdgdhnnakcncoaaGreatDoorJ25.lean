/- Of the proof of HeapClasses: texts RQf. -/
import Derived.Test.YtdgdhnnakcncoaaGreatDoorJ23
import Derived.Test.YtdgdhnnakcncoaaGreatDoorJ03
import Derived.Test.YtdgdhnnakcncoaaGreatDoorJ24
import Derived.RangeFuncCalls
namespace Go.Proofs.YtdgdhnnakcncoaaGreatDoor
set_option maxHeartbeats 1600000
open Go.Proofs.Bt Go.Proofs.Rx Go.Proofs.Pk
set_option linter.unusedVariables false
set_option linter.unusedSimpArgs false
def fillS (st:Nat→Nat) (B i q:Nat):Nat:=if B≤q∧q<B+ i∧2≤st q then 1 else st q
def sw (x q:Nat):Nat:=if x.testBit q=true then 2 else 0
theorem andn_63 (p:Nat):andn p 63=p/64 * 64:=by
 apply Nat.eq_of_testBit_eq
 intro k
 rw[andn_bit,show p/64 * 64=(p/2^6) <<< 6 by rw[Nat.shiftLeft_eq],Nat.testBit_shiftLeft,bit_down,show (63:Nat)=2^6 - 1 by decide,Nat.testBit_two_pow_sub_one]
 by_cases z:k<6
 ·rw[decide_eq_true z,decide_eq_false (by omega)];simp
 ·rw[decide_eq_false z,decide_eq_true (by omega),show 6+(k - 6)=k by omega];simp
def wS (st:Nat→Nat) (B x y s q:Nat):Nat:=if B≤q∧x.testBit (q - B)=true∧y.testBit (q - B)=false then s else st q
theorem wS_none (st:Nat→Nat) (B x s:Nat):wS st B x x s=st:=by
 funext q
 unfold wS
 split
 ·rename_i h
  rw[h.2.1] at h
  cases h.2.2
 ·rfl
theorem wS_next {st:Nat→Nat} {B x y s a n:Nat} (hy:∀k,y.testBit k=true→x.testBit k=true) (hr:Row y a n) (y':Nat) (h':∀k,y'.testBit k=(y.testBit k&& !decide (a≤k∧k<a+n))):wS st B x y' s=setSt (wS st B x y s) (B+a) (B+a+n) s:=by
 funext q
 by_cases z:B+a≤q∧q<B+a+n
 ·rw[setSt_in z]
  have h1:=hr (q - B - a) (by omega)
  rw[show a+(q - B - a)=q - B by omega] at h1
  unfold wS
  rw[if_pos ⟨by omega,hy _ h1,by rw[h',decide_eq_true (by omega)];simp⟩]
 ·rw[setSt_out z]
  unfold wS
  by_cases e:B≤q
  ·have e2:y'.testBit (q - B)=y.testBit (q - B):=by rw[h',decide_eq_false (by omega)];simp
   rw[e2]
  ·rw[if_neg (fun q=>e q.1),if_neg (fun q=>e q.1)]
theorem wS_row {st:Nat→Nat} {B x y s a n:Nat} (hr:Row y a n) {q:Nat} (h1:B+a≤q) (h2:q<B+a+n):wS st B x y s q=st q:=by
 unfold wS
 have h:=hr (q - B - a) (by omega)
 rw[show a+(q - B - a)=q - B by omega] at h
 rw[if_neg (fun z=>by rw[h] at z;cases z.2.2)]
theorem lft_sub {x:Nat}:∀(j k:Nat),(lft x j).testBit k=true→x.testBit k=true
 |0,k,h=>h
 |j+1,k,h=>by
  have h':(nx1 (lft x j)).testBit k=true:=h
  rw[nx1_bit,Bool.and_eq_true] at h'
  exact lft_sub j k h'.1
theorem inT_run {st:Nat→Nat} {p n:Nat} (hn:1≤n) (hp:p+n≤34359738368) (h:∀q,p≤q→q<p+n→st q≠0):InT st p n:=by
 refine ⟨hn,hp,?_⟩
 show cnt (inU st) p n=n
 exact cnt_full.2 fun k hk=>by
  unfold inU
  exact decide_eq_true (h _ (by omega) (by omega))
theorem tl_run_free {st:Nat→Nat} {p n:Nat} (h:∀q,p≤q→q<p+n→2≤st q):(tl st p n).f=n:=by
 show cnt (fre st) p n=n
 exact cnt_full.2 fun k hk=>by
  unfold fre
  exact decide_eq_true (h _ (by omega) (by omega))
end Go.Proofs.YtdgdhnnakcncoaaGreatDoor
namespace Go.Proofs.YtdgdhnnakcncoaaGreatDoor
open Go.ChangeShapes Go.WideShapes Go.ChangeAt Go.RowKit Go.Proofs.Bt Go.Shelf
set_option linter.unusedVariables false
set_option linter.unusedSimpArgs false
theorem wcall_r {m r:Nat} {P:Program} {f:FuncId} {args:Array Value} {w:World} {R R':Ending→World→Prop} (h:Calls P f args w R) (hr:∀e w',R e w'→R' e w'):
 Fence.wide.fn f∧CallsIn (Fence.wide.inRound r) m P f args w R':=⟨trivial,((callsIn_wide.2 h).mono hr).inRound r⟩
def Two (S:Nat) (W W':World):Prop:=∀k,k=S∨k=S+1→∀o,W.heap[k]? =some o→W'.heap[k]? =some o
theorem Two.refl (S:Nat) (W:World):Two S W W:=fun _ _ _ h=>h
theorem Two.trans {S:Nat} {X Y Z:World} (h:Two S X Y) (k:Two S Y Z):Two S X Z:=fun i hi o ho=>k i hi o (h i hi o ho)
theorem Two.kept {F:Nat→Prop} {S:Nat} {W W':World} (k:Kept F W W') (h0:¬F S) (h1:¬F (S+1)):Two S W W':=fun i hi o ho=>kept_at k ho (by rcases hi with rfl|rfl<;>assumption)
def endT {α:Type} (S:Nat) (I:List α→World→Prop) (xs:List α) (W₁:World):Exit→Act→World→Prop
 | .normal,_,W'=>Two S W₁ W'∧I xs W'
 |_,_,_=>False
theorem range_two {α:Type} {P:Program} {g:Operand} {ps:Array Tmp} {assign body:Code} {Q:Exit→Act→World→Prop} {a:Act} {w:World} {n:Nat}
 {gf:Nat} {lb:Array Value} (hg:a.eval g= .func (.func gf) #[] lb) (eg:∀args w,(callFunc gf args).run P w= .ok (.enter gf args) w)
 {encs:α→Array Value} {Rd:World→Prop} {L:List α} (hseq:SeqB (n - 1) P gf lb encs Rd L) (hps:∀x,(encs x).size=ps.size)
 (I:List α→World→Prop)
 (hR:∀s A,I s A→Rd A)
 (hI:∀s A A',I s A→Kept (fun b=>b=w.heap.size∨b=w.heap.size+1) A A'→I s A') (h0:I [] w)
 (hround:∀(pre:List α) (x:α) (W:World),(∃r,W.heap[w.heap.size+1]? =some (.loop r))→W.heap[w.heap.size]? =some (.deferred (some []))→I pre W→pre++ [x] <+: L→
  assign.wpIn (Fence.wide.inRound (w.heap.size+1)) (n - 1 - 1) P (Exit.then (fun a₁ W₁=>Two w.heap.size W W₁∧
   ∀r,body.wpIn (Fence.wide.inRound (w.heap.size+1)) (n - 1 - 1) P (endT w.heap.size I (pre++ [x]) (W₁.putObj (w.heap.size+1) (.loop r))) a₁ (W₁.putObj (w.heap.size+1) (.loop r))) (fun _ _ _=>False))
   {tmps:=(ps.zip (encs x)).foldl (fun t (p,v)=>t.setIfInBounds p v) a.tmps,defers:=[]} W)
 (hdone:∀(W:World),I L W→W.heap[w.heap.size]? =some (.deferred (some []))→Q .normal {a with defers:={target:= .collected w.heap.size,args:=#[]}::a.defers} W):
 (Code.rangeFunc g ps assign body).wpIn Fence.wide n P Q a w:=by
 refine wpIn_rangeFunc fun fn hfn=> ?_
 generalize hrec:(fun st pe=>({state:=st,pending:=pe,fn,tmps:=a.tmps,params:=ps,assign,body,defers:=w.heap.size}:Loop))=rec
 obtain ⟨W1,hW1⟩:∃W1,(w.alloc (.deferred (some []))).alloc (.loop (rec .ready none))=W1:=⟨_,rfl⟩
 have hb1:Below w.heap.size w W1:=by rw[←hW1];exact ((Below.refl _ w).alloc (Nat.le_refl _) _).alloc (by simp) _
 have hl1:W1.heap[w.heap.size+1]? =some (.loop (rec .ready none)):=by
  have:=World.alloc_heap_new (w.alloc (.deferred (some []))) (.loop (rec .ready none))
  rw[World.size_alloc,hW1] at this;exact this
 have hd1:W1.heap[w.heap.size]? =some (.deferred (some [])):=by
  rw[←hW1];exact (Below.heap_alloc _ _ _ (by simp)).trans (World.alloc_heap_new w _)
 refine ⟨w.heap.size+1,[{target:= .collected w.heap.size,args:=#[]}],W1,{target:= .fn (.func gf) lb,args:=#[.func (.yield (w.heap.size+1)) #[] #[]]},W1,gf,#[.func (.yield (w.heap.size+1)) #[] #[]]++lb,W1,?_,?_,fun _ _=>trivial,?_,(fun h=>by cases h),?_⟩
 ·rw[←hW1,←hrec];exact run_enterLoop_outer _ _ _ _ _
 ·simp only[resolve,hg];simp[go_sem]
 ·simp[invoke,go_sem,eg]
 refine (hseq (w.heap.size+1)
  (fun pre W=>I pre W∧W.heap[w.heap.size+1]? =some (.loop (rec .ready none))∧W.heap[w.heap.size]? =some (.deferred (some [])))
  (fun pre W=>False)
  W1 (fun s A h=>hR s A h.1) ?_ ?_ ⟨hI _ _ _ h0 (Kept.of_below hb1),hl1,hd1⟩).mono ?_
 ·rintro s A A' ⟨hi,hl,hd⟩ hk
  exact ⟨hI _ _ _ hi (Kept.of_below hk),(hk.block _ (Array.getElem?_eq_some_iff.1 hl).1).trans hl,(hk.block _ (Array.getElem?_eq_some_iff.1 hd).1).trans hd⟩
 ·rintro pre x W hlen ⟨hi,hl,hd⟩
  have hy:=run_yield (P:=P) (args:=encs x) hl (by rw[←hrec];exact hps x)
  rw[←hrec] at hy
  refine ⟨fn,_,assign,body,hy,roundIn_of_wpIn hfn (wpIn_mono (hround pre x W ⟨_,hl⟩ hd hi hlen) ?_)⟩
  rintro e a₁ W₁ hp
  cases e with
  |normal=>
   obtain ⟨hk,hb⟩:=hp
   have hl':=hk _ (.inr rfl) _ hl
   have hd':=hk _ (.inl rfl) _ hd
   refine ⟨_,run_beginRound hl' (by rw[←hrec]),wpIn_mono (hb _) ?_⟩
   rintro e a₂ W₂ hq
   cases e with
   |normal=>
    obtain ⟨q1,q3⟩:=hq
    have hl2:=q1 _ (.inr rfl) _ (World.putObj_heap_same (Array.getElem?_eq_some_iff.1 hl').1)
    have hlt2:=(Array.getElem?_eq_some_iff.1 hl2).1
    have hd2:=q1 _ (.inl rfl) _ ((World.putObj_heap_other (by omega)).trans hd')
    refine ⟨_,_,run_endRound none hl2, .inl ⟨rfl,⟨hI _ _ _ q3 (Kept.put _ _ _ (.inr rfl)),?_,?_⟩⟩⟩
    ·rw[World.putObj_heap_same hlt2,←hrec];rfl
    ·exact (World.putObj_heap_other (by omega)).trans hd2
   |ret=>exact hq.elim
   |exit id=>exact hq.elim
   |goto t=>exact hq.elim
   |panic ch=>exact hq.elim
   |outgrown=>exact hq.elim
  |ret=>exact hp.elim
  |exit id=>exact hp.elim
  |goto t=>exact hp.elim
  |panic ch=>exact hp.elim
  |outgrown=>exact hp.elim
 ·rintro e W2 ⟨⟨v,rfl⟩,(⟨hi,hl,hd⟩|⟨pre,x,hSp,hx⟩)⟩
  ·have he:=run_endLoop (P:=P) hl (by rw[←hrec];simp)
   refine ⟨none,_,by rw[←hrec] at he;exact he,hdone _ (hI _ _ _ hi (Kept.put _ _ _ (.inr rfl))) ((World.putObj_heap_other (by omega)).trans hd)⟩
  ·exact hx.elim
end Go.Proofs.YtdgdhnnakcncoaaGreatDoor
namespace Go.Proofs.YtdgdhnnakcncoaaGreatDoor
open Go.ChangeShapes Go.WideShapes Go.ChangeAt Go.RowKit Go.Proofs.Bt Go.Shelf Go.Proofs.Rx Go.Maps Go.Proofs.Pk
set_option linter.unusedVariables false
set_option linter.unusedSimpArgs false
theorem wd_next {f:Nat→Bool} {i:Nat} {x:Bool} (h:f i=x):wd f (i+1)=if x then wd f i ||| on1 i 1 else wd f i:=by
 rw[wd,h]
 cases x with
 |true=>rw[if_pos rfl,if_pos rfl]
 |false=>rw[if_neg (by decide),if_neg (by decide),Nat.or_zero]
def freeV (st:Nat→Nat) (B i:Nat):Value:= .tuple #[.int .u64 (wd (fun j=>fre st (B+j)) i:Nat), .int .u64 (wd (fun j=>rel st (B+j)) i:Nat)]
section
variable {N:Nat} {O:Nat→Prop} {w W:World} {tb:Nat} {st:Nat→Nat}
set_option maxRecDepth 100000 in
set_option maxHeartbeats 1000000 in
theorem free64 (h:T9 N O w W tb st) (B:Nat) (hB:B+64≤34359738368):
 Calls Tryz.prog 304 #[.pointer (some ⟨tb,0,none⟩), .int .u64 (B:Nat)] W fun e W'=>e= .returned (freeV st B 64)∧T9 N O w W' tb st∧Left9 N O W W':=by
 obtain ⟨R,hR⟩:∃R:Ending→World→Prop,R=fun e W'=>e= .returned (freeV st B 64)∧T9 N O w W' tb st∧Left9 N O W W':=⟨_,rfl⟩
 rw[←hR]
 have HR:=hide (show ∀(x y:Int) X,x=(wd (fun j=>fre st (B+j)) 64:Nat)→y=(wd (fun j=>rel st (B+j)) 64:Nat)→T9 N O w X tb st→Left9 N O W X→R (.returned (.tuple #[.int .u64 x, .int .u64 y])) X from fun x y X hx hy h1 h2=>by rw[hR,hx,hy];exact ⟨rfl,h1,h2⟩)
 have HH:=hide (show T9 N O w W tb st∧Left9 N O W W from ⟨h,Kept.refl _ _⟩)
 obtain ⟨BI,hBI⟩:∃BI:Int,(B:Int)=BI:=⟨_,rfl⟩
 have b0:0≤BI:=by omega
 have b1:BI+64≤34359738368:=by omega
 have HBI:=hide hBI
 rw[hBI]
 clear hR h hBI hB
 go_enter Tryz.func304,Tryz.ntmps304
 go_wp2_with fail
 go_loopw [6,7,12] (fun xv yv iv wr=>∃(x y:Nat) (i:Int),xv= .int .u64 (x:Nat)∧yv= .int .u64 (y:Nat)∧iv= .int .i64 i∧0≤i∧i≤64∧x<18446744073709551616∧y<18446744073709551616∧Hid (x=wd (fun j=>fre st (B+j)) i.toNat∧y=wd (fun j=>rel st (B+j)) i.toNat)∧Hid (T9 N O w wr tb st∧Left9 N O W wr)) (fun _ _ iv _=>(64 - intOf iv).toNat)
 case atStart=>exact ⟨0,0,0,rfl,rfl,rfl,by omega,by omega,by omega,by omega,hide ⟨rfl,rfl⟩,HH⟩
 case round=>
  clear HH
  obtain ⟨x,y,i,rfl,rfl,rfl,i0,i1,hx,hy,HXY,HI⟩:=hrel
  by_cases hi:i<64
  ·have CS:=hide (t9_state HI.out.1 (B+ i.toNat) (by have:=HBI.out;omega))
   rw[show ((B+ i.toNat:Nat):Int)=BI+ i by have:=HBI.out;omega] at CS
   have CM:=fun Z=>hide (mask_any i 1 (by omega) (by omega) (by omega) Z)
   have NX:=hide (show ∀w1,T9 N O w w1 tb st→Left9 N O wr w1→T9 N O w w1 tb st∧Left9 N O W w1 from fun w1 h1 h2=>⟨h1,Kept.trans HI.out.2 h2 (fun _ _ z=>z)⟩)
   obtain ⟨M,hM⟩:∃M:Nat,on1 i.toNat 1=M:=⟨_,rfl⟩
   have lM:M<18446744073709551616:=by rw[←hM];exact on1_lt (by omega)
   rw[show (1:Int).toNat=1 from rfl,hM] at CM
   have ex:bits .or .u64 (x:Int) (M:Int)=((x ||| M:Nat):Int):=w_or _ _ hx lM
   have ey:bits .or .u64 (y:Int) (M:Int)=((y ||| M:Nat):Int):=w_or _ _ hy lM
   have lx:=or_lt hx lM
   have ly:=or_lt hy lM
   obtain ⟨f,hf⟩:∃f,fre st (B+ i.toNat)=f:=⟨_,rfl⟩
   obtain ⟨g,hg⟩:∃g,rel st (B+ i.toNat)=g:=⟨_,rfl⟩
   have N1:=hide (wd_next (f:=fun j=>fre st (B+j)) (i:=i.toNat) (x:=f) hf)
   have N2:=hide (wd_next (f:=fun j=>rel st (B+j)) (i:=i.toNat) (x:=g) hg)
   rw[←HXY.out.1,hM,show i.toNat+1=(i+1).toNat by omega] at N1
   rw[←HXY.out.2,hM,show i.toNat+1=(i+1).toNat by omega] at N2
   rw[hf,hg] at CS
   generalize inU st (B+ i.toNat)=u at CS
   have e1:IntKind.u64.wrap i=i:=by rw[IntKind.wrap_u64];omega
   have e2:IntKind.u64.wrap (BI+ i)=BI+ i:=by rw[IntKind.wrap_u64];omega
   clear hf hg hM HI HXY
   cases f with
   |true=>
    cases g with
    |true=>
     rw[if_pos rfl] at N1 N2
     go_wp2_with fail
     refine CS.out.mono ?_
     rintro e w1 ⟨rfl,t1,l1⟩
     have I1:=hide (NX.out w1 t1 l1)
     clear CS NX t1 l1
     go_wp2_with fail
     refine (CM _).out.mono ?_
     rintro e w2 ⟨rfl,hw2⟩
     rw[hw2]
     clear hw2 w2
     go_wp2_with fail
     refine (CM _).out.mono ?_
     rintro e w2 ⟨rfl,hw2⟩
     rw[hw2]
     clear hw2 w2 CM
     go_wp2_with fail
     go_roundw
     case rel=>exact ⟨_,_,i+1,rfl,rfl,by go_num,by omega,by omega,lx,ly,hide ⟨N1.out.symm,N2.out.symm⟩,I1⟩
     case measure=>simp[intOf];omega
    |false=>
     rw[if_pos rfl] at N1
     rw[if_neg (by decide)] at N2
     go_wp2_with fail
     refine CS.out.mono ?_
     rintro e w1 ⟨rfl,t1,l1⟩
     have I1:=hide (NX.out w1 t1 l1)
     clear CS NX t1 l1
     go_wp2_with fail
     refine (CM _).out.mono ?_
     rintro e w2 ⟨rfl,hw2⟩
     rw[hw2]
     clear hw2 w2 CM
     go_wp2_with fail
     go_roundw
     case rel=>exact ⟨_,_,i+1,rfl,rfl,by go_num,by omega,by omega,lx,hy,hide ⟨N1.out.symm,N2.out.symm⟩,I1⟩
     case measure=>simp[intOf];omega
   |false=>
    cases g with
    |true=>
     rw[if_pos rfl] at N2
     rw[if_neg (by decide)] at N1
     go_wp2_with fail
     refine CS.out.mono ?_
     rintro e w1 ⟨rfl,t1,l1⟩
     have I1:=hide (NX.out w1 t1 l1)
     clear CS NX t1 l1
     go_wp2_with fail
     refine (CM _).out.mono ?_
     rintro e w2 ⟨rfl,hw2⟩
     rw[hw2]
     clear hw2 w2 CM
     go_wp2_with fail
     go_roundw
     case rel=>exact ⟨_,_,i+1,rfl,rfl,by go_num,by omega,by omega,hx,ly,hide ⟨N1.out.symm,N2.out.symm⟩,I1⟩
     case measure=>simp[intOf];omega
    |false=>
     rw[if_neg (by decide)] at N1 N2
     go_wp2_with fail
     refine CS.out.mono ?_
     rintro e w1 ⟨rfl,t1,l1⟩
     have I1:=hide (NX.out w1 t1 l1)
     clear CS NX t1 l1 CM
     go_wp2_with fail
     go_roundw
     case rel=>exact ⟨_,_,i+1,rfl,rfl,by go_num,by omega,by omega,hx,hy,hide ⟨N1.out.symm,N2.out.symm⟩,I1⟩
     case measure=>simp[intOf];omega
  ·have q64:i=64:=by omega
   have F0:=hide (HR.out x y wr (by rw[HXY.out.1,q64];rfl) (by rw[HXY.out.2,q64];rfl) HI.out.1 HI.out.2)
   have hd:decide (i<64)=false:=decide_eq_false hi
   clear hi HI HR HXY q64
   go_wp2_with fail
   first|exact F0.out|(refine bodyPost_ret (results_tmp2 Tryz.results304 _ _) rfl ?_;exact F0.out)
end
end Go.Proofs.YtdgdhnnakcncoaaGreatDoor
namespace Go.Proofs.YtdgdhnnakcncoaaGreatDoor
open Go.ChangeShapes Go.WideShapes Go.ChangeAt Go.RowKit Go.Proofs.Bt Go.Shelf Go.Proofs.Rx Go.Maps Go.Proofs.Pk
set_option linter.unusedVariables false
set_option linter.unusedSimpArgs false
attribute [local go_sem] Oper.semAt_some
theorem Kept.cut {F:Nat→Prop} {W W':World} (k:Kept F W W'):Kept (fun x=>F x∧x<W.heap.size) W W':=⟨k.os,k.tape,k.output,k.size,fun b hb hF=>k.block b hb (fun z=>hF ⟨z,hb⟩)⟩
theorem T9.two {N:Nat} {P:Nat→Prop} {w A A':World} {tb S:Nat} {st:Nat→Nat} (h:T9 N (fun z=>P z∨((z=S∨z=S+1)∧z<A.heap.size)) w A tb st) (hN:N≤S) (k:Kept (fun b=>b=S∨b=S+1) A A'):T9 N (fun z=>P z∨((z=S∨z=S+1)∧z<A'.heap.size)) w A' tb st:=
 h.grow k.cut (fun x hx=>⟨.inr hx,by have:=hx.1;omega⟩) (fun x hx=>by
  rcases hx with z|z
  ·exact .inl (.inl z)
  ·by_cases y:x<A.heap.size
   ·exact .inl (.inr ⟨z.1,y⟩)
   ·exact .inr ⟨by omega,z.2⟩)
def LeftC (N:Nat) (O:Nat→Prop) (cb:Nat) (W W':World):Prop:=Kept (fun x=>N≤x∧(¬O x∨x=cb)) W W'
structure FS (N:Nat) (O:Nat→Prop) (w W:World) (M cb tb:Nat) (st:Nat→Nat) (B H G:Nat) (X:World):Prop where
 t:T9 N (fun x=>O x∨x=M∨x=M+1) w X tb st
 bc:Bk X M 120 #[.pointer (some ⟨cb,0,none⟩)]
 bt:Bk X (M+1) 114 #[.pointer (some ⟨tb,0,none⟩)]
 cc:CcAt X cb B H G
 kw:LeftC N O cb W X
section
variable {N:Nat} {O:Nat→Prop} {w W X X':World} {M cb tb:Nat} {st st':Nat→Nat} {B H G:Nat}
theorem FS.start (h:T9 N O w W tb st) (hc:CcAt W cb B H G) (hM:W.heap.size=M) (hX:X=(W.alloc (.cells #[.pointer (some ⟨cb,0,none⟩)] 120)).alloc (.cells #[.pointer (some ⟨tb,0,none⟩)] 114)):FS N O w W M cb tb st B H G X:=by
 have b:Below W.heap.size W X:=by rw[hX];exact ((Below.refl _ W).alloc (Nat.le_refl _) _).alloc (by simp) _
 have s:X.heap.size=M+2:=by rw[hX,←hM];simp
 refine ⟨h.more b (fun x hx=> ?_),?_,?_,hc.below b,Kept.of_below b⟩
 ·rcases hx with z|z|z
  ·exact .inl z
  ·exact .inr ⟨by omega,by omega⟩
  ·exact .inr ⟨by omega,by omega⟩
 ·unfold Bk
  rw[hX,alloc_at,if_neg (by simp;omega),alloc_at,if_pos hM.symm]
 ·unfold Bk
  rw[hX,alloc_at,if_pos (by simp;omega)]
theorem FS.tree (h:FS N O w W M cb tb st B H G X) (hO:O cb) (t:T9 N (fun x=>O x∨x=M∨x=M+1) w X' tb st') (l:Left9 N (fun x=>O x∨x=M∨x=M+1) X X'):FS N O w W M cb tb st' B H G X':=
 ⟨t,h.bc.kept l (fun z=>z.2 (.inr (.inl rfl))),h.bt.kept l (fun z=>z.2 (.inr (.inr rfl))),h.cc.kept l (fun z=>z.2 (.inl hO)),Kept.trans h.kw l (fun x _ z=>⟨z.1, .inl (fun y=>z.2 (.inl y))⟩)⟩
theorem FS.wr (h:FS N O w W M cb tb st B H G X) (hO:O cb) (hN:N≤cb) (hM:cb<M) {B' H' G':Nat} (c:CcAt X' cb B' H' G') (k:Kept (fun x=>x=cb) X X'):FS N O w W M cb tb st B' H' G' X':=
 ⟨h.t.own k (fun x hx=>by subst hx;exact ⟨.inl hO,hN⟩),h.bc.kept k (by omega),h.bt.kept k (by omega),c,Kept.trans h.kw k (fun x _ z=>by subst z;exact ⟨hN, .inr rfl⟩)⟩
end
section
variable {N:Nat} {O:Nat→Prop} {w W:World} {cb tb:Nat} {st:Nat→Nat} {B H G:Nat}
set_option maxRecDepth 100000 in
theorem ccFill_full (h:T9 N O w W tb st) (hc:CcAt W cb B H G) (hO:O cb) (z:H=0) (hf:∀p,¬Run st p 1):
 Calls Tryz.prog 277 #[.pointer (some ⟨cb,0,none⟩), .pointer (some ⟨tb,0,none⟩)] W fun e W'=>e= .returned (.int .i64 30)∧T9 N O w W' tb st∧CcAt W' cb B H G∧LeftC N O cb W W':=by
 obtain ⟨R,hR⟩:∃R:Ending→World→Prop,R=fun e W'=>e= .returned (.int .i64 30)∧T9 N O w W' tb st∧CcAt W' cb B H G∧LeftC N O cb W W':=⟨_,rfl⟩
 rw[←hR]
 obtain ⟨M,hM⟩:∃M,W.heap.size=M:=⟨_,rfl⟩
 obtain ⟨X,hX⟩:∃X,X=(W.alloc (.cells #[.pointer (some ⟨cb,0,none⟩)] 120)).alloc (.cells #[.pointer (some ⟨tb,0,none⟩)] 114):=⟨_,rfl⟩
 have S0:=hide (FS.start h hc hM hX)
 have CE:=hide (ccEmpty S0.out.cc)
 rw[decide_eq_true z] at CE
 have CF:=hide (t9_find_no S0.out.t 1 (by omega) (.inr hf))
 simp only[Int.cast_ofNat_Int] at CF
 have F0:=hide (show ∀Y,FS N O w W M cb tb st B H G Y→R (.returned (.int .i64 30)) Y from fun Y hY=>by
  rw[hR]
  exact ⟨rfl,hY.t.more (Below.refl _ _) (fun x hx=> .inl (.inl hx)),hY.cc,hY.kw⟩)
 have HM:=hide hM
 have HX:=hide hX
 have c0:=S0.out.bc.cell 0 _ rfl
 have c1:=S0.out.bt.cell 0 _ rfl
 clear hR h z hM hX hc hf
 refine (callsIn_wide (n:=3)).1 ?_
 refine callsIn_of_wp_marks Tryz.func277 rfl trivial ?_ rfl
 simp only[Tryz.ntmps277,List.size_toArray,List.length_cons,List.length_nil,Nat.reduceAdd,Nat.reduceSub,Array.replicate_succ,Array.replicate_zero,List.push_toArray,List.append_toArray,List.nil_append,List.cons_append]
 gi_wp2_with fail
 rw[←HX.out,HM.out]
 refine wcall2 CE.out ?_
 rintro e w1 ⟨rfl,hw⟩
 rw[hw]
 clear hw w1 CE
 gi_wp2_with fail
 refine wcall2 CF.out ?_
 rintro e w1 ⟨rfl,t1,l1⟩
 have F1:=hide (F0.out _ (S0.out.tree hO t1 l1))
 clear CF t1 l1 F0 c0 c1
 gi_wp2_with fail
 exact ⟨_,by simp[results,Tryz.results277,go_sem],F1.out⟩
structure FiL (N:Nat) (O:Nat→Prop) (w W:World) (M cb tb:Nat) (st:Nat→Nat) (B H G S k:Nat) (A:World):Prop where
 t:T9 N (fun z=>((O z∨z=M∨z=M+1)∨z=S)∨((z=S+1∨z=S+1+1)∧z<A.heap.size)) w A tb (wS st B H (lft H k) 1)
 bc:Bk A M 120 #[.pointer (some ⟨cb,0,none⟩)]
 bt:Bk A (M+1) 114 #[.pointer (some ⟨tb,0,none⟩)]
 rd:RdW S H A
 cc:CcAt A cb B H G
 kw:LeftC N O cb W A
theorem FiL.kept {M S k:Nat} {A A':World} (h:FiL N O w W M cb tb st B H G S k A) (hN:N≤M) (hM:cb<M) (hS:M+2≤S) (hO:∀x,O x→x<M) (kk:Kept (fun b=>b=S+1∨b=S+1+1) A A'):FiL N O w W M cb tb st B H G S k A':=
 ⟨h.t.two (by omega) kk,h.bc.kept kk (by omega),h.bt.kept kk (by omega),⟨kept_at kk h.rd.c (by omega),(h.t.two (by omega) kk).tab⟩,h.cc.kept kk (by omega),Kept.trans h.kw kk (fun x _ z=>⟨by omega, .inl (fun y=>by have:=hO x y;omega)⟩)⟩
def FillC (N:Nat) (O:Nat→Prop) (w W:World) (cb tb:Nat) (st:Nat→Nat) (B:Nat) (W':World):Prop:=
 T9 N O w W' tb (fillS st B 64)∧CcAt W' cb B (wd (fun j=>fre st (B+j)) 64) (wd (fun j=>rel st (B+j)) 64)∧LeftC N O cb W W'
theorem fill_end (st:Nat→Nat) (B:Nat):wS st B (wd (fun j=>fre st (B+j)) 64) 0 1=fillS st B 64:=by
 funext q
 unfold wS fillS
 by_cases z:B≤q∧q<B+64∧2≤st q
 ·rw[if_pos z,if_pos ⟨z.1,by rw[wd_bit,decide_eq_true (by omega),Bool.true_and,show B+(q - B)=q by omega];unfold fre;exact decide_eq_true z.2.2,Nat.zero_testBit _⟩]
 ·rw[if_neg z,if_neg (fun y=>z ?_)]
  have y2:=y.2.1
  rw[wd_bit,Bool.and_eq_true,show B+(q - B)=q by omega] at y2
  unfold fre at y2
  simp only[decide_eq_true_eq] at y2
  exact ⟨y.1,by omega,y2.2⟩
def FiO (O:Nat→Prop) (M S n z:Nat):Prop:=((O z∨z=M∨z=M+1)∨z=S)∨((z=S+1∨z=S+1+1)∧z<n)
theorem FiL.next {M S k a n:Nat} {A X8:World} (h:FiL N O w W M cb tb st B H G S k A) (hO:O cb) (hs:S+1+1<A.heap.size) (ha:at1 (lft H k)=a) (hn:len1 (lft H k)=n) (hr:Row (lft H k) a n) (t8:T9 N (FiO O M S A.heap.size) w X8 tb (setSt (wS st B H (lft H k) 1) (B+a) (B+a+n) 1)) (l8:Left9 N (FiO O M S A.heap.size) A X8):
 FiL N O w W M cb tb st B H G S (k+1) X8∧Two (S+1) A X8:=by
 have e:wS st B H (lft H (k+1)) 1=setSt (wS st B H (lft H k) 1) (B+a) (B+a+n) 1:=wS_next (fun j hj=>lft_sub k j hj) hr _ (fun j=>by rw[←ha,←hn];exact nx1_bit (lft H k) j)
 have sz:=Kept.size l8
 refine ⟨⟨?_,h.bc.kept l8 (fun z=>z.2 (.inl (.inl (.inr (.inl rfl))))),h.bt.kept l8 (fun z=>z.2 (.inl (.inl (.inr (.inr rfl))))),⟨kept_at l8 h.rd.c (fun z=>z.2 (.inl (.inr rfl))),t8.tab⟩,h.cc.kept l8 (fun z=>z.2 (.inl (.inl (.inl hO)))),Kept.trans h.kw l8 (fun x _ z=>⟨z.1, .inl (fun y=>z.2 (.inl (.inl (.inl y))))⟩)⟩,?_⟩
 ·rw[e]
  refine t8.more (Below.refl _ _) (fun x hx=> .inl ?_)
  rcases hx with z|⟨z,_⟩
  ·exact .inl z
  ·exact .inr ⟨z,by omega⟩
 ·exact Two.kept l8 (fun z=>z.2 (.inr ⟨.inl rfl,by omega⟩)) (fun z=>z.2 (.inr ⟨.inr rfl,by omega⟩))
theorem FiL.start {M S:Nat} {X4 X5:World} (h:FS N O w W M cb tb st B H G X4) (hH:H<18446744073709551616) (hS:X4.heap.size=S) (hX:X5=X4.alloc (.cells #[.int .u64 (H:Nat)] 39)):FiL N O w W M cb tb st B H G S 0 X5:=by
 have b:Below X4.heap.size X4 X5:=by rw[hX];exact grown1 X4 _
 have s:X5.heap.size=S+1:=by rw[hX,←hS];simp
 have t5:=(h.t.read b).1
 refine ⟨?_,h.bc.below b,h.bt.below b,⟨?_,t5.tab⟩,h.cc.below b,Kept.trans h.kw (Kept.of_below b) (fun _ _ z=>z)⟩
 ·have e:wS st B H (lft H 0) 1=st:=wS_none st B H 1
  rw[e]
  refine h.t.more b (fun x hx=> ?_)
  rcases hx with (z|z)|⟨z,y⟩
  ·exact .inl z
  ·exact .inr ⟨by omega,by omega⟩
  ·omega
 ·rw[hX,←hS];exact World.alloc_heap_new X4 _
set_option maxRecDepth 100000 in
set_option maxHeartbeats 2000000 in
theorem ccFill (h:T9 N O w W tb st) (hc:CcAt W cb B H G) (hO:O cb) (hOl:∀x,O x→N≤x∧x<W.heap.size) (z:H=0) (p:Nat) (hp:p<34359738368) (hf:First st 1 p):
 Calls Tryz.prog 277 #[.pointer (some ⟨cb,0,none⟩), .pointer (some ⟨tb,0,none⟩)] W fun e W'=>e= .returned (.int .i64 0)∧FillC N O w W cb tb st (p/64 * 64) W':=by
 obtain ⟨B1,hB1⟩:∃B1,p/64 * 64=B1:=⟨_,rfl⟩
 rw[hB1]
 obtain ⟨R,hR⟩:∃R:Ending→World→Prop,R=fun e W'=>e= .returned (.int .i64 0)∧FillC N O w W cb tb st B1 W':=⟨_,rfl⟩
 rw[←hR]
 obtain ⟨M,hM⟩:∃M,W.heap.size=M:=⟨_,rfl⟩
 obtain ⟨X,hX⟩:∃X,X=(W.alloc (.cells #[.pointer (some ⟨cb,0,none⟩)] 120)).alloc (.cells #[.pointer (some ⟨tb,0,none⟩)] 114):=⟨_,rfl⟩
 have S0:=hide (FS.start h hc hM hX)
 have CE:=hide (ccEmpty S0.out.cc)
 rw[decide_eq_true z] at CE
 have CF:=hide (t9_find S0.out.t 1 p (by omega) (by omega) hf)
 simp only[Int.cast_ofNat_Int] at CF
 have HOL:=hide (show ∀x,O x→N≤x∧x<M from fun x hx=>by rw[←hM];exact hOl x hx)
 have cN:N≤cb∧cb<M:=HOL.out cb hO
 have HR:=hide hR
 have HM:=hide hM
 have HX:=hide hX
 have c0:=S0.out.bc.cell 0 _ rfl
 have c1:=S0.out.bt.cell 0 _ rfl
 obtain ⟨PI,hPI⟩:∃PI:Int,(p:Int)=PI:=⟨_,rfl⟩
 have HPI:=hide hPI
 have p0:0≤PI:=by omega
 have p1:PI<34359738368:=by omega
 rw[hPI] at CF
 have eB:bits .andNot .u64 PI 63=((B1:Nat):Int):=by
  rw[←hPI,show (63:Int)=((63:Nat):Int) from rfl,w_andNot _ _ (by omega) (by decide),andn_63,hB1]
 have b64:B1+64≤34359738368:=by omega
 have NM:=hide (show N≤M from by rw[←hM];exact h.tr.lt.2.2)
 clear hR h z hM hX hc hf hPI hB1 hOl
 refine (callsIn_wide (n:=3)).1 ?_
 refine callsIn_of_wp_marks Tryz.func277 rfl trivial ?_ rfl
 simp only[Tryz.ntmps277,List.size_toArray,List.length_cons,List.length_nil,Nat.reduceAdd,Nat.reduceSub,Array.replicate_succ,Array.replicate_zero,List.push_toArray,List.append_toArray,List.nil_append,List.cons_append]
 gi_wp2_with fail
 rw[←HX.out,HM.out]
 refine wcall2 CE.out ?_
 rintro e w1 ⟨rfl,hw⟩
 rw[hw]
 clear hw w1 CE
 gi_wp2_with fail
 refine wcall2 CF.out ?_
 rintro e w1 ⟨rfl,t1,l1⟩
 have S1:=hide (S0.out.tree hO t1 l1)
 clear CF t1 l1 c0 c1 S0 HX
 have c0:=S1.out.bc.cell 0 _ rfl
 have c1:=S1.out.bt.cell 0 _ rfl
 have d0:=S1.out.cc.c0
 have z0:=S1.out.cc.fz 0
 have P2:=hide (S1.out.wr hO cN.1 cN.2 (S1.out.cc.set0 B1) (kept_set (F:=fun x=>x=cb) w1 cb 0 (.int .u64 (B1:Nat)) rfl))
 obtain ⟨X2,hX2⟩:∃X2,w1.setCell ⟨cb,0,none⟩ (.int .u64 (B1:Nat))=X2:=⟨_,rfl⟩
 rw[hX2] at P2
 have HX2:=hide hX2
 clear hX2
 gi_wp2_with fail
 rw[HX2.out]
 clear c0 c1 d0 z0 eB S1 HX2
 have c0:=P2.out.bc.cell 0 _ rfl
 have c1:=P2.out.bt.cell 0 _ rfl
 have d0:=P2.out.cc.c0
 obtain ⟨H1,hH1⟩:∃H1,wd (fun j=>fre st (B1+j)) 64=H1:=⟨_,rfl⟩
 obtain ⟨G1,hG1⟩:∃G1,wd (fun j=>rel st (B1+j)) 64=G1:=⟨_,rfl⟩
 have h64:H1<18446744073709551616:=by rw[←hH1];exact wd_lt _ (Nat.le_refl _)
 have g64:G1<18446744073709551616:=by rw[←hG1];exact wd_lt _ (Nat.le_refl _)
 have CG:=hide (free64 (P2.out.t.read (drew_below X2)).1 B1 b64)
 unfold freeV at CG
 rw[hH1,hG1] at CG
 have N3:=hide (show ∀X3,T9 N (fun x=>O x∨x=M∨x=M+1) w X3 tb st→Left9 N (fun x=>O x∨x=M∨x=M+1) X2.drew X3→FS N O w W M cb tb st B1 H G X3 from fun X3 t3 l3=>P2.out.tree hO t3 (Kept.trans (Kept.of_below (drew_below X2)) l3 (fun _ _ z=>z)))
 have ne1:cb≠M:=by omega
 have ne2:cb≠M+1:=by omega
 have ne3:M≠cb:=by omega
 have ne4:M+1≠cb:=by omega
 have k1:∀(Y:World) (v:Value),(Y.setCell ⟨cb,1,none⟩ v).cell? ⟨cb,0,none⟩=Y.cell? ⟨cb,0,none⟩:=fun Y v=>World.cell?_setCell_other _ _ _ _ (by simp)
 have k2:∀(Y:World) (v:Value),(Y.setCell ⟨cb,2,none⟩ v).cell? ⟨cb,0,none⟩=Y.cell? ⟨cb,0,none⟩:=fun Y v=>World.cell?_setCell_other _ _ _ _ (by simp)
 refine wpIn_wide.2 ?_
 go_region_held3 (fun w'=>w'.cell? ⟨M,0,none⟩=some (.pointer (some ⟨cb,0,none⟩))∧w'.cell? ⟨M+1,0,none⟩=some (.pointer (some ⟨tb,0,none⟩))∧w'.cell? ⟨cb,0,none⟩=some (.int .u64 (B1:Nat))) (first|go_keep|(simp only[k1,k2];go_keep)) (first
  |(go_at_call 304;refine CG.out.mono ?_;rintro e X3 ⟨rfl,t3,l3⟩;have S3:=hide (N3.out X3 t3 l3);have c0':=S3.out.bc.cell 0 _ rfl;have c1':=S3.out.bt.cell 0 _ rfl;have d0':=S3.out.cc.c0;have d1':=S3.out.cc.c1;have d2':=S3.out.cc.c2;have z1':=S3.out.cc.fz 1;have z2':=S3.out.cc.fz 2;clear t3 l3))
 obtain ⟨X4,hX4⟩:∃X4,(X3.setCell ⟨cb,1,none⟩ (.int .u64 (H1:Nat))).setCell ⟨cb,2,none⟩ (.int .u64 (G1:Nat))=X4:=⟨_,rfl⟩
 have S4:=hide (show FS N O w W M cb tb st B1 H1 G1 X4 from by
  rw[←hX4]
  exact S3.out.wr hO cN.1 cN.2 ((S3.out.cc.set1 H1 h64).set2 G1 g64) ((kept_set (F:=fun x=>x=cb) X3 cb 1 (.int .u64 (H1:Nat)) rfl).trans (kept_set (F:=fun x=>x=cb) _ cb 2 (.int .u64 (G1:Nat)) rfl) (fun _ _ z=>z)))
 rw[hX4]
 clear hX4 S3 c0' c1' d0' d1' d2' z1' z2' CG N3 P2 k1 k2 c0 c1 d0
 have c0:=S4.out.bc.cell 0 _ rfl
 have c1:=S4.out.bt.cell 0 _ rfl
 have d0:=S4.out.cc.c0
 have d1:=S4.out.cc.c1
 have CW:=hide (wrows_any H1 X4)
 gi_wp2_with fail
 refine wcall2 CW.out ?_
 rintro e X5 ⟨rfl,hX5⟩
 obtain ⟨S,hS⟩:∃S,X4.heap.size=S:=⟨_,rfl⟩
 have I0:=hide (FiL.start S4.out h64 hS hX5)
 have s5:X5.heap.size=S+1:=by rw[hX5,←hS];simp
 have mS:M+2≤S:=by have:=S4.out.bt.lt;omega
 obtain ⟨Nr,-,hend,hne⟩:=rows_many h64
 have SEQ:=hide (word_seq S H1 Nr h64 hend hne 2)
 have HEND:=hide hend
 have HNE:=hide hne
 have HHG:=hide (And.intro hH1 hG1)
 rw[hS]
 clear hX5 hS CW S4 c0 c1 d0 d1 hend hne hH1 hG1
 gi_wp2_with fail
 refine range_two (w:=X5) rfl (enters_of Tryz.func248 (by kernel_rfl) rfl) SEQ.out (fun _=>rfl) (fun pre A=>FiL N O w W M cb tb st B1 H1 G1 S pre.length A) (fun s A h=>h.rd) ?hI I0.out ?round ?done
 case hI=>
  intro s A A' h k
  rw[s5] at k
  exact h.kept NM.out cN.2 mS (fun x hx=>(HOL.out x hx).2) k
 case round=>
  rintro pre x A ⟨r0,hr0⟩ hdf h hp
  obtain ⟨-,e2,e3⟩:=pre_range hp
  subst e2
  rw[s5] at hr0 hdf ⊢
  have HI:=hide h
  have HR0:=hide hr0
  have HDF:=hide hdf
  clear h hr0 hdf
  obtain ⟨k,hk⟩:∃k,pre.length=k:=⟨_,rfl⟩
  rw[hk] at HI e3
  have FIN:=hide (show ∀(W1 X8:World) (a:Act),FiL N O w W M cb tb st B1 H1 G1 S (k+1) X8∧Two (S+1) W1 X8→endT (S+1) (fun pre A=>FiL N O w W M cb tb st B1 H1 G1 S pre.length A) (pre++ [k]) W1 .normal a X8 from fun W1 X8 a q=>⟨q.2,by
   have e:(pre++ [k]).length=k+1:=by rw[List.length_append,hk];rfl
   show FiL N O w W M cb tb st B1 H1 G1 S (pre++ [k]).length X8
   rw[e];exact q.1⟩)
  rw[hk]
  have x0:=HNE.out k e3
  have xl:=lft_lt h64 k
  obtain ⟨a1,a2,a3,a4,-⟩:=row1 x0 xl
  obtain ⟨a,ha⟩:∃a,at1 (lft H1 k)=a:=⟨_,rfl⟩
  obtain ⟨m,hm⟩:∃m,len1 (lft H1 k)=m:=⟨_,rfl⟩
  rw[ha,hm] at a3 a4
  rw[ha] at a1
  rw[hm] at a2
  simp only[encsW,ha,hm]
  have FR:=hide (show ∀q,B1+a≤q→q<B1+a+m→2≤wS st B1 H1 (lft H1 k) 1 q from fun q q1 q2=>by
   rw[wS_row a4 q1 q2]
   have b:=lft_sub k _ (a4 (q - B1 - a) (by omega))
   rw[←HHG.out.1,wd_bit,Bool.and_eq_true] at b
   have b2:=b.2
   unfold fre at b2
   rw[show B1+(a+(q - B1 - a))=q by omega] at b2
   exact of_decide_eq_true b2)
  have A4:=hide (And.intro ha (And.intro hm a4))
  clear hp x0 xl ha hm a4
  gi_wp2_with fail
  refine ⟨Two.refl _ _,fun r=> ?_⟩
  obtain ⟨X6,hX6⟩:∃X6,A.putObj (S+1+1) (.loop r)=X6:=⟨_,rfl⟩
  have I6:=hide (show FiL N O w W M cb tb st B1 H1 G1 S k X6 from by rw[←hX6];exact HI.out.kept NM.out cN.2 mS (fun x hx=>(HOL.out x hx).2) (Kept.put _ _ _ (.inr rfl)))
  have s6:S+1+1<X6.heap.size:=by
   have h1:=(Array.getElem?_eq_some_iff.1 HR0.out).1
   have h2:=(Kept.put (F:=fun _=>True) A (S+1+1) (.loop r) trivial).size
   rw[hX6] at h2
   omega
  rw[hX6]
  have c0:=I6.out.bc.cell 0 _ rfl
  have c1:=I6.out.bt.cell 0 _ rfl
  have d0:=I6.out.cc.c0
  have l1:=I6.out.bc.lt
  have l2:=I6.out.bt.lt
  have l3:=I6.out.cc.lt
  have hx:= @ext_cell X6
  have hne:=ext_ne X6
  have CT:=hide (show ∀Y,Below X6.heap.size X6 Y→Calls Tryz.prog 305 #[.pointer (some ⟨tb,0,none⟩), .int .u64 ((B1+a:Nat):Int), .int .u64 (m:Nat)] Y fun e X8=>(∃t:Int,e= .returned (.tuple #[.int .u64 t, .int .i64 0]))∧FiL N O w W M cb tb st B1 H1 G1 S (k+1) X8∧Two (S+1) X6 X8 from fun Y hY=>by
   have tY:T9 N (FiO O M S X6.heap.size) w Y tb (wS st B1 H1 (lft H1 k) 1):=(T9.read I6.out.t hY).1
   refine (t9_take tY (B1+a) m (inT_run a2 (by omega) (fun q q1 q2=>by have:=FR.out q q1 q2;omega)) (tl_run_free FR.out)).mono ?_
   rintro e X8 ⟨rfl,t8,l8⟩
   exact ⟨⟨_,rfl⟩,I6.out.next hO s6 A4.out.1 A4.out.2.1 A4.out.2.2 t8 (Kept.trans (Kept.of_below hY) l8 (fun _ _ z=>z))⟩)
  rw[show ((B1+a:Nat):Int)=(B1:Int)+(a:Int) from rfl] at CT
  have e1:IntKind.u64.wrap ((B1:Int)+(a:Int))=(B1:Int)+(a:Int):=by rw[IntKind.wrap_u64];omega
  clear hX6 HI HR0 HDF
  gi_wp2_with fail
  refine tail_r 8 (by kernel_rfl) (by kernel_rfl) ?_
  simp only[List.take_succ_cons,List.take_zero,List.drop_succ_cons,List.drop_zero]
  repeat (refine wpQuiet_step (fun K hK=> ?_);go_simp;refine hK _ ?_;clear hK K)
  refine wpQuiet_nil ?_
  rintro _ ⟨n1,rfl⟩
  have C2:=hide (CT.out n1.v n1.h)
  clear c0 c1 d0 l1 l2 l3 hx hne CT FR A4 I6
  gi_wp2_with fail
  refine wcall_r C2.out ?_
  rintro e X8 ⟨⟨tv,rfl⟩,hq⟩
  have F8:=hide (fun a=>FIN.out X6 X8 a hq)
  clear hq C2 FIN
  gi_wp2_with fail
  exact F8.out _
 case done=>
  rintro A h hdf
  rw[s5] at hdf ⊢
  rw[List.length_range] at h
  have HI:=hide h
  have HD:=hide hdf
  clear h hdf
  gi_wp2_with fail
  refine ⟨by simp, .inl ⟨_,_,rfl,run_takeDeferred HD.out,?_⟩⟩
  have q:=HI.out.kept NM.out cN.2 mS (fun x hx=>(HOL.out x hx).2) (Kept.put A (S+1) (.deferred none) (.inl rfl))
  refine ⟨.int .i64 0,by simp[results,Tryz.results277,go_sem],?_⟩
  rw[HR.out]
  refine ⟨rfl,?_,?_,q.kw⟩
  ·have t:=q.t
   rw[HEND.out,←HHG.out.1,fill_end] at t
   exact t.more (Below.refl _ _) (fun x hx=> .inl (.inl (.inl (.inl hx))))
  ·rw[HHG.out.1,HHG.out.2];exact q.cc
end
end Go.Proofs.YtdgdhnnakcncoaaGreatDoor
