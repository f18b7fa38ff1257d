/- Of the proof of HeapClasses: texts RXh, RXb. -/
import Derived.Test.YtdgdhnnakcncoaaGreatDoorJ06
import Derived.Deep.Quiet
import Derived.StillTail
import Derived.Deep.RegionHeld
import Derived.OwnWalkIn
import Derived.TacticsInMore
namespace Go.Proofs.Rx
open Go
set_option linter.unusedVariables false
set_option linter.unusedSimpArgs false
abbrev FW (ro:Option Nat):Fence:={Fence.wide with round:=ro}
section
variable {P:Program} {ops:Array Oper} {md:Region.Mode} {C:World→Prop} {ro:Option Nat} {m:Nat}
theorem calls_fw {f:FuncId} {args:Array Value} {w:World} {R:Ending→World→Prop} (h:Calls P f args w R):CallsIn (FW ro) m P f args w R:=callsIn_wide (n:=m).2 h
theorem opIn_quiet {o:Oper} {a:Act} {K:Act→Prop} {K':Act→World→Prop} {Q':Exit→Act→World→Prop} {w:World} (hd:∀c,o.op≠ .defer c) (hw:C w) (h:∀a w',C w'→K a→K' a w') (hh:o.quiet P a C K):o.wpIn (FW ro) m P a w K' Q':=by
 obtain ⟨v,h1,h2⟩:=hh
 have h3:=h1 w hw
 unfold Oper.quietAt at h3
 refine ⟨fun _ _=>trivial,?_⟩
 rw[Oper.semAt_plain _ _ _ hd]
 generalize (execOp a.eval o).run P w=r at *
 cases r with
 |ok n w'=>
  cases n<;>simp only[Oper.quietUpon] at h3<;>simp only[Oper.uponIn]
  case value u=>
   obtain ⟨e1,e2⟩:=h3
   rw[e1,e2]
   exact h _ _ hw h2
  case skip=>
   obtain ⟨e1,e2⟩:=h3
   rw[e1,←e2]
   exact h _ _ hw h2
  case enter f args=>
   obtain ⟨e1,hc⟩:=h3
   rw[e1]
   refine ⟨fun z=>(by cases z),calls_fw (hc.mono fun e w'' ⟨he,hw''⟩=> ?_)⟩
   subst he
   exact h _ _ hw'' h2
 |halt x w'=>simp only[Oper.quietUpon] at h3
def plainB (ops:Array Oper):Bool:=ops.toList.all fun o=>o.guard.isNone&&(match o.op with| .defer _=>false|_=>true)
theorem plain_at (h:plainB ops=true) {i:Nat} {o:Oper} (hi:ops[i]? =some o):o.guard=none∧∀c,o.op≠ .defer c:=by
 have hm:o∈ops.toList:=by
  have:=Array.getElem?_eq_some_iff.1 hi
  obtain ⟨h1,h2⟩:=this
  rw[←h2];exact Array.getElem_mem_toList h1
 have:=List.all_eq_true.1 h o hm
 simp only[Bool.and_eq_true,Option.isNone_iff_eq_none] at this
 refine ⟨this.1,fun c hc=> ?_⟩
 rw[hc] at this
 simp at this
theorem wanted_none {o:Oper} (h:o.guard=none) (ops:Array Oper) (t:Array Value):Region.wanted o (yielded ops t)=true:=by
 simp[Region.wanted,h]
theorem opIn_of_q (hp:plainB ops=true) {ops':Array Oper} {i:Nat} (he:ops'[i]? =ops[i]?) {a:Act} {K:Act→Prop} {K':Act→World→Prop} {Q':Exit→Act→World→Prop} {w:World} (hC:C w) (h:∀a w',C w'→K a→K' a w') (hh:qOp P ops' C i K a):wpOpIn (FW ro) m P ops Q' i K' a w:=by
 unfold qOp at hh
 unfold wpOpIn
 rw[he] at hh
 cases ho:ops[i]? with
 |none=>rw[ho] at hh;exact h _ _ hC hh
 |some o=>
  rw[ho] at hh
  obtain ⟨g,nd⟩:=plain_at hp ho
  simp only[wanted_none g,if_true] at hh ⊢
  exact opIn_quiet nd hC h hh
theorem anyIn_quiet (hp:plainB ops=true) {Q:Act→Prop} {Q':Exit→Act→World→Prop} (hQ:∀a w,C w→Q a→Q' .normal a w):∀(fuel:Nat) (listed:Array Bool) (a:Act) (w:World),C w→
 wpAnyQ P md ops C Q fuel listed a→wpAnyIn (FW ro) m P md ops Q' fuel listed a w
 |0,_,_,_,hw,h=>⟨h.1,hQ _ _ hw h.2⟩
 |fuel+1,_,_,_,hw,h=>⟨fun h0=>hQ _ _ hw (h.1 h0),fun i hi=>opIn_of_q hp rfl hw (fun a' w' hw'=>anyIn_quiet hp hQ fuel _ a' w' hw') (h.2 i hi)⟩
theorem region_all {id:Nat} {Q:Exit→Act→World→Prop} {a:Act} {w:World} {l:List Oper} (C:World→Prop) (hm:P.follows .mixedOrders=true) (hB:(Region.lexB .any l.toArray&&plainB l.toArray)=true) (hC:C w.drew)
 (h:wpQuiet P l.toArray C (fun a'=>∀w',C w'→Q .normal a' w') l a):(Code.region id l.toArray true).wpIn (FW ro) m P Q a w:=by
 simp only[Region.lexB,Bool.and_eq_true] at hB
 refine wpIn_region_any hm (anyIn_quiet hB.2 (Q:=fun a'=>∀w',C w'→Q .normal a' w') (fun _ w' hw' h=>h w' hw') _ _ _ _ hC ?_)
 have:=wpAnyQ_lex (P:=P) (C:=C) (md:= .any) hB.1.1 l 0 (Array.replicate l.toArray.size false) a (by simp) (by simpa using hB.1.2) h
 simpa using this
theorem anyIn_seq {Q':Exit→Act→World→Prop} {F:Fence}:∀(l:List Oper) (k:Nat) (listed:Array Bool) (a:Act) (w:World),(∀j,l[j]? =ops[k+j]?)→
 Region.seqB md ops l.length k listed=true→wpListIn F m P ops Q' l a w→wpAnyIn F m P md ops Q' l.length listed a w
 | [],_,_,_,_,_,hB,h=>⟨by simpa [Region.seqB] using hB,h⟩
 |o::l,k,listed,a,w,hl,hB,h=>by
  have h0:ops[k]? =some o:=by simpa using (hl 0).symm
  simp only[List.length_cons,Region.seqB,Bool.and_eq_true,decide_eq_true_eq] at hB
  refine ⟨fun h1=>(by rw[hB.1] at h1;cases h1),fun i hi=> ?_⟩
  rw[hB.1] at hi
  have hik:i=k:=by simpa using hi
  subst hik
  have hw:wpOpIn F m P ops Q' i (wpListIn F m P ops Q' l) a w:=by unfold wpOpIn;simp only[h0];exact h
  exact wpOpIn_mono (fun a' w' h'=>anyIn_seq l (i+1) _ a' w' (fun j=>by have:=hl (j+1);simpa [Nat.add_assoc,Nat.add_comm 1 j] using this) hB.2 h') hw
def open_ (listed:Array Bool):Nat→Nat
 |0=>0
 |n+1=>open_ listed n+ if listed.getD n true=false then 1 else 0
theorem open_zero {listed:Array Bool}:∀{n},open_ listed n=0→∀i,i<n→listed.getD i true≠false
 |0,_,i,hi=>by omega
 |n+1,h,i,hi=>by
  unfold open_ at h
  by_cases z:listed.getD n true=false
  ·rw[if_pos z] at h;omega
  ·by_cases e:i=n
   ·rw[e];exact z
   ·exact open_zero (n:=n) (by rw[if_neg z] at h;omega) i (by omega)
theorem open_some {listed:Array Bool}:∀{n},0<open_ listed n→∃i,i<n∧listed.getD i true=false∧∀j,j<i→listed.getD j true≠false
 |0,h=>by simp[open_] at h
 |n+1,h=>by
  by_cases c:0<open_ listed n
  ·obtain ⟨i,h1,h2,h3⟩:=open_some c
   exact ⟨i,by omega,h2,h3⟩
  ·unfold open_ at h
   by_cases z:listed.getD n true=false
   ·exact ⟨n,by omega,z,fun j hj=>open_zero (n:=n) (by omega) j hj⟩
   ·rw[if_neg z] at h;omega
theorem open_set {listed:Array Bool} {i:Nat} (hi:listed.getD i true=false):∀n,open_ (listed.setIfInBounds i true) n=open_ listed n -(if i<n then 1 else 0)
 |0=>by simp[open_]
 |n+1=>by
  have hs:i<listed.size:=by
   rcases Nat.lt_or_ge i listed.size with h|h
   ·exact h
   ·simp[Array.getElem?_eq_none h] at hi
  have ih:=open_set hi n
  unfold open_
  rw[ih]
  have pos:i<n→0<open_ listed n:=fun hin=>by
   rcases Nat.eq_zero_or_pos (open_ listed n) with z|z
   ·exact absurd hi (open_zero z i hin)
   ·exact z
  by_cases e:i=n
  ·subst e
   have:(listed.setIfInBounds i true).getD i true=true:=by simp[Array.getD,hs]
   rw[this,hi]
   simp
  ·have:(listed.setIfInBounds i true).getD n true=listed.getD n true:=by simp[Array.getD_eq_getD_getElem?,Array.getElem?_setIfInBounds_ne e]
   rw[this]
   by_cases c:i<n
   ·have:=pos c
    rw[if_pos c,if_pos (by omega:i<n+1)];omega
   ·rw[if_neg c,if_neg (by omega:¬i<n+1)];omega
def backB (ops:Array Oper) (md:Region.Mode) (n:Nat):Bool:=(List.range n).all fun i=>match ops[i]? with|some o=>o.after.toList.all fun e=> !Region.binds md e||decide (e.on<i)|none=>false
theorem back_at {n:Nat} (h:backB ops md n=true) {i:Nat} (hi:i<n):∃o,ops[i]? =some o∧∀e∈o.after,Region.binds md e=true→e.on<i:=by
 have:=List.all_eq_true.1 h i (List.mem_range.2 hi)
 cases ho:ops[i]? with
 |none=>simp[ho] at this
 |some o=>
  simp only[ho] at this
  refine ⟨o,rfl,fun e he hb=> ?_⟩
  have h2:=List.all_eq_true.1 this e (Array.mem_toList_iff.2 he)
  simp only[Bool.or_eq_true,Bool.not_eq_true',decide_eq_true_eq] at h2
  rcases h2 with h2|h2
  ·rw[hb] at h2;cases h2
  ·exact h2
def headDone (n k:Nat):Array Bool:=(List.replicate n true++List.replicate k false).toArray
theorem head_tail {hd:Array Oper} {n g:Nat} (hp:plainB ops=true) (hn:n<ops.size) (hh:∀i,i<n→hd[i]? =ops[i]?) (hs:hd.size=n) (hb:backB ops md n=true) (hsink:Region.sinkB md ops n=true) (hchain:Region.chainB md ops n=true)
 {K:Act→Prop} {Q:Exit→Act→World→Prop} (hT:∀a w,C w→K a→wpAnyIn (FW ro) m P md ops Q g (headDone n (ops.size - n)) a w):
 ∀(f:Nat) (listed listed':Array Bool) (a:Act) (w:World),open_ listed n=f→HeadInv md ops n listed→listed'.size=n→(∀i,i<n→listed'[i]? =listed[i]?)→C w→
  wpAnyQ P md hd C K f listed' a→wpAnyIn (FW ro) m P md ops Q (f+g) listed a w
 |0,listed,listed',a,w,ho,inv,hs',hl,hw,h=>by
  rw[Nat.zero_add]
  have e:listed=headDone n (ops.size - n):=by
   apply Array.ext
   ·rw[inv.size];simp[headDone];omega
   ·intro i h1 h2
    simp only[headDone,List.getElem_toArray]
    by_cases c:i<n
    ·have:=open_zero ho i c
     simp[Array.getD,h1] at this
     rw[List.getElem_append_left (by simpa using c)]
     simpa using this
    ·have:=inv.tail i (by omega) (by rw[←inv.size];exact h1)
     simp[Array.getD,h1] at this
     rw[List.getElem_append_right (by simpa using c)]
     simpa using this
  rw[e]
  exact hT a w hw h.2
 |f+1,listed,listed',a,w,ho,inv,hs',hl,hw,h=>by
  obtain ⟨i0,i1,i2,i3⟩:=open_some (by omega:0<open_ listed n)
  have same:∀i,i<n→∀d,listed'.getD i d=listed.getD i d:=fun i hi d=>by simp only[Array.getD_eq_getD_getElem?,hl i hi]
  have r0:i0∈Region.ready md ops listed:=by
   obtain ⟨o,ho',ha⟩:=back_at hb i1
   refine mem_ready.2 ⟨i2,o,ho',fun e he hbind=> ?_⟩
   have h1:=ha e he hbind
   have h2:=i3 e.on h1
   have h3:e.on<listed.size:=by rw[inv.size];omega
   simp[Array.getD,h3] at h2 ⊢
   exact h2
  rw[show f+1+g=(f+g)+1 by omega]
  refine ⟨fun z=>(by rw[z] at r0;cases r0),fun i hi=> ?_⟩
  have hin:i<n:=by
   rcases Nat.lt_or_ge i n with c|c
   ·exact c
   ·exact absurd hi (tail_waits hsink hchain hn inv (n - i0) i0 rfl i1 i2 i c)
  obtain ⟨q1,o,q2,q3⟩:=mem_ready.1 hi
  obtain ⟨o',p1,p2⟩:=back_at hb hin
  have hoo:o'=o:=Option.some.inj (p1.symm.trans q2)
  subst hoo
  have r':i∈Region.ready md hd listed':=mem_ready.2 ⟨by rw[same i hin];exact q1,o',by rw[hh i hin];exact q2,fun e he hbind=>by
   have:=p2 e he hbind
   rw[same e.on (by omega)];exact q3 e he hbind⟩
  refine opIn_of_q hp (hh i hin) hw (fun a' w' hw' hk=> ?_) (h.2 i r')
  refine head_tail hp hn hh hs hb hsink hchain hT f _ _ a' w' ?_ (inv.set hi hin) (by simpa using hs') (fun j hj=> ?_) hw' hk
  ·rw[open_set q1,if_pos hin];omega
  ·by_cases e:i=j
   ·subst e
    rw[Array.getElem?_setIfInBounds_self,Array.getElem?_setIfInBounds_self,if_pos (by omega),if_pos (by rw[inv.size];omega)]
   ·rw[Array.getElem?_setIfInBounds_ne e,Array.getElem?_setIfInBounds_ne e];exact hl j hj
def tailB (l:List Oper) (n:Nat):Bool:=
 decide (n<l.length)&&plainB l.toArray&&backB l.toArray .any n&&Region.sinkB .any l.toArray n&&Region.chainB .any l.toArray n&&Region.lexB .any (l.take n).toArray&&Region.seqB .any l.toArray (l.length - n) n (headDone n (l.length - n))
theorem region_tail {id:Nat} {Q:Exit→Act→World→Prop} {a:Act} {w:World} {l:List Oper} (C:World→Prop) (n:Nat) (hm:P.follows .mixedOrders=true) (hB:tailB l n=true) (hC:C w.drew)
 (h:wpQuiet P (l.take n).toArray C (fun a'=>∀w',C w'→wpListIn (FW ro) m P l.toArray Q (l.drop n) a' w') (l.take n) a):(Code.region id l.toArray true).wpIn (FW ro) m P Q a w:=by
 simp only[tailB,Bool.and_eq_true,decide_eq_true_eq] at hB
 obtain ⟨⟨⟨⟨⟨⟨hn,hp⟩,hb⟩,hs⟩,hc⟩,hlex⟩,hseq⟩:=hB
 simp only[Region.lexB,Bool.and_eq_true] at hlex
 have htl:(l.take n).length=n:=by simp;omega
 refine wpIn_region_any hm ?_
 have e:l.toArray.size=n+(l.length - n):=by simp;omega
 have hq:=wpAnyQ_lex (P:=P) (C:=C) (md:= .any) hlex.1 (l.take n) 0 (Array.replicate (l.take n).toArray.size false) a (by simp) (by simpa using hlex.2) h
 rw[e]
 have hop:∀k N,k≤N→open_ (Array.replicate N false) k=k:=fun k=>by
  induction k with
  |zero=>intro N _;rfl
  |succ k ih=>intro N hN;unfold open_;rw[ih N (by omega),if_pos];simp[Array.getD];omega
 have inv0:HeadInv .any l.toArray n (Array.replicate (n+(l.length - n)) false):=
  ⟨by rw[e];simp,fun j oj _ hl=>(by rw[getD_replicate_false] at hl;cases hl),fun t _ ht=>getD_in (by rw[e] at ht;simpa using ht) (getD_replicate_false _ _)⟩
 refine head_tail (hd:=(l.take n).toArray) (g:=l.length - n) hp (by simpa using hn) (fun i hi=> ?_) (by simpa using htl) hb hs hc (K:=fun a'=>∀w',C w'→wpListIn (FW ro) m P l.toArray Q (l.drop n) a' w') (fun a' w' hw' hk=> ?_) n _ (Array.replicate n false) a _ (hop _ _ (by omega)) inv0 (by simp) (fun i hi=> ?_) hC ?_
 ·simp[List.getElem?_take,hi]
 ·have:=anyIn_seq (P:=P) (ops:=l.toArray) (md:= .any) (m:=m) (F:=FW ro) (Q':=Q) (l.drop n) n (headDone n (l.length - n)) a' w' (fun j=>by simp) (by simpa using hseq) (hk w' hw')
  simpa using this
 ·simp[Array.getElem?_replicate,hi]
  omega
 ·rw[htl] at hq
  simpa [htl] using hq
def NoOut (Q:Exit→Act→World→Prop) (e:Exit) (a:Act) (w:World):Prop:=e≠ .outgrown∧Q e a w
theorem rows_fw {r:String} {args:Array Value} {w:World} {R:Value→World→Prop} (h:Rows P r args w R):RowsIn (FW ro) m P r args w R:=fun c cs _=>
 let ⟨v,w',q,s⟩:=h c cs
 ⟨v,w',q,stepsIn_wide.2 s⟩
theorem opIn_of_op (hp:plainB ops=true) {Q:Exit→Act→World→Prop} {i:Nat} {a:Act} {w:World} {K K':Act→World→Prop} (h:∀a w,K a w→K' a w) (hh:wpOp P ops (NoOut Q) i K a w):wpOpIn (FW ro) m P ops Q i K' a w:=by
 unfold wpOp at hh
 unfold wpOpIn
 cases ho:ops[i]? with
 |none=>rw[ho] at hh;exact h _ _ hh
 |some o=>
  rw[ho] at hh
  obtain ⟨g,nd⟩:=plain_at hp ho
  simp only[wanted_none g,if_true] at hh ⊢
  rcases hh with hh|⟨_,a',w',z⟩
  ·refine ⟨fun _ _=>trivial,?_⟩
   rw[Oper.semAt_plain _ _ _ nd]
   unfold Oper.wp at hh
   generalize (execOp a.eval o).run P w=r at *
   cases r with
   |ok n w'=>
    cases n<;>simp only[Oper.upon] at hh<;>simp only[Oper.uponIn]
    case value u=>exact h _ _ hh
    case skip=>exact h _ _ hh
    case defer d=>exact h _ _ hh
    case enter f args=>
     refine ⟨fun z=>(by cases z),calls_fw (hh.mono fun e w'' he=> ?_)⟩
     cases e with
     |returned v=>exact h _ _ he
     |panicked c=>exact he.2
     |outgrown=>
      obtain ⟨_,_,z⟩:=he
      exact absurd rfl z.1
    case row r args=>exact ⟨fun z=>(by cases z),rows_fw (hh.mono fun v w'' he=>h _ _ he)⟩
   |halt x w'=>
    cases x<;>simp only[Oper.upon] at hh<;>simp only[Oper.uponIn]
    case panic u=>exact hh.2
  ·exact absurd rfl z.1
theorem anyIn_of_any (hp:plainB ops=true) {Q:Exit→Act→World→Prop}:∀(fuel:Nat) (listed:Array Bool) (a:Act) (w:World),wpAny P md ops (NoOut Q) fuel listed a w→wpAnyIn (FW ro) m P md ops Q fuel listed a w
 |0,_,_,_,h=>⟨h.1,h.2.2⟩
 |fuel+1,_,_,_,h=>⟨fun h0=>(h.1 h0).2,fun i hi=>opIn_of_op hp (fun a' w'=>anyIn_of_any hp fuel _ a' w') (h.2 i hi)⟩
theorem region_held {id:Nat} {Q:Exit→Act→World→Prop} {a:Act} {w:World} {l:List Oper} {S:World→Prop} (hm:P.follows .mixedOrders=true) (hB:plainB l.toArray=true)
 (h:wpAnyH P .any l.toArray (NoOut Q) S l.toArray.size (Array.replicate l.toArray.size false) a w.drew):(Code.region id l.toArray true).wpIn (FW ro) m P Q a w:=
 wpIn_region_any hm (anyIn_of_any hB _ _ _ _ (wpAny_of_held _ _ _ _ h))
end
end Go.Proofs.Rx
namespace Go.Proofs.YtdgdhnnakcncoaaGreatDoor
set_option maxHeartbeats 1600000
open Go.ChangeShapes Go.WideShapes Go.ChangeAt Go.RowKit Go.Proofs.Bt Go.Shelf Go.Proofs.Rx
set_option linter.unusedVariables false
set_option linter.unusedSimpArgs false
theorem grown1 (w:World) (o:Obj):Below w.heap.size w (w.alloc o):=(Below.refl _ w).alloc (Nat.le_refl _) _
theorem cellLt {w:World} {b o:Nat} {v:Value} (h:w.cell? ⟨b,o,none⟩=some v):b<w.heap.size:=World.block_lt_of_cell? w ⟨b,o,none⟩ h
theorem cases_d {d:Nat} (h:d≤6):d=0∨d=1∨d=2∨d=3∨d=4∨d=5∨d=6:=by omega
theorem size_any (d:Nat) (hd:d≤6) (w:World) (ht:TabW w):
 Calls Tryz.prog 242 #[.int .i64 (d:Nat)] w fun e w'=>e= .returned (.int .u64 (sz d:Nat))∧w'=w:=by
 have c:=ht.2 d (by omega)
 clear ht
 rcases cases_d hd with rfl|rfl|rfl|rfl|rfl|rfl|rfl
 all_goals
  clear hd
  simp only[sh,sz,Int.cast_ofNat_Int] at c ⊢
  go_enter Tryz.func242,Tryz.ntmps242
  go_wp2
  go_ret
  exact ⟨rfl,rfl⟩
def spanV (a b:Int):Value:= .agg #[.int .u64 a, .int .u64 b]
set_option maxRecDepth 20000 in
theorem spanOf_any (d:Nat) (hd:d≤6) (i:Int) (h0:0≤i) (h1:i≤68719476736) (hi:(i+1) *(sz d:Nat)≤34359738368) (w:World) (ht:TabW w):
 Calls Tryz.prog 251 #[.int .i64 (d:Nat), .int .u64 i] w fun e w'=>e= .returned (spanV (i *(sz d:Nat)) ((i+1) *(sz d:Nat)))∧Below w.heap.size w w':=by
 have c:=ht.2 d (by omega)
 clear ht
 rcases cases_d hd with rfl|rfl|rfl|rfl|rfl|rfl|rfl
 all_goals
  clear hd
  simp only[sh,sz,Int.cast_ofNat_Int] at c hi ⊢
  go_enter Tryz.func251,Tryz.ntmps251
  go_wp2_with fail
  have c':(w.alloc (.cells #[.int .u64 0, .int .u64 0] 282)).drew.cell? ⟨1,_,none⟩=_:=((grown1 w _).drew.cell (p:=⟨1,_,none⟩) (cellLt c)).trans c
  refine still_tail 12 (by kernel_rfl) (by kernel_rfl) ?_
  simp only[List.take_succ_cons,List.take_zero,List.drop_succ_cons,List.drop_zero]
  repeat still_step
  refine wpStill_nil ?_
  go_wp2_with fail
  exact bodyPost_ret (v:=spanV _ _) (by simp[results,Tryz.results251,go_sem,spanV]) rfl ⟨rfl,(grown1 w _).drew⟩
theorem spanOf_at (d:Nat) (hd:d≤6) (i a b:Int) (h0:0≤i) (h1:i≤68719476736) (ha:a=i *(sz d:Nat)) (hb:b=(i+1) *(sz d:Nat)) (hi:b≤34359738368) (w:World) (ht:TabW w):
 Calls Tryz.prog 251 #[.int .i64 (d:Nat), .int .u64 i] w fun e w'=>e= .returned (spanV a b)∧Below w.heap.size w w':=by
 subst ha hb;exact spanOf_any d hd i h0 h1 hi w ht
theorem pages_any (a b:Int) (h0:0≤a) (h1:a≤b) (h2:b≤34359738368) (w:World):
 Calls Tryz.prog 241 #[spanV a b] w fun e w'=>e= .returned (.int .u64 (b - a))∧Below w.heap.size w w':=by
 unfold spanV
 go_enter Tryz.func241,Tryz.ntmps241
 go_wp2_with fail
 go_ret
 exact ⟨rfl,grown1 _ _⟩
theorem spanRows_any (a b:Int) (d:Nat) (w:World):
 Calls Tryz.prog 246 #[spanV a b, .int .i64 (d:Nat)] w fun e w'=>e= .returned (.func (.func 289) #[] #[.pointer (some ⟨w.heap.size,0,none⟩), .pointer (some ⟨w.heap.size+1,0,none⟩)])∧
  w'=(w.alloc (.cells #[.int .u64 a, .int .u64 b] 282)).alloc (.cells #[.int .i64 (d:Nat)] 3):=by
 unfold spanV
 go_enter Tryz.func246,Tryz.ntmps246
 go_wp2_with fail
 go_ret
 exact ⟨rfl,rfl⟩
theorem alloc2_at (w:World) (x y z u:Value) (t t':TypeId) {w1:World} (b1:Below ((w.alloc (.cells #[x,y] t)).alloc (.cells #[z,u] t')).heap.size ((w.alloc (.cells #[x,y] t)).alloc (.cells #[z,u] t')) w1) (N:Nat) (hN:w.heap.size=N):
 Below N w w1∧N+2≤w1.heap.size∧w1.cell? ⟨N,0,none⟩=some x∧w1.cell? ⟨N,1,none⟩=some y∧w1.cell? ⟨N+1,0,none⟩=some z∧w1.cell? ⟨N+1,1,none⟩=some u∧(∀k,w1.frozen? ⟨N+1,k,none⟩=false):=by
 subst hN
 have h1:=World.alloc_heap_new (w.alloc (.cells #[x,y] t)) (.cells #[z,u] t')
 rw[World.size_alloc] at h1
 have h0:((w.alloc (.cells #[x,y] t)).alloc (.cells #[z,u] t')).heap[w.heap.size]? =some (.cells #[x,y] t):=(Below.heap_alloc _ _ _ (by simp)).trans (World.alloc_heap_new w _)
 have e0:=(b1.block w.heap.size (by simp;omega)).trans h0
 have e1:=(b1.block (w.heap.size+1) (by simp)).trans h1
 refine ⟨((((Below.refl _ w).alloc (Nat.le_refl _) _).alloc (by simp) _).trans (b1.mono (by simp;omega))),by have:=b1.size;simp at this;omega,?_,?_,?_,?_,fun k=> ?_⟩
 ·simp[World.cell?,e0]
 ·simp[World.cell?,e0]
 ·simp[World.cell?,e1]
 ·simp[World.cell?,e1]
 ·simp[World.frozen?,e1]
theorem in_any (d:Nat) (hd:d≤6) (i a b A B:Int) (h0:0≤i) (h1:i≤68719476736) (hA:A=i *(sz d:Nat)) (hB:B=(i+1) *(sz d:Nat)) (hi:B≤34359738368) (w:World) (ht:TabW w):
 Calls Tryz.prog 240 #[spanV a b, .int .i64 (d:Nat), .int .u64 i] w fun e w'=>e= .returned (spanV (max a A) (min b B))∧Below w.heap.size w w':=by
 have CS:=fun w ht=>hide (spanOf_at d hd i A B h0 h1 hA hB hi w ht)
 have HT:=hide ht
 clear hA hB hi ht
 unfold spanV at CS ⊢
 obtain ⟨X,hX⟩:∃X,max a A=X:=⟨_,rfl⟩
 obtain ⟨Y,hY⟩:∃Y,min b B=Y:=⟨_,rfl⟩
 rw[hX,hY]
 have HX:=hide hX
 have HY:=hide hY
 clear hX hY
 go_enter Tryz.func240,Tryz.ntmps240
 go_wp2_with fail
 refine (CS _ (HT.out.below (((Below.refl _ w).alloc (Nat.le_refl _) _).alloc (by simp) _))).out.mono ?_
 rintro e w1 ⟨rfl,b1⟩
 obtain ⟨N,hN⟩:∃N,w.heap.size=N:=⟨_,rfl⟩
 obtain ⟨B1,s1,c0,c1,c2,c3,f0⟩:=alloc2_at w _ _ _ _ _ _ b1 N hN
 have HB:=hide B1
 clear b1 CS HT B1
 have s2:N<w1.heap.size:=by omega
 have s3:N+1<w1.heap.size:=by omega
 have FIN:=hide (show ∀x y z,Below N w (((w1.setCell ⟨N+1,0,none⟩ x).setCell ⟨N+1,1,none⟩ y).alloc z) from fun x y z=>((HB.out.setCell (by simp) _).setCell (by simp) _).alloc (by simp;omega) _)
 have f1:=f0 0
 have f2:=f0 1
 clear f0
 have HNN:=hide hN
 rw[hN]
 clear hN
 by_cases m1:a<A<;>by_cases m2:B<b
 ·have E1:=hide (show X=A by have:=HX.out;omega)
  have E2:=hide (show Y=B by have:=HY.out;omega)
  go_wp2_with fail
  exact bodyPost_ret (v:= .agg #[.int .u64 A, .int .u64 B]) (by simp[results,Tryz.results240,go_sem,s3,c2,c3]) rfl ⟨by rw[E1.out,E2.out],by rw[HNN.out];exact FIN.out _ _ _⟩
 ·have e4:(if B<b then B else b)=b:=if_neg m2
  have E1:=hide (show X=A by have:=HX.out;omega)
  have E2:=hide (show Y=b by have:=HY.out;omega)
  clear m2
  go_wp2_with fail
  exact bodyPost_ret (v:= .agg #[.int .u64 A, .int .u64 b]) (by simp[results,Tryz.results240,go_sem,s3,c2,c3]) rfl ⟨by rw[E1.out,E2.out],by rw[HNN.out];exact FIN.out _ _ _⟩
 ·have e3:(if a<A then A else a)=a:=if_neg m1
  have E1:=hide (show X=a by have:=HX.out;omega)
  have E2:=hide (show Y=B by have:=HY.out;omega)
  clear m1
  go_wp2_with fail
  exact bodyPost_ret (v:= .agg #[.int .u64 a, .int .u64 B]) (by simp[results,Tryz.results240,go_sem,s3,c2,c3]) rfl ⟨by rw[E1.out,E2.out],by rw[HNN.out];exact FIN.out _ _ _⟩
 ·have e3:(if a<A then A else a)=a:=if_neg m1
  have e4:(if B<b then B else b)=b:=if_neg m2
  have E1:=hide (show X=a by have:=HX.out;omega)
  have E2:=hide (show Y=b by have:=HY.out;omega)
  clear m1
  clear m2
  go_wp2_with fail
  exact bodyPost_ret (v:= .agg #[.int .u64 a, .int .u64 b]) (by simp[results,Tryz.results240,go_sem,s3,c2,c3]) rfl ⟨by rw[E1.out,E2.out],by rw[HNN.out];exact FIN.out _ _ _⟩
end Go.Proofs.YtdgdhnnakcncoaaGreatDoor
