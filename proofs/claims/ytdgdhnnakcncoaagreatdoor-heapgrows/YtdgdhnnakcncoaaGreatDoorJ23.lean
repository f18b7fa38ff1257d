/- Of the proof of HeapGrows: texts RSh, RLw, RQa. -/
import Derived.Test.YtdgdhnnakcncoaaGreatDoorJ22
import Derived.Test.YtdgdhnnakcncoaaGreatDoorJ18
import Derived.Test.YtdgdhnnakcncoaaGreatDoorJ01
import Derived.Deep.Slices
import Derived.Deep.Strs
import Derived.Lib.SmallJoins
import Derived.Lib.LaidTab
import Derived.LaidMore
import Derived.Stop.Joined
import Derived.Deep.AppendLies
namespace Go.Proofs.YtdgdhnnakcncoaaGreatDoor
set_option maxHeartbeats 1600000
open Go.ChangeShapes Go.WideShapes Go.ChangeAt Go.RowKit Go.Proofs.Bt Go.Shelf Go.Proofs.Rx Go.Maps Go.Proofs.Pk
set_option linter.unusedVariables false
set_option linter.unusedSimpArgs false
theorem run_tl {st:Nat→Nat} {p n:Nat} (h:Run st p n) (hn:1≤n) (ho:∀q,34359738368≤q→st q=0):p+n≤34359738368∧(tl st p n).p=n∧(tl st p n).f=n:=by
 refine ⟨?_,?_,?_⟩
 ·rcases Nat.lt_or_ge 34359738368 (p+n) with y|y
  ·have h1:=h (p+n - 1) (by omega) (by omega)
   have h2:=ho (p+n - 1) (by omega)
   omega
  ·exact y
 ·show cnt (inU st) p n=n
  exact cnt_full.2 fun k hk=>by
   have:=h (p+k) (by omega) (by omega)
   unfold inU
   exact decide_eq_true (by omega)
 ·show cnt (fre st) p n=n
  exact cnt_full.2 fun k hk=>by
   have:=h (p+k) (by omega) (by omega)
   unfold fre
   exact decide_eq_true (by omega)
theorem TreeE.find {B:Nat} {O:Nat→Prop} {w:World} {tb:Nat} {st:Nat→Nat} (h:TreeE B O w tb st) (n:Nat) (hn:n<18446744073709551616):
 Calls Tryz.prog 303 #[.pointer (some ⟨tb,0,none⟩), .int .u64 (n:Nat)] w (FindT st n w):=by
 obtain ⟨T,L,C,rfl,rfl,h1,h2⟩:=h
 exact find9_core h1 n hn
def AllocP (B:Nat) (O:Nat→Prop) (w:World) (tb:Nat) (st:Nat→Nat) (n:Nat) (e:Ending) (w':World):Prop:=
 (n=0∧e= .returned (.tuple #[.int .u64 0, .int .u64 0, .int .i64 1])∧Chg B O w tb st w')∨
 (1≤n∧(∀p,¬Run st p n)∧e= .returned (.tuple #[.int .u64 0, .int .u64 0, .int .i64 30])∧Chg B O w tb st w')∨
 (1≤n∧∃p,p+n≤34359738368∧First st n p∧e= .returned (.tuple #[.int .u64 (p:Nat), .int .u64 ((tl st p n).r:Nat), .int .i64 0])∧Chg B O w tb (setSt st p (p+n) 1) w')
set_option maxRecDepth 100000 in
theorem alloc_any {B:Nat} {O:Nat→Prop} {w:World} {tb:Nat} {st:Nat→Nat} (h:TreeE B O w tb st) (n:Nat) (hn:n<18446744073709551616):
 Calls Tryz.prog 279 #[.pointer (some ⟨tb,0,none⟩), .int .u64 (n:Nat)] w (AllocP B O w tb st n):=by
 obtain ⟨R,hR⟩:∃R,R=AllocP B O w tb st n:=⟨_,rfl⟩
 rw[←hR]
 have HR:=hide hR
 have HH:=hide h
 have CF:=hide (h.find n hn)
 by_cases n0:n=0
 ·have d0:((n:Int)==0)=true:=beq_iff_eq.2 (by omega)
  have F:=hide (show R (.returned (.tuple #[.int .u64 0, .int .u64 0, .int .i64 1])) w from by
   rw[HR.out];exact .inl ⟨n0,rfl,Chg.same HH.out (Below.refl _ _)⟩)
  clear hR h CF HR HH n0
  go_enter Tryz.func279,Tryz.ntmps279
  go_wp2_with fail
  first|exact F.out|(refine bodyPost_ret (results_tmp3 Tryz.results279 _ _ _) rfl ?_;exact F.out)
 ·have d0:((n:Int)==0)=false:=beq_eq_false_iff_ne.2 (by omega)
  have n1:1≤n:=by omega
  clear hR h n0
  go_enter Tryz.func279,Tryz.ntmps279
  go_wp2_with fail
  refine CF.out.mono ?_
  rintro e w1 ⟨(⟨p,hp,hf,_,rfl⟩|⟨hno,rfl⟩),b1⟩
  ·have T1:=hide (HH.out.below b1)
   have B1:=hide b1
   obtain ⟨r1,r2,r3⟩:=run_tl hf.1 n1 HH.out.out
   have CK:=hide (take9_any T1.out p n (by omega) hn)
   have ec:cntT st p n=tl st p n:=by unfold cntT;rw[if_neg (by omega)]
   have F:=hide (show ∀W e,TakeP B O w1 tb st p n e W→e= .returned (.tuple #[.int .u64 ((tl st p n).r:Nat), .int .i64 0])∧R (.returned (.tuple #[.int .u64 (p:Nat), .int .u64 ((tl st p n).r:Nat), .int .i64 0])) W from fun W e hW=>by
    obtain ⟨e1,e2⟩:=hW.2.2 (by rw[ec];omega) (by omega)
    refine ⟨e1,?_⟩
    rw[HR.out]
    exact .inr (.inr ⟨n1,p,r1,hf,rfl,e2.after B1.out⟩))
   obtain ⟨q,hq⟩:∃q,(tl st p n).r=q:=⟨_,rfl⟩
   rw[hq] at F
   clear CF b1 hf r2 r3 ec hq HR
   go_wp2_with fail
   refine CK.out.mono ?_
   intro e w2 hx
   obtain ⟨rfl,hr⟩:=F.out _ _ hx
   have HF:=hide hr
   clear hx hr F CK
   go_wp2_with fail
   first|exact HF.out|(refine bodyPost_ret (results_tmp3 Tryz.results279 _ _ _) rfl ?_;exact HF.out)
  ·have F:=hide (show R (.returned (.tuple #[.int .u64 0, .int .u64 0, .int .i64 30])) w1 from by
    rw[HR.out];exact .inr (.inl ⟨n1,hno.resolve_left (by omega),rfl,Chg.same HH.out b1⟩))
   clear CF hno b1 HR
   go_wp2_with fail
   first|exact F.out|(refine bodyPost_ret (results_tmp3 Tryz.results279 _ _ _) rfl ?_;exact F.out)
def StateP (st:Nat→Nat) (q:Nat) (w:World) (e:Ending) (w':World):Prop:=
 e= .returned (.tuple #[.bool (inU st q), .bool (fre st q), .bool (rel st q)])∧Below w.heap.size w w'
theorem cnt_one (f:Nat→Bool) (q:Nat):decide (0<cnt f q 1)=f q:=by
 simp only[cnt,Nat.add_zero]
 have key:∀b:Bool,decide (0<0+b.toNat)=b:=by decide
 exact key _
theorem cntT_one {st:Nat→Nat} (ho:∀q,34359738368≤q→st q=0) (q:Nat):decide (0<(cntT st q 1).p)=inU st q∧decide (0<(cntT st q 1).f)=fre st q∧decide (0<(cntT st q 1).r)=rel st q:=by
 unfold cntT
 by_cases z:(1:Nat)=0∨34359738368<q+1
 ·rw[if_pos z]
  have:=ho q (by omega)
  unfold inU fre rel
  rw[this]
  exact ⟨rfl,rfl,rfl⟩
 ·rw[if_neg z]
  exact ⟨cnt_one _ _,cnt_one _ _,cnt_one _ _⟩
set_option maxRecDepth 100000 in
theorem state_any {B:Nat} {O:Nat→Prop} {w:World} {tb:Nat} {st:Nat→Nat} (h:TreeE B O w tb st) (q:Nat) (hq:q<18446744073709551616):
 Calls Tryz.prog 79 #[.pointer (some ⟨tb,0,none⟩), .int .u64 (q:Nat)] w (StateP st q w):=by
 obtain ⟨R,hR⟩:∃R,R=StateP st q w:=⟨_,rfl⟩
 rw[←hR]
 have HR:=hide hR
 have HH:=hide h
 have CC:=hide (h.count q 1 hq (by omega))
 simp only[Int.cast_ofNat_Int] at CC
 obtain ⟨e1,e2,e3⟩:=cntT_one h.out q
 obtain ⟨t,ht⟩:∃t,cntT st q 1=t:=⟨_,rfl⟩
 rw[ht] at CC e1 e2 e3
 unfold tlV at CC
 obtain ⟨x,hx⟩:∃x,inU st q=x:=⟨_,rfl⟩
 obtain ⟨y,hy⟩:∃y,fre st q=y:=⟨_,rfl⟩
 obtain ⟨z,hz⟩:∃z,rel st q=z:=⟨_,rfl⟩
 have HX:=hide (And.intro hx (And.intro hy hz))
 rw[hx] at e1
 rw[hy] at e2
 rw[hz] at e3
 clear hR h ht hx hy hz
 go_enter Tryz.func79,Tryz.ntmps79
 go_wp2_with fail
 refine CC.out.mono ?_
 rintro e w1 ⟨rfl,b1⟩
 obtain ⟨b,hb⟩:∃b,w1.heap.size=b:=⟨_,rfl⟩
 obtain ⟨W,hW⟩:∃W,w1.alloc (.cells #[.int .u64 (t.p:Nat), .int .u64 (t.f:Nat), .int .u64 (t.r:Nat)] 216)=W:=⟨_,rfl⟩
 have TB:=hide (tal_box hb hW.symm)
 have bW:Below w.heap.size w W:=by rw[←hW];exact b1.alloc b1.size _
 have BW:=hide bW
 have s1:=b1.size
 have c0:=TB.out.cell 0 _ rfl
 have c1:=TB.out.cell 1 _ rfl
 have c2:=TB.out.cell 2 _ rfl
 have F:=hide (show ∀m,R (.returned (.tuple #[.bool x, .bool y, .bool z])) (W.drewN m) from fun m=>by
  rw[HR.out]
  exact ⟨by rw[HX.out.1,HX.out.2.1,HX.out.2.2],BW.out.trans ⟨rfl,rfl,rfl,Nat.le_refl _,fun _ _=>rfl⟩⟩)
 clear b1 CC bW HR HX
 go_wp2_with fail
 go_quiet (fail)
 go_wp2_with fail
 first|exact F.out _|(refine bodyPost_ret (results_tmp3 Tryz.results79 _ _ _) rfl ?_;exact F.out _)
end Go.Proofs.YtdgdhnnakcncoaaGreatDoor
namespace Go.Proofs.YtdgdhnnakcncoaaGreatDoor
open Go.Proofs.Bt Go.Proofs.Rx Go.Proofs.Pk
set_option linter.unusedVariables false
set_option linter.unusedSimpArgs false
def frT (st:Nat→Nat):Nat:=(tl st 0 34359738368).f
def rlT (st:Nat→Nat):Nat:=(tl st 0 34359738368).r
theorem tot_set {st:Nat→Nat} {a n s:Nat} (h:a+n≤34359738368):
 frT (setSt st a (a+n) s)+(tl st a n).f=frT st+(if 2≤s then n else 0)∧rlT (setSt st a (a+n) s)+(tl st a n).r=rlT st+(if s=3 then n else 0):=by
 obtain ⟨h1,h2,h3,h4⟩:=tl_swap (st:=st) (st':=setSt st a (a+n) s) (A:=0) (n:=34359738368) (K:=a) (z:=n) (by omega) (by omega) (fun q _ _ hq=>(setSt_out hq).symm)
 have e:tl (setSt st a (a+n) s) a n=tlOf s n:=All.tl fun q q1 q2=>setSt_in ⟨q1,q2⟩
 rw[e] at h1
 unfold frT rlT
 rw[h1]
 unfold Tl.add Tl.sub tlOf
 dsimp only
 omega
theorem tot_zero:frT (fun _=>0)=0∧rlT (fun _=>0)=0:=by
 have e:tl (fun _=>0) 0 34359738368=tlOf 0 34359738368:=All.tl fun q _ _=>rfl
 unfold frT rlT
 rw[e]
 exact ⟨rfl,rfl⟩
theorem tl_all {st:Nat→Nat} {a n s:Nat} (h:∀q,a≤q→q<a+n→st q=s):tl st a n=tlOf s n:=All.tl h
theorem First_one {st:Nat→Nat} {n p p':Nat} (h:First st n p) (h':First st n p'):p=p':=by
 rcases Nat.lt_trichotomy p p' with y|y|y
 ·exact absurd h.1 (h'.2 p y)
 ·exact y
 ·exact absurd h'.1 (h.2 p' y)
end Go.Proofs.YtdgdhnnakcncoaaGreatDoor
namespace Go.Proofs.YtdgdhnnakcncoaaGreatDoor
open Go.ChangeShapes Go.WideShapes Go.ChangeAt Go.RowKit Go.Proofs.Bt Go.Shelf Go.Proofs.Rx Go.Maps Go.Proofs.Pk
set_option linter.unusedVariables false
set_option linter.unusedSimpArgs false
structure T9 (N:Nat) (O:Nat→Prop) (w W:World) (tb:Nat) (st:Nat→Nat):Prop where
 tr:TreeE N O W tb st
 be:Below N w W
def Left9 (N:Nat) (O:Nat→Prop) (W W':World):Prop:=Kept (fun x=>N≤x∧¬O x) W W'
section
variable {N:Nat} {O:Nat→Prop} {w W W':World} {tb:Nat} {st st':Nat→Nat}
theorem T9.chg (h:T9 N O w W tb st) (c:Chg N O W tb st' W'):T9 N O w W' tb st'∧Left9 N O W W':=⟨⟨c.1,below_kept h.be c.2 (fun x hx=>hx.1) h.tr.lt.2.2⟩,c.2⟩
theorem T9.read (h:T9 N O w W tb st) (b:Below W.heap.size W W'):T9 N O w W' tb st∧Left9 N O W W':=⟨⟨h.tr.below b,h.be.trans (b.mono h.tr.lt.2.2)⟩,Kept.of_below b⟩
theorem T9.more {O':Nat→Prop} (h:T9 N O w W tb st) (b:Below W.heap.size W W') (hO:∀x,O' x→O x∨(W.heap.size≤x∧x<W'.heap.size)):T9 N O' w W' tb st:=⟨h.tr.more b hO,h.be.trans (b.mono h.tr.lt.2.2)⟩
theorem T9.own {F:Nat→Prop} (h:T9 N O w W tb st) (k:Kept F W W') (hF:∀x,F x→O x∧N≤x):T9 N O w W' tb st:=⟨h.tr.kept k (fun x hx=>(hF x hx).1),below_kept h.be k (fun x hx=>(hF x hx).2) h.tr.lt.2.2⟩
theorem T9.congr (h:T9 N O w W tb st) (e:st=st'):T9 N O w W tb st':=e▸h
theorem T9.four (h:T9 N O w W tb st):Four st:=h.tr.four
theorem T9.out (h:T9 N O w W tb st):∀q,34359738368≤q→st q=0:=h.tr.out
theorem T9.tab (h:T9 N O w W tb st):TabW W:=h.tr.tab
theorem t9_grow (h:T9 N O w W tb st) (c n:Nat) (hb:¬GrowBad c n) (ht:(tl st (c * 512) (n * 512)).p=0):
 Calls Tryz.prog 281 #[.pointer (some ⟨tb,0,none⟩), .int .u64 (c:Nat), .int .u64 (n:Nat)] W fun e W'=>e= .returned (.int .i64 0)∧T9 N O w W' tb (setSt st (c * 512) (c * 512+n * 512) 3)∧Left9 N O W W':=by
 have hb':n≠0∧n≤262144∧c+n≤67108864:=by unfold GrowBad at hb;omega
 refine (grow_any h.tr c n (by omega) (by omega)).mono ?_
 rintro e W' ⟨_,_,h3⟩
 obtain ⟨e1,e2⟩:=h3 hb (by omega)
 exact ⟨e1,h.chg e2⟩
theorem t9_find (h:T9 N O w W tb st) (n p:Nat) (hn:n<18446744073709551616) (h1:1≤n) (hf:First st n p):
 Calls Tryz.prog 303 #[.pointer (some ⟨tb,0,none⟩), .int .u64 (n:Nat)] W fun e W'=>e= .returned (.tuple #[.int .u64 (p:Nat), .bool true])∧T9 N O w W' tb st∧Left9 N O W W':=by
 refine (h.tr.find n hn).mono ?_
 rintro e W' ⟨(⟨q,_,hq,_,he⟩|⟨hno,he⟩),b⟩
 ·rw[First_one hq hf] at he
  exact ⟨he,h.read b⟩
 ·exact absurd hf.1 (hno.resolve_left (by omega) p)
theorem t9_find_no (h:T9 N O w W tb st) (n:Nat) (hn:n<18446744073709551616) (hf:n=0∨∀p,¬Run st p n):
 Calls Tryz.prog 303 #[.pointer (some ⟨tb,0,none⟩), .int .u64 (n:Nat)] W fun e W'=>e= .returned (.tuple #[.int .u64 0, .bool false])∧T9 N O w W' tb st∧Left9 N O W W':=by
 refine (h.tr.find n hn).mono ?_
 rintro e W' ⟨(⟨q,_,hq,h1,he⟩|⟨hno,he⟩),b⟩
 ·exact absurd hq.1 (hf.resolve_left (by omega) q)
 ·exact ⟨he,h.read b⟩
theorem t9_alloc (h:T9 N O w W tb st) (n p:Nat) (hn:n<18446744073709551616) (h1:1≤n) (hf:First st n p):
 Calls Tryz.prog 279 #[.pointer (some ⟨tb,0,none⟩), .int .u64 (n:Nat)] W fun e W'=>e= .returned (.tuple #[.int .u64 (p:Nat), .int .u64 ((tl st p n).r:Nat), .int .i64 0])∧T9 N O w W' tb (setSt st p (p+n) 1)∧Left9 N O W W':=by
 refine (alloc_any h.tr n hn).mono ?_
 rintro e W' (⟨h0,_⟩|⟨_,hno,_⟩|⟨_,q,hq,hqf,he,hc⟩)
 ·omega
 ·exact absurd hf.1 (hno p)
 ·obtain rfl:=First_one hqf hf
  exact ⟨he,h.chg hc⟩
theorem t9_alloc_no (h:T9 N O w W tb st) (n:Nat) (hn:n<18446744073709551616) (h1:1≤n) (hf:∀p,¬Run st p n):
 Calls Tryz.prog 279 #[.pointer (some ⟨tb,0,none⟩), .int .u64 (n:Nat)] W fun e W'=>e= .returned (.tuple #[.int .u64 0, .int .u64 0, .int .i64 30])∧T9 N O w W' tb st∧Left9 N O W W':=by
 refine (alloc_any h.tr n hn).mono ?_
 rintro e W' (⟨h0,_⟩|⟨_,hno,he,hc⟩|⟨_,q,hq,hqf,he,hc⟩)
 ·omega
 ·exact ⟨he,h.chg hc⟩
 ·exact absurd hqf.1 (hf q)
def InT (st:Nat→Nat) (p n:Nat):Prop:=1≤n∧p+n≤34359738368∧(tl st p n).p=n
theorem cntT_inT {st:Nat→Nat} {p n:Nat}:¬(n=0∨(cntT st p n).p<n)↔InT st p n:=by
 unfold InT cntT
 have:=(tl_le st p n).1
 by_cases z:n=0∨34359738368<p+n
 ·rw[if_pos z];dsimp only;omega
 ·rw[if_neg z];omega
theorem t9_take (h:T9 N O w W tb st) (p n:Nat) (hi:InT st p n) (hf:(tl st p n).f=n):
 Calls Tryz.prog 305 #[.pointer (some ⟨tb,0,none⟩), .int .u64 (p:Nat), .int .u64 (n:Nat)] W fun e W'=>e= .returned (.tuple #[.int .u64 ((tl st p n).r:Nat), .int .i64 0])∧T9 N O w W' tb (setSt st p (p+n) 1)∧Left9 N O W W':=by
 have:=hi.2.1
 refine (take9_any h.tr p n (by omega) (by omega)).mono ?_
 rintro e W' ⟨_,_,h3⟩
 obtain ⟨e1,e2⟩:=h3 (cntT_inT.2 hi) (by omega)
 exact ⟨e1,h.chg e2⟩
theorem t9_released (h:T9 N O w W tb st):
 Calls Tryz.prog 76 #[.pointer (some ⟨tb,0,none⟩)] W fun e W'=>e= .returned (.int .u64 (rlT st:Nat))∧T9 N O w W' tb st∧Left9 N O W W':=by
 refine (released9_any h.tr).mono ?_
 rintro e W' ⟨he,b⟩
 exact ⟨he,h.read b⟩
theorem t9_state (h:T9 N O w W tb st) (q:Nat) (hq:q<18446744073709551616):
 Calls Tryz.prog 79 #[.pointer (some ⟨tb,0,none⟩), .int .u64 (q:Nat)] W fun e W'=>e= .returned (.tuple #[.bool (inU st q), .bool (fre st q), .bool (rel st q)])∧T9 N O w W' tb st∧Left9 N O W W':=by
 refine (state_any h.tr q hq).mono ?_
 rintro e W' ⟨he,b⟩
 exact ⟨he,h.read b⟩
end
end Go.Proofs.YtdgdhnnakcncoaaGreatDoor
namespace Go.Proofs.YtdgdhnnakcncoaaGreatDoor
open Go.ChangeShapes Go.WideShapes Go.ChangeAt Go.RowKit Go.Proofs.Bt Go.Shelf Go.WideMaps
set_option linter.unusedVariables false
set_option linter.unusedSimpArgs false
theorem act_spot {w:World} {b off:Nat} {sp:Option Nat} {v:Value} (h:w.cell? ⟨b,off,sp⟩=some v):sp=none:=by
 unfold World.cell? at h
 cases sp with
 |none=>rfl
 |some x=>split at h<;>simp at h
theorem addr_add0 (b o j:Nat):(⟨b,o,none⟩:Addr).add j=⟨b,o+j,none⟩:=by simp[Addr.add]
theorem cell_lt {w:World} {b o:Nat} {v:Value} (h:w.cell? ⟨b,o,none⟩=some v):b<w.heap.size:=World.block_lt_of_cell? w ⟨b,o,none⟩ h
theorem cellsU:Tryz.prog.cellsOf 39=1:=by kernel_rfl
structure U64At (w:World) (o:Option Addr) (len cap:Nat) (X:Nat→Int):Prop where
 nil:o=none→len=0∧cap=0
 cells:∀ad,o=some ad→∀i,i<len→w.cell? (ad.add i)=some (.int .u64 (X i))
 lo:∀i,0≤X i
 hi:∀i,X i≤18446744073709551615
theorem U64At.at {w:World} {o:Option Addr} {len cap:Nat} {X:Nat→Int} (h:U64At w o len cap X) {i:Nat} (hi:i<len):∃b off,o=some ⟨b,off,none⟩∧b<w.heap.size∧∀i,i<len→w.cell? ⟨b,off+ i,none⟩=some (.int .u64 (X i)):=by
 cases ho:o with
 |none=>have:=(h.nil ho).1;omega
 |some a=>
  obtain ⟨b,off,sp⟩:=a
  have c0:=h.cells _ ho 0 (by omega)
  have hs:sp=none:=act_spot (by simpa [Addr.add] using c0)
  subst hs
  have hb:b<w.heap.size:=cell_lt (by simpa [Addr.add] using c0)
  refine ⟨b,off,rfl,hb,fun j hj=> ?_⟩
  have:=h.cells _ ho j hj
  rwa[addr_add0] at this
theorem u64s_of {H:Type} {enc:TypeId×Value→H} {W:World} {o:Option Addr} {len cap:Nat} {d:DataW H} {p:List MemPlace} (h:DataW.Trod enc Tryz.prog W 0 (fun _=>true) true 22 (.slice o len cap) d p):len≤maxLen∧len≤cap∧∃X,U64At W o len cap X:=by
 obtain ⟨fuel,hf⟩:=h
 rcases Go.Deep.open_slice1 Tryz.underlying22 cellsU hf with ⟨hcs,hx⟩|⟨a,len',cap',m,n,V,D,Pl,hcs,_,hl,hm,hme,hx,hc⟩
 ·simp[Value.cells] at hcs
  obtain ⟨rfl,rfl,rfl⟩:=hcs
  exact ⟨by decide,Nat.le_refl _,fun _=>0,⟨fun _=>⟨rfl,rfl⟩,fun _ z=>by (cases z),fun _=>by decide,fun _=>by decide⟩⟩
 ·simp[Value.cells] at hcs
  obtain ⟨rfl,rfl,rfl⟩:=hcs
  have hmc:m=cap:=by simpa using hme
  have ex:∀i,∃X:Int,(0≤X∧X≤18446744073709551615)∧(i<len→W.cell? (a.add i)=some (.int .u64 X)):=fun i=>by
   by_cases z:i<len
   ·obtain ⟨k1,k2⟩:=hc i (by omega)
    obtain ⟨n0,e0,_,w0⟩:=DataW.trod_int Tryz.underlying39 k2
    have b0:=bounds_u64 w0
    have e1:V i= .int .u64 n0:=by injection e0
    exact ⟨n0,⟨b0.1,b0.2⟩,fun _=>by rw[k1,e1]⟩
   ·exact ⟨0,⟨by decide,by decide⟩,fun y=>absurd y z⟩
  refine ⟨by omega,by omega,fun i=>Classical.choose (ex i),⟨fun z=>by (cases z),fun ad e i hi=> ?_,fun i=>(Classical.choose_spec (ex i)).1.1,fun i=>(Classical.choose_spec (ex i)).1.2⟩⟩
  obtain rfl:a=ad:=by injection e
  exact (Classical.choose_spec (ex i)).2 hi
def laid1:List (String×DataW Unit):=[("math/bits.deBruijn64tab",Rows.laid_math_bits_deBruijn64tab),("mallow/radix.shifts",Rows.laid_mallow_radix_shifts)]
theorem own:ownKnob Tryz.prog.godebug=none:=by kernel_rfl
theorem gTab:Tryz.prog.globalNamed "math/bits.deBruijn64tab" =some 0:=by kernel_rfl
theorem tTab:(Tryz.prog.globals[0]?).map (·.type)=some 319:=by kernel_rfl
theorem gSh:Tryz.prog.globalNamed "mallow/radix.shifts" =some 1:=by kernel_rfl
theorem tSh:(Tryz.prog.globals[1]?).map (·.type)=some 177:=by kernel_rfl
theorem door_met (os:Os) (args:Array Value):laidMetH Tryz.prog laid1 ((World.doorLaid Tryz.prog 400 os).forCall (fun _ _=>0) ⟨#[],args,[]⟩).memory:=
 laidMetH_of_parts3 (fuel:=8) (laidMet_of_run' 8 (by kernel_rfl) (by kernel_rfl)) (by kernel_rfl) (by kernel_rfl)
theorem tabIs_of_second {P:Program} {W:World} {x:String×DataW Unit} {name:String} {k:IntKind} {zs:List Int} {rest:List (String×DataW Unit)} {g:Nat} {t e:TypeId} {n:Nat}
 (hg:P.globalNamed name=some g) (hty:(P.globals[g]?).map (·.type)=some t) (ht:P.underlying t=some (.array n e)) (he:P.underlying e=some (.int k)) (hce:P.cellsOf e=1) (hct:P.cellsOf t=n)
 (h:laidMet P (x::(name,Lib.tabData k zs)::rest) W):Lib.TabIs P W name k zs:=by
 obtain ⟨ps,⟨_,_,_,_,_,_,_,_,_,_,⟨g',t',cs,fuel,p,q,hg',ht',hvar,hd,_,_⟩,_⟩,_⟩:=h
 obtain rfl:=Option.some.inj (hg.symm.trans hg')
 obtain rfl:=Option.some.inj (hty.symm.trans ht')
 unfold Lib.TabIs
 rw[hvar,←Lib.cells_of_tab ht he hce hct hd]
theorem tab_of_laid {W:World} (h:laidMetH Tryz.prog laid1 W):TabW W:=by
 rw[MakeChecks.laidMetH_plain _ _ _ (by kernel_rfl)] at h
 have hT:=Lib.tabIs_of_head (k:= .u8) (zs:=Lib.deBruijn64tab.map fun n:Nat=>(n:Int)) (rest:=[("mallow/radix.shifts",Rows.laid_mallow_radix_shifts)]) gTab tTab Tryz.underlying319 Tryz.underlying5 (by kernel_rfl) (by kernel_rfl) h
 have hS:=tabIs_of_second (k:= .i64) (zs:=[35,27,21,18,15,12,9]) (rest:=[]) gSh tSh Tryz.underlying177 Tryz.underlying3 (by kernel_rfl) (by kernel_rfl) h
 refine ⟨fun j hj=> ?_,fun j hj=> ?_⟩
 ·have:=hT.cell gTab j (by rw[List.length_map];exact hj)
  rw[this]
  congr 2
  simp only[List.getD,List.getElem?_map]
  cases Lib.deBruijn64tab[j]? <;>rfl
 ·have:=hS.cell gSh j hj
  rw[this]
  have key:∀j,j<7→([35,27,21,18,15,12,9]:List Int).getD j 0=((Rx.sh j:Nat):Int):=by decide
  rw[key j hj]
end Go.Proofs.YtdgdhnnakcncoaaGreatDoor
namespace Go.Proofs.YtdgdhnnakcncoaaGreatDoor
set_option maxHeartbeats 1600000
open Go.ChangeShapes Go.WideShapes Go.ChangeAt Go.RowKit Go.Proofs.Bt Go.Shelf Go.Proofs.Rx Go.Maps Go.Proofs.Pk
set_option linter.unusedVariables false
set_option linter.unusedSimpArgs false
theorem T9.grow {N:Nat} {O O' F:Nat→Prop} {w W W':World} {tb:Nat} {st:Nat→Nat} (h:T9 N O w W tb st) (k:Kept F W W') (hF:∀x,F x→O x∧N≤x) (hO:∀x,O' x→O x∨(W.heap.size≤x∧x<W'.heap.size)):T9 N O' w W' tb st:=by
 have lt:=h.tr.lt
 refine ⟨?_,below_kept h.be k (fun x hx=>(hF x hx).2) lt.2.2⟩
 obtain ⟨T,L,C,e1,e2,h1,h2⟩:=h.tr
 have sz':=k.size
 refine ⟨T,L,C,e1,e2,⟨h1.rad.kept k (fun x hx=>⟨(h2 x (hF x hx).1).1,by rw[e2];exact (hF x hx).2⟩),h1.good,h1.four,h1.out⟩,fun x hx=> ?_⟩
 rcases hO x hx with z|z
 ·obtain ⟨a,b,c⟩:=h2 x z
  exact ⟨a,b,by omega⟩
 ·exact ⟨h1.rad.foot_lt z.1,by omega,z.2⟩
theorem infoU:(Tryz.prog.info? 39).map (fun i=>(i.zero,i.size,i.bytes))=some (some (.int .u64 0),1,8):=by kernel_rfl
end Go.Proofs.YtdgdhnnakcncoaaGreatDoor
namespace Go.Proofs.Bt
set_option linter.unusedVariables false
def on1 (a n:Nat):Nat:=(2^n - 1) * 2^a
theorem on1_bit (a n k:Nat):(on1 a n).testBit k=decide (a≤k∧k<a+n):=by
 unfold on1
 rw[←Nat.shiftLeft_eq,Nat.testBit_shiftLeft,Nat.testBit_two_pow_sub_one,←Bool.decide_and]
 congr 1
 simp only[eq_iff_iff]
 omega
theorem on1_lt {a n:Nat} (h:a+n≤64):on1 a n<18446744073709551616:=lt_of_bits fun k hk=>by rw[on1_bit];exact decide_eq_false (by omega)
theorem ones_down {n:Nat} (h:n≤64):18446744073709551615/2^(64 - n)=2^n - 1:=by
 have e:(18446744073709551616:Nat)=2^n * 2^(64 - n):=by rw[←Nat.pow_add,show n+(64 - n)=64 by omega]
 have hp:0<2^(64 - n):=Nat.two_pow_pos _
 have hn:0<2^n:=Nat.two_pow_pos _
 rw[Nat.div_eq_iff hp]
 have e2:(2^n - 1) * 2^(64 - n)=2^n * 2^(64 - n) - 2^(64 - n):=by rw[Nat.sub_mul,Nat.one_mul]
 have h3:2^(64 - n)≤2^n * 2^(64 - n):=Nat.le_mul_of_pos_left _ hn
 rw[e2,←e]
 rw[←e] at h3
 omega
theorem bit_down (x i k:Nat):(x/2^i).testBit k=x.testBit (i+k):=by
 rw[Nat.testBit_div_two_pow,Nat.add_comm]
theorem down_lt {x:Nat} (i:Nat) (h:x<18446744073709551616):x/2^i<18446744073709551616:=Nat.lt_of_le_of_lt (Nat.div_le_self _ _) h
def Row (x p n:Nat):Prop:=∀k,k<n→x.testBit (p+k)=true
theorem row_half {x p n:Nat} (h:n/2≤n) (hn:1<n):Row (x &&& (x/2^(n/2))) p (n - n/2)↔Row x p n:=by
 constructor
 ·intro h1 k hk
  by_cases z:k<n - n/2
  ·have:=h1 k z
   rw[Nat.testBit_and,Bool.and_eq_true] at this
   exact this.1
  ·have:=h1 (k - n/2) (by omega)
   rw[Nat.testBit_and,Bool.and_eq_true,bit_down] at this
   rw[←this.2]
   congr 1
   omega
 ·intro h1 k hk
  rw[Nat.testBit_and,bit_down,h1 k (by omega),show n/2+(p+k)=p+(n/2+k) by omega,h1 _ (by omega)]
  rfl
theorem row_one {x p:Nat}:Row x p 1↔x.testBit p=true:=⟨fun h=>h 0 (by omega),fun h k hk=>by rw[show p+k=p by omega];exact h⟩
theorem row_lt {x p n:Nat} (hx:x<18446744073709551616) (hn:1≤n) (h:Row x p n):p+n≤64:=by
 rcases Nat.lt_or_ge 64 (p+n) with y|y
 ·have:=h (n - 1) (by omega)
  rw[bit_high hx (by omega)] at this
  cases this
 ·exact y
theorem zero_of_bits {x:Nat} (h:∀k,x.testBit k=false):x=0:=Nat.eq_of_testBit_eq fun k=>by rw[h k,Nat.zero_testBit]
def at1 (x:Nat):Nat:=Lib.ctz 64 x
def len1 (x:Nat):Nat:=Lib.ctz 64 (inv (x/2^at1 x))
theorem ctz_zero:Lib.ctz 64 0=64:=by unfold Lib.ctz;rfl
theorem row1 {x:Nat} (h0:x≠0) (hx:x<18446744073709551616):at1 x<64∧1≤len1 x∧at1 x+len1 x≤64∧Row x (at1 x) (len1 x)∧∀k,k<at1 x→x.testBit k=false:=by
 obtain ⟨h1,h2,h3⟩:=ctz_bit h0 hx
 have ea:at1 x=Lib.ctz 64 x:=rfl
 rw[←ea] at h1 h2 h3
 have hd:=down_lt (at1 x) hx
 have b0:∀k,k<64→(inv (x/2^at1 x)).testBit k= !x.testBit (at1 x+k):=fun k hk=>by rw[inv_bit hd hk,bit_down]
 unfold len1
 by_cases z:inv (x/2^at1 x)=0
 ·rw[z,ctz_zero]
  have all:∀k,k<64→x.testBit (at1 x+k)=true:=fun k hk=>by
   have:=b0 k hk
   rw[z,Nat.zero_testBit] at this
   cases h:x.testBit (at1 x+k) with
   |true=>rfl
   |false=>rw[h] at this;cases this
  have:at1 x=0:=by
   rcases Nat.eq_zero_or_pos (at1 x) with y|y
   ·exact y
   ·have:=all 63 (by omega)
    rw[bit_high hx (by omega)] at this
    cases this
  exact ⟨h1,by omega,by omega,all,h3⟩
 ·obtain ⟨c1,c2,c3⟩:=ctz_bit z (inv_lt _)
  generalize Lib.ctz 64 (inv (x/2^at1 x))=n at *
  have r:Row x (at1 x) n:=fun k hk=>by
   have h:=c3 k hk
   rw[b0 k (by omega)] at h
   simpa using h
  have n1:1≤n:=by
   rcases Nat.eq_zero_or_pos n with y|y
   ·rw[y,b0 0 (by omega),Nat.add_zero,h2] at c2
    cases c2
   ·exact y
  exact ⟨h1,n1,row_lt hx n1 r,r,h3⟩
def nx1 (x:Nat):Nat:=andn x (on1 (at1 x) (len1 x))
theorem nx1_bit (x k:Nat):(nx1 x).testBit k=(x.testBit k&& !decide (at1 x≤k∧k<at1 x+len1 x)):=by unfold nx1;rw[andn_bit,on1_bit]
theorem nx1_lt {x:Nat} (h:x<18446744073709551616):nx1 x<18446744073709551616:=andn_lt _ h
theorem nx1_less {x:Nat} (h0:x≠0) (hx:x<18446744073709551616):nx1 x<x:=by
 obtain ⟨h1,h2,h3,h4,h5⟩:=row1 h0 hx
 have e:x &&& nx1 x=nx1 x:=Nat.eq_of_testBit_eq fun k=>by rw[Nat.testBit_and,nx1_bit];cases x.testBit k<;>rfl
 have l:nx1 x≤x:=by rw[←e];exact Nat.and_le_left
 refine Nat.lt_of_le_of_ne l fun z=> ?_
 have b:=h4 0 (by omega)
 have c:(nx1 x).testBit (at1 x+0)=false:=by rw[nx1_bit,decide_eq_true (by omega)];simp
 rw[z,b] at c
 cases c
def lft (x:Nat):Nat→Nat
 |0=>x
 |k+1=>nx1 (lft x k)
theorem lft_lt {x:Nat} (h:x<18446744073709551616):∀k,lft x k<18446744073709551616
 |0=>h
 |k+1=>nx1_lt (lft_lt h k)
theorem lft_low {x:Nat} (h:x<18446744073709551616):∀k j,j<k→(lft x k).testBit j=false:=by
 intro k
 induction k with
 |zero=>intro j hj;omega
 |succ k ih=>
  intro j hj
  show (nx1 (lft x k)).testBit j=false
  rw[nx1_bit]
  by_cases z:lft x k=0
  ·rw[z,Nat.zero_testBit];rfl
  ·obtain ⟨h1,h2,h3,h4,h5⟩:=row1 z (lft_lt h k)
   have hk:k≤at1 (lft x k):=by
    rcases Nat.lt_or_ge (at1 (lft x k)) k with y|y
    ·have:=h4 0 (by omega)
     rw[Nat.add_zero,ih _ y] at this
     cases this
    ·exact y
   by_cases y:j<at1 (lft x k)
   ·rw[h5 j y];rfl
   ·rw[decide_eq_true (by omega)];simp
theorem lft_end {x:Nat} (h:x<18446744073709551616):lft x 64=0:=zero_of_bits fun k=>by
 by_cases z:k<64
 ·exact lft_low h 64 k z
 ·exact bit_high (lft_lt h 64) (by omega)
theorem least_of (P:Nat→Prop):∀m,P m→∃N,N≤m∧P N∧∀k,k<N→¬P k:=by
 intro m
 induction m with
 |zero=>intro h;exact ⟨0,Nat.le_refl _,h,fun k hk=>by omega⟩
 |succ m ih=>
  intro h
  by_cases z:∃k,k≤m∧P k
  ·obtain ⟨k,hk,hp⟩:=z
   have:∀n,n≤m→P n→∃N,N≤n∧P N∧∀k,k<N→¬P k:=by
    intro n
    induction n using Nat.strongRecOn with
    |_ n ihn=>
     intro hn hp
     by_cases y:∃j,j<n∧P j
     ·obtain ⟨j,hj,hpj⟩:=y
      obtain ⟨N,h1,h2,h3⟩:=ihn j hj (by omega) hpj
      exact ⟨N,by omega,h2,h3⟩
     ·exact ⟨n,Nat.le_refl _,hp,fun k hk hpk=>y ⟨k,hk,hpk⟩⟩
   obtain ⟨N,h1,h2,h3⟩:=this k hk hp
   exact ⟨N,by omega,h2,h3⟩
  ·exact ⟨m+1,Nat.le_refl _,h,fun k hk hp=>z ⟨k,by omega,hp⟩⟩
theorem rows_many {x:Nat} (h:x<18446744073709551616):∃N,N≤64∧lft x N=0∧∀k,k<N→lft x k≠0:=least_of (fun k=>lft x k=0) 64 (lft_end h)
def wd (f:Nat→Bool):Nat→Nat
 |0=>0
 |i+1=>wd f i ||| (if f i then on1 i 1 else 0)
theorem wd_bit (f:Nat→Bool) (i k:Nat):(wd f i).testBit k=(decide (k<i)&&f k):=by
 induction i with
 |zero=>simp[wd]
 |succ i ih=>
  rw[wd,Nat.testBit_or,ih]
  by_cases e:k=i
  ·subst e
   rw[decide_eq_false (by omega),decide_eq_true (by omega)]
   cases f k with
   |true=>rw[if_pos rfl,on1_bit,decide_eq_true (by omega)];rfl
   |false=>simp
  ·have h1:(if f i=true then on1 i 1 else 0).testBit k=false:=by
    split
    ·rw[on1_bit];exact decide_eq_false (by omega)
    ·exact Nat.zero_testBit _
   rw[h1,Bool.or_false]
   congr 1
   rw[decide_eq_decide]
   omega
theorem wd_lt (f:Nat→Bool) {i:Nat} (h:i≤64):wd f i<18446744073709551616:=lt_of_bits fun k hk=>by rw[wd_bit,decide_eq_false (by omega)];rfl
end Go.Proofs.Bt
