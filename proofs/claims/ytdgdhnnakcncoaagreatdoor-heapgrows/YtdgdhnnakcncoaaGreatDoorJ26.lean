/- Of the proof of HeapClasses: texts RQi. -/
import Derived.Test.YtdgdhnnakcncoaaGreatDoorJ25
namespace Go.Proofs.YtdgdhnnakcncoaaGreatDoor
set_option maxHeartbeats 1600000
open Go.ChangeShapes Go.WideShapes Go.ChangeAt Go.RowKit Go.Proofs.Bt Go.Shelf Go.Proofs.Rx Go.Maps Go.Proofs.Pk
set_option linter.unusedVariables false
set_option linter.unusedSimpArgs false
attribute [local go_sem] Oper.semAt_some
structure GiL (N:Nat) (O:Nat→Prop) (w W:World) (M:Nat) (gv:Value) (tb:Nat) (st:Nat→Nat) (B x s S k:Nat) (A:World):Prop where
 t:T9 N (FiO O M S A.heap.size) w A tb (wS st B x (lft x k) s)
 bg:Bk A M 56 #[gv]
 bb:Bk A (M+1) 39 #[.int .u64 (B:Nat)]
 rd:RdW S x A
 kw:Left9 N O W A
section
variable {N:Nat} {O:Nat→Prop} {w W:World} {tb:Nat} {st:Nat→Nat} {M:Nat} {gv:Value} {B x s S k:Nat}
theorem GiL.kept {A A':World} (h:GiL N O w W M gv tb st B x s S k A) (hN:N≤M) (hS:M+2≤S) (hO:∀x,O x→x<M) (kk:Kept (fun b=>b=S+1∨b=S+1+1) A A'):GiL N O w W M gv tb st B x s S k A':=
 ⟨T9.two h.t (by omega) kk,h.bg.kept kk (by omega),h.bb.kept kk (by omega),⟨kept_at kk h.rd.c (by omega),(T9.two h.t (by omega) kk).tab⟩,Kept.trans h.kw kk (fun x _ z=>⟨by omega,fun y=>by have:=hO x y;omega⟩)⟩
theorem GiL.next {a n:Nat} {A X8:World} (h:GiL N O w W M gv tb st B x s S k A) (hs:S+1+1<A.heap.size) (ha:at1 (lft x k)=a) (hn:len1 (lft x k)=n) (hr:Row (lft x k) a n) (t8:T9 N (FiO O M S A.heap.size) w X8 tb (setSt (wS st B x (lft x k) s) (B+a) (B+a+n) s)) (l8:Left9 N (FiO O M S A.heap.size) A X8):
 GiL N O w W M gv tb st B x s S (k+1) X8∧Two (S+1) A X8:=by
 have e:wS st B x (lft x (k+1)) s=setSt (wS st B x (lft x k) s) (B+a) (B+a+n) s:=wS_next (fun j hj=>lft_sub k j hj) hr _ (fun j=>by rw[←ha,←hn];exact nx1_bit (lft x k) j)
 have sz:=Kept.size l8
 refine ⟨⟨?_,h.bg.kept l8 (fun z=>z.2 (.inl (.inl (.inr (.inl rfl))))),h.bb.kept l8 (fun z=>z.2 (.inl (.inl (.inr (.inr rfl))))),⟨kept_at l8 h.rd.c (fun z=>z.2 (.inl (.inr rfl))),t8.tab⟩,Kept.trans h.kw l8 (fun x _ z=>⟨z.1,fun y=>z.2 (.inl (.inl (.inl y)))⟩)⟩,?_⟩
 ·rw[e]
  refine t8.more (Below.refl _ _) (fun x hx=> .inl ?_)
  rcases hx with z|⟨z,_⟩
  ·exact .inl z
  ·exact .inr ⟨z,by omega⟩
 ·exact Two.kept l8 (fun z=>z.2 (.inr ⟨.inl rfl,by omega⟩)) (fun z=>z.2 (.inr ⟨.inr rfl,by omega⟩))
theorem GiL.start {X4 X5 X6:World} (h:T9 N O w W tb st) (hM:W.heap.size=M) (hX4:X4=(W.alloc (.cells #[gv] 56)).alloc (.cells #[.int .u64 (B:Nat)] 39)) (hS:X4.heap.size=S) (hX5:X5=X4.alloc (.cells #[.int .u64 (x:Nat)] 39)):GiL N O w W M gv tb st B x s S 0 X5:=by
 have b4:Below W.heap.size W X4:=by rw[hX4];exact ((Below.refl _ W).alloc (Nat.le_refl _) _).alloc (by simp) _
 have s4:X4.heap.size=M+2:=by rw[hX4,←hM];simp
 have b5:Below W.heap.size W X5:=b4.trans (by rw[hX5];exact (grown1 X4 _).mono (by omega))
 have s5:X5.heap.size=S+1:=by rw[hX5,←hS];simp
 refine ⟨?_,?_,?_,⟨?_,(h.read b5).1.tab⟩,Kept.of_below b5⟩
 ·have e:wS st B x (lft x 0) s=st:=wS_none st B x s
  rw[e]
  refine h.more b5 (fun y hy=> ?_)
  rcases hy with ((z|z|z)|z)|⟨z,y⟩
  ·exact .inl z
  ·exact .inr ⟨by omega,by omega⟩
  ·exact .inr ⟨by omega,by omega⟩
  ·exact .inr ⟨by omega,by omega⟩
  ·omega
 ·unfold Bk
  rw[hX5,alloc_at,if_neg (by omega),hX4,alloc_at,if_neg (by simp;omega),alloc_at,if_pos hM.symm]
 ·unfold Bk
  rw[hX5,alloc_at,if_neg (by omega),hX4,alloc_at,if_pos (by simp;omega)]
 ·rw[hX5,←hS];exact World.alloc_heap_new X4 _
end
end Go.Proofs.YtdgdhnnakcncoaaGreatDoor
namespace Go.Proofs.YtdgdhnnakcncoaaGreatDoor
open Go.ChangeShapes Go.WideShapes Go.ChangeAt Go.RowKit Go.Proofs.Bt Go.Shelf Go.Proofs.Rx Go.Maps Go.Proofs.Pk
set_option linter.unusedVariables false
set_option linter.unusedSimpArgs false
end Go.Proofs.YtdgdhnnakcncoaaGreatDoor
namespace Go.Proofs.YtdgdhnnakcncoaaGreatDoor
open Go.ChangeShapes Go.WideShapes Go.ChangeAt Go.RowKit Go.Proofs.Bt Go.Shelf Go.Proofs.Rx Go.Maps Go.Proofs.Pk
set_option linter.unusedVariables false
set_option linter.unusedSimpArgs false
section
variable {N:Nat} {O:Nat→Prop} {w W W':World} {tb cb:Nat} {st st':Nat→Nat} {B H G:Nat}
theorem T9.inOb (h:T9 N O w W tb st) {x:Nat} (hx:O x):N≤x∧x<W.heap.size:=by
 obtain ⟨T,L,C,_,_,_,h2⟩:=h.tr
 exact (h2 x hx).2
theorem T9.free_lt (h:T9 N O w W tb st) {p:Nat} (hp:st p≠0):p<34359738368:=by
 rcases Nat.lt_or_ge p 34359738368 with y|y
 ·exact y
 ·exact absurd (h.out p y) hp
structure TC (N:Nat) (O:Nat→Prop) (w W:World) (tb cb:Nat) (st:Nat→Nat) (B H G:Nat):Prop where
 t:T9 N O w W tb st
 c:CcAt W cb B H G
 o:O cb
theorem TC.read (h:TC N O w W tb cb st B H G) (b:Below W.heap.size W W'):TC N O w W' tb cb st B H G:=⟨(h.t.read b).1,h.c.below b,h.o⟩
theorem TC.tree (h:TC N O w W tb cb st B H G) (t:T9 N O w W' tb st') (l:Left9 N O W W'):TC N O w W' tb cb st' B H G:=⟨t,h.c.kept l (fun z=>z.2 h.o),h.o⟩
theorem TC.lb (h:TC N O w W tb cb st B H G):N≤cb∧cb<W.heap.size:=h.t.inOb h.o
theorem TC.wr (h:TC N O w W tb cb st B H G) {B' H' G':Nat} (c:CcAt W' cb B' H' G') (k:Kept (fun x=>x=cb) W W'):TC N O w W' tb cb st B' H' G'∧LeftC N O cb W W':=
 ⟨⟨h.t.own k (fun x hx=>by subst hx;exact ⟨h.o,h.lb.1⟩),c,h.o⟩,k.mono (fun x hx=>by subst hx;exact ⟨h.lb.1, .inr rfl⟩)⟩
theorem tc_fill (h:TC N O w W tb cb st B 0 G) (p:Nat) (hf:First st 1 p):
 Calls Tryz.prog 277 #[.pointer (some ⟨cb,0,none⟩), .pointer (some ⟨tb,0,none⟩)] W fun e W'=>e= .returned (.int .i64 0)∧TC N O w W' tb cb (fillS st (p/64 * 64) 64) (p/64 * 64) (wd (fun j=>fre st (p/64 * 64+j)) 64) (wd (fun j=>rel st (p/64 * 64+j)) 64)∧LeftC N O cb W W':=by
 have hp:p<34359738368:=h.t.free_lt (by have:=hf.1 p (Nat.le_refl _) (by omega);omega)
 refine (ccFill h.t h.c h.o (fun x hx=>h.t.inOb hx) rfl p hp hf).mono ?_
 rintro e W' ⟨e1,t1,c1,l1⟩
 exact ⟨e1,⟨t1,c1,h.o⟩,l1⟩
theorem tc_fill_full (h:TC N O w W tb cb st B 0 G) (hf:∀p,¬Run st p 1):
 Calls Tryz.prog 277 #[.pointer (some ⟨cb,0,none⟩), .pointer (some ⟨tb,0,none⟩)] W fun e W'=>e= .returned (.int .i64 30)∧TC N O w W' tb cb st B 0 G∧LeftC N O cb W W':=by
 refine (ccFill_full h.t h.c h.o rfl hf).mono ?_
 rintro e W' ⟨e1,t1,c1,l1⟩
 exact ⟨e1,⟨t1,c1,h.o⟩,l1⟩
theorem tc_alloc (h:TC N O w W tb cb st B H G) (hB:B+64≤34359738368) (n:Int) (n1:1≤n) (n2:n≤64) (a:Nat) (hr:Row H a n.toNat) (hf:∀p,p<a→¬Row H p n.toNat):
 Calls Tryz.prog 278 #[.pointer (some ⟨cb,0,none⟩), .int .i64 n] W fun e W'=>e= .returned (.tuple #[.int .u64 ((B+a:Nat):Int), .int .i64 (cnt G.testBit a n.toNat:Nat), .int .i64 0])∧TC N O w W' tb cb st B (andn H (on1 a n.toNat)) (andn G (on1 a n.toNat))∧LeftC N O cb W W':=by
 refine (ccAlloc h.c h.t.tab hB n).mono ?_
 rintro e W' (⟨h1,_⟩|⟨_,h2,_⟩|⟨_,b,h2,h3,h4,e1,c1,k1⟩)
 ·exact absurd ⟨n1,n2⟩ h1
 ·exact absurd hr (h2 a)
 ·obtain rfl:b=a:=by
   rcases Nat.lt_trichotomy a b with y|y|y
   ·exact absurd hr (h3 a y)
   ·exact y.symm
   ·exact absurd h2 (hf b y)
  exact ⟨e1,h.wr c1 k1⟩
theorem tc_alloc_no (h:TC N O w W tb cb st B H G) (hB:B+64≤34359738368) (n:Int) (n1:1≤n) (n2:n≤64) (hr:∀a,¬Row H a n.toNat):
 Calls Tryz.prog 278 #[.pointer (some ⟨cb,0,none⟩), .int .i64 n] W fun e W'=>e= .returned (.tuple #[.int .u64 0, .int .i64 0, .int .i64 30])∧W'=W:=by
 refine (ccAlloc h.c h.t.tab hB n).mono ?_
 rintro e W' (⟨h1,_⟩|⟨_,h2,e1,e2⟩|⟨_,b,h2,h3,h4,e1,c1,k1⟩)
 ·exact absurd ⟨n1,n2⟩ h1
 ·exact ⟨e1,e2⟩
 ·exact absurd h2 (hr b)
end
end Go.Proofs.YtdgdhnnakcncoaaGreatDoor
namespace Go.Proofs.YtdgdhnnakcncoaaGreatDoor
open Go.ChangeShapes Go.WideShapes Go.ChangeAt Go.RowKit Go.Proofs.Bt Go.Shelf Go.WideMaps
set_option linter.unusedVariables false
set_option linter.unusedSimpArgs false
structure IntsAt (w:World) (o:Option Addr) (len cap:Nat) (X:Nat→Int):Prop where
 nil:o=none→len=0∧cap=0
 cells:∀ad,o=some ad→∀i,i<len→w.cell? (ad.add i)=some (.int .i64 (X i))
 lo:∀i,-9223372036854775808≤X i
 hi:∀i,X i≤9223372036854775807
theorem IntsAt.at {w:World} {o:Option Addr} {len cap:Nat} {X:Nat→Int} (h:IntsAt w o len cap X) {i:Nat} (hi:i<len):∃b off,o=some ⟨b,off,none⟩∧b<w.heap.size∧∀i,i<len→w.cell? ⟨b,off+ i,none⟩=some (.int .i64 (X i)):=by
 cases ho:o with
 |none=>have:=(h.nil ho).1;omega
 |some a=>
  obtain ⟨b,off,sp⟩:=a
  have c0:=h.cells _ ho 0 (by omega)
  have hs:sp=none:=act_spot (by simpa [Addr.add] using c0)
  subst hs
  have hb:b<w.heap.size:=cell_lt (by simpa [Addr.add] using c0)
  refine ⟨b,off,rfl,hb,fun j hj=> ?_⟩
  have:=h.cells _ ho j hj
  rwa[addr_add0] at this
end Go.Proofs.YtdgdhnnakcncoaaGreatDoor
