/- Of the proof of HeapGrows: texts RYe. -/
import Derived.Test.YtdgdhnnakcncoaaGreatDoorJ06
import Derived.Test.YtdgdhnnakcncoaaGreatDoorJ54
namespace Go.Proofs.Rx
open Go.Proofs.Bt Go.Proofs.Pk
set_option linter.unusedVariables false
def Run (st:Nat→Nat) (p n:Nat):Prop:=∀q,p≤q→q<p+n→2≤st q
def First (st:Nat→Nat) (n p:Nat):Prop:=Run st p n∧∀p',p'<p→¬Run st p' n
theorem Run.sub {st:Nat→Nat} {p n p' n':Nat} (h:Run st p n) (h1:p≤p') (h2:p'+n'≤p+n):Run st p' n':=fun q q1 q2=>h q (by omega) (by omega)
theorem run_clr {st:Nat→Nat} {a k m:Nat}:Run st (a+k) m↔Clr (bsy st a) k m:=by
 constructor
 ·intro h j hj
  have:=h (a+(k+j)) (by omega) (by omega)
  unfold bsy fre
  simp[this]
 ·intro h q q1 q2
  have:=h (q - a - k) (by omega)
  rw[show k+(q - a - k)=q - a by omega] at this
  unfold bsy fre at this
  rw[show a+(q - a)=q by omega] at this
  simpa using this
structure Look (st:Nat→Nat) (n A K b:Nat):Prop where
 ab:A≤b
 bk:b≤K
 free:Run st b (K - b)
 none:∀p,p<b→¬Run st p n
 few:K - b<n
theorem Look.zero {st:Nat→Nat} {n A:Nat} (hn:1≤n) (h:∀p,p<A→¬Run st p n):Look st n A A A:=
 ⟨Nat.le_refl _,Nat.le_refl _,fun q q1 q2=>by omega,h,by omega⟩
section
variable {st:Nat→Nat} {n A K b z:Nat} {r:Rw}
theorem Look.hit (h:Look st n A K b) (hr:Su st K z r) (hh:n≤K+r.s - b):First st n b:=by
 refine ⟨fun q q1 q2=> ?_,h.none⟩
 have h1:=h.bk
 rcases Nat.lt_or_ge q K with y|y
 ·exact h.free q q1 (by omega)
 ·have h2:Run st (K+0) r.s:=run_clr.2 hr.sc
  exact h2 q (by omega) (by omega)
theorem Look.past (h:Look st n A K b) (hr:Su st K z r) (hz:0<z) (h1:¬n≤K+r.s - b) (h2:¬n≤r.m) (h3:r.s<z):Look st n A (K+z) (K+z - r.e):=by
 have se:=hr.sl
 have ee:=hr.el
 have eS:¬2≤st (K+r.s):=fun y=>by
  have:=hr.ss h3
  unfold bsy fre at this
  simp[y] at this
 have e3:r.e<z:=by
  rcases Nat.lt_or_ge r.e z with y|y
  ·exact y
  ·have:=(SumN.all hr).2 (by omega);omega
 have eE:¬2≤st (K+(z - 1 - r.e)):=fun y=>by
  have:=hr.es e3
  unfold bsy fre at this
  simp[y] at this
 have hb:=h.bk
 have ha:=h.ab
 refine ⟨by omega,by omega,?_,fun p hp hR=> ?_,?_⟩
 ·have h4:Run st (K+(z - r.e)) r.e:=run_clr.2 hr.ec
  rw[show K+z - r.e=K+(z - r.e) by omega,show K+z -(K+(z - r.e))=r.e by omega]
  exact h4
 ·rcases Nat.lt_or_ge p b with y|y
  ·exact h.none p y hR
  ·rcases Nat.lt_or_ge p K with y2|y2
   ·exact eS (hR _ (by omega) (by omega))
   ·rcases Nat.lt_or_ge (K+z) (p+n) with y3|y3
    ·exact eE (hR _ (by omega) (by omega))
    ·have h5:Clr (bsy st K) (p - K) n:=run_clr.1 (by rw[show K+(p - K)=p by omega];exact hR)
     have:=hr.le (by omega) h5
     omega
 ·have h6:=hr.le (c:=z - r.e) (by omega) hr.ec
  omega
theorem Look.whole (h:Look st n A K b) (hr:Su st K z r) (h1:¬n≤K+r.s - b) (h3:r.s=z):Look st n A (K+z) b:=by
 have hb:=h.bk
 have ha:=h.ab
 refine ⟨ha,by omega,fun q q1 q2=> ?_,h.none,by omega⟩
 rcases Nat.lt_or_ge q K with y|y
 ·exact h.free q q1 (by omega)
 ·have h2:Run st (K+0) r.s:=run_clr.2 hr.sc
  exact h2 q (by omega) (by omega)
theorem Look.into (h:Look st n A K b) (hr:Su st K z r) (h1:¬n≤K+r.s - b) (h2:n≤r.m):(∀p,p<K→¬Run st p n)∧(∃c,K≤c∧c+n≤K+z∧Run st c n)∧r.s<z∧r.s<n:=by
 have hb:=h.bk
 obtain ⟨c,c1,c2⟩:=hr.mx
 have hm:r.m≤z:=by omega
 have sl:=hr.sl
 have h3:r.s<z:=by omega
 have eS:¬2≤st (K+r.s):=fun y=>by
  have:=hr.ss h3
  unfold bsy fre at this
  simp[y] at this
 refine ⟨fun p hp hR=> ?_,⟨K+c,by omega,by omega,run_clr.2 (Clr.sub c2 (Nat.le_refl _) (by omega))⟩,h3,by omega⟩
 rcases Nat.lt_or_ge p b with y|y
 ·exact h.none p y hR
 ·exact eS (hR _ (by omega) (by omega))
theorem Look.vain (h:Look st n A K b) {c:Nat} (hc:Run st c n) (hK:c+n≤K):False:=by
 rcases Nat.lt_or_ge c b with y|y
 ·exact h.none c y hc
 ·have:=h.few;omega
end
end Go.Proofs.Rx
namespace Go.Proofs.YtdgdhnnakcncoaaGreatDoor
set_option maxHeartbeats 1600000
open Go.ChangeShapes Go.WideShapes Go.ChangeAt Go.RowKit Go.Proofs.Bt Go.Shelf Go.Proofs.Rx Go.Maps Go.Proofs.Pk
set_option linter.unusedVariables false
set_option linter.unusedSimpArgs false
def marks (l:List Nat):List Deferred:=l.map fun D=>{target:= .collected D,args:=#[]}
structure Marks (B:Nat) (l:List Nat) (X:World):Prop where
 at':∀D,D∈l→X.heap[D]? =some (.deferred (some []))∧B≤D
 nod:l.Nodup
theorem Marks.nil (B:Nat) (X:World):Marks B [] X:=⟨fun D h=>(by cases h),List.nodup_nil⟩
theorem Marks.kept {F:Nat→Prop} {B:Nat} {l:List Nat} {X X':World} (h:Marks B l X) (k:Kept F X X') (hF:∀D,D∈l→¬F D):Marks B l X':=
 ⟨fun D hD=>⟨kept_at k (h.at' D hD).1 (hF D hD),(h.at' D hD).2⟩,h.nod⟩
theorem Marks.below {B:Nat} {l:List Nat} {X X':World} (h:Marks B l X) (k:Below X.heap.size X X'):Marks B l X':=h.kept (F:=fun _=>False) (Kept.of_below k) (fun _ _ z=>z)
theorem Marks.lt {B:Nat} {l:List Nat} {X:World} (h:Marks B l X) {D:Nat} (hD:D∈l):D<X.heap.size:=(Array.getElem?_eq_some_iff.1 (h.at' D hD).1).1
theorem Marks.cons {B D:Nat} {l:List Nat} {X:World} (h:Marks B l X) (hD:X.heap[D]? =some (.deferred (some []))) (hB:B≤D) (hn:D ∉ l):Marks B (D::l) X:=
 ⟨fun E hE=>by
  rcases List.mem_cons.1 hE with rfl|z
  ·exact ⟨hD,hB⟩
  ·exact h.at' E z,List.nodup_cons.2 ⟨hn,h.nod⟩⟩
theorem leaves_marks {n B:Nat} {fn:Func} {tmps:Array Value} {R:Ending→World→Prop}:∀(l:List Nat) (X:World),Marks B l X→
 (∀X',Kept (fun x=>x∈l) X X'→∃v,(results fn tmps).run Tryz.prog X'= .ok v X'∧R (.returned v) X')→LeavesInM Fence.wide n Tryz.prog fn tmps R (marks l) .returning X
 | [],X,h,hR=>by
  obtain ⟨v,h1,h2⟩:=hR X (Kept.refl _ X)
  exact ⟨v,h1,h2⟩
 |D::l,X,h,hR=>by
  refine ⟨by simp, .inl ⟨D,_,rfl,run_takeDeferred (h.at' D (List.mem_cons_self ..)).1,?_⟩⟩
  have kp:=Kept.put (F:=fun x=>x=D) X D (.deferred none) rfl
  have hn:=(List.nodup_cons.1 h.nod).1
  have h':Marks B l (X.putObj D (.deferred none)):=⟨fun E hE=>⟨kept_at kp (h.at' E (List.mem_cons_of_mem _ hE)).1 (fun z=>hn (z▸hE)),(h.at' E (List.mem_cons_of_mem _ hE)).2⟩,(List.nodup_cons.1 h.nod).2⟩
  exact leaves_marks l _ h' (fun X' k=>hR X' ((kp.mono (G:=fun x=>x∈D::l) (fun x hx=>by rw[hx];exact List.mem_cons_self ..)).trans (k.mono (G:=fun x=>x∈D::l) (fun x hx=>List.mem_cons_of_mem _ hx)) (fun _ _ z=>z)))
theorem free_whole {st:Nat→Nat} {K z:Nat} {r:Rw} (ht:r.t=tl st K z) (hr:Su st K z r):r.t.f<z↔r.s<z:=by
 have h1:r.t.f=cnt (fre st) K z:=by rw[ht];rfl
 have h2:=cnt_le (fre st) K z
 have h3:=hr.sl
 have key:cnt (fre st) K z=z↔r.s=z:=by
  rw[cnt_full]
  constructor
  ·intro h
   rcases Nat.lt_or_ge r.s z with y|y
   ·have h4:=hr.ss y
    have h5:=h r.s y
    unfold bsy at h4
    rw[h5] at h4
    cases h4
   ·omega
  ·intro h k hk
   have h4:=hr.sc k (by omega)
   unfold bsy at h4
   rw[Nat.zero_add] at h4
   simpa using h4
 rw[h1]
 omega
end Go.Proofs.YtdgdhnnakcncoaaGreatDoor
namespace Go.Proofs.YtdgdhnnakcncoaaGreatDoor
open Go.ChangeShapes Go.WideShapes Go.ChangeAt Go.RowKit Go.Proofs.Bt Go.Shelf Go.Proofs.Rx Go.Maps Go.Proofs.Pk
set_option linter.unusedVariables false
set_option linter.unusedSimpArgs false
attribute [local go_sem] Oper.semAt_some
def FindT (st:Nat→Nat) (n:Nat) (w:World) (e:Ending) (w':World):Prop:=
 ((∃p,p<34359738368∧First st n p∧1≤n∧e= .returned (.tuple #[.int .u64 (p:Nat), .bool true]))∨((n=0∨∀p,¬Run st p n)∧e= .returned (.tuple #[.int .u64 0, .bool false])))∧Below w.heap.size w w'
structure FD (N I:Nat) (w:World) (T:Tid) (L:Lv) (C:Ch) (st:Nat→Nat) (n k i:Nat) (r:Rw) (l:List Nat) (X:World):Prop where
 be:Below N w X
 nb:Bk X N 39 #[.int .u64 (n:Nat)]
 r1:Bk X (N+1) 39 #[.int .u64 0]
 r2:Bk X (N+2) 4 #[.bool false]
 ib:Bk X I 39 #[.int .u64 (i:Nat)]
 rb:Bk X (I+1) 221 #[.int .u64 (r.t.p:Nat), .int .u64 (r.t.f:Nat), .int .u64 (r.t.r:Nat), .int .i64 (r.s:Nat), .int .i64 (r.m:Nat), .int .i64 (r.e:Nat), .int .i64 (r.rest:Nat)]
 rad:RadAt X T L C
 gd:Rx.Good L C st (6 - k) k i r
 hi:(i+1) * sz k≤34359738368
 no:∀p,p<i * sz k→¬Run st p n
 some':1≤k→(∃c,i * sz k≤c∧c+n≤(i+1) * sz k∧Run st c n)∧r.s<sz k∧r.s<n
 mks:Marks (I+2) l X
theorem FD.chunk {N I:Nat} {w:World} {T:Tid} {L:Lv} {C:Ch} {st:Nat→Nat} {n i:Nat} {r:Rw} {l:List Nat} {X:World} (h:FD N I w T L C st n 6 i r l X) (h4:Four st) (hn:1≤n):n≤512∧∃b c,C i=some (b,c)∧∀k,k<512→c k=st (512 * i+k):=by
 obtain ⟨⟨c0,a1,a2,a3⟩,a4,a5⟩:=h.some' (by decide)
 have e6:sz 6=512:=rfl
 have hg:Rx.Good L C st 0 6 i r:=h.gd
 refine ⟨by rw[e6] at a1 a2;omega,?_⟩
 cases ha:al r.t (sz 6) with
 |none=>exact hg.chunk ha
 |some s=>
  exfalso
  have e:=hg.even ha
  have hall:=hg.all h4 ha
  have s1:2≤s:=by
   have:=a3 c0 (Nat.le_refl _) (by omega)
   rw[hall c0 a1 (by rw[e6] at a2 ⊢;omega)] at this
   exact this
  have:r.s=sz 6:=by rw[e];unfold Rx.even tlOf;exact if_pos s1
  omega
theorem FD.found {N I:Nat} {w:World} {T:Tid} {L:Lv} {C:Ch} {st:Nat→Nat} {n i:Nat} {r:Rw} {l:List Nat} {X:World} (h:FD N I w T L C st n 6 i r l X) (hn:1≤n) {c:Nat→Nat} (lo:∀k,k<512→1≤c k) (hc:∀k,k<512→c k=st (512 * i+k))
 {j:Int} {ok:Bool} (hf:FindP (fun k=>decide (c k=1)) ((n:Nat):Int) 0 j ok):ok=true∧∃a:Nat,j=(a:Nat)∧a+n≤512∧First st n (512 * i+a):=by
 obtain ⟨⟨c0,a1,a2,a3⟩,a4,a5⟩:=h.some' (by decide)
 have e6:sz 6=512:=rfl
 have hno:=h.no
 rw[e6] at a1 a2 hno
 have key:∀a,a+n≤512→(Clr (fun k=>decide (c k=1)) a n↔Run st (512 * i+a) n):=fun a ha=>by
  constructor
  ·intro hz q q1 q2
   have h1:=hz (q - 512 * i - a) (by omega)
   have h2:=lo (a+(q - 512 * i - a)) (by omega)
   have h3:=hc (a+(q - 512 * i - a)) (by omega)
   rw[show 512 * i+(a+(q - 512 * i - a))=q by omega] at h3
   have h4:=of_decide_eq_false h1
   omega
  ·intro hz k hk
   have h1:=hz (512 * i+(a+k)) (by omega) (by omega)
   have h3:=hc (a+k) (by omega)
   exact decide_eq_false (by omega)
 rcases hf with ⟨e1,e2,a,e3,e4,e5,e7,e8⟩|⟨e1,e2,e3⟩
 ·rw[Int.toNat_natCast] at e5 e7 e8
  refine ⟨e1,a,e3,e5,(key a e5).1 e7,fun p' hp' hR=> ?_⟩
  rcases Nat.lt_or_ge p' (512 * i) with y|y
  ·exact hno p' (by omega) hR
  ·exact e8 (p' - 512 * i) (by simp) (by omega) ((key (p' - 512 * i) (by omega)).2 (by rw[show 512 * i+(p' - 512 * i)=p' by omega];exact hR))
 ·exfalso
  rw[Int.toNat_natCast] at e3
  rcases e3 with e3|e3
  ·omega
  ·exact e3 (c0 - 512 * i) (by simp) (by omega) ((key (c0 - 512 * i) (by omega)).2 (by rw[show 512 * i+(c0 - 512 * i)=c0 by omega];exact a3))
end Go.Proofs.YtdgdhnnakcncoaaGreatDoor
namespace Go.Proofs.YtdgdhnnakcncoaaGreatDoor
open Go.ChangeShapes Go.WideShapes Go.ChangeAt Go.RowKit Go.Proofs.Bt Go.Shelf Go.Proofs.Rx Go.Maps Go.Proofs.Pk
set_option linter.unusedVariables false
set_option linter.unusedSimpArgs false
attribute [local go_sem] Oper.semAt_some
theorem FD.kept {F:Nat→Prop} {N I:Nat} {w:World} {T:Tid} {L:Lv} {C:Ch} {st:Nat→Nat} {n k i:Nat} {r:Rw} {l:List Nat} {X X':World} (h:FD N I w T L C st n k i r l X) (kk:Kept F X X') (h0:RadAt w T L C) (hw:w.heap.size=N) (hI:N+3≤I) (hF:∀x,F x→I+2≤x∧x ∉ l):FD N I w T L C st n k i r l X':=
 ⟨below_kept h.be kk (fun x hx=>by have:=(hF x hx).1;omega) (by have:=h.nb.lt;omega),h.nb.kept kk (fun z=>by have:=(hF _ z).1;omega),h.r1.kept kk (fun z=>by have:=(hF _ z).1;omega),h.r2.kept kk (fun z=>by have:=(hF _ z).1;omega),h.ib.kept kk (fun z=>by have:=(hF _ z).1;omega),h.rb.kept kk (fun z=>by have:=(hF _ z).1;omega),h0.new h.rad kk (fun x hx=>by have:=(hF x hx).1;omega),h.gd,h.hi,h.no,h.some',h.mks.kept kk (fun D hD z=>(hF D z).2 hD)⟩
structure FindX (N I:Nat) (w:World) (st:Nat→Nat) (n:Nat) (l:List Nat) (X:World):Prop where
 be:Below N w X
 mks:Marks (I+2) l X
 ans:∃p,p<34359738368∧First st n p∧Bk X (N+1) 39 #[.int .u64 (p:Nat)]∧Bk X (N+2) 4 #[.bool true]
theorem FindX.kept {F:Nat→Prop} {N I:Nat} {w:World} {st:Nat→Nat} {n:Nat} {l:List Nat} {X X':World} (h:FindX N I w st n l X) (kk:Kept F X X') (hI:N+3≤I) (hF:∀x,F x→I+2≤x∧x ∉ l):FindX N I w st n l X':=by
 obtain ⟨p,h1,h2,h3,h4⟩:=h.ans
 exact ⟨below_kept h.be kk (fun x hx=>by have:=(hF x hx).1;omega) (by have:=h3.lt;omega),h.mks.kept kk (fun D hD z=>(hF D z).2 hD),p,h1,h2,h3.kept kk (fun z=>by have:=(hF _ z).1;omega),h4.kept kk (fun z=>by have:=(hF _ z).1;omega)⟩
structure FL (N I Q G:Nat) (w:World) (T:Tid) (L:Lv) (C:Ch) (st:Nat→Nat) (n d i:Nat) (r:Rw) (l:List Nat) (j:Nat) (X:World):Prop where
 fd:FD N I w T L C st n d i r l X
 dp:Bk X Q 3 #[.int .i64 (d:Nat)]
 bg:∃b,Bk X G 39 #[.int .u64 (b:Nat)]∧Look st n (i * sz d) ((fan d * i+j) * sz (d+1)) b
 rd:RdB (G+2) (G+3) (G+1) (G+4) d i r.rest T L C X
theorem FL.kept {F:Nat→Prop} {N I Q G:Nat} {w:World} {T:Tid} {L:Lv} {C:Ch} {st:Nat→Nat} {n d i:Nat} {r:Rw} {l:List Nat} {j:Nat} {X X':World} (h:FL N I Q G w T L C st n d i r l j X) (kk:Kept F X X') (h0:RadAt w T L C) (hw:w.heap.size=N) (hI:N+3≤I) (hQ:I+2≤Q) (hG:Q<G) (hl:∀D,D∈l→D<Q) (hF:∀x,F x→G+5≤x):FL N I Q G w T L C st n d i r l j X':=by
 obtain ⟨b,b1,b2⟩:=h.bg
 exact ⟨h.fd.kept kk h0 hw hI (fun x hx=>by have:=hF x hx;exact ⟨by omega,fun z=>by have:=hl x z;omega⟩),h.dp.kept kk (fun z=>by have:=hF _ z;omega),⟨b,b1.kept kk (fun z=>by have:=hF _ z;omega),b2⟩,h.rd.kept h0 kk (fun x hx=>by have:=hF x hx;omega)⟩
theorem FD.kid {N I:Nat} {w:World} {T:Tid} {L:Lv} {C:Ch} {st:Nat→Nat} {n d i:Nat} {r:Rw} {l:List Nat} {X:World} (h:FD N I w T L C st n d i r l X) (hd:d<6) {j:Nat} (hj:j<fan d) {q:Rw} (hq:row L (d+1) (fan d * i+j) r.rest=q):
 Rx.Good L C st (6 -(d+1)) (d+1) (fan d * i+j) q∧q.t=tl st ((fan d * i+j) * sz (d+1)) (sz (d+1))∧Su st ((fan d * i+j) * sz (d+1)) (sz (d+1)) q∧(fan d * i+j+1) * sz (d+1)≤34359738368:=by
 have g:=h.gd
 rw[show 6 - d=(6 -(d+1))+1 by omega] at g
 have e:fan d *(i+1)=fan d * i+fan d:=Nat.mul_succ _ _
 have k:=g.kid (k:=fan d * i+j) (by omega) (by omega)
 rw[hq] at k
 refine ⟨k,k.fact.1,k.fact.2.1 (by omega),?_⟩
 have h1:(fan d * i+j+1) * sz (d+1)≤(fan d *(i+1)) * sz (d+1):=Nat.mul_le_mul_right _ (by omega)
 have h2:fan d *(i+1) * sz (d+1)=(i+1) * sz d:=by rw[sz_fan d hd,←Nat.mul_assoc,Nat.mul_comm (i+1)]
 have:=h.hi
 omega
theorem least {P:Nat→Prop} (k:Nat):P k→∃a,P a∧∀b,b<a→¬P b:=by
 induction k using Nat.strongRecOn with
 |_ k ih=>
  intro hk
  by_cases h:∃b,b<k∧P b
  ·obtain ⟨b,hb,pb⟩:=h
   exact ih b hb pb
  ·exact ⟨k,hk,fun b hb pb=>h ⟨b,hb,pb⟩⟩
theorem findP_total (f:Nat→Bool) (n:Nat) (hn:1≤n):∃j ok,FindP f ((n:Nat):Int) 0 j ok:=by
 by_cases h:∃a,a+n≤512∧Clr f a n
 ·obtain ⟨k,hk⟩:=h
  obtain ⟨a,⟨h1,h2⟩,h3⟩:=least (P:=fun a=>a+n≤512∧Clr f a n) k hk
  exact ⟨(a:Nat),true, .inl ⟨rfl,by omega,a,rfl,by simp,by simpa using h1,by simpa using h2,fun c _ hc hcl=>h3 c hc ⟨by omega,by simpa using hcl⟩⟩⟩
 ·exact ⟨0,false, .inr ⟨rfl,rfl, .inr fun c _ hc hcl=>h ⟨c,by simpa using hc,by simpa using hcl⟩⟩⟩
theorem leave2 {m I N:Nat} {p:Int} {ok:Bool} {tmps:Array Value} {R:Ending→World→Prop} {l:List Nat} {X:World} (hm:Marks (I+2) l X) (hI:N+3≤I) (h1:Bk X (N+1) 39 #[.int .u64 p]) (h2:Bk X (N+2) 4 #[.bool ok]) (t4:tmps.getD 4 undef= .pointer (some ⟨N+1,0,none⟩)) (t5:tmps.getD 5 undef= .pointer (some ⟨N+2,0,none⟩))
 (hR:∀X',Kept (fun x=>x∈l) X X'→R (.returned (.tuple #[.int .u64 p, .bool ok])) X'):LeavesInM Fence.wide m Tryz.prog Tryz.f303 tmps R (marks l) .returning X:=
 leaves_marks l X hm (fun X' k=>by
  have g1:=h1.kept k (fun z=>by have:=(hm.at' _ z).2;omega)
  have g2:=h2.kept k (fun z=>by have:=(hm.at' _ z).2;omega)
  exact ⟨_,results_two Tryz.results303 _ _ ⟨N+1,0,none⟩ ⟨N+2,0,none⟩ (.int .u64 p) (.bool ok) t4 t5 (by have c:=g1.cell 0 _ rfl;simp[go_sem,c]) (by have c:=g2.cell 0 _ rfl;simp[go_sem,c]),hR X' k⟩)
set_option maxRecDepth 100000 in
set_option maxHeartbeats 2000000 in
theorem find9_core {w:World} {T:Tid} {L:Lv} {C:Ch} {st:Nat→Nat} (h:Tree w T L C st) (n:Nat) (hn:n<18446744073709551616):
 Calls Tryz.prog 303 #[tp T, .int .u64 (n:Nat)] w (FindT st n w):=by
 obtain ⟨R,hR⟩:∃R,R=FindT st n w:=⟨_,rfl⟩
 rw[←hR]
 have HR:=hide hR
 obtain ⟨N,hN⟩:∃N,w.heap.size=N:=⟨_,rfl⟩
 have HN:=hide hN
 have HH:=hide h
 obtain ⟨V,hV⟩:∃V,((w.alloc (.cells #[.int .u64 (n:Nat)] 39)).alloc (.cells #[.int .u64 0] 39)).alloc (.cells #[.bool false] 4)=V:=⟨_,rfl⟩
 have bV:Below N w V:=by rw[←hV,←hN];exact (((Below.refl _ w).alloc (Nat.le_refl _) _).alloc (by simp) _).alloc (by simp;omega) _
 have k0:Bk V N 39 #[.int .u64 (n:Nat)]:=by unfold Bk;rw[←hV,alloc_at,if_neg (by simp;omega),alloc_at,if_neg (by simp;omega),alloc_at,if_pos hN.symm]
 have k1:Bk V (N+1) 39 #[.int .u64 0]:=by unfold Bk;rw[←hV,alloc_at,if_neg (by simp;omega),alloc_at,if_pos (by simp;omega)]
 have k2:Bk V (N+2) 4 #[.bool false]:=by unfold Bk;rw[←hV,alloc_at,if_pos (by simp;omega)]
 have BV:=hide bV
 have K0:=hide k0
 have K1:=hide k1
 have K2:=hide k2
 have c0:=k0.cell 0 _ rfl
 have c1:=k1.cell 0 _ rfl
 have c2:=k2.cell 0 _ rfl
 have f1:=k1.fz 0
 have f2:=k2.fz 0
 have RV:=hide (h.rad.below (show Below w.heap.size w V from by rw[hN];exact bV))
 have CT:=hide (top_any RV.out)
 obtain ⟨r0,hr0⟩:∃r0,row L 0 0 0=r0:=⟨_,rfl⟩
 rw[hr0] at CT
 have G0:=hide (show Rx.Good L C st (6 - 0) 0 0 r0 from by rw[←hr0];exact h.good)
 unfold tp at CT ⊢
 unfold rwV at CT
 clear hR h bV k0 k1 k2 hr0
 refine (callsIn_wide (n:=3)).1 ?_
 refine callsIn_of_wp_marks Tryz.func303 rfl trivial ?_ rfl
 simp only[Tryz.ntmps303,List.size_toArray,List.length_cons,List.length_nil,Nat.reduceAdd,Nat.reduceSub,Array.replicate_succ,Array.replicate_zero,List.push_toArray,List.append_toArray,List.nil_append,List.cons_append]
 by_cases n0:n=0
 ·have d0:((n:Int)==0)=true:=beq_iff_eq.2 (by omega)
  have F:=hide (show ∀X,Below N w X→R (.returned (.tuple #[.int .u64 0, .bool false])) X from fun X hX=>by
   rw[HR.out];exact ⟨.inr ⟨.inl n0,rfl⟩,by rw[HN.out];exact hX⟩)
  have D0:=hide d0
  clear n0 d0
  gi_wp2_with fail
  simp only[Nat.add_assoc,Nat.reduceAdd]
  try rw[hV]
  clear hV
  have d0:=D0.out
  refine wide_scope ?_
  gi_wp2_with fail
  rw[Exit.noGoto_ret]
  have g1:=(K1.out.set 0 (.int .u64 0)).other (b':=N+2) (by omega) 0 (.bool false)
  have g2:=(K2.out.other (b':=N+1) (by omega) 0 (.int .u64 0)).set 0 (.bool false)
  have gb:=(BV.out.setCell (p:=⟨N+1,0,none⟩) (by simp) (.int .u64 0)).setCell (p:=⟨N+2,0,none⟩) (by simp) (.bool false)
  exact ⟨_,results_two Tryz.results303 _ _ ⟨N+1,0,none⟩ ⟨N+2,0,none⟩ (.int .u64 0) (.bool false) rfl rfl (by have c:=g1.cell 0 _ rfl;simp[go_sem,c]) (by have c:=g2.cell 0 _ rfl;simp[go_sem,c]),F.out _ gb⟩
 ·have d0:((n:Int)==0)=false:=beq_eq_false_iff_ne.2 (by omega)
  have n1:1≤n:=by omega
  clear n0
  gi_wp2_with fail
  simp only[Nat.add_assoc,Nat.reduceAdd]
  try rw[hV]
  clear hV
  refine wide_scope ?_
  gi_wp2_with fail
  refine wcall2 CT.out ?_
  rintro e w1 ⟨rfl,b1⟩
  obtain ⟨I,hI⟩:∃I,w1.heap.size=I:=⟨_,rfl⟩
  obtain ⟨X0,hX0⟩:∃X0,(w1.alloc (.cells #[.int .u64 0] 39)).alloc (.cells #[.int .u64 (r0.t.p:Nat), .int .u64 (r0.t.f:Nat), .int .u64 (r0.t.r:Nat), .int .i64 (r0.s:Nat), .int .i64 (r0.m:Nat), .int .i64 (r0.e:Nat), .int .i64 (r0.rest:Nat)] 221)=X0:=⟨_,rfl⟩
  have bX:Below w1.heap.size w1 X0:=by rw[←hX0];exact ((Below.refl _ w1).alloc (Nat.le_refl _) _).alloc (by simp) _
  have I0:=hide (show FD N I w T L C st n 0 0 r0 [] X0 from by
   have b2:Below V.heap.size V X0:=b1.trans (bX.mono b1.size)
   refine ⟨BV.out.trans (b2.mono (by have:=K0.out.lt;omega)),K0.out.below b2,K1.out.below b2,K2.out.below b2,?_,?_,RV.out.below b2,G0.out,?_,fun p hp=>by omega,fun z=>by omega,Marks.nil _ _⟩
   ·unfold Bk;rw[←hX0,alloc_at,if_neg (by simp;omega),alloc_at,if_pos hI.symm];rfl
   ·unfold Bk;rw[←hX0,alloc_at,if_pos (by simp;omega)]
   ·have:sz 0=34359738368:=rfl
    omega)
  have nI:N+3≤I:=by have:=K2.out.lt;have:=b1.size;omega
  clear bX b1 CT G0 K0 K1 K2 BV RV
  gi_wp2_with fail
  refine wpIn_label ?_
  gi_wp2_with fail
  refine wpIn_loop (fun a' w'=>∃(k i:Nat) (r:Rw) (l:List Nat) (u8 u9 u20 u21 u22 u23 u24 u25 u26 u27 u28 u29 u30 u31 u71:Value),k≤6∧Hid (FD N I w T L C st n k i r l w')∧a'={tmps:=#[.pointer (some ⟨T.tb,0,none⟩), .int .u64 (n:Nat),undef, .pointer (some ⟨N,0,none⟩), .pointer (some ⟨N+1,0,none⟩), .pointer (some ⟨N+2,0,none⟩), .pointer (some ⟨I,0,none⟩), .pointer (some ⟨I+1,0,none⟩),u8,u9,undef,undef,undef,undef,undef, .int .u64 (n:Nat), .bool false, .pointer (some ⟨T.tb,0,none⟩), .agg #[.int .u64 (r0.t.p:Nat), .int .u64 (r0.t.f:Nat), .int .u64 (r0.t.r:Nat), .int .i64 (r0.s:Nat), .int .i64 (r0.m:Nat), .int .i64 (r0.e:Nat), .int .i64 (r0.rest:Nat)], .int .i64 (k:Int),u20,u21,u22,u23,u24,u25,u26,u27,u28,u29,u30,u31,undef,undef,undef,undef,undef,undef,undef,undef,undef,undef,undef,undef,undef,undef,undef,undef,undef,undef,undef,undef,undef,undef,undef,undef,undef,undef,undef,undef,undef,undef,undef,undef,undef,undef,undef,undef,undef,undef,undef,u71,undef,undef,undef,undef,undef,undef,undef,undef,undef,undef,undef,undef,undef,undef,undef,undef,undef,undef],defers:=marks l}) (fun a' _=>6 -(intOf (a'.tmps.getD 19 undef)).toNat) ⟨0,0,r0,[],undef,undef,undef,undef,undef,undef,undef,undef,undef,undef,undef,undef,undef,undef,undef,by omega,I0,rfl⟩ ?_
  rintro a' X ⟨k,i,r,l,u8,u9,u20,u21,u22,u23,u24,u25,u26,u27,u28,u29,u30,u31,u71,hk,HF,rfl⟩
  by_cases k6:k=6
  ·subst k6
   have d6:decide ((6:Int)<6)=false:=by decide
   simp only[Int.cast_ofNat_Int]
   obtain ⟨n512,blk,c,hC,hcs⟩:=HF.out.chunk HH.out.four n1
   have hlook:=fun (Z:World) (hZ:RadAt Z T L C)=>(hZ.cm.look tyC (zeroC _) i (by have:=HF.out.hi;rw[show sz 6=512 from rfl] at this;omega):_)
   have hch:=fun (Z:World) (hZ:RadAt Z T L C)=>hZ.ch i blk c hC
   rw[hC] at hlook
   obtain ⟨j,ok,hf⟩:=findP_total (fun k=>decide (c k=1)) n n1
   obtain ⟨rfl,a,rfl,ha,hfirst⟩:=HF.out.found n1 (hch X HF.out.rad).lo hcs hf
   have LK:∀m:Ext X,(Instr.lookup 173 (.map (some T.cm)) (.int .u64 (i:Nat)) false).run Tryz.prog m.v= .ok (.pointer (some ⟨blk,0,none⟩)) m.v:=fun m=>hlook m.v (HF.out.rad.below m.h)
   have CF:=fun (m:Ext X)=>hide (show Calls Tryz.prog 315 #[.pointer (some ⟨blk,0,none⟩), .int .i64 (n:Nat), .int .i64 0] m.v fun e w'=>e= .returned (.tuple #[.int .i64 (a:Nat), .bool true])∧Below m.v.heap.size m.v w' from
    (findC_any blk _ _ m.v (hch m.v (HF.out.rad.below m.h)).row (HF.out.rad.below m.h).tab ((n:Nat):Int) 0 (by omega) (by omega)).mono fun e w' ⟨i1,o1,he,hp,hb⟩=>by
     obtain ⟨rfl,rfl⟩:=hf.one hp
     exact ⟨he,hb⟩)
   have q0:=HF.out.rad.c1
   have q1:=HF.out.ib.cell 0 _ rfl
   have q2:=HF.out.nb.cell 0 _ rfl
   have l0:=HF.out.rad.lt (x:=T.tb) (.inr (.inl rfl))
   have l1:=HF.out.ib.lt
   have l2:=HF.out.nb.lt
   have hx:= @ext_cell X
   have hne:=ext_ne X
   have i0:(i:Int)<67108864:=by have:=HF.out.hi;have e6:sz 6=512:=rfl;rw[e6] at this;omega
   have i1:(0:Int)≤(i:Int):=by omega
   have n2:(n:Int)≤512:=by omega
   have n3:(0:Int)≤(n:Int):=by omega
   have a0:(0:Int)≤(a:Int):=by omega
   have a1:(a:Int)≤512:=by omega
   have HFF:=hide hfirst
   clear I0 hX0 hcs hC hlook hch hf hfirst
   gi_wp2_with fail
   refine all_w (by kernel_rfl) (by kernel_rfl) ?_
   repeat (first|go_big_quiet_step (exact calm_of (CF _).out)|(refine wpQuiet_step (fun K hK=> ?_);go_simp;refine hK _ ?_;clear hK K))
   refine wpQuiet_nil ?_
   rintro _ ⟨n4,rfl⟩
   have FF:=hide (HF.out.kept (F:=fun _=>False) (Kept.of_below n4.h) HH.out.rad HN.out nI (fun _ z=>z.elim))
   generalize n4.v=Z at *
   clear CF LK hx hne q0 q1 q2 l0 l1 l2
   have q1:=FF.out.ib.cell 0 _ rfl
   have z1:=FF.out.r1.cell 0 _ rfl
   have z2:=FF.out.r2.cell 0 _ rfl
   have f1:=FF.out.r1.fz 0
   have f2:=FF.out.r2.fz 0
   have l1:=FF.out.r1.lt
   have l2:=FF.out.r2.lt
   gi_wp2_with fail
   rw[Exit.noGoto_ret]
   have g1:=(FF.out.r1.set 0 (.int .u64 ((i:Int) * 512+(a:Int)))).other (b':=N+2) (by omega) 0 (.bool true)
   have g2:=(FF.out.r2.other (b':=N+1) (by omega) 0 (.int .u64 ((i:Int) * 512+(a:Int)))).set 0 (.bool true)
   have kz:=(kept_set (F:=fun x=>x=N+1∨x=N+2) Z (N+1) 0 (.int .u64 ((i:Int) * 512+(a:Int))) (.inl rfl)).trans (kept_set (F:=fun x=>x=N+1∨x=N+2) _ (N+2) 0 (.bool true) (.inr rfl)) (fun _ _ z=>z)
   have mk:=FF.out.mks.kept kz (fun D hD z=>by have:=(FF.out.mks.at' D hD).2;omega)
   have bz:=below_kept FF.out.be kz (fun x hx=>by omega) (by omega)
   exact leave2 mk nI g1 g2 rfl rfl (fun X' kk=>by
    rw[HR.out]
    refine ⟨.inl ⟨512 * i+a,by omega,HFF.out,n1,?_⟩,by rw[HN.out];exact below_kept bz kk (fun x hx=>by have:=(mk.at' x hx).2;omega) (by simp;omega)⟩
    rw[show ((512 * i+a:Nat):Int)=(i:Int) * 512+(a:Int) by omega])
  ·have k6':k<6:=by omega
   have d6:decide (k<6)=true:=decide_eq_true k6'
   have kz:(k:Int)<6:=by omega
   have kz0:(0:Int)≤(k:Int):=by omega
   obtain ⟨Q,hQ⟩:∃Q,X.heap.size=Q:=⟨_,rfl⟩
   obtain ⟨X1,hX1⟩:∃X1,X.alloc (.cells #[.int .i64 (k:Nat)] 3)=X1:=⟨_,rfl⟩
   have b1:Below X.heap.size X X1:=by rw[←hX1];exact grown1 X _
   have p1:Bk X1 Q 3 #[.int .i64 (k:Nat)]:=by rw[←hX1,←hQ];exact World.alloc_heap_new X _
   have F1:=hide (HF.out.kept (F:=fun _=>False) (Kept.of_below b1) HH.out.rad HN.out nI (fun _ z=>z.elim))
   have P1:=hide p1
   have LQ:=hide (show ∀D,D∈l→D<Q from fun D hD=>by have:=HF.out.mks.lt hD;omega)
   have iQ:I+2≤Q:=by have:=HF.out.rb.lt;omega
   obtain ⟨A,hA⟩:∃A:Nat,i * sz k=A:=⟨_,rfl⟩
   obtain ⟨B,hB⟩:∃B:Nat,(i+1) * sz k=B:=⟨_,rfl⟩
   have hz:=sz_pos k
   have hBL:B≤34359738368:=by rw[←hB];exact HF.out.hi
   have i1:i<34359738368:=by
    have:i+1≤(i+1) * sz k:=Nat.le_mul_of_pos_right _ hz
    omega
   have CS:=fun Y hY=>hide (spanOf_at k (by omega) (i:Int) (A:Int) (B:Int) (by omega) (by omega) (by rw[←hA,Int.natCast_mul]) (by rw[←hB,Int.natCast_mul];rfl) (by omega) Y hY)
   have g0:=fld63a
   have c1:=p1.cell 0 _ rfl
   have c2:=F1.out.ib.cell 0 _ rfl
   have l1:=p1.lt
   have l2:=F1.out.ib.lt
   have HA:=hide hA
   have HB:=hide hB
   have S1:=hide (show X1.heap.size=Q+1 from by rw[←hX1];simp;omega)
   have HQ:=hide hQ
   unfold spanV at CS
   clear I0 hX0 b1 p1 hA hB k6
   gi_wp2_with fail
   refine wcall2 (CS _ F1.out.rad.tab).out ?_
   rintro e w2 ⟨rfl,b2⟩
   obtain ⟨G,hG⟩:∃G,w2.heap.size=G:=⟨_,rfl⟩
   obtain ⟨X2,hX2⟩:∃X2,w2.alloc (.cells #[.int .u64 (A:Nat)] 39)=X2:=⟨_,rfl⟩
   have b3:Below X1.heap.size X1 X2:=b2.trans (by rw[←hX2];exact (grown1 w2 _).mono b2.size)
   have g2:Bk X2 G 39 #[.int .u64 (A:Nat)]:=by rw[←hX2,←hG];exact World.alloc_heap_new w2 _
   have s2:X2.heap.size=G+1:=by rw[←hX2];simp;omega
   have qG:Q<G:=by have:=b2.size;have:=S1.out;omega
   have F2:=hide (F1.out.kept (F:=fun _=>False) (Kept.of_below b3) HH.out.rad HN.out nI (fun _ z=>z.elim))
   have P2:=hide (P1.out.below b3)
   have G2:=hide g2
   obtain ⟨Z,hZ⟩:∃Z,(((X2.alloc (.cells #[tp T] 114)).alloc (.cells #[.int .i64 (k:Nat)] 3)).alloc (.cells #[.int .u64 (i:Nat)] 39)).alloc (.cells #[.int .i64 (r.rest:Nat)] 219)=Z:=⟨_,rfl⟩
   have sZ:Z.heap.size=G+5:=by rw[←hZ];simp;omega
   have bZ:Below X2.heap.size X2 Z:=by rw[←hZ];exact ((((Below.refl _ X2).alloc (Nat.le_refl _) _).alloc (by simp) _).alloc (by simp;omega) _).alloc (by simp;omega) _
   have p1:Z.heap[G+1]? =some (.cells #[tp T] 114 (0,0)):=by rw[←hZ,alloc_at,if_neg (by simp;omega),alloc_at,if_neg (by simp;omega),alloc_at,if_neg (by simp;omega),alloc_at,if_pos (by omega)]
   have p2:Z.heap[G+2]? =some (.cells #[.int .i64 (k:Nat)] 3 (0,0)):=by rw[←hZ,alloc_at,if_neg (by simp;omega),alloc_at,if_neg (by simp;omega),alloc_at,if_pos (by simp;omega)]
   have p3:Z.heap[G+3]? =some (.cells #[.int .u64 (i:Nat)] 39 (0,0)):=by rw[←hZ,alloc_at,if_neg (by simp;omega),alloc_at,if_pos (by simp;omega)]
   have p4:Z.heap[G+4]? =some (.cells #[.int .i64 (r.rest:Nat)] 219 (0,0)):=by rw[←hZ,alloc_at,if_pos (by simp;omega)]
   have hr:=HF.out.gd.fact.2.2
   have I1:=hide (show FL N I Q G w T L C st n k i r l 0 Z from by
    have fz:=F2.out.kept (F:=fun _=>False) (Kept.of_below bZ) HH.out.rad HN.out nI (fun _ z=>z.elim)
    have e0:(fan k * i+0) * sz (k+1)=i * sz k:=by rw[sz_fan k k6',Nat.add_zero,←Nat.mul_assoc,Nat.mul_comm i]
    refine ⟨fz,P2.out.below bZ,⟨A,G2.out.below bZ,?_⟩,⟨p2,p3,p1,p4,fz.rad⟩⟩
    rw[e0,HA.out]
    exact Look.zero n1 (by rw[←HA.out];exact HF.out.no))
   have CB:=hide (below_any T k i r.rest X2)
   rw[s2] at CB
   have SEQ:=hide (below_seq (G+2) (G+3) (G+1) (G+4) k i r.rest T L C k6' HF.out.hi hr (3 - 1))
   have HZ:=hide hZ
   have c3:=P2.out.cell 0 _ rfl
   have c4:=F2.out.ib.cell 0 _ rfl
   have c5:=F2.out.rb.cell 6 _ rfl
   have l3:=P2.out.lt
   have l4:=F2.out.ib.lt
   have l5:=F2.out.rb.lt
   unfold tp at CB HZ
   have S2:=hide s2
   clear CS c1 c2 l1 l2 b2 b3 g2 bZ p1 p2 p3 p4 hZ s2
   gi_wp2_with fail
   refine wcall2 CB.out ?_
   rintro e w8 ⟨rfl,hw8⟩
   rw[HZ.out] at hw8
   rw[hw8]
   simp only[Nat.add_assoc,Nat.reduceAdd]
   clear hw8 w8 CB HZ c3 c4 c5 l3 l4 l5 hX2 hX1 F1 P1 F2 P2 G2 S2 S1
   gi_wp2_with fail
   refine range_K (w:=Z) rfl (enters_of Tryz.func250 (by kernel_rfl) rfl) SEQ.out (fun _=>rfl) (FL N I Q G w T L C st n k i r l) (fun c j Y=>(c= .ret∧FindX N I w st n l Y)∨(c= .exit 1∧FD N I w T L C st n (k+1) (fan k * i+j) (row L (k+1) (fan k * i+j) r.rest) l Y)) (fun s Y h=>h.rd) ?hI ?hIx I1.out ?round ?done ?stop
   case hI=>
    intro s Y Y' h kk
    exact h.kept kk HH.out.rad HN.out nI iQ qG LQ.out (fun x hx=>by rw[sZ] at hx;omega)
   case hIx=>
    rintro c s Y Y' (⟨hc,h⟩|⟨hc,h⟩) kk
    ·exact .inl ⟨hc,h.kept kk nI (fun x hx=>by rw[sZ] at hx;exact ⟨by omega,fun z=>by have:=LQ.out x z;omega⟩)⟩
    ·exact .inr ⟨hc,h.kept kk HH.out.rad HN.out nI (fun x hx=>by rw[sZ] at hx;exact ⟨by omega,fun z=>by have:=LQ.out x z;omega⟩)⟩
   case round=>
    rintro j Y ⟨r1,hr1⟩ hdf hsz h hk
    rw[sZ] at hr1 hdf hsz ⊢
    have HI:=hide h
    clear h hr1 hdf
    unfold encsB rwV
    obtain ⟨q,hq⟩:∃q,row L (k+1) (fan k * i+j) r.rest=q:=⟨_,rfl⟩
    rw[hq]
    have HQQ:=hide hq
    obtain ⟨kg,kt,ks,kb⟩:=HI.out.fd.kid k6' hk hq
    obtain ⟨J,hJ⟩:∃J:Nat,fan k * i+j=J:=⟨_,rfl⟩
    have hJ1:fan k * i+(j+1)=J+1:=by omega
    rw[hJ] at kg kt ks kb ⊢
    have HJ:=hide hJ
    have HJ1:=hide hJ1
    obtain ⟨K,hK⟩:∃K:Nat,J * sz (k+1)=K:=⟨_,rfl⟩
    obtain ⟨z,hz⟩:∃z:Nat,sz (k+1)=z:=⟨_,rfl⟩
    have hE:(J+1) * sz (k+1)=K+z:=by rw[Nat.succ_mul,hK,hz]
    have z0:0<z:=by rw[←hz];exact sz_pos _
    rw[hK,hz] at kt ks
    rw[hE] at kb
    have J1:J<34359738368:=by
     have:J+1≤(J+1) * sz (k+1):=Nat.le_mul_of_pos_right _ (sz_pos _)
     omega
    have CS:=fun X hX=>hide (spanOf_at (k+1) (by omega) (J:Int) (K:Int) ((K:Int)+(z:Int)) (by omega) (by omega) (by rw[←hK,Int.natCast_mul]) (by rw[show (J:Int)+1=((J+1:Nat):Int) from rfl,←Int.natCast_mul,hE];rfl) (by omega) X hX)
    have CP:=fun X=>hide (pages_any (K:Int) ((K:Int)+(z:Int)) (by omega) (by omega) (by omega) X)
    rw[show (K:Int)+(z:Int) -(K:Int)=(z:Int) by omega] at CP
    rw[show ((k+1:Nat):Int)=(k:Int)+1 from rfl] at CS
    have KG:=hide kg
    have KT:=hide kt
    have KS:=hide ks
    have HKK:=hide hK
    have HZZ:=hide hz
    have HE:=hide hE
    have sl:=ks.sl
    have el:=ks.el
    have ml:q.m≤z:=by obtain ⟨c,c1,c2⟩:=ks.mx;omega
    have fl:q.t.f≤z:=by rw[kt];exact (tl_le _ _ _).2.1
    clear kg kt ks hq hJ hJ1 hK hz hE
    obtain ⟨B1,hB1⟩:∃B1,Y.heap.size=B1:=⟨_,rfl⟩
    obtain ⟨Y1,hY1⟩:∃Y1,Y.alloc (.cells #[.int .u64 (q.t.p:Nat), .int .u64 (q.t.f:Nat), .int .u64 (q.t.r:Nat), .int .i64 (q.s:Nat), .int .i64 (q.m:Nat), .int .i64 (q.e:Nat), .int .i64 (q.rest:Nat)] 221)=Y1:=⟨_,rfl⟩
    have b1:Below Y.heap.size Y Y1:=by rw[←hY1];exact grown1 Y _
    have f1:Bk Y1 B1 221 #[.int .u64 (q.t.p:Nat), .int .u64 (q.t.f:Nat), .int .u64 (q.t.r:Nat), .int .i64 (q.s:Nat), .int .i64 (q.m:Nat), .int .i64 (q.e:Nat), .int .i64 (q.rest:Nat)]:=by rw[←hY1,←hB1];exact World.alloc_heap_new Y _
    have BB1:=hide b1
    have F1:=hide f1
    clear b1 f1
    unfold spanV at CS CP
    gi_wp2_with fail
    clear hY1
    refine ⟨Kept.of_below BB1.out,fun r2=> ?_⟩
    have kp:=Kept.put (F:=fun b=>b=G+6) Y1 (G+5+1) (.loop r2) rfl
    obtain ⟨Y2,hY2⟩:∃Y2,Y1.putObj (G+5+1) (.loop r2)=Y2:=⟨_,rfl⟩
    rw[hY2] at kp ⊢
    have I3:=hide ((HI.out.kept (F:=fun _=>False) (Kept.of_below BB1.out) HH.out.rad HN.out nI iQ qG LQ.out (fun x z=>z.elim)).kept kp HH.out.rad HN.out nI iQ qG LQ.out (fun x hx=>by omega))
    have F2:=hide (F1.out.kept kp (by omega))
    have c1:=I3.out.dp.cell 0 _ rfl
    have l1:=I3.out.dp.lt
    clear kp hY2 HI BB1 F1
    gi_wp2_with fail
    refine wcall2 (CS _ I3.out.fd.rad.tab).out ?_
    rintro e w5 ⟨rfl,b5⟩
    obtain ⟨S,hS⟩:∃S,w5.heap.size=S:=⟨_,rfl⟩
    obtain ⟨Y3,hY3⟩:∃Y3,w5.alloc (.cells #[.int .u64 (K:Int), .int .u64 ((K:Int)+(z:Int))] 282)=Y3:=⟨_,rfl⟩
    have b6:Below Y2.heap.size Y2 Y3:=b5.trans (by rw[←hY3];exact (grown1 w5 _).mono b5.size)
    have sp:Bk Y3 S 282 #[.int .u64 (K:Int), .int .u64 ((K:Int)+(z:Int))]:=by rw[←hY3,←hS];exact World.alloc_heap_new w5 _
    have I4:=hide (I3.out.kept (F:=fun _=>False) (Kept.of_below b6) HH.out.rad HN.out nI iQ qG LQ.out (fun x z=>z.elim))
    have F4:=hide (F2.out.below b6)
    have SP:=hide sp
    have K4:=hide (show Kept (fun b=>b<G+5) Y2 Y3 from Kept.of_below b6)
    obtain ⟨b,bb,lk⟩:=I4.out.bg
    have BB:=hide bb
    have LK:=hide lk
    have bk:=lk.bk
    rw[HJ.out,HKK.out] at bk
    have x0:=SP.out.cell 0 _ rfl
    have x1:=SP.out.cell 1 _ rfl
    have x2:=F4.out.cell 1 _ rfl
    have x3:=F4.out.cell 3 _ rfl
    have x4:=F4.out.cell 4 _ rfl
    have x5:=F4.out.cell 5 _ rfl
    have x6:=bb.cell 0 _ rfl
    have x7:=I4.out.fd.nb.cell 0 _ rfl
    have l3:=SP.out.lt
    have l4:=F4.out.lt
    have l5:=bb.lt
    have l6:=I4.out.fd.nb.lt
    clear CS c1 l1 b5 b6 sp bb lk I3 F2
    have bkI:(b:Int)≤(K:Int):=by omega
    have kbI:(K:Int)+(z:Int)≤34359738368:=by omega
    have slI:(q.s:Int)≤(z:Int):=by omega
    have elI:(q.e:Int)≤(z:Int):=by omega
    have mlI:(q.m:Int)≤(z:Int):=by omega
    by_cases t1:n≤K+q.s - b
    ·have d1:decide ((n:Int)≤(K:Int)+(q.s:Int) -(b:Int))=true:=decide_eq_true (by omega)
     have HT1:=hide t1
     have y1:=I4.out.fd.r1.cell 0 _ rfl
     have y2:=I4.out.fd.r2.cell 0 _ rfl
     have v1:=I4.out.fd.r1.fz 0
     have v2:=I4.out.fd.r2.fz 0
     have l7:=I4.out.fd.r1.lt
     have l8:=I4.out.fd.r2.lt
     clear t1
     gi_wp2_with fail
     have g1:=(I4.out.fd.r1.set 0 (.int .u64 (b:Nat))).other (b':=N+2) (by omega) 0 (.bool true)
     have g2:=(I4.out.fd.r2.other (b':=N+1) (by omega) 0 (.int .u64 (b:Nat))).set 0 (.bool true)
     have kz:=(kept_set (F:=fun x=>x=N+1∨x=N+2) Y3 (N+1) 0 (.int .u64 (b:Nat)) (.inl rfl)).trans (kept_set (F:=fun x=>x=N+1∨x=N+2) _ (N+2) 0 (.bool true) (.inr rfl)) (fun _ _ z=>z)
     have lk:=LK.out
     rw[HJ.out,HKK.out] at lk
     exact ⟨K4.out.trans (kz.mono (G:=fun b=>b<G+5) (fun x hx=>by omega)) (fun _ _ z=>z), .inl ⟨rfl,below_kept I4.out.fd.be kz (fun x hx=>by omega) (by omega),I4.out.fd.mks.kept kz (fun D hD y=>by have:=(I4.out.fd.mks.at' D hD).2;omega),b,by omega,lk.hit KS.out HT1.out,g1,g2⟩⟩
    ·have d1:decide ((n:Int)≤(K:Int)+(q.s:Int) -(b:Int))=false:=decide_eq_false (by omega)
     by_cases t2:n≤q.m
     ·have d2:decide (n≤q.m)=true:=decide_eq_true t2
      have HT:=hide (And.intro t1 t2)
      have v0:=F4.out.cell 0 _ rfl
      have v6:=F4.out.cell 6 _ rfl
      have v2:=F4.out.cell 2 _ rfl
      have hx:= @ext_cell Y3
      have hne:=ext_ne Y3
      clear t1 t2
      gi_wp2_with fail
      refine norm_only ?_
      refine held_r (fun Y=>Kept (fun x=>x=I∨x=I+1) Y3 Y) (by kernel_rfl) (by kernel_rfl) (Kept.of_below (drew_below _)) (fun hHeld=> ?_)
      refine wpAnyH_take (i:=0) (oi:=_) (v:= ?_) rfl (by kernel_rfl) (by kernel_rfl) (by kernel_rfl) (fun _ _ _ h=>by cases h.2.1) (Or.inl ⟨by rfl,?_⟩) (by assumption) ?_
      rotate_left
      ·(intro Y hSw;go_simp;try with_reducible rfl)
      try simp only[Act.put,List.setIfInBounds_toArray,List.set_cons_zero,List.set_cons_succ]
      refine wpAnyH_take (i:=1) (oi:=_) (v:= ?_) rfl (by kernel_rfl) (by kernel_rfl) (by kernel_rfl) (fun _ _ _ h=>by cases h.2.1) (Or.inl ⟨by rfl,?_⟩) (by assumption) ?_
      rotate_left
      ·(intro Y hSw;have e0:=(F4.out.kept hSw (by omega)).cell 0 _ rfl;have e1:=(F4.out.kept hSw (by omega)).cell 1 _ rfl;have e2:=(F4.out.kept hSw (by omega)).cell 2 _ rfl;have e3:=(F4.out.kept hSw (by omega)).cell 3 _ rfl;have e4:=(F4.out.kept hSw (by omega)).cell 4 _ rfl;have e5:=(F4.out.kept hSw (by omega)).cell 5 _ rfl;have e6:=(F4.out.kept hSw (by omega)).cell 6 _ rfl;go_simp;try with_reducible rfl)
      try simp only[Act.put,List.setIfInBounds_toArray,List.set_cons_zero,List.set_cons_succ]
      have I5:=hide (I4.out.kept (F:=fun _=>False) (Kept.of_below (drew_below Y3)) HH.out.rad HN.out nI iQ qG LQ.out (fun x z=>z.elim))
      have K5:=hide (show Kept (fun b=>b<G+5) Y2 Y3.drew from K4.out.trans (Kept.of_below (F:=fun b=>b<G+5) (drew_below Y3)) (fun _ _ z=>z))
      generalize Y3.drew=Y5 at *
      clear hx hne x0 x1 x2 x3 x4 x5 x6 x7 v0 v2 v6
      have kz1:=kept_set (F:=fun x=>x=I) Y5 I 0 (.int .u64 (J:Nat)) rfl
      have w7:=I5.out.fd.ib.cell 0 _ rfl
      have z7:=I5.out.fd.ib.fz 0
      have l8:=I5.out.fd.ib.lt
      refine wpAnyH_ready (rs:=[2]) (by kernel_rfl) (by simp) ?_
      refine AllReadyH.cons (o:=⟨none,_,_,_,_,_⟩) rfl (fun K hK=> ?_) AllReadyH.nil
      go_simp
      refine hK.out _ _ (hHeld.trans (kz1.mono (G:=fun x=>x=I∨x=I+1) (fun x hx=> .inl hx)) (fun _ _ z=>z)) (fun hHeld=> ?_)
      clear hK K
      try simp only[Act.put,List.setIfInBounds_toArray,List.set_cons_zero,List.set_cons_succ]
      have g0:=I5.out.fd.rb.kept kz1 (by omega)
      have gi:=I5.out.fd.ib.set 0 (.int .u64 (J:Nat))
      have G0:=hide g0
      have GI:=hide gi
      have KZ1:=hide kz1
      generalize Y5.setCell ⟨I,0,none⟩ (.int .u64 (J:Nat))=Y6 at *
      have w0:=g0.cell 0 _ rfl
      have w1:=g0.cell 1 _ rfl
      have w2:=g0.cell 2 _ rfl
      have w3:=g0.cell 3 _ rfl
      have w4:=g0.cell 4 _ rfl
      have w5:=g0.cell 5 _ rfl
      have w6:=g0.cell 6 _ rfl
      obtain ⟨z0,z1,z2,z3,z4,z5,z6⟩:=frozen7 g0.fz
      have l7:=g0.lt
      clear g0 gi kz1 w7 z7
      have kz2:=kset7 Y6 (I+1) (.int .u64 (q.t.p:Nat)) (.int .u64 (q.t.f:Nat)) (.int .u64 (q.t.r:Nat)) (.int .i64 (q.s:Nat)) (.int .i64 (q.m:Nat)) (.int .i64 (q.e:Nat)) (.int .i64 (q.rest:Nat))
      refine wpAnyH_ready (rs:=[3]) (by kernel_rfl) (by simp) ?_
      refine AllReadyH.cons (o:=⟨none,_,_,_,_,_⟩) rfl (fun K hK=> ?_) AllReadyH.nil
      go_simp
      refine hK.out _ _ (hHeld.trans (kz2.mono (G:=fun x=>x=I∨x=I+1) (fun x hx=> .inr hx)) (fun _ _ z=>z)) (fun hHeld=> ?_)
      clear hK K
      try simp only[Act.put,List.setIfInBounds_toArray,List.set_cons_zero,List.set_cons_succ]
      refine wpAnyH_done (by kernel_rfl) ⟨(fun z=>by cases z),rfl,?_⟩ _
      have gr:=(((((((G0.out).set 0 (.int .u64 (q.t.p:Nat))).set 1 (.int .u64 (q.t.f:Nat))).set 2 (.int .u64 (q.t.r:Nat))).set 3 (.int .i64 (q.s:Nat))).set 4 (.int .i64 (q.m:Nat))).set 5 (.int .i64 (q.e:Nat))).set 6 (.int .i64 (q.rest:Nat))
      have kz:=(KZ1.out.mono (G:=fun x=>x=I∨x=I+1) (fun x hx=> .inl hx)).trans (kz2.mono (G:=fun x=>x=I∨x=I+1) (fun x hx=> .inr hx)) (fun _ _ z=>z)
      have GR:=hide gr
      have KZ:=hide kz
      have KZ2:=hide kz2
      clear gr kz kz2 hHeld w0 w1 w2 w3 w4 w5 w6 z0 z1 z2 z3 z4 z5 z6
      generalize (((((((Y6.setCell ⟨I+1,0,none⟩ (.int .u64 (q.t.p:Nat))).setCell ⟨I+1,1,none⟩ (.int .u64 (q.t.f:Nat))).setCell ⟨I+1,2,none⟩ (.int .u64 (q.t.r:Nat))).setCell ⟨I+1,3,none⟩ (.int .i64 (q.s:Nat))).setCell ⟨I+1,4,none⟩ (.int .i64 (q.m:Nat))).setCell ⟨I+1,5,none⟩ (.int .i64 (q.e:Nat))).setCell ⟨I+1,6,none⟩ (.int .i64 (q.rest:Nat)))=Y7 at *
      gi_wp2_with fail
      have kz:=KZ.out
      have gr:=GR.out
      have gi:=GI.out
      have kz2:=KZ2.out
      have lk:=LK.out
      rw[HJ.out,HKK.out] at lk
      obtain ⟨e1,e2,e3,e4⟩:=lk.into KS.out HT.out.1 HT.out.2
      refine ⟨K5.out.trans (kz.mono (G:=fun b=>b<G+5) (fun x hx=>by omega)) (fun _ _ z=>z), .inr ⟨rfl,?_⟩⟩
      rw[HJ.out,show row L (k+1) J r.rest=q by rw[←HJ.out];exact HQQ.out]
      exact ⟨below_kept I5.out.fd.be kz (fun x hx=>by omega) (by omega),I5.out.fd.nb.kept kz (by omega),I5.out.fd.r1.kept kz (by omega),I5.out.fd.r2.kept kz (by omega),gi.kept kz2 (by omega),gr,HH.out.rad.new I5.out.fd.rad kz (fun x hx=>by rw[HN.out];omega),KG.out,by rw[HE.out];exact kb,by rw[HKK.out];exact e1,fun _=>⟨by rw[HKK.out,HE.out];exact e2,by rw[HZZ.out];exact e3,e4⟩,I5.out.fd.mks.kept kz (fun D hD y=>by have:=(I5.out.fd.mks.at' D hD).2;omega)⟩
     ·have d2:decide (n≤q.m)=false:=decide_eq_false t2
      by_cases t3:q.t.f<z
      ·have d3:decide (q.t.f<z)=true:=decide_eq_true t3
       have hx:= @ext_cell Y3
       have hne:=ext_ne Y3
       have HT:=hide (And.intro t1 (And.intro t2 t3))
       clear t1 t2 t3
       gi_wp2_with fail
       refine all_r (by kernel_rfl) (by kernel_rfl) ?_
       repeat (first|go_big_quiet_step (exact calm_of (CP _).out)|(refine wpQuiet_step (fun K hK=> ?_);go_simp;refine hK _ ?_;clear hK K))
       refine wpQuiet_nil ?_
       rintro _ ⟨m4,rfl⟩
       have I5:=hide (I4.out.kept (F:=fun _=>False) (Kept.of_below m4.h) HH.out.rad HN.out nI iQ qG LQ.out (fun x z=>z.elim))
       have K5:=hide (show Kept (fun b=>b<G+5) Y2 m4.v from K4.out.trans (Kept.of_below (F:=fun b=>b<G+5) m4.h) (fun _ _ z=>z))
       have F5:=hide (F4.out.below m4.h)
       have SP5:=hide (SP.out.below m4.h)
       have B5:=hide (BB.out.below m4.h)
       generalize m4.v=Y5 at *
       clear hx hne x0 x1 x2 x3 x4 x5 x6 x7
       have x1:=SP5.out.cell 1 _ rfl
       have x5:=F5.out.cell 5 _ rfl
       have x6:=B5.out.cell 0 _ rfl
       have z6:=B5.out.fz 0
       have l7:=SP5.out.lt
       have l8:=F5.out.lt
       have l9:=B5.out.lt
       gi_wp2_with fail
       have lk:=LK.out
       rw[HJ.out,HKK.out] at lk
       have ps:=lk.past KS.out z0 HT.out.1 HT.out.2.1 ((free_whole KT.out KS.out).1 HT.out.2.2)
       have kz:=kept_set (F:=fun x=>x=G) Y5 G 0 (.int .u64 ((K:Int)+(z:Int) -(q.e:Int))) rfl
       have gb:=B5.out.set 0 (.int .u64 ((K:Int)+(z:Int) -(q.e:Int)))
       refine ⟨K5.out.trans (kz.mono (G:=fun b=>b<G+5) (fun x hx=>by omega)) (fun _ _ z=>z),I5.out.fd.kept kz HH.out.rad HN.out nI (fun x hx=>⟨by omega,fun y=>by have:=LQ.out x y;omega⟩),I5.out.dp.kept kz (by omega),⟨K+z - q.e,?_,?_⟩,I5.out.rd.kept HH.out.rad kz (fun x hx=>by rw[HN.out];omega)⟩
       ·rw[show ((K+z - q.e:Nat):Int)=(K:Int)+(z:Int) -(q.e:Int) by omega];exact gb
       ·rw[HJ1.out,HE.out];exact ps
      ·have d3:decide (q.t.f<z)=false:=decide_eq_false t3
       have hx:= @ext_cell Y3
       have hne:=ext_ne Y3
       have HT:=hide (And.intro t1 (And.intro t2 t3))
       clear t1 t2 t3
       gi_wp2_with fail
       refine all_r (by kernel_rfl) (by kernel_rfl) ?_
       repeat (first|go_big_quiet_step (exact calm_of (CP _).out)|(refine wpQuiet_step (fun K hK=> ?_);go_simp;refine hK _ ?_;clear hK K))
       refine wpQuiet_nil ?_
       rintro _ ⟨m4,rfl⟩
       have I5:=hide (I4.out.kept (F:=fun _=>False) (Kept.of_below m4.h) HH.out.rad HN.out nI iQ qG LQ.out (fun x z=>z.elim))
       have K5:=hide (show Kept (fun b=>b<G+5) Y2 m4.v from K4.out.trans (Kept.of_below (F:=fun b=>b<G+5) m4.h) (fun _ _ z=>z))
       have F5:=hide (F4.out.below m4.h)
       have SP5:=hide (SP.out.below m4.h)
       have B5:=hide (BB.out.below m4.h)
       generalize m4.v=Y5 at *
       clear hx hne x0 x1 x2 x3 x4 x5 x6 x7
       have x1:=SP5.out.cell 1 _ rfl
       have x5:=F5.out.cell 5 _ rfl
       have x6:=B5.out.cell 0 _ rfl
       have z6:=B5.out.fz 0
       have l7:=SP5.out.lt
       have l8:=F5.out.lt
       have l9:=B5.out.lt
       gi_wp2_with fail
       have lk:=LK.out
       rw[HJ.out,HKK.out] at lk
       have ps:=lk.whole KS.out HT.out.1 (by
        rcases Nat.lt_or_ge q.s z with y|y
        ·exact absurd ((free_whole KT.out KS.out).2 y) HT.out.2.2
        ·omega)
       exact ⟨K5.out,I5.out.fd,I5.out.dp,⟨b,B5.out,by rw[HJ1.out,HE.out];exact ps⟩,I5.out.rd⟩
   case done=>
    rintro Y h hdf
    rw[sZ] at hdf ⊢
    have hno:∀p,¬Run st p n:=fun p hp=>by
     obtain ⟨b,_,lk⟩:=h.bg
     have e1:(fan k * i+fan k) * sz (k+1)=(i+1) * sz k:=by rw[sz_fan k k6',←Nat.mul_assoc,←Nat.mul_succ,Nat.mul_comm (i+1)]
     rw[e1] at lk
     by_cases y:1≤k
     ·obtain ⟨⟨c,c1,c2,c3⟩,_⟩:=h.fd.some' y
      exact lk.vain c3 c2
     ·obtain rfl:k=0:=by omega
      have e0:sz 0=34359738368:=rfl
      refine lk.vain hp ?_
      rcases Nat.lt_or_ge 34359738368 (p+n) with u|u
      ·have h1:=hp (p+n - 1) (by omega) (by omega)
       have h2:=HH.out.out (p+n - 1) (by omega)
       omega
      ·rw[Nat.succ_mul,e0];omega
    have HI:=hide h
    have HD:=hide hdf
    have HNO:=hide hno
    have z1:=h.fd.r1.cell 0 _ rfl
    have z2:=h.fd.r2.cell 0 _ rfl
    have f1:=h.fd.r1.fz 0
    have f2:=h.fd.r2.fz 0
    have l1:=h.fd.r1.lt
    have l2:=h.fd.r2.lt
    clear h hdf hno
    gi_wp2_with fail
    rw[Exit.noGoto_ret]
    have g1:=(HI.out.fd.r1.set 0 (.int .u64 0)).other (b':=N+2) (by omega) 0 (.bool false)
    have g2:=(HI.out.fd.r2.other (b':=N+1) (by omega) 0 (.int .u64 0)).set 0 (.bool false)
    have kz:=(kept_set (F:=fun x=>x=N+1∨x=N+2) Y (N+1) 0 (.int .u64 0) (.inl rfl)).trans (kept_set (F:=fun x=>x=N+1∨x=N+2) _ (N+2) 0 (.bool false) (.inr rfl)) (fun _ _ z=>z)
    have mk:=(HI.out.fd.mks.cons HD.out (by omega) (fun y=>by have:=LQ.out _ y;omega)).kept kz (fun D hD y=>by
     rcases List.mem_cons.1 hD with e|e
     ·omega
     ·have:=(HI.out.fd.mks.at' D e).2;omega)
    have bz:=below_kept HI.out.fd.be kz (fun x hx=>by omega) (by omega)
    exact leave2 (l:=(G+5)::l) mk nI g1 g2 rfl rfl (fun X' kk=>by
     rw[HR.out]
     exact ⟨.inr ⟨.inr HNO.out,rfl⟩,by rw[HN.out];exact below_kept bz kk (fun x hx=>by have:=(mk.at' x hx).2;omega) (by simp;omega)⟩)
   case stop=>
    rintro c j Y hj (⟨rfl,h⟩|⟨rfl,h⟩) hdf
    ·rw[sZ] at hdf ⊢
     have HI:=hide h
     have HD:=hide hdf
     clear h hdf
     gi_wp2_with fail
     rw[Exit.noGoto_ret]
     obtain ⟨p,p1,p2,p3,p4⟩:=HI.out.ans
     have mk:=HI.out.mks.cons HD.out (by omega) (fun y=>by have:=LQ.out _ y;omega)
     exact leave2 (l:=(G+5)::l) mk nI p3 p4 rfl rfl (fun X' kk=>by
      rw[HR.out]
      exact ⟨.inl ⟨p,p1,p2,n1,rfl⟩,by rw[HN.out];exact below_kept HI.out.be kk (fun x hx=>by have:=(mk.at' x hx).2;omega) (by have:=p3.lt;omega)⟩)
    ·rw[sZ] at hdf ⊢
     have HI:=hide h
     have HD:=hide hdf
     clear h hdf
     gi_wp2_with fail
     have mk:=HI.out.mks.cons HD.out (by omega) (fun y=>by have:=LQ.out _ y;omega)
     have h:=HI.out
     refine ⟨⟨k+1,fan k * i+j,_,(G+5)::l,_,_,_,_,_,_,_,_,_,_,_,_,_,_,_,by omega,hide ⟨h.be,h.nb,h.r1,h.r2,h.ib,h.rb,h.rad,h.gd,h.hi,h.no,h.some',mk⟩,rfl⟩,?_⟩
     simp[intOf]
     omega
end Go.Proofs.YtdgdhnnakcncoaaGreatDoor
