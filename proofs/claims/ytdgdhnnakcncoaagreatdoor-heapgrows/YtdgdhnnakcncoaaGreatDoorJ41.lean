/- Of the proof of HeapGrows: texts FFx, FFy, FFz. -/
import Derived.Test.YtdgdhnnakcncoaaGreatDoorJ54
import Derived.Test.YtdgdhnnakcncoaaGreatDoorJ12
import Derived.Test.YtdgdhnnakcncoaaGreatDoorJ11
import Derived.Test.YtdgdhnnakcncoaaGreatDoorJ08
import Derived.Test.YtdgdhnnakcncoaaGreatDoorJ03
import Derived.Test.YtdgdhnnakcncoaaGreatDoorJ02
import Derived.Test.YtdgdhnnakcncoaaGreatDoorJ07
import Derived.Test.YtdgdhnnakcncoaaGreatDoorJ01
import Derived.Test.YtdgdhnnakcncoaaGreatDoorJ09
import Derived.Test.YtdgdhnnakcncoaaGreatDoorRows
import Derived.WalkKit
import Derived.ProofKit
import Derived.OpenShut
import Derived.Carry
import Derived.ChangeSlices
import Derived.WalkLawsBesides
import Derived.Shelf.Abstract
import Derived.Deep.QuietTactic
import Derived.BigQuiet
import Derived.Outline
import Derived.Deep.RegionHeld3
import Derived.StillTailTactics
import Derived.Maps.AppendAt
import Derived.RangeFuncNested
import Derived.RangeFuncBound
import Derived.RangeFuncCalls
import Derived.RangeFuncLeaves
import Derived.Shelf.RegionOpen
import Derived.OwnWalkIn
import Derived.TacticsInMore
import Derived.LoopNIn
import Derived.LoopIn
import Derived.Maps.RangeWalk
import Derived.Deep.CutRange
import Derived.Laws.MathBits
import Derived.Laws.Bits128
import Derived.Laws.BitsAllLaws
import Derived.Lib.BitFns
import Derived.Deep.AppendLies
import Derived.Laws.OwnMore
import Derived.Lib.SmallJoins
namespace Go.Proofs.YtdgdhnnakcncoaaGreatDoor.F
set_option maxHeartbeats 1600000
open Go.ChangeShapes Go.WideShapes Go.ChangeAt Go.RowKit Go.Shelf Go.Proofs.Rx Go.Maps
set_option linter.unusedVariables false
set_option linter.unusedSimpArgs false
attribute [local go_sem] Oper.semAt_some
theorem below_alloc (w:World) (o:Obj):Below w.heap.size w (w.alloc o):=(Below.refl _ _).alloc (Nat.le_refl _) _
def encB (x:Bool):Value:= .bool x
theorem infoB:(Tryz.prog.info? 4).map (fun i=>(i.zero,i.size,i.bytes))=some (some (.bool false),1,1):=by kernel_rfl
theorem own_eq {g0 g n c:Nat} (h:(Value.slice (some ⟨g0,0,none⟩) n c).ownBlock=some g):g0=g:=by simpa [Value.ownBlock] using h
theorem owns_kept {F:Nat→Prop} {W W':World} {M e sz n:Nat} {v:Value} {xs:List Value} (h:W.ownsRow M e sz v n xs) (k:Kept F W W') (hF:∀g,v.ownBlock=some g→¬F g):W'.ownsRow M e sz v n xs:=by
 refine ⟨h.1,?_⟩
 rcases h.2 with ⟨a,b⟩|⟨g,cap,cur,a,b,c,d⟩
 ·exact .inl ⟨a,b⟩
 ·exact .inr ⟨g,cap,cur,a,b,kept_at k c (hF g (by rw[a];rfl)),d⟩
theorem own_ge {W:World} {M e n z:Nat} {v:Value} {xs:List Value} (h:W.ownsRow M e 1 v n xs) (hz:v.ownBlock=some z):M≤z∧z<W.heap.size:=h.lt z hz
theorem bools_more {X2:World} {base:Nat} {v:Value} {k:Nat} {t:List Bool} (h:X2.ownsRow base 4 1 v k (t.map encB)) (hk:k<100000) (blk:Nat) (q:Bool) (n2:X2.heap[blk]? =some (.cells #[.bool q] 4 (0,0))) (hb:base≤X2.heap.size) (ty:TypeId):
 ∃g cap Y,(Builtin.append_ #[23,23] ty #[v, .slice (some ⟨blk,0,none⟩) 1 1]).run Tryz.prog X2= .ok (.slice (some ⟨g,0,none⟩) (k+1) cap) Y∧Y.ownsRow base 4 1 (.slice (some ⟨g,0,none⟩) (k+1) cap) (k+1) ((t++ [q]).map encB)∧Kept (fun x=>v.ownBlock=some x) X2 Y∧(v.ownBlock=some g∨X2.heap.size≤g)∧g<Y.heap.size:=by
 obtain ⟨i0,hi0,hz0,hz1,hz2⟩:=info_parts infoB
 obtain ⟨g,cap,Y,r1,o1,g1,hat,hlt⟩:=run_append_lies (P:=Tryz.prog) X2 23 ty base 4 i0 _ 1 1 Tryz.underlying23 hi0 hz0 hz1 hz2 rfl (by decide) v k (t.map encB) h ⟨blk,0,none⟩ 1 1 [.bool q] rfl (World.news_of_block n2) (by intro u hu;simp at hu;rw[hu];rfl) (by decide) (by unfold maxLen;omega) (by omega) hb _ rfl
 refine ⟨g,cap,Y,r1,?_,Kept.of_grown g1 (fun j e=>e),?_,hlt⟩
 ·rw[List.map_append];exact o1
 ·rcases hat with e|e
  ·exact .inl e
  ·exact .inr (by omega)
def LinkAt (W:World):Value→List Nat→List Nat→Prop
 |p,[],bs=>p= .pointer none∧bs= []
 |p,i::B,bs=>∃b p' bs',p= .pointer (some ⟨b,0,none⟩)∧bs=b::bs'∧Bk W b 236 #[.int .i64 (i:Nat),p']∧LinkAt W p' B bs'
theorem LinkAt.kept {F:Nat→Prop} {W W':World} (k:Kept F W W'):∀{B:List Nat} {p:Value} {bs:List Nat},LinkAt W p B bs→(∀z,z∈bs→¬F z)→LinkAt W' p B bs
 | [],p,bs,h,_=>h
 |i::B,p,bs,⟨b,p',bs',h1,h2,h3,h4⟩,hF=>⟨b,p',bs',h1,h2,h3.kept k (hF b (by rw[h2];simp)),LinkAt.kept k h4 (fun z hz=>hF z (by rw[h2];simp[hz]))⟩
theorem LinkAt.lt {W:World}:∀{B:List Nat} {p:Value} {bs:List Nat},LinkAt W p B bs→∀z,z∈bs→z<W.heap.size
 | [],p,bs,h,z,hz=>by rw[h.2] at hz;cases hz
 |i::B,p,bs,⟨b,p',bs',h1,h2,h3,h4⟩,z,hz=>by
  rw[h2] at hz
  rcases List.mem_cons.1 hz with e|e
  ·rw[e];exact h3.lt
  ·exact h4.lt z e
theorem LinkAt.ptr {W:World} {B:List Nat} {p:Value} {bs:List Nat} (h:LinkAt W p B bs):∃q,p= .pointer q:=by
 cases B with
 |nil=>exact ⟨none,h.1⟩
 |cons i B=>obtain ⟨b,p',bs',h1,_⟩:=h;exact ⟨_,h1⟩
structure FxAt (N:Nat) (W:World) (fb:Nat) (v p:Value) (bs:List Nat) (each c:Int) (L:List Bool) (B:List Nat):Prop where
 bk:Bk W fb 184 #[.int .i64 each,v, .int .i64 c,p]
 row:W.ownsRow N 4 1 v L.length (L.map encB)
 lk:LinkAt W p B bs
 x:N≤fb
 n0:v.ownBlock≠some fb
 n1:fb ∉ bs
 n2:∀g,v.ownBlock=some g→g ∉ bs
 ge:∀z,z∈bs→N≤z
def ownF (fb:Nat) (v:Value) (bs:List Nat) (z:Nat):Prop:=z=fb∨v.ownBlock=some z∨z∈bs
section
variable {N:Nat} {W W':World} {fb:Nat} {v p:Value} {bs:List Nat} {each c:Int} {L:List Bool} {B:List Nat}
theorem FxAt.kept {F:Nat→Prop} (h:FxAt N W fb v p bs each c L B) (k:Kept F W W') (hF:∀z,ownF fb v bs z→¬F z):FxAt N W' fb v p bs each c L B:=
 ⟨h.bk.kept k (hF _ (.inl rfl)),owns_kept h.row k (fun g hg=>hF _ (.inr (.inl hg))),h.lk.kept k (fun z hz=>hF z (.inr (.inr hz))),h.x,h.n0,h.n1,h.n2,h.ge⟩
theorem FxAt.below (h:FxAt N W fb v p bs each c L B) (k:Below W.heap.size W W'):FxAt N W' fb v p bs each c L B:=h.kept (Kept.of_below (F:=fun _=>False) k) (fun _ _ f=>f)
theorem FxAt.own (h:FxAt N W fb v p bs each c L B) {z:Nat} (hz:ownF fb v bs z):N≤z∧z<W.heap.size:=by
 rcases hz with rfl|hz|hz
 ·exact ⟨h.x,h.bk.lt⟩
 ·exact own_ge h.row hz
 ·exact ⟨h.ge z hz,h.lk.lt z hz⟩
theorem pop_none (h:FxAt N W fb v p bs each c L []):Calls Tryz.prog 184 #[.pointer (some ⟨fb,0,none⟩)] W fun e W'=>e= .returned (.int .i64 0)∧W'=W:=by
 obtain ⟨rfl,-⟩:=h.lk
 have y3:=h.bk.cell 3 _ rfl
 clear h
 go_enter Tryz.func184,Tryz.ntmps184
 go_wp2_with fail
 go_ret
 exact ⟨rfl,rfl⟩
theorem pop_some {i:Nat} (h:FxAt N W fb v p bs each c L (i::B)):Calls Tryz.prog 184 #[.pointer (some ⟨fb,0,none⟩)] W fun e W'=>e= .returned (.int .i64 (i:Nat))∧(∃p' bs',FxAt N W' fb v p' bs' each c L B∧∀z,z∈bs'→z∈bs)∧Kept (fun z=>z=fb) W W':=by
 have H:=hide h
 obtain ⟨b,p',bs',rfl,e2,h3,h4⟩:=h.lk
 obtain ⟨q,rfl⟩:=h4.ptr
 have y3:=h.bk.cell 3 _ rfl
 have f3:=h.bk.fz 3
 have x0:=h3.cell 0 _ rfl
 have x1:=h3.cell 1 _ rfl
 have E:=hide (And.intro e2 (And.intro h3 h4))
 clear h h3 h4 e2
 go_enter Tryz.func184,Tryz.ntmps184
 go_wp2_with fail
 go_ret
 have k:=kept_set (F:=fun z=>z=fb) W fb 3 (.pointer q) rfl
 obtain ⟨e2,h3,h4⟩:=E.out
 have h:=H.out
 refine ⟨rfl,⟨_,bs',⟨h.bk.set 3 _,owns_kept h.row k (fun g hg e=>h.n0 (e▸hg)),h4.kept k (fun z hz e=>h.n1 (by rw[e2,←e];simp[hz])),h.x,h.n0,fun hz=>h.n1 (by rw[e2];simp[hz]),fun g hg hz=>h.n2 g hg (by rw[e2];simp[hz]),fun z hz=>h.ge z (by rw[e2];simp[hz])⟩,fun z hz=>by rw[e2];simp[hz]⟩,k⟩
def lv (L:List Bool) (i:Int):Bool:=decide (1≤i)&&L.getD (i.toNat - 1) false
theorem lv_in {L:List Bool} {i:Int} (h1:1≤i) (h2:i≤L.length) (j:Nat) (hj:j=i.toNat - 1):L[j]? =some (lv L i):=by
 subst hj
 unfold lv
 rw[decide_eq_true h1,Bool.true_and,List.getD_eq_getElem?_getD,List.getElem?_eq_getElem (by omega)]
 rfl
theorem lv_out {L:List Bool} {i:Int} (h:i<1∨(L.length:Int)<i):lv L i=false:=by
 unfold lv
 rcases h with h|h
 ·rw[decide_eq_false (by omega)];rfl
 ·rw[List.getD_eq_getElem?_getD,List.getElem?_eq_none (by omega)];simp
theorem FxAt.cellAt (h:FxAt N W fb v p bs each c L B) {j:Nat} (hj:j<L.length) {x:Bool} (hx:L[j]? =some x):∃g cap,v= .slice (some ⟨g,0,none⟩) L.length cap∧W.cell? ⟨g,j,none⟩=some (.bool x)∧W.frozen? ⟨g,j,none⟩=false:=by
 obtain ⟨g,cap,e,_,_⟩:=h.row.form (by omega)
 refine ⟨g,cap,e,?_,?_⟩
 ·have:=h.row
  rw[e] at this
  rw[this.cellAt j (by omega),List.getElem?_map,hx]
  rfl
 ·have:=h.row
  rw[e] at this
  exact this.frozenAt j
end
end Go.Proofs.YtdgdhnnakcncoaaGreatDoor.F
namespace Go.Proofs.YtdgdhnnakcncoaaGreatDoor.F
set_option maxHeartbeats 1600000
open Go.ChangeShapes Go.WideShapes Go.ChangeAt Go.RowKit Go.Shelf Go.Proofs.Rx Go.Maps
set_option linter.unusedVariables false
set_option linter.unusedSimpArgs false
attribute [local go_sem] Oper.semAt_some
section
variable {N:Nat} {W W':World} {fb:Nat} {v p:Value} {bs:List Nat} {each c:Int} {L:List Bool} {B:List Nat}
theorem new_ok (s:Int) (h1:1≤s) (h2:s≤16384) (w:World):
 Calls Tryz.prog 44 #[.int .i64 s] w fun e w'=>e= .returned (.tuple #[.pointer (some ⟨w.heap.size,0,none⟩), .int .i64 0])∧w'=w.alloc (.cells #[.int .i64 (16384/s), .slice none 0 0, .int .i64 0, .pointer none] 184):=by
 have d1:decide (s<1)=false:=decide_eq_false (by omega)
 have d2:decide (16384<s)=false:=decide_eq_false (by omega)
 have z:(s==0)=false:=by simp;omega
 have q0:(16384:Int).tdiv s=16384/s:=Int.tdiv_eq_ediv_of_nonneg (by omega)
 have q9:0≤16384/s:=Int.ediv_nonneg (by omega) (by omega)
 have q8:16384/s≤16384:=Int.ediv_le_self _ (by omega)
 have q3:IntKind.i64.wrap (16384/s)=16384/s:=by rw[IntKind.wrap_i64];omega
 go_enter Tryz.func44,Tryz.ntmps44
 go_wp2_with fail
 go_ret2
 exact ⟨rfl,rfl⟩
theorem FxAt.new (hN:N≤W.heap.size) (each:Int):FxAt N (W.alloc (.cells #[.int .i64 each, .slice none 0 0, .int .i64 0, .pointer none] 184)) W.heap.size (.slice none 0 0) (.pointer none) [] each 0 [] []:=
 ⟨World.alloc_heap_new W _,World.ownsRow_nil _ _ _ _,⟨rfl,rfl⟩,hN,by simp[Value.ownBlock],by simp,by simp,by simp⟩
theorem FxAt.setOut {g cap:Nat} (h:FxAt N W fb (.slice (some ⟨g,0,none⟩) L.length cap) p bs each c L B) (j:Nat) (x:Bool):
 FxAt N (W.setCell ⟨g,j,none⟩ (.bool x)) fb (.slice (some ⟨g,0,none⟩) L.length cap) p bs each c (L.set j x) B∧Kept (fun z=>z=g) W (W.setCell ⟨g,j,none⟩ (.bool x)):=by
 have k:=kept_set (F:=fun z=>z=g) W g j (.bool x) rfl
 refine ⟨⟨h.bk.kept k (fun e=>h.n0 (by rw[e];rfl)),?_,h.lk.kept k (fun z hz e=>h.n2 g rfl (e▸hz)),h.x,h.n0,h.n1,h.n2,h.ge⟩,k⟩
 have:=(h.row.stored j (.bool x)).1
 rw[List.length_set,List.map_set]
 exact this
theorem FxAt.setCount (h:FxAt N W fb v p bs each c L B) (c':Int):FxAt N (W.setCell ⟨fb,2,none⟩ (.int .i64 c')) fb v p bs each c' L B∧Kept (fun z=>z=fb) W (W.setCell ⟨fb,2,none⟩ (.int .i64 c')):=by
 have k:=kept_set (F:=fun z=>z=fb) W fb 2 (.int .i64 c') rfl
 exact ⟨⟨h.bk.set 2 _,owns_kept h.row k (fun g hg e=>h.n0 (e▸hg)),h.lk.kept k (fun z hz e=>h.n1 (e▸hz)),h.x,h.n0,h.n1,h.n2,h.ge⟩,k⟩
theorem FxAt.push (h:FxAt N W fb v p bs each c L B) (hN:N≤W.heap.size) (hk:L.length<100000) (q:Bool) (ty:TypeId):
 ∃g cap Y,(Builtin.append_ #[23,23] ty #[v, .slice (some ⟨W.heap.size,0,none⟩) 1 1]).run Tryz.prog (W.alloc (.cells #[.bool q] 4))= .ok (.slice (some ⟨g,0,none⟩) (L.length+1) cap) Y∧Bk Y fb 184 #[.int .i64 each,v, .int .i64 c,p]∧
  FxAt N (Y.setCell ⟨fb,1,none⟩ (.slice (some ⟨g,0,none⟩) (L.length+1) cap)) fb (.slice (some ⟨g,0,none⟩) (L.length+1) cap) p bs each c (L++ [q]) B∧Kept (ownF fb v bs) W (Y.setCell ⟨fb,1,none⟩ (.slice (some ⟨g,0,none⟩) (L.length+1) cap))∧∀z,ownF fb (.slice (some ⟨g,0,none⟩) (L.length+1) cap) bs z→ownF fb v bs z∨W.heap.size≤z:=by
 have b2:=below_alloc W (.cells #[.bool q] 4)
 have h2:=h.below b2
 have n2:=World.alloc_heap_new W (.cells #[.bool q] 4)
 have xl:=h.bk.lt
 obtain ⟨g,cap,Y,r1,r2,r3,r4,r5⟩:=bools_more h2.row hk W.heap.size q n2 (by rw[World.size_alloc];omega) ty
 rw[World.size_alloc] at r4
 have gx:g≠fb:=by
  rcases r4 with z|z
  ·exact fun e=>h.n0 (e▸z)
  ·omega
 have gb:g ∉ bs:=fun e=>by
  rcases r4 with z|z
  ·exact h.n2 g z e
  ·have:=h.lk.lt g e;omega
 have kz:=kept_set (F:=fun z=>z=fb) Y fb 1 (.slice (some ⟨g,0,none⟩) (L.length+1) cap) rfl
 have bkY:=h2.bk.kept r3 h.n0
 refine ⟨g,cap,Y,r1,bkY,⟨bkY.set 1 _,by rw[List.length_append,List.length_singleton];exact owns_kept r2 kz (fun z hz=>by rw[←own_eq hz];exact gx),(h2.lk.kept r3 (fun z hz u=>h.n2 z u hz)).kept kz (fun z hz e=>h.n1 (e▸hz)),h.x,(fun z=>gx (own_eq z)),h.n1,(fun z hz=>by rw[←own_eq hz];exact gb),h.ge⟩,?_,fun z hz=> ?_⟩
 ·refine ((Kept.of_below b2).trans (r3.mono (G:=ownF fb v bs) fun z hz=> ?_) (fun _ _ f=>f)).trans (kz.mono (G:=ownF fb v bs) fun z hz=> .inl hz) (fun _ _ f=>f)
  exact .inr (.inl hz)
 ·rcases hz with hz|hz|hz
  ·exact .inl (.inl hz)
  ·rcases r4 with r|r
   ·exact .inl (.inr (.inl (own_eq hz▸r)))
   ·exact .inr (by rw[←own_eq hz];omega)
  ·exact .inl (.inr (.inr hz))
def FxTo (N:Nat) (W W':World) (fb:Nat) (v:Value) (bs:List Nat) (each c:Int) (L:List Bool) (B:List Nat):Prop:=
 ∃v' p' bs',FxAt N W' fb v' p' bs' each c L B∧Kept (ownF fb v bs) W W'∧∀z,ownF fb v' bs' z→ownF fb v bs z∨W.heap.size≤z
set_option maxRecDepth 100000 in
theorem take_new (h:FxAt N W fb v p bs each c L []) (hN:N≤W.heap.size) (hk:L.length<100000) (hc0:0≤c) (hc:c≤100000):
 Calls Tryz.prog 122 #[.pointer (some ⟨fb,0,none⟩)] W fun e W'=>e= .returned (.int .i64 ((L.length:Int)+1))∧FxTo N W W' fb v bs each (c+1) (L++ [true]) []:=by
 have y1:=h.bk.cell 1 _ rfl
 have CP:=hide (pop_none h)
 obtain ⟨g,cap,Y,r1,r2,r3,r4,r5⟩:=h.push hN hk false 23
 obtain ⟨m,hm⟩:∃m:Nat,L.length=m:=⟨_,rfl⟩
 rw[hm] at r1 r3 r4 r5 hk ⊢
 have RUN:=hide r1
 have z1:=r2.cell 1 _ rfl
 have z2:=r2.fz 1
 have i0:m<(L++ [false]).length:=by simp[hm]
 obtain ⟨g',cap',e',q1,q2⟩:=r3.cellAt i0 (x:=false) (by rw[List.getElem?_append_right (by omega),hm];simp)
 obtain ⟨rfl,-,rfl⟩:g=g'∧True∧cap=cap':=by simp at e';exact ⟨e'.1,trivial,e'.2.2⟩
 clear e'
 have eL:(L++ [false]).length=m+1:=by simp[hm]
 rw[←eL] at r3
 obtain ⟨s1,k1⟩:=r3.setOut m true
 have x2:=s1.bk.cell 2 _ rfl
 have x3:=s1.bk.fz 2
 obtain ⟨s2,k2⟩:=s1.setCount (c+1)
 rw[show (L++ [false]).set m true=L++ [true] from by rw[List.set_append_right _ _ (by omega),hm];simp] at s2
 rw[eL] at s2 x2 x3 k1 k2
 have KK:=hide ((r4.trans (k1.mono (G:=fun z=>ownF fb v bs z∨W.heap.size≤z) fun z hz=> ?_) (fun z hz u=>u.resolve_right (by omega))).trans (k2.mono (G:=fun z=>ownF fb v bs z∨W.heap.size≤z) fun z hz=> .inl (.inl hz)) (fun z hz u=>u.resolve_right (by omega)))
 rotate_left
 ·exact r5 z (.inr (.inl (by rw[hz];rfl)))
 have S2:=hide (And.intro s2 r5)
 have w0:IntKind.i64.wrap ((m:Int)+1 - 1)=(m:Int):=by rw[IntKind.wrap_i64];omega
 have w1:IntKind.i64.wrap (c+1)=c+1:=by rw[IntKind.wrap_i64];omega
 have e1:((m:Int)+1 - 1).toNat=m:=by omega
 clear h r1 r2 r3 r4 r5 s1 s2 k1 k2 eL i0
 go_enter Tryz.func122,Tryz.ntmps122
 go_wp2_with fail
 refine CP.out.mono ?_
 rintro e W1 ⟨rfl,hw⟩
 rw[hw]
 clear hw CP W1
 go_wp2_with (at_builtin;refine list_append_run (by rfl) (.tmp 12) (.tmp 13) 23 (by rfl) (by rfl) (by rfl) RUN.out ?_)
 go_ret
 exact ⟨rfl,_,_,_,S2.out.1,KK.out,S2.out.2⟩
set_option maxRecDepth 100000 in
theorem take_old {i:Nat} (h:FxAt N W fb v p bs each c L (i::B)) (h1:1≤i) (h2:i≤L.length) (hk:L.length≤100000) (hc0:0≤c) (hc:c≤100000):
 Calls Tryz.prog 122 #[.pointer (some ⟨fb,0,none⟩)] W fun e W'=>e= .returned (.int .i64 (i:Nat))∧FxTo N W W' fb v bs each (c+1) (L.set (i - 1) true) B:=by
 have H:=hide h
 have CP:=hide (pop_some h)
 obtain ⟨m,hm⟩:∃m:Nat,L.length=m:=⟨_,rfl⟩
 have d0:((i:Int)==0)=false:=by simp;omega
 have w0:IntKind.i64.wrap ((i:Int) - 1)=(i:Int) - 1:=by rw[IntKind.wrap_i64];omega
 have w1:IntKind.i64.wrap (c+1)=c+1:=by rw[IntKind.wrap_i64];omega
 have e1:((i:Int) - 1).toNat=i - 1:=by omega
 have l0:0≤(i:Int) - 1:=by omega
 have l1:(i:Int) - 1<(m:Int):=by omega
 have l2:i - 1<m:=by omega
 clear h
 go_enter Tryz.func122,Tryz.ntmps122
 go_wp2_with fail
 refine CP.out.mono ?_
 rintro e W1 ⟨rfl,⟨p',bs',h',hb'⟩,k'⟩
 obtain ⟨g,cap,e',q1,q2⟩:=h'.cellAt (j:=i - 1) (by omega) (List.getElem?_eq_getElem (by omega))
 generalize L[i - 1]'(by omega)=X at q1
 subst e'
 have y1:=h'.bk.cell 1 _ rfl
 rw[hm] at y1
 obtain ⟨s1,k1⟩:=h'.setOut (i - 1) true
 have x2:=s1.bk.cell 2 _ rfl
 have x3:=s1.bk.fz 2
 obtain ⟨s2,k2⟩:=s1.setCount (c+1)
 rw[hm] at x2
 have KK:=hide (show Kept (ownF fb (.slice (some ⟨g,0,none⟩) L.length cap) bs) W _ from ((k'.mono (G:=ownF fb (.slice (some ⟨g,0,none⟩) L.length cap) bs) fun z hz=> .inl hz).trans (k1.mono (G:=ownF fb (.slice (some ⟨g,0,none⟩) L.length cap) bs) fun z hz=> .inr (.inl (by rw[hz];rfl))) (fun _ _ f=>f)).trans (k2.mono (G:=ownF fb (.slice (some ⟨g,0,none⟩) L.length cap) bs) fun z hz=> .inl hz) (fun _ _ f=>f))
 have S2:=hide s2
 have HB:=hide hb'
 clear h' k' k1 k2 s1 s2 hb' CP H
 go_wp2_with fail
 go_ret
 refine ⟨rfl,_,_,_,S2.out,KK.out,fun z hz=> .inl ?_⟩
 rcases hz with hz|hz|hz
 ·exact .inl hz
 ·exact .inr (.inl hz)
 ·exact .inr (.inr (HB.out z hz))
theorem lv_le {L:List Bool} {i:Int} (h:lv L i=true):1≤i∧i≤L.length:=by
 refine ⟨?_,?_⟩
 ·by_cases c:i<1
  ·rw[lv_out (.inl c)] at h;cases h
  ·omega
 ·by_cases c:(L.length:Int)<i
  ·rw[lv_out (.inr c)] at h;cases h
  ·omega
end
end Go.Proofs.YtdgdhnnakcncoaaGreatDoor.F
namespace Go.Proofs.YtdgdhnnakcncoaaGreatDoor.F
set_option maxHeartbeats 1600000
open Go.ChangeShapes Go.WideShapes Go.ChangeAt Go.RowKit Go.Shelf Go.Proofs.Rx Go.Maps
set_option linter.unusedVariables false
set_option linter.unusedSimpArgs false
structure Ok (L:List Bool) (B:List Nat):Prop where
 nd:B.Nodup
 me:∀i,i∈B↔1≤i∧L[i - 1]? =some false
theorem Ok.nil:Ok [] []:=⟨List.nodup_nil,fun i=>by simp⟩
theorem Ok.bound {L:List Bool} {B:List Nat} (h:Ok L B) {i:Nat} (hi:i∈B):1≤i∧i≤L.length:=by
 obtain ⟨h1,h2⟩:=(h.me i).1 hi
 obtain ⟨h3,_⟩:=List.getElem?_eq_some_iff.1 h2
 omega
theorem Ok.le {L:List Bool} {B:List Nat} (h:Ok L B):B.length≤L.length:=by
 have:=nodup_len (L.length+1) (0::B) (List.nodup_cons.2 ⟨fun z=>by have:=(h.bound z).1;omega,h.nd⟩) (fun x hx=>by
  rcases List.mem_cons.1 hx with e|e
  ·omega
  ·have:=(h.bound e).2;omega)
 simp at this
 omega
theorem Ok.more {L:List Bool} (h:Ok L []):Ok (L++ [true]) []:=by
 refine ⟨List.nodup_nil,fun i=> ?_⟩
 have:=h.me i
 constructor
 ·intro z;cases z
 ·rintro ⟨h1,h2⟩
  refine this.2 ⟨h1,?_⟩
  by_cases c:i - 1<L.length
  ·rwa[List.getElem?_append_left c] at h2
  ·rw[List.getElem?_append_right (by omega)] at h2
   by_cases d:i - 1 - L.length=0
   ·rw[d] at h2;simp at h2
   ·rw[List.getElem?_eq_none (by simp;omega)] at h2;cases h2
theorem Ok.pop {L:List Bool} {B:List Nat} {i:Nat} (h:Ok L (i::B)):Ok (L.set (i - 1) true) B:=by
 obtain ⟨n1,n2⟩:=List.nodup_cons.1 h.nd
 obtain ⟨b1,b2⟩:=h.bound (i:=i) (by simp)
 refine ⟨n2,fun k=> ?_⟩
 have:=h.me k
 by_cases c:k=i
 ·subst c
  constructor
  ·intro z;exact absurd z n1
  ·rintro ⟨_,z⟩
   rw[List.getElem?_set_self (by omega)] at z
   simp at z
 ·constructor
  ·intro z
   obtain ⟨h1,h2⟩:=this.1 (List.mem_cons_of_mem _ z)
   exact ⟨h1,by rw[List.getElem?_set_ne (by omega)];exact h2⟩
  ·rintro ⟨h1,z⟩
   rw[List.getElem?_set_ne (by omega)] at z
   rcases List.mem_cons.1 (this.2 ⟨h1,z⟩) with e|e
   ·exact absurd e c
   ·exact e
theorem lv_get {L:List Bool} {i:Nat} (h:lv L i=true):L[i - 1]? =some true:=by
 obtain ⟨h1,h2⟩:=lv_le h
 rw[lv_in h1 h2 (i - 1) (by omega),h]
theorem Ok.push {L:List Bool} {B:List Nat} {i:Nat} (h:Ok L B) (hi:lv L i=true):Ok (L.set (i - 1) false) (i::B):=by
 have g:=lv_get hi
 obtain ⟨l1,l2⟩:=lv_le hi
 have ni:i ∉ B:=fun z=>by rw[((h.me i).1 z).2] at g;simp at g
 refine ⟨List.nodup_cons.2 ⟨ni,h.nd⟩,fun k=> ?_⟩
 by_cases c:k=i
 ·subst c
  constructor
  ·intro _;exact ⟨by omega,by rw[List.getElem?_set_self (by omega)]⟩
  ·intro _;simp
 ·constructor
  ·intro z
   rcases List.mem_cons.1 z with e|e
   ·exact absurd e c
   ·obtain ⟨h1,h2⟩:=(h.me k).1 e
    exact ⟨h1,by rw[List.getElem?_set_ne (by omega)];exact h2⟩
  ·rintro ⟨h1,z⟩
   rw[List.getElem?_set_ne (by omega)] at z
   exact List.mem_cons_of_mem _ ((h.me k).2 ⟨h1,z⟩)
def takeI (L:List Bool):List Nat→Int
 | []=>(L.length:Int)+1
 |i::_=>(i:Nat)
def takeL (L:List Bool):List Nat→List Bool
 | []=>L++ [true]
 |i::_=>L.set (i - 1) true
theorem Ok.take {L:List Bool} {B:List Nat} (h:Ok L B):Ok (takeL L B) B.tail:=by
 cases B with
 |nil=>exact h.more
 |cons i B=>exact h.pop
theorem takeL_len (L:List Bool) (B:List Nat):(takeL L B).length≤L.length+1:=by cases B<;>simp[takeL]
def To (W W':World) (F F':Nat→Prop):Prop:=Kept F W W'∧∀z,F' z→F z∨W.heap.size≤z
structure Fx (N:Nat) (W:World) (fb:Nat) (F:Nat→Prop) (each:Int) (L:List Bool) (B:List Nat):Prop where
 ex:∃v p bs,FxAt N W fb v p bs each ((L.length:Int) - B.length) L B∧∀z,F z↔ownF fb v bs z
 ok:Ok L B
 e0:1≤each
 e1:each≤16384
section
variable {N:Nat} {W W':World} {fb:Nat} {F:Nat→Prop} {each:Int} {L:List Bool} {B:List Nat}
theorem Fx.lt (h:Fx N W fb F each L B) {z:Nat} (hz:F z):N≤z∧z<W.heap.size:=by
 obtain ⟨v,p,bs,a,hF⟩:=h.ex
 exact a.own ((hF z).1 hz)
theorem Fx.kept {G:Nat→Prop} (h:Fx N W fb F each L B) (k:Kept G W W') (hG:∀z,F z→¬G z):Fx N W' fb F each L B:=by
 obtain ⟨v,p,bs,a,hF⟩:=h.ex
 exact ⟨⟨v,p,bs,a.kept k (fun z hz=>hG z ((hF z).2 hz)),hF⟩,h.ok,h.e0,h.e1⟩
theorem Fx.below (h:Fx N W fb F each L B) (k:Below W.heap.size W W'):Fx N W' fb F each L B:=h.kept (Kept.of_below (F:=fun _=>False) k) (fun _ _ f=>f)
theorem Fx.to {v:Value} {bs:List Nat} {c:Int} {L':List Bool} {B':List Nat} (hF:∀z,F z↔ownF fb v bs z) (t:FxTo N W W' fb v bs each c L' B') (ok:Ok L' B') (hc:c=(L'.length:Int) - B'.length) (e0:1≤each) (e1:each≤16384):
 ∃F',Fx N W' fb F' each L' B'∧To W W' F F':=by
 obtain ⟨v',p',bs',a,k,n⟩:=t
 rw[hc] at a
 refine ⟨ownF fb v' bs',⟨⟨v',p',bs',a,fun _=>Iff.rfl⟩,ok,e0,e1⟩,k.mono (fun z hz=>(hF z).2 hz),fun z hz=> ?_⟩
 rcases n z hz with u|u
 ·exact .inl ((hF z).2 u)
 ·exact .inr u
theorem fx_take (h:Fx N W fb F each L B) (hN:N≤W.heap.size) (hL:L.length<100000):
 Calls Tryz.prog 122 #[.pointer (some ⟨fb,0,none⟩)] W fun e W'=>e= .returned (.int .i64 (takeI L B))∧∃F',Fx N W' fb F' each (takeL L B) B.tail∧To W W' F F':=by
 obtain ⟨v,p,bs,a,hF⟩:=h.ex
 have le:=h.ok.le
 have ok:=h.ok
 cases B with
 |nil=>
  refine (take_new a hN hL (by omega) (by omega)).mono ?_
  rintro e W' ⟨rfl,t⟩
  exact ⟨rfl,Fx.to hF t ok.take (by simp[takeL]) h.e0 h.e1⟩
 |cons i B=>
  obtain ⟨b1,b2⟩:=ok.bound (i:=i) (by simp)
  refine (take_old a b1 b2 (by omega) (by omega) (by omega)).mono ?_
  rintro e W' ⟨rfl,t⟩
  exact ⟨rfl,Fx.to hF t ok.take (by simp[takeL];omega) h.e0 h.e1⟩
theorem fx_new (hN:N≤W.heap.size) (s:Int) (h1:1≤s) (h2:s≤16384):
 Calls Tryz.prog 44 #[.int .i64 s] W fun e W'=>∃fb,e= .returned (.tuple #[.pointer (some ⟨fb,0,none⟩), .int .i64 0])∧Below W.heap.size W W'∧∃F,Fx N W' fb F (16384/s) [] []∧∀z,F z→W.heap.size≤z:=by
 refine (new_ok s h1 h2 W).mono ?_
 rintro e W' ⟨rfl,rfl⟩
 refine ⟨W.heap.size,rfl,below_alloc _ _,ownF W.heap.size (.slice none 0 0) [],⟨⟨_,_,_,FxAt.new hN _,fun _=>Iff.rfl⟩,Ok.nil,?_,Int.ediv_le_self _ (by omega)⟩,fun z hz=> ?_⟩
 ·exact (Int.le_ediv_iff_mul_le (by omega)).2 (by omega)
 ·rcases hz with hz|hz|hz
  ·omega
  ·simp[Value.ownBlock] at hz
  ·cases hz
end
end Go.Proofs.YtdgdhnnakcncoaaGreatDoor.F
