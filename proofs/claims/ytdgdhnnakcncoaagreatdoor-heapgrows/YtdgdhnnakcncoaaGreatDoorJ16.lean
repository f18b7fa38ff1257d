/- Of the proof of HeapClasses: texts RMd. -/
import Derived.Test.YtdgdhnnakcncoaaGreatDoorJ01
import Derived.Test.YtdgdhnnakcncoaaGreatDoorRows
import Derived.WalkKit
import Derived.ProofKit
import Derived.OpenShut
import Derived.WalkLawsBesides
import Derived.Deep.Draws
import Derived.Deep.QuietTactic
import Derived.Deep.AppendLies
import Derived.Deep.RegionHeld3
import Derived.Deep.RegionLaw
import Derived.Laws.AppendOwnNone
import Derived.Laws.OwnMore
import Derived.StillTailTactics
import Derived.BigQuiet
import Derived.Outline
import Derived.Maps.AppendAt
import Derived.Carry
import Derived.ChangeSlices
import Derived.Deep.Slices
import Derived.Deep.Strs
namespace Go.Proofs.YtdgdhnnakcncoaaGreatDoor.Mg
set_option maxHeartbeats 1600000
open Go.ChangeShapes Go.WideShapes Go.ChangeAt Go.RowKit Go.Proofs.Pk Go.Maps
set_option linter.unusedVariables false
set_option linter.unusedSimpArgs false
theorem hide {p:Prop} (h:p):Hid p:=h
theorem addr_add0 (b o j:Nat):(⟨b,o,none⟩:Addr).add j=⟨b,o+j,none⟩:=by simp[Addr.add]
def sumV (a:Sm):Value:= .agg #[.int .i64 a.s, .int .i64 a.m, .int .i64 a.e]
def SumsAt (w:World) (v:Value) (t:List Sm) (T:Nat→Prop):Prop:=
 ∃o cap,v= .slice o t.length cap∧t.length≤cap∧cap≤9223372036854775807∧(o=none→cap=0)∧(t≠ []→∃g off,o=some ⟨g,off,none⟩∧T g∧g<w.heap.size∧
  ∀i s,t[i]? =some s→w.cell? ⟨g,off+ i * 3,none⟩=some (.int .i64 s.s)∧w.cell? ⟨g,off+ i * 3+1,none⟩=some (.int .i64 s.m)∧w.cell? ⟨g,off+ i * 3+2,none⟩=some (.int .i64 s.e))
theorem SumsAt.kept {w w':World} {v:Value} {t:List Sm} {T:Nat→Prop} (h:SumsAt w v t T) (hs:w.heap.size≤w'.heap.size) (hk:∀x,T x→x<w.heap.size→w'.heap[x]? =w.heap[x]?):SumsAt w' v t T:=by
 obtain ⟨o,cap,h1,h2,hm,h3,h4⟩:=h
 refine ⟨o,cap,h1,h2,hm,h3,fun z=> ?_⟩
 obtain ⟨g,off,e,hT,hl,hc⟩:=h4 z
 have:=hk g hT hl
 exact ⟨g,off,e,hT,by omega,fun i s hi=>by
  obtain ⟨a,b,c⟩:=hc i s hi
  exact ⟨(World.cell?_of_block this).trans a,(World.cell?_of_block this).trans b,(World.cell?_of_block this).trans c⟩⟩
theorem SumsAt.below {w w':World} {v:Value} {t:List Sm} {T:Nat→Prop} (h:SumsAt w v t T) (hb:Below w.heap.size w w'):SumsAt w' v t T:=h.kept hb.size (fun x _ hx=>hb.block x hx)
theorem SumsAt.mono {w:World} {v:Value} {t:List Sm} {T T':Nat→Prop} (h:SumsAt w v t T) (hT:∀x,T x→T' x):SumsAt w v t T':=by
 obtain ⟨o,cap,h1,h2,hm,h3,h4⟩:=h
 refine ⟨o,cap,h1,h2,hm,h3,fun z=> ?_⟩
 obtain ⟨g,off,e,h,k⟩:=h4 z
 exact ⟨g,off,e,hT g h,k⟩
theorem SumsAt.shape {w:World} {v:Value} {t:List Sm} {T:Nat→Prop} (h:SumsAt w v t T):∃o cap,v= .slice o t.length cap∧t.length≤cap∧cap≤9223372036854775807:=by
 obtain ⟨o,cap,e,h2,h3,_⟩:=h
 exact ⟨o,cap,e,h2,h3⟩
theorem SumsAt.at {w w':World} {o:Option Addr} {len cap:Nat} {t:List Sm} {T:Nat→Prop} (h:SumsAt w (.slice o len cap) t T) (hb:Below w.heap.size w w') {i:Nat} (hi:i<len):∃g off s,o=some ⟨g,off,none⟩∧t[i]? =some s∧g<w'.heap.size∧w'.cell? ⟨g,off+ i * 3,none⟩=some (.int .i64 s.s)∧w'.cell? ⟨g,off+ i * 3+1,none⟩=some (.int .i64 s.m)∧w'.cell? ⟨g,off+ i * 3+2,none⟩=some (.int .i64 s.e):=by
 obtain ⟨o',cap',e,h2,h3,h4,h5⟩:=h
 injection e with e1 e2 e3
 subst e1 e2 e3
 obtain ⟨g,off,rfl,hT,hg,hc⟩:=h5 (fun z=>by rw[z] at hi;simp at hi)
 have hx:=List.getElem?_eq_getElem hi
 obtain ⟨a,b,c⟩:=hc i _ hx
 exact ⟨g,off,_,rfl,hx,Nat.lt_of_lt_of_le hg hb.size,(hb.cell (p:=⟨g,off+ i * 3,none⟩) hg).trans a,(hb.cell (p:=⟨g,off+ i * 3+1,none⟩) hg).trans b,(hb.cell (p:=⟨g,off+ i * 3+2,none⟩) hg).trans c⟩
def nth (t:List Sm) (i:Nat):Sm:=(t[i]?).getD ⟨0,0,0⟩
theorem nth_at {t:List Sm} {i:Nat} {s:Sm} (h:t[i]? =some s):nth t i=s:=by unfold nth;rw[h];rfl
def flat (t:List Sm):List Value:=t.flatMap fun s=>[.int .i64 s.s, .int .i64 s.m, .int .i64 s.e]
theorem flat_len (t:List Sm):(flat t).length=t.length * 3:=by
 induction t with
 |nil=>rfl
 |cons s r ih=>simp only[flat,List.flatMap_cons,List.length_append,List.length_cons,List.length_nil] at ih ⊢;omega
theorem flat_at:∀(t:List Sm) (i:Nat) (s:Sm),t[i]? =some s→(flat t)[i * 3]? =some (.int .i64 s.s)∧(flat t)[i * 3+1]? =some (.int .i64 s.m)∧(flat t)[i * 3+2]? =some (.int .i64 s.e)
 | [],i,s,h=>by simp at h
 |s0::r,0,s,h=>by simp at h;subst h;simp[flat]
 |s0::r,i+1,s,h=>by
  obtain ⟨a,b,c⟩:=flat_at r i s (by simpa using h)
  rw[show (i+1) * 3=i * 3+3 by omega]
  exact ⟨by simpa [flat] using a,by simpa [flat] using b,by simpa [flat] using c⟩
theorem flat_app (t u:List Sm):flat (t++u)=flat t++flat u:=by unfold flat;rw[List.flatMap_append]
theorem info_parts {t:TypeId} {z:Option Value} {s b:Nat} (h:(Tryz.prog.info? t).map (fun i=>(i.zero,i.size,i.bytes))=some (z,s,b)):∃i,Tryz.prog.info? t=some i∧i.zero=z∧i.size=s∧i.bytes=b:=by
 cases h':Tryz.prog.info? t with
 |none=>rw[h'] at h;cases h
 |some i=>rw[h'] at h;simp at h;exact ⟨i,rfl,h.1,h.2.1,h.2.2⟩
theorem sums_of_owns {w:World} {base n:Nat} {v:Value} {t:List Sm} (h:w.ownsRow base 218 3 v n (flat t)):SumsAt w v t (fun x=>base≤x)∧∃o c,v= .slice o t.length c:=by
 have hl:=h.1
 rw[flat_len] at hl
 have hn:t.length=n:=by omega
 have H:=h
 obtain ⟨_,⟨rfl,rfl⟩|⟨g,cap,cur,rfl,hb,hh,hnc,hcm,hcs,ht⟩⟩:=h
 ·obtain rfl:=List.eq_nil_of_length_eq_zero hn
  exact ⟨⟨none,0,rfl,Nat.le_refl _,by omega,fun _=>rfl,fun z=>absurd rfl z⟩,none,0,rfl⟩
 ·have hg:=(H.lt g rfl)
  refine ⟨⟨_,cap,by rw[hn],by omega,by unfold maxLen at hcm;omega,fun z=>by (cases z),fun _=>⟨g,0,rfl,hg.1,hg.2,fun i s hi=> ?_⟩⟩,_,cap,by rw[hn]⟩
  obtain ⟨a,b,c⟩:=flat_at t i s hi
  have hc:=H.cells (g:=g) rfl
  have ha:=hc _ _ a
  have hb:=hc _ _ b
  have hc':=hc _ _ c
  rw[addr_add0] at ha hb hc'
  rw[Nat.add_assoc,Nat.add_assoc]
  exact ⟨ha,hb,hc'⟩
end Go.Proofs.YtdgdhnnakcncoaaGreatDoor.Mg
namespace Go.Proofs.YtdgdhnnakcncoaaGreatDoor.Mg
open Go.ChangeShapes Go.WideShapes Go.ChangeAt Go.RowKit Go.Proofs.Pk Go.Maps
set_option linter.unusedVariables false
set_option linter.unusedSimpArgs false
theorem alloc1 (w:World) (o:Obj):Below w.heap.size w (w.alloc o):=(Below.refl _ w).alloc (Nat.le_refl _) _
theorem cells_of {w:World} {b:Nat} {cs:Array Value} {t:TypeId} {z:Nat×Nat} (h:w.heap[b]? =some (.cells cs t z)) (i:Nat):w.cell? ⟨b,i,none⟩=cs[i]? :=by
 unfold World.cell?;rw[h];rfl
theorem box_cells {w w':World} {s m e:Int} (hb:Below (w.alloc (.cells #[.int .i64 s, .int .i64 m, .int .i64 e] 218)).heap.size (w.alloc (.cells #[.int .i64 s, .int .i64 m, .int .i64 e] 218)) w'):
 Below w.heap.size w w'∧w'.cell? ⟨w.heap.size,0,none⟩=some (.int .i64 s)∧w'.cell? ⟨w.heap.size,1,none⟩=some (.int .i64 m)∧w'.cell? ⟨w.heap.size,2,none⟩=some (.int .i64 e):=by
 have hn:=heap_alloc_new w (.cells #[.int .i64 s, .int .i64 m, .int .i64 e] 218)
 have hl:w.heap.size<(w.alloc (.cells #[.int .i64 s, .int .i64 m, .int .i64 e] 218)).heap.size:=by simp
 refine ⟨(alloc1 _ _).trans (hb.mono (by simp)),?_,?_,?_⟩
 ·exact (hb.cell (p:=⟨w.heap.size,0,none⟩) hl).trans (cells_of hn 0)
 ·exact (hb.cell (p:=⟨w.heap.size,1,none⟩) hl).trans (cells_of hn 1)
 ·exact (hb.cell (p:=⟨w.heap.size,2,none⟩) hl).trans (cells_of hn 2)
theorem bounded_yes (a:Sm) (p:Int) (h:Bnd a p) (w:World):Calls Tryz.prog 320 #[sumV a, .int .i64 p] w fun e w'=>e= .returned (.bool true)∧Below w.heap.size w w':=by
 obtain ⟨s,m,e⟩:=a
 obtain ⟨h1,h2,h3,h4,h5,h6⟩:=h
 dsimp only at h1 h2 h3 h4 h5 h6
 unfold sumV
 have d1:decide (s<0)=false:=decide_eq_false (by omega)
 have d2:decide (e<0)=false:=decide_eq_false (by omega)
 have d3:decide (m<s)=false:=decide_eq_false (by omega)
 have d4:decide (m<e)=false:=decide_eq_false (by omega)
 have d5:decide (p<m)=false:=decide_eq_false (by omega)
 by_cases c:m<p
 ·have d6:decide (m<p)=true:=decide_eq_true c
  clear h1 h2 h3 h4 h5 h6 c
  go_enter Tryz.func320,Tryz.ntmps320
  go_wp2_with fail
  go_ret
  exact ⟨rfl,alloc1 _ _⟩
 ·have d6:decide (m<p)=false:=decide_eq_false c
  have d7:(s==p)=true:=beq_iff_eq.2 (by omega)
  have d8:(e==p)=true:=beq_iff_eq.2 (by omega)
  clear h1 h2 h3 h4 h5 h6 c
  go_enter Tryz.func320,Tryz.ntmps320
  go_wp2_with fail
  go_ret
  exact ⟨rfl,alloc1 _ _⟩
theorem bounded_no (a:Sm) (p:Int) (h:¬Bnd a p) (w:World):Calls Tryz.prog 320 #[sumV a, .int .i64 p] w fun e w'=>e= .returned (.bool false)∧Below w.heap.size w w':=by
 obtain ⟨s,m,e⟩:=a
 unfold Bnd at h
 dsimp only at h
 unfold sumV
 have q:decide (s<0)=true∨decide (s<0)=false∧(decide (e<0)=true∨decide (e<0)=false∧(decide (m<s)=true∨decide (m<s)=false∧(decide (m<e)=true∨decide (m<e)=false∧(decide (p<m)=true∨decide (p<m)=false∧decide (m<p)=false∧((s==p)=false∨(s==p)=true∧(e==p)=false))))):=by
  simp only[decide_eq_true_eq,decide_eq_false_iff_not,beq_eq_false_iff_ne,beq_iff_eq,ne_eq]
  omega
 clear h
 rcases q with d1|⟨d1,d2|⟨d2,d3|⟨d3,d4|⟨d4,d5|⟨d5,d6,d7|⟨d7,d8⟩⟩⟩⟩⟩⟩
 all_goals
  go_enter Tryz.func320,Tryz.ntmps320
  go_wp2_with fail
  go_ret
  exact ⟨rfl,alloc1 _ _⟩
theorem right_yes (a:Sm) (p:Int) (h:Rgt a p) (h2:p≤2097152) (w:World):Calls Tryz.prog 317 #[sumV a, .int .i64 p] w fun e w'=>e= .returned (.bool true)∧Below w.heap.size w w':=by
 have B:=hide h.1
 have hb:=h.1
 have hr:=h.2
 clear h
 obtain ⟨s,m,e⟩:=a
 obtain ⟨h1,h2,h3,h4,h5,h6⟩:=hb
 dsimp only at h1 h2 h3 h4 h5 h6 hr
 have b1:0≤s+e:=by omega
 have b2:s+e≤4194304:=by omega
 have CB:=fun w=>hide (bounded_yes ⟨s,m,e⟩ p B.out w)
 unfold sumV at CB ⊢
 dsimp only at CB ⊢
 by_cases c:m=p
 ·have d:(m==p)=true:=beq_iff_eq.2 c
  clear h1 h2 h3 h4 h5 h6 hr B c
  go_enter Tryz.func317,Tryz.ntmps317
  go_wp2_with fail
  refine (CB _).out.mono ?_
  rintro e w' ⟨rfl,hb⟩
  obtain ⟨B,x0,x1,x2⟩:=box_cells hb
  have HB:=hide B
  clear hb B CB
  go_wp2_with fail
  go_ret
  exact ⟨rfl,HB.out⟩
 ·have d:(m==p)=false:=beq_eq_false_iff_ne.2 c
  have d2:decide (s+e<p)=true:=decide_eq_true (by omega)
  clear h6 hr B c h5
  go_enter Tryz.func317,Tryz.ntmps317
  go_wp2_with fail
  refine (CB _).out.mono ?_
  rintro e w' ⟨rfl,hb⟩
  obtain ⟨B,x0,x1,x2⟩:=box_cells hb
  have HB:=hide B
  clear hb B CB
  go_wp2_with fail
  go_ret
  exact ⟨rfl,HB.out⟩
theorem right_no (a:Sm) (p:Int) (h:¬Rgt a p) (h2:p≤2097152) (w:World):Calls Tryz.prog 317 #[sumV a, .int .i64 p] w fun e w'=>e= .returned (.bool false)∧Below w.heap.size w w':=by
 have H:=hide h
 clear h
 by_cases hb:Bnd a p
 ·obtain ⟨s,m,e⟩:=a
  have B:=hide hb
  have hr:¬(m=p∨s+e<p):=fun z=>H.out ⟨hb,z⟩
  obtain ⟨h1,h2,h3,h4,h5,h6⟩:=hb
  dsimp only at h1 h2 h3 h4 h5 h6 hr
  have b1:0≤s+e:=by omega
  have b2:s+e≤4194304:=by omega
  have CB:=fun w=>hide (bounded_yes ⟨s,m,e⟩ p B.out w)
  unfold sumV at CB ⊢
  dsimp only at CB ⊢
  have d:(m==p)=false:=beq_eq_false_iff_ne.2 (by omega)
  have d2:decide (s+e<p)=false:=decide_eq_false (by omega)
  clear h6 hr B h5 H
  go_enter Tryz.func317,Tryz.ntmps317
  go_wp2_with fail
  refine (CB _).out.mono ?_
  rintro e w' ⟨rfl,hb⟩
  obtain ⟨B,x0,x1,x2⟩:=box_cells hb
  have HB:=hide B
  clear hb B CB
  go_wp2_with fail
  go_ret
  exact ⟨rfl,HB.out⟩
 ·have CB:=fun w=>hide (bounded_no a p hb w)
  obtain ⟨s,m,e⟩:=a
  unfold sumV at CB ⊢
  dsimp only at CB ⊢
  clear hb H h2
  go_enter Tryz.func317,Tryz.ntmps317
  go_wp2_with fail
  refine (CB _).out.mono ?_
  rintro e w' ⟨rfl,hb⟩
  obtain ⟨B,x0,x1,x2⟩:=box_cells hb
  have HB:=hide B
  clear hb B CB
  go_wp2_with fail
  go_ret
  exact ⟨rfl,HB.out⟩
theorem end_any (E:Int) (a:Sm) (p:Int) (h1:0≤E) (h2:E≤1000000000) (h3:1≤p) (h4:p≤2097152) (w:World):Calls Tryz.prog 312 #[.int .i64 E,sumV a, .int .i64 p] w fun e w'=>e= .returned (.int .i64 (if a.e=p then E+p else a.e))∧Below w.heap.size w w':=by
 obtain ⟨s,m,e⟩:=a
 unfold sumV
 dsimp only
 by_cases c:e=p
 ·have d:(e==p)=true:=beq_iff_eq.2 c
  rw[if_pos c]
  clear c
  go_enter Tryz.func312,Tryz.ntmps312
  go_wp2_with fail
  go_ret
  exact ⟨rfl,alloc1 _ _⟩
 ·have d:(e==p)=false:=beq_eq_false_iff_ne.2 c
  rw[if_neg c]
  clear c
  go_enter Tryz.func312,Tryz.ntmps312
  go_wp2_with fail
  go_ret
  exact ⟨rfl,alloc1 _ _⟩
end Go.Proofs.YtdgdhnnakcncoaaGreatDoor.Mg
namespace Go.Proofs.YtdgdhnnakcncoaaGreatDoor.Mg
open Go.ChangeShapes Go.WideShapes Go.ChangeAt Go.RowKit Go.Proofs.Pk Go.Maps
set_option linter.unusedVariables false
set_option linter.unusedSimpArgs false
structure RR (t:List Sm) (p:Int):Prop where
 p1:1≤p
 p2:p≤2097152
 len:t.length≤64
 all:∀j,j<t.length→Rgt (nth t j) p
def RowsP (t:List Sm) (p:Int) (w:World) (e:Ending) (w':World):Prop:=(RR t p→e= .returned (.bool true))∧(¬RR t p→e= .returned (.bool false))∧Below w.heap.size w w'
theorem RowsP.yes {t:List Sm} {p:Int} {w w':World} (h:RR t p) (hb:Below w.heap.size w w'):RowsP t p w (.returned (.bool true)) w':=⟨fun _=>rfl,fun z=>absurd h z,hb⟩
theorem RowsP.no {t:List Sm} {p:Int} {w w':World} (h:¬RR t p) (hb:Below w.heap.size w w'):RowsP t p w (.returned (.bool false)) w':=⟨fun z=>absurd z h,fun _=>rfl,hb⟩
set_option maxRecDepth 100000 in
theorem rows_core {w:World} {v:Value} {t:List Sm} {T:Nat→Prop} (h:SumsAt w v t T) (p:Int):Calls Tryz.prog 311 #[v, .int .i64 p] w (RowsP t p w):=by
 obtain ⟨o,cap,rfl,h1,h2⟩:=h.shape
 have H:=hide h
 obtain ⟨PO,hPO⟩:∃PO,PO=RowsP t p w:=⟨_,rfl⟩
 rw[←hPO]
 have HP:=hide hPO
 obtain ⟨n,hn⟩:∃n,t.length=n:=⟨_,rfl⟩
 have HN:=hide hn
 rw[hn] at H h1 ⊢
 clear h hPO hn
 have bad:¬(1≤p∧p≤2097152∧n≤64)→Hid (PO (.returned (.bool false)) w):=fun z=>hide (by rw[HP.out];exact RowsP.no (fun y=>z ⟨y.p1,y.p2,by rw[←HN.out];exact y.len⟩) (Below.refl _ _))
 have q:decide (p<1)=true∨decide (p<1)=false∧(decide (2097152<p)=true∨decide (2097152<p)=false∧(decide (64<(n:Int))=true∨decide (64<(n:Int))=false)):=by
  simp only[decide_eq_true_eq,decide_eq_false_iff_not]
  omega
 rcases q with d1|⟨d1,d2|⟨d2,d3|d3⟩⟩
 ·have FN:=bad (by simp only[decide_eq_true_eq] at d1;omega)
  clear bad H HP
  go_enter Tryz.func311,Tryz.ntmps311
  go_wp2_with fail
  first|exact FN.out|(go_ret;exact FN.out)
 ·have FN:=bad (by simp only[decide_eq_true_eq] at d2;omega)
  clear bad H HP
  go_enter Tryz.func311,Tryz.ntmps311
  go_wp2_with fail
  first|exact FN.out|(go_ret;exact FN.out)
 ·have FN:=bad (by simp only[decide_eq_true_eq] at d3;omega)
  clear bad H HP
  go_enter Tryz.func311,Tryz.ntmps311
  go_wp2_with fail
  first|exact FN.out|(go_ret;exact FN.out)
 ·have z1:1≤p:=by simp only[decide_eq_false_iff_not] at d1;omega
  have z2:p≤2097152:=by simp only[decide_eq_false_iff_not] at d2;omega
  have z3:n≤64:=by simp only[decide_eq_false_iff_not] at d3;omega
  clear bad
  go_enter Tryz.func311,Tryz.ntmps311
  go_wp2_with fail
  go_loopw [20] (fun iv wr=>∃(i:Nat),iv= .int .i64 (i:Int)∧i≤n∧Hid (∀j,j<i→Rgt (nth t j) p)∧Hid (Below w.heap.size w wr)) (fun iv _=>n -(intOf iv).toNat)
  case atStart=>exact ⟨0,rfl,Nat.zero_le _,hide (fun j hj=>by omega),hide (Below.refl _ _)⟩
  case round=>
   obtain ⟨i,rfl,hi,ha,hB⟩:=hrel
   by_cases hlt:i<n
   ·obtain ⟨g,off,x,rfl,hx,hg,c0,c1,c2⟩:=H.out.at hB.out hlt
    have i1:(i:Int)<(n:Int):=by omega
    have i2:(0:Int)≤(i:Int):=by omega
    have hxn:=nth_at hx
    clear hx
    by_cases e:Rgt x p
    ·have CB:=fun w=>hide (right_yes x p e z2 w)
     have ha':Hid (∀j,j<i+1→Rgt (nth t j) p):=hide (fun j hj=>by
      by_cases z:j=i
      ·subst z;rw[hxn];exact e
      ·exact ha.out j (by omega))
     clear hxn e ha
     obtain ⟨s,m,y⟩:=x
     unfold sumV at CB
     dsimp only at CB c0 c1 c2
     go_wp2_with fail
     refine (CB _).out.mono ?_
     rintro e w' ⟨rfl,hb⟩
     have HB:=hide (hB.out.trans ((box_cells hb).1.mono hB.out.size))
     clear hb CB
     go_wp2_with fail
     go_roundw
     case rel=>exact ⟨i+1,by go_num,by omega,ha',HB⟩
     case measure=>simp[intOf];omega
    ·have CB:=fun w=>hide (right_no x p e z2 w)
     have NR:Hid (¬RR t p):=hide (fun z=>e (by have:=z.all i (by rw[HN.out];exact hlt);rwa[hxn] at this))
     clear hxn e ha
     obtain ⟨s,m,y⟩:=x
     unfold sumV at CB
     dsimp only at CB c0 c1 c2
     go_wp2_with fail
     refine (CB _).out.mono ?_
     rintro e w' ⟨rfl,hb⟩
     have FN:Hid (PO (.returned (.bool false)) w'):=hide (by rw[HP.out];exact RowsP.no NR.out (hB.out.trans ((box_cells hb).1.mono hB.out.size)))
     clear hb CB
     go_wp2_with fail
     first|exact FN.out|(go_ret;exact FN.out)
   ·obtain rfl:i=n:=by omega
    have FN:Hid (PO (.returned (.bool true)) wr):=hide (by rw[HP.out];exact RowsP.yes ⟨z1,z2,by rw[HN.out];exact z3,fun j hj=>ha.out j (by rw[←HN.out];exact hj)⟩ hB.out)
    have d0:¬(i:Int)<(i:Int):=by omega
    clear ha HP
    go_wp2_with fail
    first|exact FN.out|(go_ret;exact FN.out)
end Go.Proofs.YtdgdhnnakcncoaaGreatDoor.Mg
namespace Go.Proofs.YtdgdhnnakcncoaaGreatDoor.Mg
open Go.ChangeShapes Go.WideShapes Go.ChangeAt Go.RowKit Go.Proofs.Pk Go.Maps
set_option linter.unusedVariables false
set_option linter.unusedSimpArgs false
theorem set_same {w:World} {b k:Nat} {v u:Value} (h:w.cell? ⟨b,k,none⟩=some v):(w.setCell ⟨b,k,none⟩ u).cell? ⟨b,k,none⟩=some u:=World.cell?_setCell_same _ _ _ h
theorem set_other {w:World} {b k j:Nat} {u:Value} (h:j≠k):(w.setCell ⟨b,k,none⟩ u).cell? ⟨b,j,none⟩=w.cell? ⟨b,j,none⟩:=World.cell?_setCell_other _ _ _ _ (by intro e;have:=congrArg Addr.off e;simp at this;omega)
theorem set_far {w:World} {b k x:Nat} {u:Value} (h:x≠b):(w.setCell ⟨b,k,none⟩ u).heap[x]? =w.heap[x]? :=Below.heap_setCell _ _ _ _ h
theorem fz_of_block {w w':World} {x k:Nat} (h:w'.heap[x]? =w.heap[x]?):w'.frozen? ⟨x,k,none⟩=w.frozen? ⟨x,k,none⟩:=by simp[World.frozen?,h]
structure Bx (N Q:Nat) (w W:World) (x y z:Int):Prop where
 be:Below N w W
 le:N≤Q
 lt:Q<W.heap.size
 c0:W.cell? ⟨Q,0,none⟩=some (.int .i64 x)
 c1:W.cell? ⟨Q,1,none⟩=some (.int .i64 y)
 c2:W.cell? ⟨Q,2,none⟩=some (.int .i64 z)
 fz:∀k,W.frozen? ⟨Q,k,none⟩=false
theorem Bx.of {N Q:Nat} {w W W':World} {x y z:Int} (h:Bx N Q w W x y z) (b:Below N w W') (k:W'.heap[Q]? =W.heap[Q]?):Bx N Q w W' x y z:=by
 have hl:Q<W'.heap.size:=by
  rw[Array.getElem?_eq_getElem h.lt] at k
  exact (Array.getElem?_eq_some_iff.1 k).1
 exact ⟨b,h.le,hl,(World.cell?_of_block k).trans h.c0,(World.cell?_of_block k).trans h.c1,(World.cell?_of_block k).trans h.c2,fun j=>(fz_of_block k).trans (h.fz j)⟩
theorem Bx.next {N Q:Nat} {w W W':World} {x y z:Int} (h:Bx N Q w W x y z) (k:Below W.heap.size W W'):Bx N Q w W' x y z:=
 h.of (h.be.trans (k.mono (by have:=h.lt;have:=h.le;omega))) (k.block Q h.lt)
theorem Bx.put {N Q:Nat} {w W:World} {x y z:Int} (h:Bx N Q w W x y z) (k:Nat) (v:Value):Below N w (W.setCell ⟨Q,k,none⟩ v):=
 ⟨h.be.os,h.be.tape,h.be.output,by have:=h.be.size;simpa using this,fun b hb=>(set_far (by have:=h.le;omega)).trans (h.be.block b hb)⟩
theorem Bx.set0 {N Q:Nat} {w W:World} {x y z:Int} (h:Bx N Q w W x y z) (v:Int):Bx N Q w (W.setCell ⟨Q,0,none⟩ (.int .i64 v)) v y z:=
 ⟨h.put _ _,h.le,by simpa using h.lt,set_same h.c0,(set_other (by decide)).trans h.c1,(set_other (by decide)).trans h.c2,fun k=>by rw[World.frozen?_setCell];exact h.fz k⟩
theorem Bx.set1 {N Q:Nat} {w W:World} {x y z:Int} (h:Bx N Q w W x y z) (v:Int):Bx N Q w (W.setCell ⟨Q,1,none⟩ (.int .i64 v)) x v z:=
 ⟨h.put _ _,h.le,by simpa using h.lt,(set_other (by decide)).trans h.c0,set_same h.c1,(set_other (by decide)).trans h.c2,fun k=>by rw[World.frozen?_setCell];exact h.fz k⟩
theorem Bx.set2 {N Q:Nat} {w W:World} {x y z:Int} (h:Bx N Q w W x y z) (v:Int):Bx N Q w (W.setCell ⟨Q,2,none⟩ (.int .i64 v)) x y v:=
 ⟨h.put _ _,h.le,by simpa using h.lt,(set_other (by decide)).trans h.c0,(set_other (by decide)).trans h.c1,set_same h.c2,fun k=>by rw[World.frozen?_setCell];exact h.fz k⟩
theorem Bx.far {N Q R:Nat} {w W:World} {x y z:Int} (h:Bx N Q w W x y z) {k:Nat} {v:Value} (hr:Q≠R) (b:Below N w (W.setCell ⟨R,k,none⟩ v)):Bx N Q w (W.setCell ⟨R,k,none⟩ v) x y z:=h.of b (set_far hr)
theorem Bx.new {N:Nat} {w W:World} {x y z:Int} (h:Below N w W) (hN:N≤W.heap.size):Bx N W.heap.size w (W.alloc (.cells #[.int .i64 x, .int .i64 y, .int .i64 z] 218)) x y z:=by
 have hn:=heap_alloc_new W (.cells #[.int .i64 x, .int .i64 y, .int .i64 z] 218)
 exact ⟨h.alloc hN _,hN,by simp,cells_of hn 0,cells_of hn 1,cells_of hn 2,fun k=>by unfold World.frozen?;rw[hn];rfl⟩
def MergeP (t:List Sm) (p:Int) (w:World) (e:Ending) (w':World):Prop:=(RR t p→e= .returned (.tuple #[sumV (mg p (nth t) t.length), .int .i64 0]))∧(¬RR t p→e= .returned (.tuple #[sumV ⟨0,0,0⟩, .int .i64 1]))∧Below w.heap.size w w'
theorem Bx.as1 {N Q:Nat} {w W:World} {x y y' z:Int} (h:Bx N Q w W x y z) (e:y=y'):Bx N Q w W x y' z:=e▸h
set_option maxRecDepth 100000 in
set_option maxHeartbeats 2000000 in
theorem merge_core {w:World} {v:Value} {t:List Sm} {T:Nat→Prop} (h:SumsAt w v t T) (p:Int):Calls Tryz.prog 296 #[v, .int .i64 p] w (MergeP t p w):=by
 obtain ⟨o,cap,rfl,h1,h2⟩:=h.shape
 have H:=hide h
 obtain ⟨PO,hPO⟩:∃PO,PO=MergeP t p w:=⟨_,rfl⟩
 rw[←hPO]
 have HP:=hide hPO
 obtain ⟨n,hn⟩:∃n,t.length=n:=⟨_,rfl⟩
 have HN:=hide hn
 rw[hn] at H h1 ⊢
 obtain ⟨N,hN⟩:∃N,w.heap.size=N:=⟨_,rfl⟩
 obtain ⟨w1,hw1⟩:∃w1,w1=w.alloc (.cells #[.int .i64 0, .int .i64 0, .int .i64 0] 218):=⟨_,rfl⟩
 have S1:Hid (Bx N N w w1 0 0 0):=hide (by rw[hw1,←hN];exact Bx.new (Below.refl _ _) (Nat.le_refl _))
 have HW:=hide hw1
 have A1:Hid (SumsAt w1 (.slice o n cap) t T):=hide (H.out.below (by rw[hw1];exact alloc1 _ _))
 have HNN:=hide hN
 clear h hPO hn hw1 hN
 go_enter Tryz.func296,Tryz.ntmps296
 go_wp2_with fail
 rw[←HW.out]
 refine (rows_core A1.out p).mono ?_
 rintro e w2 ⟨hy,hno,b2⟩
 have S2:=hide (S1.out.next b2)
 rw[HNN.out]
 by_cases r:RR t p
 ·obtain rfl:=hy r
  have FN:∀W (a:Sm),a=mg p (nth t) n→Below N w W→Hid (PO (.returned (.tuple #[sumV a, .int .i64 0])) W):=fun W a ha hW=>hide (by rw[HP.out];exact ⟨fun _=>by rw[ha,HN.out],fun z=>absurd r z,by rw[HNN.out];exact hW⟩)
  obtain ⟨p1,p2,p3,p4⟩:=r
  rw[HN.out] at p3
  have P4:Hid (∀j,j<n→Rgt (nth t j) p):=hide (fun j hj=>p4 j (by rw[HN.out];exact hj))
  obtain ⟨Q,hQ⟩:∃Q,w2.heap.size=Q:=⟨_,rfl⟩
  have hNQ:N<Q:=by have:=S2.out.lt;omega
  obtain ⟨w3,hw3⟩:∃w3,w3=w2.alloc (.cells #[.int .i64 0, .int .i64 0, .int .i64 0] 218):=⟨_,rfl⟩
  have S3:Hid (Bx N Q w w3 0 0 0):=hide (by rw[hw3,←hQ];exact Bx.new S2.out.be (by omega))
  have R3:Hid (Bx N N w w3 0 0 0):=hide (S2.out.next (by rw[hw3];exact alloc1 _ _))
  have HW3:=hide hw3
  have HQ:=hide hQ
  clear hy hno b2 S1 A1 HW S2 p4 HP hw3 hQ
  go_wp2_with fail
  rw[←HW3.out,HQ.out]
  clear HW3 HQ
  go_loopw [16] (fun iv wr=>∃(i:Nat),iv= .int .i64 (i:Int)∧i≤n∧Hid (Bx N N w wr 0 0 0∧Bx N Q w wr (mg p (nth t) i).s (mg p (nth t) i).m (mg p (nth t) i).e)) (fun iv _=>n -(intOf iv).toNat)
  case atStart=>exact ⟨0,rfl,Nat.zero_le _,hide ⟨R3.out,S3.out⟩⟩
  case round=>
   clear R3 S3
   obtain ⟨i,rfl,hi,HH⟩:=hrel
   obtain ⟨hR,hS⟩:=HH.out
   clear HH
   have HR:=hide hR
   have HS:=hide hS
   have g0:=hS.c0
   have g1:=hS.c1
   have g2:=hS.c2
   have gf0:=hS.fz 0
   have gf1:=hS.fz 1
   have gf2:=hS.fz 2
   clear hR hS
   by_cases hlt:i<n
   ·obtain ⟨g,off,x,rfl,hx,hg,c0,c1,c2⟩:=H.out.at (by rw[HNN.out];exact HS.out.be) hlt
    have i1:(i:Int)<(n:Int):=by omega
    have i2:(0:Int)≤(i:Int):=by omega
    have hxn:=nth_at hx
    have hr:=P4.out i hlt
    rw[hxn] at hr
    have hok:=mg_ok p1 i (fun j hj=>P4.out j (by omega))
    have em:mg p (nth t) (i+1)=⟨if (mg p (nth t) i).s=(i:Int) * p then (mg p (nth t) i).s+x.s else (mg p (nth t) i).s,max (max (mg p (nth t) i).m x.m) ((mg p (nth t) i).e+x.s),if x.e=p then (mg p (nth t) i).e+p else x.e⟩:=by rw[mg,hxn]
    have qb:(i:Int) * p≤134217728:=by
     have:(i:Int) * p≤64 * p:=Int.mul_le_mul_of_nonneg_right (by omega) (by omega)
     omega
    have qa:0≤(i:Int) * p:=Int.mul_nonneg i2 (by omega)
    have EM:=hide em
    clear hx hxn em
    generalize mg p (nth t) i=a at *
    obtain ⟨s,m,y⟩:=x
    obtain ⟨S,M,E⟩:=a
    dsimp only at *
    obtain ⟨⟨r1,r2,r3,r4,r5,r6⟩,r7⟩:=hr
    obtain ⟨k1,k2,k3,k4,k5,k6,k7⟩:=hok
    dsimp only at r1 r2 r3 r4 r5 r6 r7 k1 k2 k3 k4 k5 k6 k7
    have u1:S≤134217728:=by omega
    have u2:M≤134217728:=by omega
    have u3:E≤134217728:=by omega
    have v1:s≤2097152:=by omega
    have v2:m≤2097152:=by omega
    have v3:y≤2097152:=by omega
    have b1:0≤S:=k1
    have b2:0≤E:=k2
    have b3:0≤s:=r1
    have b4:0≤y:=r2
    have b5:0≤M:=by omega
    have b6:0≤m:=by omega
    have hQl:=HS.out.lt
    have hNQ':N≠Q:=by omega
    clear r3 r4 r5 r6 r7 k1 k2 k3 k4 k5 k6 k7 r1 r2
    by_cases c:S=(i:Int) * p
    ·have dc:(S==(i:Int) * p)=true:=beq_iff_eq.2 c
     rw[if_pos c] at EM
     clear c
     go_wp2_with fail
     all_goals
      refine (end_any E ⟨s,m,y⟩ p b2 (by omega) p1 p2 _).mono ?_
      rintro e w5 ⟨rfl,b5⟩
      dsimp only
      have S5:=(((HS.out.set0 (S+s)).set1 _).next (alloc1 _ _)).next b5
      have R5:=(((HR.out.far hNQ' (HS.out.put 0 _)).far hNQ' ((HS.out.set0 (S+s)).put 1 _)).next (alloc1 _ _)).next b5
      obtain ⟨Z,hZ⟩:∃Z,(if y=p then E+p else y)=Z:=⟨_,rfl⟩
      rw[hZ] at EM ⊢
      have q0:=S5.c0
      have q1:=S5.c1
      have q2:=S5.c2
      have qf:=S5.fz 2
      have S6:=S5.set2 Z
      have R6:=R5.far hNQ' S6.be
      have SS:=hide S6
      have RS:=hide R6
      clear S5 R5 S6 R6 b5 hZ
      go_wp2_with fail
      go_roundw
      case rel=>exact ⟨i+1,by go_num,by omega,hide ⟨RS.out,by
       rw[EM.out]
       dsimp only
       exact SS.out.as1 (by omega)⟩⟩
      case measure=>simp[intOf];omega
    ·have dc:(S==(i:Int) * p)=false:=beq_eq_false_iff_ne.2 c
     rw[if_neg c] at EM
     clear c
     go_wp2_with fail
     all_goals
      refine (end_any E ⟨s,m,y⟩ p b2 (by omega) p1 p2 _).mono ?_
      rintro e w5 ⟨rfl,b5⟩
      dsimp only
      have S5:=((HS.out.set1 _).next (alloc1 _ _)).next b5
      have R5:=((HR.out.far hNQ' (HS.out.put 1 _)).next (alloc1 _ _)).next b5
      obtain ⟨Z,hZ⟩:∃Z,(if y=p then E+p else y)=Z:=⟨_,rfl⟩
      rw[hZ] at EM ⊢
      have q0:=S5.c0
      have q1:=S5.c1
      have q2:=S5.c2
      have qf:=S5.fz 2
      have S6:=S5.set2 Z
      have R6:=R5.far hNQ' S6.be
      have SS:=hide S6
      have RS:=hide R6
      clear S5 R5 S6 R6 b5 hZ
      go_wp2_with fail
      go_roundw
      case rel=>exact ⟨i+1,by go_num,by omega,hide ⟨RS.out,by
       rw[EM.out]
       dsimp only
       exact SS.out.as1 (by omega)⟩⟩
      case measure=>simp[intOf];omega
   ·obtain rfl:i=n:=by omega
    have d0:¬(i:Int)<(i:Int):=by omega
    have r0:=HR.out.c0
    have r1:=HR.out.c1
    have r2:=HR.out.c2
    have rf0:=HR.out.fz 0
    have rf1:=HR.out.fz 1
    have rf2:=HR.out.fz 2
    obtain ⟨S,hSs⟩:∃S,(mg p (nth t) i).s=S:=⟨_,rfl⟩
    obtain ⟨M,hMs⟩:∃S,(mg p (nth t) i).m=S:=⟨_,rfl⟩
    obtain ⟨E,hEs⟩:∃S,(mg p (nth t) i).e=S:=⟨_,rfl⟩
    rw[hSs] at g0
    rw[hMs] at g1
    rw[hEs] at g2
    have F2:=hide (((HR.out.set0 S).set1 M).set2 E)
    have FF:=FN _ ⟨S,M,E⟩ (by rw[←hSs,←hMs,←hEs]) F2.out.be
    clear FN hSs hMs hEs HR HS H
    go_wp2_with fail
    have e0:=F2.out.c0
    have e1:=F2.out.c1
    have e2:=F2.out.c2
    refine bodyPost_ret (v:= .tuple #[sumV ⟨S,M,E⟩, .int .i64 0]) ?_ rfl FF.out
    simp[results,Tryz.results296,go_sem,sumV,Nat.add_assoc,e0,e1,e2,Result.andThen]
 ·obtain rfl:=hno r
  have FN:∀W,Below N w W→Hid (PO (.returned (.tuple #[sumV ⟨0,0,0⟩, .int .i64 1])) W):=fun W hW=>hide (by rw[HP.out];exact ⟨fun z=>absurd z r,fun _=>rfl,by rw[HNN.out];exact hW⟩)
  have c0:=S2.out.c0
  have c1:=S2.out.c1
  have c2:=S2.out.c2
  have f0:=S2.out.fz 0
  have f1:=S2.out.fz 1
  have f2:=S2.out.fz 2
  have F2:=hide (((S2.out.set0 0).set1 0).set2 0)
  have FF:=FN _ F2.out.be
  clear hy hno b2 r HP S1 A1 HW H FN
  go_wp2_with fail
  have e0:=F2.out.c0
  have e1:=F2.out.c1
  have e2:=F2.out.c2
  refine bodyPost_ret (v:= .tuple #[sumV ⟨0,0,0⟩, .int .i64 1]) ?_ rfl FF.out
  simp[results,Tryz.results296,go_sem,sumV,Nat.add_assoc,e0,e1,e2,Result.andThen]
end Go.Proofs.YtdgdhnnakcncoaaGreatDoor.Mg
