/- Of the proof of HeapGrows: texts VVmA, VVmN, VMp, VVmW, VVmB. -/
import Derived.Test.YtdgdhnnakcncoaaGreatDoorJ08
import Derived.Test.YtdgdhnnakcncoaaGreatDoorJ23
import Derived.Test.YtdgdhnnakcncoaaGreatDoorJ02
import Derived.Test.YtdgdhnnakcncoaaGreatDoorJ27
import Derived.Test.YtdgdhnnakcncoaaGreatDoorJ09
import Derived.Maps.RangeWalk
namespace Go.Proofs.YtdgdhnnakcncoaaGreatDoor.V
set_option maxHeartbeats 1600000
open Go.ChangeShapes Go.WideShapes Go.ChangeAt Go.RowKit Go.Proofs.Sp
set_option linter.unusedVariables false
set_option linter.unusedSimpArgs false
theorem bcell {W w1:World} (hb:Below W.heap.size W w1):(∀b o,b<W.heap.size→w1.cell? ⟨b,o,none⟩=W.cell? ⟨b,o,none⟩)∧(∀b o,b<W.heap.size→w1.frozen? ⟨b,o,none⟩=W.frozen? ⟨b,o,none⟩):=
 ⟨fun b o h=>hb.cell (p:=⟨b,o,none⟩) h,fun b o h=>hb.frozen (p:=⟨b,o,none⟩) h⟩
theorem below_drewN {B:Nat} {w0 w:World} (h:Below B w0 w) (k:Nat):Below B w0 (w.drewN k):=⟨h.os,h.tape,h.output,h.size,h.block⟩
structure ListAt (w:World) (b o g cap:Nat) (R:List (Nat×Nat)):Prop where
 list:w.cell? ⟨b,o,none⟩=some (.slice (some ⟨g,0,none⟩) R.length cap)
 first:∀i (h:i<R.length),w.cell? ⟨g,i * 2,none⟩=some (.int .u64 (R[i].1:Int))
 state:∀i (h:i<R.length),w.cell? ⟨g,i * 2+1,none⟩=some (.int .i64 (R[i].2:Int))
theorem ListAt.below {w w':World} {b o g cap:Nat} {R:List (Nat×Nat)} (h:ListAt w b o g cap R) (hb:Below w.heap.size w w'):ListAt w' b o g cap R:=
 ⟨by rw[hb.cell (p:=⟨b,o,none⟩) (cell_lt h.list)];exact h.list,fun i hi=>by rw[hb.cell (p:=⟨g,i * 2,none⟩) (cell_lt (h.first i hi))];exact h.first i hi,fun i hi=>by rw[hb.cell (p:=⟨g,i * 2+1,none⟩) (cell_lt (h.state i hi))];exact h.state i hi⟩
theorem ListAt.drewN {w:World} {b o g cap:Nat} {R:List (Nat×Nat)} (h:ListAt w b o g cap R) (n:Nat):ListAt (w.drewN n) b o g cap R:=⟨h.list,h.first,h.state⟩
theorem above_core (x y b o g cap:Nat) (R:List (Nat×Nat)) (p:Int) (i:Nat) (hi:i<R.length) (hn:R.length≤70368744177664) (w:World)
 (hx:w.cell? ⟨x,0,none⟩=some (.pointer (some ⟨b,o,none⟩))) (hy:w.cell? ⟨y,0,none⟩=some (.int .u64 p)) (hL:ListAt w b o g cap R):
 Calls Tryz.prog 212 #[.int .i64 (i:Int), .pointer (some ⟨x,0,none⟩), .pointer (some ⟨y,0,none⟩)] w fun e w'=>e= .returned (.bool (decide (p<(R[i].1:Int))))∧∃k,w'=w.drewN k:=by
 have h1:=hL.list
 have h2:=hL.first i hi
 obtain ⟨n,hln⟩:∃n,n=R.length:=⟨_,rfl⟩
 rw[←hln] at h1 hi hn
 obtain ⟨a,ha⟩:∃a,a=R[i].1:=⟨_,rfl⟩
 rw[←ha] at h2 ⊢
 clear hln ha hL
 go_enter Tryz.func212,Tryz.ntmps212
 go_wp2
 go_quiet (fail)
 go_wp2
 go_ret
 exact ⟨rfl,_,rfl⟩
theorem ret_int {k:IntKind} {a b:Int} (h:a=b):Ending.returned (.int k a)= .returned (.int k b):=by rw[h]
theorem at_row {f:Nat→Nat} {R:List (Nat×Nat)} {p:Int} {k:Nat} (h:Seg f 0 R 34359738368) (hp:0≤p) (hp':p<34359738368) (hk:k≤R.length∧(∀i (h:i<R.length),i<k→(R[i].1:Int)≤p)∧∀i (h:i<R.length),k≤i→p<(R[i].1:Int)):
 ∃j,k=j+1∧∃hj:j<R.length,R[j].1≤p.toNat∧p.toNat<startR R 34359738368 (j+1):=by
 obtain ⟨h1,h2,h3⟩:=hk
 obtain ⟨i,hi,q1,q2⟩:=h.at p.toNat (by omega) (by omega)
 have:i<k:=by
  by_cases c:i<k
  ·exact c
  ·have:=h3 i hi (by omega);omega
 refine ⟨i,?_,hi,q1,q2⟩
 by_cases c:k=i+1
 ·exact c
 ·exfalso
  have hk:i+1<R.length:=by omega
  have:=h2 (i+1) hk (by omega)
  rw[startR_lt hk] at q2
  omega
theorem search_core (x y b o g cap:Nat) (R:List (Nat×Nat)) (p:Int) (hp:0≤p) (hn:R.length≤70368744177664) (w:World)
 (hx:w.cell? ⟨x,0,none⟩=some (.pointer (some ⟨b,o,none⟩))) (hy:w.cell? ⟨y,0,none⟩=some (.int .u64 p)) (hL:ListAt w b o g cap R) (hs:(R.map (·.1)).Pairwise (· < ·)):
 Calls Tryz.prog 211 #[.int .i64 (R.length:Int), .func (.func 212) #[] #[.pointer (some ⟨x,0,none⟩), .pointer (some ⟨y,0,none⟩)]] w fun e w'=>
  ∃k:Nat,e= .returned (.int .i64 (k:Int))∧(k≤R.length∧(∀i (h:i<R.length),i<k→(R[i].1:Int)≤p)∧∀i (h:i<R.length),k≤i→p<(R[i].1:Int))∧∃n,w'=w.drewN n:=by
 have hs':∀i j (hi:i<R.length) (hj:j<R.length),i<j→R[i].1<R[j].1:=fun i j hi hj hij=>by
  have:=List.pairwise_iff_getElem.1 hs i j (by simpa using hi) (by simpa using hj) hij
  simpa using this
 have HS:=hide hs'
 have HX:=hide hx
 have HY:=hide hy
 have HL:=hide hL
 clear hs hs' hx hy hL
 go_enter Tryz.func211,Tryz.ntmps211
 go_wp2_with fail
 go_loopw [5,6] (fun lo hi wr=>∃(a c n:Nat),a≤c∧c≤R.length∧lo= .int .i64 (a:Int)∧hi= .int .i64 (c:Int)∧wr=w.drewN n∧Hid ((∀i (h:i<R.length),i<a→(R[i].1:Int)≤p)∧(∀i (h:i<R.length),c≤i→p<(R[i].1:Int)))) (fun lo hi _=>(intOf hi - intOf lo).toNat)
 case atStart=>exact ⟨0,R.length,0,by omega,by omega,rfl,rfl,rfl,fun i h hi=>absurd hi (by omega),fun i h hi=>absurd h (by omega)⟩
 case round=>
  obtain ⟨a,c,n,hac,hcn,rfl,rfl,rfl,hrs⟩:=hrel
  by_cases hlt:a<c
  ·have hm:(a+c)/2<R.length:=by omega
   obtain ⟨q,hq⟩:∃q,q=R[(a+c)/2].1:=⟨_,rfl⟩
   have HQ:=hide hq
   have ab:=above_core x y b o g cap R p ((a+c)/2) hm hn (w.drewN n) HX.out HY.out (HL.out.drewN n)
   rw[←hq] at ab
   have AB:=hide ab
   clear hq ab
   by_cases ht:p<(q:Int)
   ·have ht':decide (p<(q:Int))=true:=by simpa using ht
    have AB2:Hid (Calls Tryz.prog 212 #[.int .i64 (((a+c)/2:Nat):Int), .pointer (some ⟨x,0,none⟩), .pointer (some ⟨y,0,none⟩)] (w.drewN n) fun e w'=>e= .returned (.bool true)∧∃k,w'=(w.drewN n).drewN k):=by rw[←ht'];exact AB.out
    clear AB ht'
    go_wp2_with fail
    rw[show ((a:Int)+(c:Int))/2=(((a+c)/2:Nat):Int) by omega]
    refine AB2.out.mono ?_
    rintro e w1 ⟨rfl,k,rfl⟩
    clear AB2
    go_wp2_with fail
    go_roundw
    case rel=>exact ⟨a,(a+c)/2,n+k,by omega,by omega,rfl,by go_num,rfl,hrs.out.1,fun i h hi=>by
     by_cases e:i=(a+c)/2
     ·subst e;rw[←HQ.out];exact ht
     ·have:=HS.out ((a+c)/2) i hm h (by omega)
      have:=HQ.out
      omega⟩
    case measure=>simp[intOf];omega
   ·have ht':decide (p<(q:Int))=false:=by simpa using ht
    have AB2:Hid (Calls Tryz.prog 212 #[.int .i64 (((a+c)/2:Nat):Int), .pointer (some ⟨x,0,none⟩), .pointer (some ⟨y,0,none⟩)] (w.drewN n) fun e w'=>e= .returned (.bool false)∧∃k,w'=(w.drewN n).drewN k):=by rw[←ht'];exact AB.out
    clear AB ht'
    go_wp2_with fail
    rw[show ((a:Int)+(c:Int))/2=(((a+c)/2:Nat):Int) by omega]
    refine AB2.out.mono ?_
    rintro e w1 ⟨rfl,k,rfl⟩
    clear AB2
    go_wp2_with fail
    go_roundw
    case rel=>exact ⟨(a+c)/2+1,c,n+k,by omega,hcn,by go_num,rfl,rfl,fun i h hi=>by
     by_cases e:i=(a+c)/2
     ·subst e;rw[←HQ.out];omega
     ·have:=HS.out i ((a+c)/2) h hm (by omega)
      have:=HQ.out
      omega,hrs.out.2⟩
    case measure=>simp[intOf];omega
  ·have e:c=a:=by omega
   subst e
   go_wp2_with fail
   go_ret
   exact ⟨c,rfl,⟨hcn,hrs.out⟩,n,rfl⟩
theorem at_core (b o g cap:Nat) (R:List (Nat×Nat)) (f:Nat→Nat) (p:Int) (hp:0≤p) (hp':p<34359738368) (hn:R.length≤70368744177664) (w:World) (hL:ListAt w b o g cap R) (hs:Seg f 0 R 34359738368)
 (i:Nat) (hi:i<R.length) (h1:R[i].1≤p.toNat) (h2:p.toNat<startR R 34359738368 (i+1)):
 Calls Tryz.prog 155 #[.pointer (some ⟨b,o,none⟩), .int .u64 p] w fun e w'=>e= .returned (.int .i64 (i:Int))∧Below w.heap.size w w':=by
 have hmf:∀(fn:Fn) (first cap:Array Value) (w:World),(Instr.makeFunc fn first cap).run Tryz.prog w= .ok (.func fn first cap) w:=fun _ _ _ _=>rfl
 have hl:=hL.list
 have hlt:=cell_lt hl
 have HL:=hide hL
 have HS:=hide hs
 have H12:=hide (And.intro h1 h2)
 clear hL hs h1 h2
 go_enter Tryz.func155,Tryz.ntmps155
 go_wp2_with fail
 refine (search_core w.heap.size (w.heap.size+1) b o g cap R p hp hn _ (by simp[go_sem]) (by simp[go_sem]) (HL.out.below (((Below.refl _ _).alloc (Nat.le_refl _) _).alloc (by simp) _)) HS.out.pair).mono ?_
 rintro e w1 ⟨k,rfl,hk,n,rfl⟩
 obtain ⟨j,hj,hjl,hj1,hj2⟩:=at_row HS.out hp hp' hk
 have e:j=i:=HS.out.at_one hjl hi hj1 hj2 H12.out.1 H12.out.2
 subst e hj
 clear hk hj1 hj2 H12
 go_wp2_with fail
 go_ret
 exact ⟨ret_int (by omega),below_drewN (((Below.refl _ _).alloc (Nat.le_refl _) _).alloc (by simp) _) n⟩
theorem end_core (b o g cap:Nat) (R:List (Nat×Nat)) (i:Int) (hi0:0≤i) (hi:i<R.length) (hn:R.length≤70368744177664) (w:World) (hL:ListAt w b o g cap R):
 Calls Tryz.prog 204 #[.pointer (some ⟨b,o,none⟩), .int .i64 i] w fun e w'=>e= .returned (.int .u64 (startR R 34359738368 (i.toNat+1):Nat))∧w'=w:=by
 have hl:=hL.list
 by_cases c:i.toNat+1<R.length
 ·have h2:=hL.first (i.toNat+1) c
  rw[startR_lt c]
  obtain ⟨x,hx⟩:∃x,x=R[i.toNat+1].1:=⟨_,rfl⟩
  rw[←hx] at h2 ⊢
  have hd:i+1<R.length:=by omega
  rw[show i.toNat+1=(i+1).toNat by omega] at h2
  clear hx c hL
  go_enter Tryz.func204,Tryz.ntmps204
  go_wp2_with fail
  go_ret
  exact ⟨rfl,rfl⟩
 ·rw[startR_ge (by omega)]
  have hd:¬i+1<R.length:=by omega
  clear c hL
  go_enter Tryz.func204,Tryz.ntmps204
  go_wp2_with fail
  go_ret
  exact ⟨rfl,rfl⟩
theorem state_core (b o g cap:Nat) (R:List (Nat×Nat)) (f:Nat→Nat) (p:Int) (hp:0≤p) (hn:R.length≤70368744177664) (w:World) (hL:ListAt w b o g cap R) (hs:Seg f 0 R 34359738368) (hz:∀p,34359738368≤p→f p=0):
 Calls Tryz.prog 96 #[.pointer (some ⟨b,o,none⟩), .int .u64 p] w fun e w'=>e= .returned (.int .i64 (f p.toNat:Nat))∧Below w.heap.size w w':=by
 have hl:=hL.list
 have hlt:=cell_lt hl
 by_cases c:34359738368≤p
 ·rw[hz p.toNat (by omega)]
  clear hL hs hz
  go_enter Tryz.func96,Tryz.ntmps96
  go_wp2_with fail
  go_ret
  exact ⟨rfl,Below.refl _ _⟩
 ·obtain ⟨i,hi,h1,h2⟩:=hs.at p.toNat (by omega) (by omega)
  have hst:=hL.state i hi
  have hsl:=cell_lt hst
  rw[(hs.row i hi).2.2.2 p.toNat h1 h2]
  obtain ⟨s,hs'⟩:∃s,s=R[i].2:=⟨_,rfl⟩
  rw[←hs'] at hst ⊢
  have HL:=hide hL
  have HS:=hide hs
  have H12:=hide (And.intro h1 h2)
  have hx:= @ext_cell w
  clear hL hs hz h1 h2 hs'
  go_enter Tryz.func96,Tryz.ntmps96
  go_wp2_with fail
  have hne:=ext_ne w
  refine wp_region_calm (by kernel_rfl) (by kernel_rfl) ?_
  repeat (go_big_quiet_step ((go_at_call 155;exact calm_of (at_core b o g cap R f p hp c hn _ (HL.out.below (Ext.h _)) HS.out i hi H12.out.1 H12.out.2))))
  refine wpQuiet_nil ?_
  rintro _ ⟨n,rfl⟩
  go_wp2_with fail
  go_ret
  exact ⟨rfl,n.h⟩
end Go.Proofs.YtdgdhnnakcncoaaGreatDoor.V
namespace Go.Proofs.YtdgdhnnakcncoaaGreatDoor.V
set_option maxHeartbeats 1600000
open Go.ChangeShapes Go.WideShapes Go.ChangeAt Go.RowKit Go.Proofs.Sp
def SlB (w:World) (v:Value) (xs:List Value) (g:Nat):Prop:=
 (v= .slice none 0 0∧xs= [])∨∃off cap,v= .slice (some ⟨g,off,none⟩) xs.length cap∧xs.length≤cap∧cap≤9223372036854775807∧g<w.heap.size∧∀j u,xs[j]? =some u→w.cell? ⟨g,off+j,none⟩=some u
theorem SlB.kept {w w':World} {v:Value} {xs:List Value} {g:Nat} (h:SlB w v xs g) (hs:w.heap.size≤w'.heap.size) (hg:g<w.heap.size→w'.heap[g]? =w.heap[g]?):SlB w' v xs g:=by
 rcases h with h|⟨off,cap,h1,h2,h3,h4,h5⟩
 ·exact Or.inl h
 ·exact Or.inr ⟨off,cap,h1,h2,h3,by omega,fun j u hu=>by rw[World.cell?_of_block (hg h4)];exact h5 j u hu⟩
theorem next_bool (b k g:Nat) (v:Value) (l:List Bool) (w:World) (hc:w.cell? ⟨b,k,none⟩=some v) (hf:w.frozen? ⟨b,k,none⟩=false) (hs:SlB w v (bools l) g):
 Calls Tryz.prog 284 #[.pointer (some ⟨b,k,none⟩)] w fun e w'=>e= .returned (.tuple #[.bool (l.head?.getD false), .bool (!l.isEmpty)])∧((l= []∧w'=w)∨∃v',w'=w.setCell ⟨b,k,none⟩ v'∧SlB w v' (bools l.tail) g):=by
 rcases hs with ⟨rfl,h0⟩|⟨off,cap,rfl,h1,h2,h3,h4⟩
 ·have hl:l= []:=by simpa [bools] using h0
  subst hl
  go_enter Tryz.func284,Tryz.ntmps284
  go_wp2_with fail
  go_ret2
  exact ⟨rfl,Or.inl ⟨trivial,rfl⟩⟩
 ·cases l with
  |nil=>
   have e0:(bools []).length=0:=rfl
   rw[e0] at hc
   go_enter Tryz.func284,Tryz.ntmps284
   go_wp2_with fail
   go_ret2
   exact ⟨rfl,Or.inl ⟨trivial,rfl⟩⟩
  |cons x r=>
   have e0:(bools (x::r)).length=r.length+1:=by simp[bools]
   have c0:=h4 0 (.bool x) (by simp[bools])
   rw[Nat.add_zero] at c0
   have htl:∀j u,(bools r)[j]? =some u→w.cell? ⟨g,off+1+j,none⟩=some u:=fun j u hu=>by
    have:=h4 (j+1) u (by simpa [bools] using hu)
    rwa[show off+(j+1)=off+1+j by omega] at this
   have HT:=hide htl
   have er:(bools r).length=r.length:=by simp[bools]
   have ER:=hide er
   rw[e0] at hc h1
   obtain ⟨n,hn⟩:∃n,r.length=n:=⟨_,rfl⟩
   rw[hn] at hc h1 ER
   clear h4 htl e0 er hn
   have b0:(((n:Int)+1)==0)=false:=beq_eq_false_iff_ne.2 (by omega)
   have d1:(1:Int)≤(n:Int)+1:=by omega
   by_cases c1:cap=1
   ·subst c1
    obtain rfl:n=0:=by omega
    go_enter Tryz.func284,Tryz.ntmps284
    go_wp2_with fail
    go_ret2
    have hr:r= []:=List.eq_nil_of_length_eq_zero (by have:=ER.out;simpa [bools] using this)
    subst hr
    exact ⟨rfl,Or.inr ⟨_,rfl,Or.inr ⟨off,0,rfl,Nat.le_refl _,by omega,h3,fun j u hu=>by simp[bools] at hu⟩⟩⟩
   ·go_enter Tryz.func284,Tryz.ntmps284
    go_wp2_with fail
    go_ret2
    refine ⟨rfl,Or.inr ⟨_,rfl,Or.inr ⟨off+1,cap - 1,?_,?_,by omega,h3,HT.out⟩⟩⟩
    ·show _=Value.slice (some ⟨g,off+1,none⟩) (bools r).length (cap - 1)
     rw[ER.out]
    ·show (bools r).length≤cap - 1
     rw[ER.out];omega
theorem next_u64 (b k g:Nat) (v:Value) (l:List Nat) (w:World) (hc:w.cell? ⟨b,k,none⟩=some v) (hf:w.frozen? ⟨b,k,none⟩=false) (hs:SlB w v (u64s l) g):
 Calls Tryz.prog 285 #[.pointer (some ⟨b,k,none⟩)] w fun e w'=>e= .returned (.tuple #[.int .u64 (l.head?.getD 0:Nat), .bool (!l.isEmpty)])∧((l= []∧w'=w)∨∃v',w'=w.setCell ⟨b,k,none⟩ v'∧SlB w v' (u64s l.tail) g):=by
 rcases hs with ⟨rfl,h0⟩|⟨off,cap,rfl,h1,h2,h3,h4⟩
 ·have hl:l= []:=by simpa [u64s] using h0
  subst hl
  go_enter Tryz.func285,Tryz.ntmps285
  go_wp2_with fail
  go_ret2
  exact ⟨rfl,Or.inl ⟨trivial,rfl⟩⟩
 ·cases l with
  |nil=>
   have e0:(u64s []).length=0:=rfl
   rw[e0] at hc
   go_enter Tryz.func285,Tryz.ntmps285
   go_wp2_with fail
   go_ret2
   exact ⟨rfl,Or.inl ⟨trivial,rfl⟩⟩
  |cons x r=>
   have e0:(u64s (x::r)).length=r.length+1:=by simp[u64s]
   have c0:=h4 0 (.int .u64 (x:Int)) (by simp[u64s])
   rw[Nat.add_zero] at c0
   have htl:∀j u,(u64s r)[j]? =some u→w.cell? ⟨g,off+1+j,none⟩=some u:=fun j u hu=>by
    have:=h4 (j+1) u (by simpa [u64s] using hu)
    rwa[show off+(j+1)=off+1+j by omega] at this
   have HT:=hide htl
   have er:(u64s r).length=r.length:=by simp[u64s]
   have ER:=hide er
   rw[e0] at hc h1
   obtain ⟨n,hn⟩:∃n,r.length=n:=⟨_,rfl⟩
   rw[hn] at hc h1 ER
   clear h4 htl e0 er hn
   have b0:(((n:Int)+1)==0)=false:=beq_eq_false_iff_ne.2 (by omega)
   have d1:(1:Int)≤(n:Int)+1:=by omega
   by_cases c1:cap=1
   ·subst c1
    obtain rfl:n=0:=by omega
    go_enter Tryz.func285,Tryz.ntmps285
    go_wp2_with fail
    go_ret2
    have hr:r= []:=List.eq_nil_of_length_eq_zero (by have:=ER.out;simpa [u64s] using this)
    subst hr
    exact ⟨rfl,Or.inr ⟨_,rfl,Or.inr ⟨off,0,rfl,Nat.le_refl _,by omega,h3,fun j u hu=>by simp[u64s] at hu⟩⟩⟩
   ·go_enter Tryz.func285,Tryz.ntmps285
    go_wp2_with fail
    go_ret2
    refine ⟨rfl,Or.inr ⟨_,rfl,Or.inr ⟨off+1,cap - 1,?_,?_,by omega,h3,HT.out⟩⟩⟩
    ·show _=Value.slice (some ⟨g,off+1,none⟩) (u64s r).length (cap - 1)
     rw[ER.out]
    ·show (u64s r).length≤cap - 1
     rw[ER.out];omega
theorem refused_core (b g:Nat) (v:Value) (l:List Bool) (w:World) (hc:w.cell? ⟨b,1,none⟩=some v) (hf:w.frozen? ⟨b,1,none⟩=false) (hs:SlB w v (bools l) g):
 Calls Tryz.prog 237 #[.pointer (some ⟨b,0,none⟩)] w fun e w'=>e= .returned (.bool (l.head?.getD false))∧((l= []∧w'=w)∨∃v',w'=w.setCell ⟨b,1,none⟩ v'∧SlB w v' (bools l.tail) g):=by
 have hs':=hide hs
 clear hs
 go_enter Tryz.func237,Tryz.ntmps237
 go_wp2_with fail
 refine (next_bool b 1 g v l w hc hf hs'.out).mono ?_
 rintro e w1 ⟨rfl,h1⟩
 have H1:=hide h1
 clear h1 hs'
 go_wp2_with fail
 go_ret
 exact ⟨rfl,H1.out⟩
theorem right_core (p n:Int) (hp:0≤p) (hn:0≤n) (hp':p<18446744073709551616) (w:World):Calls Tryz.prog 146 #[.int .u64 p, .int .u64 n] w fun e w'=>e= .returned (.bool (decide (right p.toNat n.toNat)))∧w'=w:=by
 by_cases h:right p.toNat n.toNat
 ·have e1:decide (right p.toNat n.toNat)=true:=decide_eq_true h
  rw[e1]
  unfold right at h
  have a1:(n != 0)=true:=by rw[bne_iff_ne];omega
  have a2:p<34359738368:=by omega
  have a3:n≤34359738368 - p:=by omega
  clear h e1
  go_enter Tryz.func146,Tryz.ntmps146
  go_wp2_with fail
  go_ret
  exact ⟨rfl,rfl⟩
 ·have e1:decide (right p.toNat n.toNat)=false:=decide_eq_false h
  rw[e1]
  unfold right at h
  by_cases a0:n=0
  ·have a1:(n != 0)=false:=by rw[a0];rfl
   clear h e1
   subst a0
   go_enter Tryz.func146,Tryz.ntmps146
   go_wp2_with fail
   go_ret
   exact ⟨rfl,rfl⟩
  ·have a1:(n != 0)=true:=by rw[bne_iff_ne];omega
   by_cases a2:p<34359738368
   ·have a3:¬n≤34359738368 - p:=by omega
    clear h e1 a0
    go_enter Tryz.func146,Tryz.ntmps146
    go_wp2_with fail
    go_ret
    exact ⟨rfl,rfl⟩
   ·clear h e1 a0
    have a2':decide (p<34359738368)=false:=by simpa using a2
    go_enter Tryz.func146,Tryz.ntmps146
    go_wp2_with fail
    go_ret
    exact ⟨rfl,rfl⟩
theorem split_core (a:Int) (ha:0≤a) (ha2:a<18446744073709551616) (w:World):Calls Tryz.prog 128 #[.int .u64 a] w fun e w'=>e= .returned (.tuple #[.int .u64 (a/8192), .int .u64 (a%8192/8)])∧w'=w:=by
 go_enter Tryz.func128,Tryz.ntmps128
 go_wp2_with fail
 go_ret2
 exact ⟨rfl,rfl⟩
theorem chunkUp_core (a:Int) (ha:0≤a) (ha':a≤34359738368) (w:World):Calls Tryz.prog 319 #[.int .u64 a] w fun e w'=>e= .returned (.int .u64 ((a+511)/512 * 512))∧w'=w:=by
 go_enter Tryz.func319,Tryz.ntmps319
 go_wp2_with fail
 go_ret
 exact ⟨ret_int (by omega),rfl⟩
end Go.Proofs.YtdgdhnnakcncoaaGreatDoor.V
namespace Go.Proofs.YtdgdhnnakcncoaaGreatDoor.V
set_option maxHeartbeats 1600000
open Go.ChangeShapes Go.WideShapes Go.ChangeAt Go.RowKit Go.Proofs.Sp Go.Maps
def numElem:Value→Option (DataW Unit×List MemPlace)
 | .int .u64 a=>some (.lit (.int .u64 a),[])
 |_=>none
def dat (n:Nat):DataW Unit:= .lit (.int .u64 (n:Int))
def MapIs (w:World) (R:Value→Option (DataW Unit×List MemPlace)) (b n:Nat) (M:Nat→Nat):Prop:=∃D,w.ownsMap Tryz.prog 39 R b n D∧∀p,p<18446744073709551616→D.atKey (key p) (dat 0)=dat (M p)
theorem ptr_of {v:Value} {n:Nat} {ps:List MemPlace} (h:ptrElem v=some (dat n,ps)):(n=0∧v= .pointer none)∨∃b,n=b+1∧v= .pointer (some ⟨b,0,none⟩):=by
 unfold ptrElem at h
 split at h
 ·left;simp[dat] at h;exact ⟨by omega,rfl⟩
 ·right
  rename_i b
  simp[dat] at h
  exact ⟨b,by omega,rfl⟩
 ·cases h
theorem num_of {v:Value} {n:Nat} {ps:List MemPlace} (h:numElem v=some (dat n,ps)):v= .int .u64 (n:Int):=by
 unfold numElem at h
 split at h
 ·simp[dat] at h;rw[h.1]
 ·cases h
theorem zeroP (w:World):(zeroValue 213).run Tryz.prog w= .ok (.pointer none) w:=by kernel_rfl
theorem zeroU (w:World):(zeroValue 39).run Tryz.prog w= .ok (.int .u64 0) w:=by kernel_rfl
theorem look_ptr {w:World} {b n:Nat} {M:Nat→Nat} (h:MapIs w ptrElem b n M) (p:Nat) (hp:p<18446744073709551616):
 ∃v,(Instr.lookup 89 (.map (some b)) (.int .u64 (p:Int)) false).run Tryz.prog w= .ok v w∧((M p=0∧v= .pointer none)∨∃a,M p=a+1∧v= .pointer (some ⟨a,0,none⟩)):=by
 obtain ⟨D,hD,hM⟩:=h
 obtain ⟨v,ps,hrun,hv⟩:=hD.lookup (e:=213) keyU Tryz.underlying89 (zeroP w) (zd:=dat 0) (zp:=[]) rfl (key_of p hp)
 rw[hM p hp] at hv
 exact ⟨v,hrun,ptr_of hv⟩
theorem look_num {w:World} {b n:Nat} {M:Nat→Nat} (h:MapIs w numElem b n M) (p:Nat) (hp:p<18446744073709551616):
 (Instr.lookup 90 (.map (some b)) (.int .u64 (p:Int)) false).run Tryz.prog w= .ok (.int .u64 (M p:Int)) w:=by
 obtain ⟨D,hD,hM⟩:=h
 obtain ⟨v,ps,hrun,hv⟩:=hD.lookup (e:=39) keyU Tryz.underlying90 (zeroU w) (zd:=dat 0) (zp:=[]) rfl (key_of p hp)
 rw[hM p hp] at hv
 rw[hrun,num_of hv]
theorem MapIs.kept {w w':World} {R:Value→Option (DataW Unit×List MemPlace)} {b n:Nat} {M:Nat→Nat} (h:MapIs w R b n M) (hb:w'.heap[b]? =w.heap[b]?):MapIs w' R b n M:=by
 obtain ⟨D,⟨es,clock,h1,h2⟩,hM⟩:=h
 exact ⟨D,⟨es,clock,hb.trans h1,h2⟩,hM⟩
theorem MapIs.lt {w:World} {R:Value→Option (DataW Unit×List MemPlace)} {b n:Nat} {M:Nat→Nat} (h:MapIs w R b n M):b<w.heap.size:=by obtain ⟨D,h,_⟩:=h;exact h.lt
theorem MapIs.put {w:World} {R:Value→Option (DataW Unit×List MemPlace)} {b n:Nat} {M:Nat→Nat} {t e:TypeId} (h:MapIs w R b n M) (ht:Tryz.prog.underlying t=some (.map 39 e)) (hn:n<maxLen) (p:Nat) (hp:p<18446744073709551616) {v:Value} {x:Nat} {ps:List MemPlace} (hv:R v=some (dat x,ps)):
 ∃w',(Instr.mapUpdate t (.map (some b)) (.int .u64 (p:Int)) v).run Tryz.prog w= .ok () w'∧MapIs w' R b (n+1) (fun q=>if q=p then x else M q)∧w.grownBy w' (some b):=by
 obtain ⟨D,hD,hM⟩:=h
 obtain ⟨w',hrun,h1,h2⟩:=hD.update keyU ht hn (key_of p hp) hv
 refine ⟨w',hrun,⟨_,h1,fun q hq=> ?_⟩,h2⟩
 show _=dat (if q=p then x else M q)
 by_cases c:q=p
 ·subst c;rw[if_pos rfl];exact atKey_put_same hD.isMap (key_lit _) _ _
 ·rw[if_neg c,atKey_put_other (fun z=>c (key_inj z))];exact hM q hq
theorem MapIs.del {w:World} {R:Value→Option (DataW Unit×List MemPlace)} {b n:Nat} {M:Nat→Nat} {t e ty:TypeId} (h:MapIs w R b n M) (ht:Tryz.prog.underlying t=some (.map 39 e)) (p:Nat) (hp:p<18446744073709551616):
 ∃w',(Builtin.delete_ #[t,39] ty #[.map (some b), .int .u64 (p:Int)]).run Tryz.prog w= .ok (.tuple #[]) w'∧MapIs w' R b n (fun q=>if q=p then 0 else M q)∧w.grownBy w' (some b):=by
 obtain ⟨D,hD,hM⟩:=h
 obtain ⟨w',hrun,h1,h2⟩:=hD.drop keyU ht (key_of p hp) ty
 refine ⟨w',hrun,⟨_,h1,fun q hq=> ?_⟩,h2.grown⟩
 show _=dat (if q=p then 0 else M q)
 by_cases c:q=p
 ·subst c;rw[if_pos rfl];exact atKey_del_same _
 ·rw[if_neg c,atKey_del_other (fun z=>c (key_inj z))];exact hM q hq
theorem MapIs.len {w:World} {R:Value→Option (DataW Unit×List MemPlace)} {b n:Nat} {M:Nat→Nat} {t e ty:TypeId} (h:MapIs w R b n M) (ht:Tryz.prog.underlying t=some (.map 39 e)):∃k,k≤n∧(Builtin.len_ #[t] ty #[.map (some b)]).run Tryz.prog w= .ok (.int .i64 (k:Int)) w:=by
 obtain ⟨D,hD,hM⟩:=h
 exact ⟨_,hD.size_le,hD.len ht ty⟩
theorem MapIs.made (w:World) (R:Value→Option (DataW Unit×List MemPlace)):MapIs (w.alloc (.map #[] 0)) R w.heap.size 0 (fun _=>0):=⟨_,World.ownsMap_made w Tryz.prog 39 R,fun _ _=>rfl⟩
theorem MapIs.mono {w:World} {R:Value→Option (DataW Unit×List MemPlace)} {b n n':Nat} {M:Nat→Nat} (h:MapIs w R b n M) (hn:n≤n'):MapIs w R b n' M:=by
 obtain ⟨D,hD,hM⟩:=h
 exact ⟨D,hD.mono hn,hM⟩
def ArrAt (w:World) (a:Nat) (f:Nat→Nat):Prop:=∃arr:List Value,w.heap[a]? =some (.cells arr.toArray 277 (0,0))∧arr.length=1024∧∀k,k<1024→arr[k]? =some (.int .u64 (f k:Int))
theorem ArrAt.cell {w:World} {a:Nat} {f:Nat→Nat} (h:ArrAt w a f) (k:Nat) (hk:k<1024):w.cell? ⟨a,k,none⟩=some (.int .u64 (f k:Int)):=by
 obtain ⟨arr,h1,h2,h3⟩:=h
 rw[cell_of_row w a k arr.toArray _ (0,0) h1]
 simpa using h3 k hk
theorem ArrAt.fz {w:World} {a:Nat} {f:Nat→Nat} (h:ArrAt w a f) (k:Nat):w.frozen? ⟨a,k,none⟩=false:=by
 obtain ⟨arr,h1,_⟩:=h
 simp[World.frozen?,h1]
structure WordsM (w:World) (b bp bf n:Nat) (MP MF:Nat→Nat) (A:Nat→Nat→Nat):Prop where
 c8:w.cell? ⟨b,8,none⟩=some (.map (some bp))
 c9:w.cell? ⟨b,9,none⟩=some (.map (some bf))
 mp:MapIs w ptrElem bp n MP
 mf:MapIs w numElem bf n MF
 arr:∀p,MP p≠0→ArrAt w (MP p - 1) (A p)
 one:∀p q,MP p≠0→MP p=MP q→p=q
 sep:∀p,MP p≠0→MP p - 1≠b∧MP p - 1≠bp∧MP p - 1≠bf
 ne:bp≠b∧bf≠b∧bp≠bf
def wordAt (MP MF:Nat→Nat) (A:Nat→Nat→Nat) (p k:Nat):Nat:=if MP p=0 then MF p else A p k
set_option maxHeartbeats 1000000 in
theorem wload_core (b bp bf n:Nat) (MP MF:Nat→Nat) (A:Nat→Nat→Nat) (w:World) (h:WordsM w b bp bf n MP MF A) (a:Int) (ha:0≤a) (ha':a<18446744073709551616):
 Calls Tryz.prog 73 #[.pointer (some ⟨b,8,none⟩), .int .u64 a] w fun e w'=>e= .returned (.int .u64 (wordAt MP MF A (a.toNat/8192) (a.toNat%8192/8):Nat))∧w'=w:=by
 have c8:=h.c8
 have c9:=h.c9
 obtain ⟨p,hpe⟩:∃p:Nat,p=a.toNat/8192:=⟨_,rfl⟩
 obtain ⟨k,hke⟩:∃k:Nat,k=a.toNat%8192/8:=⟨_,rfl⟩
 have hp1:(a/8192:Int)=(p:Int):=by omega
 have hk1:(a%8192/8:Int)=(k:Int):=by omega
 have hk2:k<1024:=by omega
 have hpl:p<18446744073709551616:=by omega
 rw[←hpe,←hke]
 obtain ⟨v,hrun,hv⟩:=look_ptr h.mp p hpl
 have hnum:=look_num h.mf p hpl
 have HP:=hide hp1
 have HK:=hide hk1
 rcases hv with ⟨hz,rfl⟩|⟨x,hx,rfl⟩
 ·have fin:Hid (wordAt MP MF A p k=MF p):=by
   have:wordAt MP MF A p k=MF p:=by unfold wordAt;rw[if_pos hz]
   exact this
  clear h hpe hke hp1 hk1 hz
  go_enter Tryz.func73,Tryz.ntmps73
  go_wp2_with (go_at_call 128;refine (split_core a ha ha' _).mono ?_;rintro e w' ⟨rfl,rfl⟩;rw[HP.out,HK.out])
  go_ret
  exact ⟨by rw[fin.out];rfl,rfl⟩
 ·have ar:=h.arr p (by omega)
  rw[hx,Nat.add_sub_cancel] at ar
  have hc:=ar.cell k hk2
  have fin:Hid (wordAt MP MF A p k=A p k):=by
   have:wordAt MP MF A p k=A p k:=by unfold wordAt;rw[if_neg (by omega)]
   exact this
  have hk3:(k:Int)<1024:=by omega
  obtain ⟨y,hy⟩:∃y,y=A p k:=⟨_,rfl⟩
  rw[←hy] at hc fin
  clear h hpe hke hp1 hk1 hx ar hy
  go_enter Tryz.func73,Tryz.ntmps73
  go_wp2_with (go_at_call 128;refine (split_core a ha ha' _).mono ?_;rintro e w' ⟨rfl,rfl⟩;rw[HP.out,HK.out])
  go_ret
  exact ⟨by rw[fin.out];rfl,rfl⟩
end Go.Proofs.YtdgdhnnakcncoaaGreatDoor.V
namespace Go.Proofs.YtdgdhnnakcncoaaGreatDoor.V
set_option maxHeartbeats 1600000
open Go.ChangeShapes Go.WideShapes Go.ChangeAt Go.RowKit Go.Proofs.Sp
def PartsAt (w:World) (v:Value) (Ps:List (Nat×Nat×Nat)):Prop:=
 (v= .slice none 0 0∧Ps= [])∨∃g cap,v= .slice (some ⟨g,0,none⟩) Ps.length cap∧g<w.heap.size∧∀i (h:i<Ps.length),w.cell? ⟨g,i * 3,none⟩=some (.int .u64 (Ps[i].1:Int))∧w.cell? ⟨g,i * 3+1,none⟩=some (.int .u64 (Ps[i].2.1:Int))∧w.cell? ⟨g,i * 3+2,none⟩=some (.int .i64 (Ps[i].2.2:Int))
theorem PartsAt.below {w w':World} {v:Value} {Ps:List (Nat×Nat×Nat)} (h:PartsAt w v Ps) (hb:Below w.heap.size w w'):PartsAt w' v Ps:=by
 rcases h with h|⟨g,cap,h1,h2,h3⟩
 ·exact Or.inl h
 ·refine Or.inr ⟨g,cap,h1,Nat.lt_of_lt_of_le h2 hb.size,fun i hi=> ?_⟩
  rw[hb.cell (p:=⟨g,i * 3,none⟩) h2,hb.cell (p:=⟨g,i * 3+1,none⟩) h2,hb.cell (p:=⟨g,i * 3+2,none⟩) h2]
  exact h3 i hi
theorem none_test (a b s:Int) (w:World):Calls Tryz.prog 283 #[.agg #[.int .u64 a, .int .u64 b, .int .i64 s]] w fun e w'=>e= .returned (.bool (s==0))∧Below w.heap.size w w':=by
 go_enter Tryz.func283,Tryz.ntmps283
 go_wp2_with fail
 go_ret
 exact ⟨rfl,(Below.refl _ _).alloc (Nat.le_refl _) _⟩
theorem ready_test (a b s:Int) (w:World):Calls Tryz.prog 203 #[.agg #[.int .u64 a, .int .u64 b, .int .i64 s]] w fun e w'=>e= .returned (.bool (s != 2))∧Below w.heap.size w w':=by
 go_enter Tryz.func203,Tryz.ntmps203
 go_wp2_with fail
 go_ret
 exact ⟨rfl,(Below.refl _ _).alloc (Nat.le_refl _) _⟩
theorem index_none (v:Value) (Ps:List (Nat×Nat×Nat)) (hn:Ps.length≤70368744177664) (w:World) (hP:PartsAt w v Ps):
 Calls Tryz.prog 261 #[v, .func (.func 283) #[] #[]] w fun e w'=>(∃k:Int,e= .returned (.int .i64 k)∧((k=-1∧∀x∈Ps,((x.2.2:Int)==0)=false)∨(0≤k∧∃x∈Ps,((x.2.2:Int)==0)=true)))∧Below w.heap.size w w':=by
 rcases hP with ⟨rfl,rfl⟩|⟨g,cap,rfl,hg,hc⟩
 ·go_enter Tryz.func261,Tryz.ntmps261
  go_wp2_with fail
  refine wp_loop_rounds 1 ?_
  rw[rounds_succ]
  go_wp2_with fail
  go_ret
  exact ⟨⟨-1,rfl,Or.inl ⟨rfl,fun x hx=>by cases hx⟩⟩,Below.refl _ _⟩
 ·have HC:=hide hc
  clear hc
  go_enter Tryz.func261,Tryz.ntmps261
  go_wp2_with fail
  go_loopw [8] (fun iv wr=>∃k:Nat,k≤Ps.length∧iv= .int .i64 (k:Int)∧Hid (∀j (h:j<Ps.length),j<k→((Ps[j].2.2:Int)==0)=false)∧Below w.heap.size w wr) (fun iv _=>Ps.length -(intOf iv).toNat)
  case atStart=>exact ⟨0,Nat.zero_le _,rfl,fun j h hj=>absurd hj (by omega),Below.refl _ _⟩
  case round=>
   obtain ⟨k,hk,rfl,hrs,hb⟩:=hrel
   by_cases hlt:k<Ps.length
   ·obtain ⟨c1,c2,c3⟩:=HC.out k hlt
    rw[←hb.cell (p:=⟨g,k * 3,none⟩) hg] at c1
    rw[←hb.cell (p:=⟨g,k * 3+1,none⟩) hg] at c2
    rw[←hb.cell (p:=⟨g,k * 3+2,none⟩) hg] at c3
    obtain ⟨x,hx⟩:∃x,x=Ps[k]:=⟨_,rfl⟩
    rw[←hx] at c1 c2 c3
    have HX:=hide hx
    clear hx
    by_cases ht:((x.2.2:Int)==0)=true
    ·go_wp2_with fail
     go_at_call 283
     refine (none_test _ _ _ _).mono ?_
     rintro e w1 ⟨rfl,b1⟩
     rw[ht]
     go_wp2_with fail
     go_ret
     exact ⟨⟨k,rfl,Or.inr ⟨by omega,x,by rw[HX.out];exact List.getElem_mem hlt,ht⟩⟩,hb.trans (b1.mono hb.size)⟩
    ·have ht':((x.2.2:Int)==0)=false:=by simpa using ht
     go_wp2_with fail
     go_at_call 283
     refine (none_test _ _ _ _).mono ?_
     rintro e w1 ⟨rfl,b1⟩
     rw[ht']
     go_wp2_with fail
     go_roundw
     case rel=>exact ⟨k+1,by omega,by go_num,fun j h hj=>by
      by_cases e:j=k
      ·subst e;rw[←HX.out];exact ht'
      ·exact hrs.out j h (by omega),hb.trans (b1.mono hb.size)⟩
     case measure=>simp[intOf];omega
   ·go_wp2_with fail
    go_ret
    exact ⟨⟨-1,rfl,Or.inl ⟨rfl,fun x hx=>by obtain ⟨j,hj,rfl⟩:=List.getElem_of_mem hx;exact hrs.out j hj (by omega)⟩⟩,hb⟩
theorem contains_none (v:Value) (Ps:List (Nat×Nat×Nat)) (hn:Ps.length≤70368744177664) (w:World) (hP:PartsAt w v Ps):
 Calls Tryz.prog 202 #[v, .func (.func 283) #[] #[]] w fun e w'=>e= .returned (.bool (Ps.any fun x=>((x.2.2:Int)==0)))∧Below w.heap.size w w':=by
 have HP:=hide hP
 clear hP
 go_enter Tryz.func202,Tryz.ntmps202
 go_wp2_with fail
 refine (index_none v Ps hn _ HP.out).mono ?_
 rintro e w1 ⟨⟨k,rfl,hk⟩,b1⟩
 have HK:=hide hk
 have hk':k=-1∨0≤k:=hk.imp And.left And.left
 clear hk HP
 rcases hk' with hk'|hk'
 ·have e0:(Ps.any fun x=>((x.2.2:Int)==0))=false:=by
   rw[List.any_eq_false]
   intro x hx
   rcases HK.out with ⟨_,h⟩|⟨h,_⟩
   ·rw[h x hx];decide
   ·omega
  have E0:=hide e0
  clear HK e0
  subst hk'
  go_wp2_with fail
  go_ret
  exact ⟨by rw[E0.out];rfl,b1⟩
 ·have e0:(Ps.any fun x=>((x.2.2:Int)==0))=true:=by
   rw[List.any_eq_true]
   rcases HK.out with ⟨h,_⟩|⟨_,h⟩
   ·omega
   ·exact h
  have E0:=hide e0
  clear HK e0
  go_wp2_with fail
  go_ret
  exact ⟨by rw[E0.out];rfl,b1⟩
theorem index_ready (v:Value) (Ps:List (Nat×Nat×Nat)) (hn:Ps.length≤70368744177664) (w:World) (hP:PartsAt w v Ps):
 Calls Tryz.prog 261 #[v, .func (.func 203) #[] #[]] w fun e w'=>(∃k:Int,e= .returned (.int .i64 k)∧((k=-1∧∀x∈Ps,((x.2.2:Int) != 2)=false)∨(0≤k∧∃x∈Ps,((x.2.2:Int) != 2)=true)))∧Below w.heap.size w w':=by
 rcases hP with ⟨rfl,rfl⟩|⟨g,cap,rfl,hg,hc⟩
 ·go_enter Tryz.func261,Tryz.ntmps261
  go_wp2_with fail
  refine wp_loop_rounds 1 ?_
  rw[rounds_succ]
  go_wp2_with fail
  go_ret
  exact ⟨⟨-1,rfl,Or.inl ⟨rfl,fun x hx=>by cases hx⟩⟩,Below.refl _ _⟩
 ·have HC:=hide hc
  clear hc
  go_enter Tryz.func261,Tryz.ntmps261
  go_wp2_with fail
  go_loopw [8] (fun iv wr=>∃k:Nat,k≤Ps.length∧iv= .int .i64 (k:Int)∧Hid (∀j (h:j<Ps.length),j<k→((Ps[j].2.2:Int) != 2)=false)∧Below w.heap.size w wr) (fun iv _=>Ps.length -(intOf iv).toNat)
  case atStart=>exact ⟨0,Nat.zero_le _,rfl,fun j h hj=>absurd hj (by omega),Below.refl _ _⟩
  case round=>
   obtain ⟨k,hk,rfl,hrs,hb⟩:=hrel
   by_cases hlt:k<Ps.length
   ·obtain ⟨c1,c2,c3⟩:=HC.out k hlt
    rw[←hb.cell (p:=⟨g,k * 3,none⟩) hg] at c1
    rw[←hb.cell (p:=⟨g,k * 3+1,none⟩) hg] at c2
    rw[←hb.cell (p:=⟨g,k * 3+2,none⟩) hg] at c3
    obtain ⟨x,hx⟩:∃x,x=Ps[k]:=⟨_,rfl⟩
    rw[←hx] at c1 c2 c3
    have HX:=hide hx
    clear hx
    by_cases ht:((x.2.2:Int) != 2)=true
    ·go_wp2_with fail
     go_at_call 203
     refine (ready_test _ _ _ _).mono ?_
     rintro e w1 ⟨rfl,b1⟩
     rw[ht]
     go_wp2_with fail
     go_ret
     exact ⟨⟨k,rfl,Or.inr ⟨by omega,x,by rw[HX.out];exact List.getElem_mem hlt,ht⟩⟩,hb.trans (b1.mono hb.size)⟩
    ·have ht':((x.2.2:Int) != 2)=false:=by simpa using ht
     go_wp2_with fail
     go_at_call 203
     refine (ready_test _ _ _ _).mono ?_
     rintro e w1 ⟨rfl,b1⟩
     rw[ht']
     go_wp2_with fail
     go_roundw
     case rel=>exact ⟨k+1,by omega,by go_num,fun j h hj=>by
      by_cases e:j=k
      ·subst e;rw[←HX.out];exact ht'
      ·exact hrs.out j h (by omega),hb.trans (b1.mono hb.size)⟩
     case measure=>simp[intOf];omega
   ·go_wp2_with fail
    go_ret
    exact ⟨⟨-1,rfl,Or.inl ⟨rfl,fun x hx=>by obtain ⟨j,hj,rfl⟩:=List.getElem_of_mem hx;exact hrs.out j hj (by omega)⟩⟩,hb⟩
theorem contains_ready (v:Value) (Ps:List (Nat×Nat×Nat)) (hn:Ps.length≤70368744177664) (w:World) (hP:PartsAt w v Ps):
 Calls Tryz.prog 202 #[v, .func (.func 203) #[] #[]] w fun e w'=>e= .returned (.bool (Ps.any fun x=>((x.2.2:Int) != 2)))∧Below w.heap.size w w':=by
 have HP:=hide hP
 clear hP
 go_enter Tryz.func202,Tryz.ntmps202
 go_wp2_with fail
 refine (index_ready v Ps hn _ HP.out).mono ?_
 rintro e w1 ⟨⟨k,rfl,hk⟩,b1⟩
 have HK:=hide hk
 have hk':k=-1∨0≤k:=hk.imp And.left And.left
 clear hk HP
 rcases hk' with hk'|hk'
 ·have e0:(Ps.any fun x=>((x.2.2:Int) != 2))=false:=by
   rw[List.any_eq_false]
   intro x hx
   rcases HK.out with ⟨_,h⟩|⟨h,_⟩
   ·rw[h x hx];decide
   ·omega
  have E0:=hide e0
  clear HK e0
  subst hk'
  go_wp2_with fail
  go_ret
  exact ⟨by rw[E0.out];rfl,b1⟩
 ·have e0:(Ps.any fun x=>((x.2.2:Int) != 2))=true:=by
   rw[List.any_eq_true]
   rcases HK.out with ⟨h,_⟩|⟨_,h⟩
   ·omega
   ·exact h
  have E0:=hide e0
  clear HK e0
  go_wp2_with fail
  go_ret
  exact ⟨by rw[E0.out];rfl,b1⟩
theorem anyNone_core (v:Value) (Ps:List (Nat×Nat×Nat)) (hn:Ps.length≤70368744177664) (w:World) (hP:PartsAt w v Ps):
 Calls Tryz.prog 236 #[v] w fun e w'=>e= .returned (.bool (Ps.any fun x=>((x.2.2:Int)==0)))∧Below w.heap.size w w':=by
 have HP:=hide hP
 clear hP
 go_enter Tryz.func236,Tryz.ntmps236
 go_wp2_with fail
 refine (contains_none v Ps hn _ HP.out).mono ?_
 rintro e w1 ⟨rfl,b1⟩
 go_wp2_with fail
 go_ret
 exact ⟨rfl,b1⟩
theorem allReady_core (v:Value) (Ps:List (Nat×Nat×Nat)) (hn:Ps.length≤70368744177664) (w:World) (hP:PartsAt w v Ps):
 Calls Tryz.prog 147 #[v] w fun e w'=>e= .returned (.bool (!(Ps.any fun x=>((x.2.2:Int) != 2))))∧Below w.heap.size w w':=by
 have HP:=hide hP
 clear hP
 go_enter Tryz.func147,Tryz.ntmps147
 go_wp2_with fail
 refine (contains_ready v Ps hn _ HP.out).mono ?_
 rintro e w1 ⟨rfl,b1⟩
 have hnot:∀(x:Bool) (w:World),(Op.unary .not (.bool x)).run Tryz.prog w= .ok (.bool (!x)) w:=fun _ _=>rfl
 go_wp2_with fail
 go_ret
 exact ⟨rfl,b1⟩
end Go.Proofs.YtdgdhnnakcncoaaGreatDoor.V
