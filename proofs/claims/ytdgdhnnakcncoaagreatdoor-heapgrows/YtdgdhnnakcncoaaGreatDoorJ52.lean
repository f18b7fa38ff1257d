/- Of the proof of HeapClasses: texts VVmC. -/
import Derived.Test.YtdgdhnnakcncoaaGreatDoorJ28
import Derived.Deep.RegionHeld3
import Derived.Deep.AppendLies
namespace Go.Proofs.YtdgdhnnakcncoaaGreatDoor.V
set_option maxHeartbeats 1600000
open Go.ChangeShapes Go.WideShapes Go.ChangeAt Go.RowKit Go.Proofs.Sp
theorem infoP:(Tryz.prog.info? 301).map (fun i=>(i.zero,i.size,i.bytes))=some (some (.agg #[.int .u64 0, .int .u64 0, .int .i64 0]),3,24):=by kernel_rfl
def flat3 (Ps:List (Nat×Nat×Nat)):List Value:=Ps.flatMap fun x=>[.int .u64 (x.1:Int), .int .u64 (x.2.1:Int), .int .i64 (x.2.2:Int)]
theorem flat3_snoc (Ps:List (Nat×Nat×Nat)) (a b s:Nat):flat3 (Ps++ [(a,b,s)])=flat3 Ps++ [.int .u64 (a:Int), .int .u64 (b:Int), .int .i64 (s:Int)]:=by simp[flat3]
theorem flat3_get (Ps:List (Nat×Nat×Nat)) (i:Nat) (h:i<Ps.length):(flat3 Ps)[i * 3]? =some (.int .u64 (Ps[i].1:Int))∧(flat3 Ps)[i * 3+1]? =some (.int .u64 (Ps[i].2.1:Int))∧(flat3 Ps)[i * 3+2]? =some (.int .i64 (Ps[i].2.2:Int)):=by
 induction Ps generalizing i with
 |nil=>exact absurd h (by simp)
 |cons x r ih=>
  have e:flat3 (x::r)= .int .u64 (x.1:Int):: .int .u64 (x.2.1:Int):: .int .i64 (x.2.2:Int)::flat3 r:=by simp[flat3]
  rw[e]
  cases i with
  |zero=>exact ⟨rfl,rfl,rfl⟩
  |succ i=>
   have:=ih i (by simpa using h)
   rw[show (i+1) * 3=i * 3+1+1+1 by omega]
   exact this
theorem parts_of_owns {w:World} {base:Nat} {v:Value} {Ps:List (Nat×Nat×Nat)} (h:w.ownsRow base 301 3 v Ps.length (flat3 Ps)):PartsAt w v Ps:=by
 rcases h.2 with ⟨h1,h2⟩|⟨g,cap,cur,h1,h2,h3,h4,h5,h6,h7⟩
 ·exact Or.inl ⟨h1,List.eq_nil_of_length_eq_zero h2⟩
 ·have hc:=h.cells (g:=g) (by rw[h1];rfl)
  refine Or.inr ⟨g,cap,h1,(Array.getElem?_eq_some_iff.1 h3).1,fun i hi=> ?_⟩
  obtain ⟨q1,q2,q3⟩:=flat3_get Ps i hi
  have a1:=hc _ _ q1
  have a2:=hc _ _ q2
  have a3:=hc _ _ q3
  rw[addr_add0,Nat.zero_add] at a1 a2 a3
  exact ⟨a1,a2,a3⟩
theorem grow_old {W w1:World} {base:Nat} {e:TypeId} {v:Value} {n size:Nat} {xs:List Value} {ob:Obj} {B o:Nat} (hown:W.ownsRow base e size v n xs) (hg:((W.drewN 1).alloc ob).grownBy w1 v.ownBlock) (hlt:B<base) (hb:base≤W.heap.size):w1.cell? ⟨B,o,none⟩=W.cell? ⟨B,o,none⟩:=by
 have e1:=hg.cell_far ⟨B,o,none⟩ (by show B<((W.drewN 1).alloc ob).heap.size;simp;have:(W.drewN 1).heap.size=W.heap.size:=rfl;omega) (by intro h;have:=hown.lt _ h.symm;simp at this;omega)
 rw[e1,World.cell?_alloc_lt _ _ _ (by show B<(W.drewN 1).heap.size;have:(W.drewN 1).heap.size=W.heap.size:=rfl;omega)]
 rfl
theorem own_snoc {w:World} {base:Nat} {v:Value} {Ps:List (Nat×Nat×Nat)} {A B:Int} {c d s:Nat} (h:w.ownsRow base 301 3 v (Ps.length+1) (flat3 Ps++ [.int .u64 A, .int .u64 B, .int .i64 (s:Int)])) (hA:(c:Int)=A) (hB:(d:Int)=B):
 Hid (w.ownsRow base 301 3 v (Ps++ [(c,d,s)]).length (flat3 (Ps++ [(c,d,s)]))):=by
 have e:(Ps++ [(c,d,s)]).length=Ps.length+1:=by simp
 have h2:w.ownsRow base 301 3 v (Ps++ [(c,d,s)]).length (flat3 (Ps++ [(c,d,s)])):=by rw[e,flat3_snoc,hA,hB];exact h
 exact h2
structure PState (f:Nat→Nat) (R:List (Nat×Nat)) (first e i:Nat) (Ps:List (Nat×Nat×Nat)) (c:Nat):Prop where
 cover:Cover f first Ps c
 len:Ps.length≤i
 il:i≤R.length
 fc:first≤c
 ce:c≤e
 go:c<e→∃hi:i<R.length,R[i].1≤c∧c<startR R 34359738368 (i+1)∧max first R[i].1=c
 stop:c=e→R.length≤i∨∃hi:i<R.length,e≤R[i].1
theorem PState.next {f:Nat→Nat} {R:List (Nat×Nat)} {first e i c:Nat} {Ps:List (Nat×Nat×Nat)} (hs:Seg f 0 R 34359738368) (he:e≤34359738368) (h:PState f R first e i Ps c) (hc:c<e) (hi:i<R.length):
 PState f R first e (i+1) (Ps++ [(c,min e (startR R 34359738368 (i+1)),R[i].2)]) (min e (startR R 34359738368 (i+1))):=by
 obtain ⟨_,h1,h2,h3⟩:=h.go hc
 have r:=hs.row i hi
 have fc:=h.fc
 refine ⟨h.cover.snoc _ _ (by omega) (fun p p1 p2=>r.2.2.2 p (by omega) (by omega)),?_,by omega,by omega,by omega,fun q=> ?_,fun q=> ?_⟩
 ·rw[List.length_append];have:=h.len;simp;omega
 ·have hi1:i+1<R.length:=by
   by_cases z:i+1<R.length
   ·exact z
   ·rw[startR_ge (by omega)] at q;omega
  have r1:=hs.row (i+1) hi1
  rw[startR_lt hi1] at *
  exact ⟨hi1,by omega,by omega,by omega⟩
 ·by_cases z:i+1<R.length
  ·right
   rw[startR_lt z] at q
   exact ⟨z,by omega⟩
  ·left;omega
set_option maxHeartbeats 4000000 in
set_option maxRecDepth 100000 in
theorem parts_core (b o g cap:Nat) (R:List (Nat×Nat)) (f:Nat→Nat) (p q:Int) (hp:0≤p) (hpq:p<q) (hq:q≤34359738368) (hn:R.length≤2199023255552) (w:World) (hL:ListAt w b o g cap R) (hs:Seg f 0 R 34359738368):
 Calls Tryz.prog 148 #[.pointer (some ⟨b,o,none⟩), .int .u64 p, .int .u64 q] w fun e w'=>∃v Ps,e= .returned v∧PartsAt w' v Ps∧Cover f p.toNat Ps q.toNat∧Ps.length≤R.length∧(∀k,v.ownBlock=some k→w.heap.size≤k)∧Below w.heap.size w w':=by
 obtain ⟨i0,hi0,a1,a2⟩:=hs.at p.toNat (by omega) (by omega)
 obtain ⟨ii,hii,hz0,hz1,hz2⟩:=info_parts infoP
 have start:PState f R p.toNat q.toNat i0 [] p.toNat:=⟨rfl,Nat.zero_le _,by omega,by omega,by omega,fun _=>⟨hi0,a1,a2,by omega⟩,fun h=>by omega⟩
 have hl:=hL.list
 have hlt:=cell_lt hl
 have HL:=hide hL
 have HS:=hide hs
 have A:=hide (And.intro a1 a2)
 have ST:=hide start
 clear hL hs a1 a2 start
 go_enter Tryz.func148,Tryz.ntmps148
 go_wp2_with fail
 refine (at_core b o g cap R f p hp (by omega) (by omega) _ HL.out HS.out i0 hi0 A.out.1 A.out.2).mono ?_
 rintro e w1 ⟨rfl,b1⟩
 clear A
 go_wp2_with fail
 go_loopw [7,8] (fun ov iv wr=>∃(i:Nat) (Ps:List (Nat×Nat×Nat)) (c:Nat),iv= .int .i64 (i:Int)∧i≤R.length∧Hid (PState f R p.toNat q.toNat i Ps c)∧Hid (wr.ownsRow w.heap.size 301 3 ov Ps.length (flat3 Ps))∧Below w.heap.size w wr) (fun _ iv _=>R.length -(intOf iv).toNat)
 case atStart=>exact ⟨i0,[],p.toNat,rfl,by omega,ST,World.ownsRow_nil _ _ _ _,b1⟩
 case round=>
  obtain ⟨i,Ps,c,rfl,hil,hP,hO,hb⟩:=hrel
  clear b1 ST
  have hl':wr.cell? ⟨b,o,none⟩=some (.slice (some ⟨g,0,none⟩) R.length cap):=by rw[hb.cell (p:=⟨b,o,none⟩) hlt];exact hl
  by_cases hc:c<q.toNat
  ·obtain ⟨hi,q1,q2,q3⟩:=hP.out.go hc
   have nx:=hP.out.next HS.out (by omega) hc hi
   have f1:=HL.out.first i hi
   have f2:=HL.out.state i hi
   have hgl:=cell_lt f1
   rw[←hb.cell (p:=⟨g,i * 2,none⟩) hgl] at f1
   rw[←hb.cell (p:=⟨g,i * 2+1,none⟩) hgl] at f2
   have ec:=end_core b o g cap R (i:Int) (by omega) (by omega) (by omega)
   rw[show ((i:Int).toNat+1)=i+1 by omega] at ec
   obtain ⟨x,hx⟩:∃x,x=R[i].1:=⟨_,rfl⟩
   obtain ⟨s,hsx⟩:∃s,s=R[i].2:=⟨_,rfl⟩
   obtain ⟨y,hy⟩:∃y,y=startR R 34359738368 (i+1):=⟨_,rfl⟩
   rw[←hx] at f1 q1 q3
   rw[←hsx] at f2 nx
   rw[←hy] at q2 nx ec
   have hxq:(x:Int)<q:=by omega
   have NX:=hide nx
   have EC:=hide ec
   clear nx ec hx hsx hy hc
   have hlen:Ps.length≤2199023255552:=by have:=hP.out.len;omega
   clear hP
   have hwr:=hb.size
   by_cases m1:p<(x:Int)
   ·by_cases m2:(y:Int)<q
    ·skip
     go_wp2_with fail
     go_region_held3 (fun w'=>w'.cell? ⟨b,o,none⟩=some (.slice (some ⟨g,0,none⟩) R.length cap)∧w'.cell? ⟨g,i * 2,none⟩=some (.int .u64 (x:Int))∧w'.cell? ⟨g,i * 2+1,none⟩=some (.int .i64 (s:Int))) (go_keep) (first
      |(go_at_call 204;refine (EC.out _ (HL.out.below (below_drewN hb 1))).mono ?_;rintro e w' ⟨rfl,rfl⟩)
      |(
       refine step_append_lies _ rfl (.tmp 33) (.tmp 58) 246 rfl w.heap.size 301 ii _ 3 24 Tryz.underlying246 hii hz0 hz1 hz2 rfl (by decide) _ Ps.length (flat3 Ps) (by simp[Act.eval]) (World.ownsRow.alloc (w:=wr.drewN 1) hO.out _) ⟨wr.heap.size,0,none⟩ 1 1 [.int .u64 (x:Int), .int .u64 (y:Int), .int .i64 (s:Int)] (by simp[Act.eval]) rfl (World.news_of_block (B:=wr.heap.size) (heap_alloc_new (wr.drewN 1) _)) (by simp[Value.oneCell']) (by decide) (by unfold maxLen;omega) (by omega) (by simp;omega) _ rfl ?_
       intro g1 cap1 w1 hown1 hgrow1 hat1 hlt1
       have k1:=grow_old (o:=o) hO.out hgrow1 hlt hb.size
       have k2:=grow_old (o:=i * 2) hO.out hgrow1 hgl hb.size
       have k3:=grow_old (o:=i * 2+1) hO.out hgrow1 hgl hb.size))
     all_goals
      have HO1:=own_snoc hown1 (c:=c) (d:=min q.toNat y) (by omega) (by omega)
      have bel:Below w.heap.size w w1:=((below_drewN hb 1).alloc hwr _).grown hgrow1 (by simp;have:(wr.drewN 1).heap.size=wr.heap.size:=rfl;omega) (by intro k hk;exact (hO.out.lt k hk).1)
      clear hown1 hgrow1 hat1 k1 k2 k3 hlt1 hO f1 f2 hl' EC
      go_wp2_with fail
      go_roundw
      case rel=>exact ⟨i+1,_,_,by go_num,by omega,NX,HO1,bel⟩
      case measure=>simp[intOf];omega
    ·skip
     have e2:(if (y:Int)<q then (y:Int) else q)=q:=if_neg m2
     go_wp2_with fail
     go_region_held3 (fun w'=>w'.cell? ⟨b,o,none⟩=some (.slice (some ⟨g,0,none⟩) R.length cap)∧w'.cell? ⟨g,i * 2,none⟩=some (.int .u64 (x:Int))∧w'.cell? ⟨g,i * 2+1,none⟩=some (.int .i64 (s:Int))) (go_keep) (first
      |(go_at_call 204;refine (EC.out _ (HL.out.below (below_drewN hb 1))).mono ?_;rintro e w' ⟨rfl,rfl⟩)
      |(
       refine step_append_lies _ rfl (.tmp 33) (.tmp 58) 246 rfl w.heap.size 301 ii _ 3 24 Tryz.underlying246 hii hz0 hz1 hz2 rfl (by decide) _ Ps.length (flat3 Ps) (by simp[Act.eval]) (World.ownsRow.alloc (w:=wr.drewN 1) hO.out _) ⟨wr.heap.size,0,none⟩ 1 1 [.int .u64 (x:Int), .int .u64 q, .int .i64 (s:Int)] (by simp[Act.eval]) rfl (World.news_of_block (B:=wr.heap.size) (heap_alloc_new (wr.drewN 1) _)) (by simp[Value.oneCell']) (by decide) (by unfold maxLen;omega) (by omega) (by simp;omega) _ rfl ?_
       intro g1 cap1 w1 hown1 hgrow1 hat1 hlt1
       have k1:=grow_old (o:=o) hO.out hgrow1 hlt hb.size
       have k2:=grow_old (o:=i * 2) hO.out hgrow1 hgl hb.size
       have k3:=grow_old (o:=i * 2+1) hO.out hgrow1 hgl hb.size))
     all_goals
      have HO1:=own_snoc hown1 (c:=c) (d:=min q.toNat y) (by omega) (by omega)
      have bel:Below w.heap.size w w1:=((below_drewN hb 1).alloc hwr _).grown hgrow1 (by simp;have:(wr.drewN 1).heap.size=wr.heap.size:=rfl;omega) (by intro k hk;exact (hO.out.lt k hk).1)
      clear hown1 hgrow1 hat1 k1 k2 k3 hlt1 hO f1 f2 hl' EC
      go_wp2_with fail
      go_roundw
      case rel=>exact ⟨i+1,_,_,by go_num,by omega,NX,HO1,bel⟩
      case measure=>simp[intOf];omega
   ·by_cases m2:(y:Int)<q
    ·skip
     have e1:(if p<(x:Int) then (x:Int) else p)=p:=if_neg m1
     go_wp2_with fail
     go_region_held3 (fun w'=>w'.cell? ⟨b,o,none⟩=some (.slice (some ⟨g,0,none⟩) R.length cap)∧w'.cell? ⟨g,i * 2,none⟩=some (.int .u64 (x:Int))∧w'.cell? ⟨g,i * 2+1,none⟩=some (.int .i64 (s:Int))) (go_keep) (first
      |(go_at_call 204;refine (EC.out _ (HL.out.below (below_drewN hb 1))).mono ?_;rintro e w' ⟨rfl,rfl⟩)
      |(
       refine step_append_lies _ rfl (.tmp 33) (.tmp 58) 246 rfl w.heap.size 301 ii _ 3 24 Tryz.underlying246 hii hz0 hz1 hz2 rfl (by decide) _ Ps.length (flat3 Ps) (by simp[Act.eval]) (World.ownsRow.alloc (w:=wr.drewN 1) hO.out _) ⟨wr.heap.size,0,none⟩ 1 1 [.int .u64 p, .int .u64 (y:Int), .int .i64 (s:Int)] (by simp[Act.eval]) rfl (World.news_of_block (B:=wr.heap.size) (heap_alloc_new (wr.drewN 1) _)) (by simp[Value.oneCell']) (by decide) (by unfold maxLen;omega) (by omega) (by simp;omega) _ rfl ?_
       intro g1 cap1 w1 hown1 hgrow1 hat1 hlt1
       have k1:=grow_old (o:=o) hO.out hgrow1 hlt hb.size
       have k2:=grow_old (o:=i * 2) hO.out hgrow1 hgl hb.size
       have k3:=grow_old (o:=i * 2+1) hO.out hgrow1 hgl hb.size))
     all_goals
      have HO1:=own_snoc hown1 (c:=c) (d:=min q.toNat y) (by omega) (by omega)
      have bel:Below w.heap.size w w1:=((below_drewN hb 1).alloc hwr _).grown hgrow1 (by simp;have:(wr.drewN 1).heap.size=wr.heap.size:=rfl;omega) (by intro k hk;exact (hO.out.lt k hk).1)
      clear hown1 hgrow1 hat1 k1 k2 k3 hlt1 hO f1 f2 hl' EC
      go_wp2_with fail
      go_roundw
      case rel=>exact ⟨i+1,_,_,by go_num,by omega,NX,HO1,bel⟩
      case measure=>simp[intOf];omega
    ·skip
     have e1:(if p<(x:Int) then (x:Int) else p)=p:=if_neg m1
     have e2:(if (y:Int)<q then (y:Int) else q)=q:=if_neg m2
     go_wp2_with fail
     go_region_held3 (fun w'=>w'.cell? ⟨b,o,none⟩=some (.slice (some ⟨g,0,none⟩) R.length cap)∧w'.cell? ⟨g,i * 2,none⟩=some (.int .u64 (x:Int))∧w'.cell? ⟨g,i * 2+1,none⟩=some (.int .i64 (s:Int))) (go_keep) (first
      |(go_at_call 204;refine (EC.out _ (HL.out.below (below_drewN hb 1))).mono ?_;rintro e w' ⟨rfl,rfl⟩)
      |(
       refine step_append_lies _ rfl (.tmp 33) (.tmp 58) 246 rfl w.heap.size 301 ii _ 3 24 Tryz.underlying246 hii hz0 hz1 hz2 rfl (by decide) _ Ps.length (flat3 Ps) (by simp[Act.eval]) (World.ownsRow.alloc (w:=wr.drewN 1) hO.out _) ⟨wr.heap.size,0,none⟩ 1 1 [.int .u64 p, .int .u64 q, .int .i64 (s:Int)] (by simp[Act.eval]) rfl (World.news_of_block (B:=wr.heap.size) (heap_alloc_new (wr.drewN 1) _)) (by simp[Value.oneCell']) (by decide) (by unfold maxLen;omega) (by omega) (by simp;omega) _ rfl ?_
       intro g1 cap1 w1 hown1 hgrow1 hat1 hlt1
       have k1:=grow_old (o:=o) hO.out hgrow1 hlt hb.size
       have k2:=grow_old (o:=i * 2) hO.out hgrow1 hgl hb.size
       have k3:=grow_old (o:=i * 2+1) hO.out hgrow1 hgl hb.size))
     all_goals
      have HO1:=own_snoc hown1 (c:=c) (d:=min q.toNat y) (by omega) (by omega)
      have bel:Below w.heap.size w w1:=((below_drewN hb 1).alloc hwr _).grown hgrow1 (by simp;have:(wr.drewN 1).heap.size=wr.heap.size:=rfl;omega) (by intro k hk;exact (hO.out.lt k hk).1)
      clear hown1 hgrow1 hat1 k1 k2 k3 hlt1 hO f1 f2 hl' EC
      go_wp2_with fail
      go_roundw
      case rel=>exact ⟨i+1,_,_,by go_num,by omega,NX,HO1,bel⟩
      case measure=>simp[intOf];omega
  ·have ce:=hP.out.ce
   have hcq:c=q.toNat:=by omega
   have cov:=hP.out.cover
   rw[hcq] at cov
   have hlen:Ps.length≤R.length:=by have:=hP.out.len;omega
   have fin:=And.intro (parts_of_owns hO.out) (And.intro cov (And.intro hlen (fun k hk=>(hO.out.lt k hk).1)))
   have FIN:=hide fin
   have stop:=hP.out.stop hcq
   clear fin cov hP hO hcq ce hc hlen
   by_cases hi:i<R.length
   ·have hx:q≤(R[i].1:Int):=by
     rcases stop with h|⟨_,h⟩
     ·omega
     ·omega
    have f1:=HL.out.first i hi
    rw[←hb.cell (p:=⟨g,i * 2,none⟩) (cell_lt f1)] at f1
    obtain ⟨x,hxx⟩:∃x,x=R[i].1:=⟨_,rfl⟩
    rw[←hxx] at hx f1
    clear hxx stop
    go_wp2_with fail
    go_ret
    exact ⟨_,Ps,rfl,FIN.out.1,FIN.out.2.1,FIN.out.2.2.1,FIN.out.2.2.2,hb⟩
   ·clear stop
    go_wp2_with fail
    go_ret
    exact ⟨_,Ps,rfl,FIN.out.1,FIN.out.2.1,FIN.out.2.2.1,FIN.out.2.2.2,hb⟩
end Go.Proofs.YtdgdhnnakcncoaaGreatDoor.V
