/- Of the proof of HeapGrows: texts VVmNa, VVmNb, VGx. -/
import Derived.Test.YtdgdhnnakcncoaaGreatDoorJ60
import Derived.Deep.RegionWith
import Derived.Deep.RegionHeld3
namespace Go.Proofs.YtdgdhnnakcncoaaGreatDoor.V
set_option maxHeartbeats 1600000
open Go.ChangeShapes Go.WideShapes Go.ChangeAt Go.RowKit Go.Proofs.Sp
theorem infoBo:(Tryz.prog.info? 4).map (fun i=>(i.zero,i.size,i.bytes))=some (some (.bool false),1,1):=by kernel_rfl
theorem slB_of_owns {w:World} {base:Nat} {e:TypeId} {v:Value} {n:Nat} {xs:List Value} (h:w.ownsRow base e 1 v n xs) (hv:v≠ .slice none 0 0):∃g,SlB w v xs g∧base≤g∧g<w.heap.size:=by
 have hs:=Sl.of_owns h
 obtain ⟨hl,h|⟨g,cap,cur,hv',hg,hh,hc,hm,hs',ht⟩⟩:=h
 ·exact absurd h.1 hv
 ·have hgl:=(Array.getElem?_eq_some_iff.1 hh).1
  rcases hs with ⟨e,_⟩|⟨b,off,cp,e,h1,h2,h3⟩
  ·exact absurd e hv
  ·rw[hv'] at e
   injection e with e1 e2 e3
   injection e1 with e1
   injection e1 with e4 e5
   subst e4 e5 e3
   exact ⟨g,Or.inr ⟨0,cap,by rw[hv',e2],h1,by unfold maxLen at hm;omega,h2,h3⟩,hg,hgl⟩
theorem own_blk (B:Nat):∀k,(Value.slice (some ⟨B,0,none⟩) 0 0).ownBlock=some k→B≤k:=fun k hk=>by
 have:B=k:=by simpa [Value.ownBlock] using hk
 omega
set_option maxRecDepth 100000 in
theorem clone_u64 (v:Value) (xs:List Nat) (w:World) (hs:Sl w v (u64s xs)) (hn:xs.length≤1048576):
 Calls Tryz.prog 37 #[v] w fun e w'=>∃v' g,e= .returned v'∧SlB w' v' (u64s xs) g∧w.heap.size≤g∧g≤w'.heap.size∧Below w.heap.size w w':=by
 have hq0:∀w:World,(binOp .eql 22 (.slice none 0 0) (.slice none 0 0)).run Tryz.prog w= .ok (.bool true) w:=fun _=>rfl
 have hq1:∀(ad:Addr) (n c:Nat) (w:World),(binOp .eql 22 (.slice (some ad) n c) (.slice none 0 0)).run Tryz.prog w= .ok (.bool false) w:=fun _ _ _ _=>rfl
 rcases hs with ⟨rfl,h0⟩|⟨b,off,cap,rfl,h1,h2,h3⟩
 ·have H0:=hide h0
  clear h0
  go_enter Tryz.func37,Tryz.ntmps37
  go_wp2_with fail
  go_ret
  exact ⟨_,w.heap.size,rfl,Or.inl ⟨rfl,H0.out⟩,Nat.le_refl _,Nat.le_refl _,Below.refl _ _⟩
 ·obtain ⟨ii,hii,hz0,hz1,hz2⟩:=info_parts infoU
  have H3:Hid (∀j u,(u64s xs)[j]? =some u→(w.alloc (.cells #[] 39)).cell? ((⟨b,off,none⟩:Addr).add j)=some u):=hide (fun j u hu=>by
   rw[addr_add0,World.cell?_of_block (Below.heap_alloc _ _ b h2)]
   exact h3 j u hu)
  have HL:Hid ((u64s xs).length=(u64s xs).length * 1):=hide (by omega)
  have e0:(u64s xs).length=xs.length:=by simp[u64s]
  obtain ⟨n,hnn⟩:∃n,n=(u64s xs).length:=⟨_,rfl⟩
  rw[←hnn] at HL e0 h1 ⊢
  have HN:=hide hnn
  have hn':n≤1048576:=by omega
  clear h3 hnn e0
  go_enter Tryz.func37,Tryz.ntmps37
  go_wp2_with (first|(at_builtin;refine wpList_append_own _ rfl (.tmp 5) (.tmp 6) 22 rfl w.heap.size 39 ii (.int .u64 0) 1 8 Tryz.underlying22 hii hz0 hz1 hz2 rfl (by decide) (.slice (some ⟨w.heap.size,0,none⟩) 0 0) 0 [] rfl (own_empty w 39 1) ⟨b,off,none⟩ n cap (u64s xs) rfl (HN.out▸HL.out) H3.out (u64s_one xs) (by unfold maxLen;omega) (by omega) (by simp) ?_;intro v' w1 hown hgrow hnil))
  go_ret
  have hv:v'≠ .slice none 0 0:=fun z=>by have:=(hnil.1 z).1;cases this
  obtain ⟨g,k1,k2,k3⟩:=slB_of_owns hown hv
  exact ⟨v',g,rfl,k1,k2,Nat.le_of_lt k3,((Below.refl _ _).alloc (Nat.le_refl _) _).grown hgrow (by simp) (own_blk _)⟩
theorem bools_one (l:List Bool):∀u∈bools l,u.oneCell'=true:=by
 intro u hu
 unfold bools at hu
 obtain ⟨x,_,rfl⟩:=List.mem_map.1 hu
 rfl
set_option maxRecDepth 100000 in
theorem clone_bool (v:Value) (xs:List Bool) (w:World) (hs:Sl w v (bools xs)) (hn:xs.length≤1048576):
 Calls Tryz.prog 38 #[v] w fun e w'=>∃v' g,e= .returned v'∧SlB w' v' (bools xs) g∧w.heap.size≤g∧g≤w'.heap.size∧Below w.heap.size w w':=by
 have hq0:∀w:World,(binOp .eql 23 (.slice none 0 0) (.slice none 0 0)).run Tryz.prog w= .ok (.bool true) w:=fun _=>rfl
 have hq1:∀(ad:Addr) (n c:Nat) (w:World),(binOp .eql 23 (.slice (some ad) n c) (.slice none 0 0)).run Tryz.prog w= .ok (.bool false) w:=fun _ _ _ _=>rfl
 rcases hs with ⟨rfl,h0⟩|⟨b,off,cap,rfl,h1,h2,h3⟩
 ·have H0:=hide h0
  clear h0
  go_enter Tryz.func38,Tryz.ntmps38
  go_wp2_with fail
  go_ret
  exact ⟨_,w.heap.size,rfl,Or.inl ⟨rfl,H0.out⟩,Nat.le_refl _,Nat.le_refl _,Below.refl _ _⟩
 ·obtain ⟨ii,hii,hz0,hz1,hz2⟩:=info_parts infoBo
  have H3:Hid (∀j u,(bools xs)[j]? =some u→(w.alloc (.cells #[] 4)).cell? ((⟨b,off,none⟩:Addr).add j)=some u):=hide (fun j u hu=>by
   rw[addr_add0,World.cell?_of_block (Below.heap_alloc _ _ b h2)]
   exact h3 j u hu)
  have HL:Hid ((bools xs).length=(bools xs).length * 1):=hide (by omega)
  have e0:(bools xs).length=xs.length:=by simp[bools]
  obtain ⟨n,hnn⟩:∃n,n=(bools xs).length:=⟨_,rfl⟩
  rw[←hnn] at HL e0 h1 ⊢
  have HN:=hide hnn
  have hn':n≤1048576:=by omega
  clear h3 hnn e0
  go_enter Tryz.func38,Tryz.ntmps38
  go_wp2_with (first|(at_builtin;refine wpList_append_own _ rfl (.tmp 5) (.tmp 6) 23 rfl w.heap.size 4 ii (.bool false) 1 1 Tryz.underlying23 hii hz0 hz1 hz2 rfl (by decide) (.slice (some ⟨w.heap.size,0,none⟩) 0 0) 0 [] rfl (own_empty w 4 1) ⟨b,off,none⟩ n cap (bools xs) rfl (HN.out▸HL.out) H3.out (bools_one xs) (by unfold maxLen;omega) (by omega) (by simp) ?_;intro v' w1 hown hgrow hnil))
  go_ret
  have hv:v'≠ .slice none 0 0:=fun z=>by have:=(hnil.1 z).1;cases this
  obtain ⟨g,k1,k2,k3⟩:=slB_of_owns hown hv
  exact ⟨v',g,rfl,k1,k2,Nat.le_of_lt k3,((Below.refl _ _).alloc (Nat.le_refl _) _).grown hgrow (by simp) (own_blk _)⟩
theorem newRows_core (w:World):Calls Tryz.prog 39 #[] w fun e w'=>∃g,e= .returned (.agg #[.slice (some ⟨g,0,none⟩) 1 1, .int .u64 34359738368, .int .u64 0, .int .u64 0, .int .u64 0])∧HoldsR w' g 1 [(0,0)]∧w.heap.size≤g∧g<w'.heap.size∧Below w.heap.size w w':=by
 go_enter Tryz.func39,Tryz.ntmps39
 go_wp2_with fail
 simp[bodyPost,results,Tryz.results39,go_sem]
 refine ⟨⟨⟨[.int .u64 0, .int .i64 0],⟨?_,rfl,by decide⟩,rfl⟩,by decide⟩,(((Below.refl _ _).alloc (Nat.le_refl _) _).alloc (by simp) _).alloc (by simp;omega) _⟩
 rw[Below.heap_alloc _ _ (w.heap.size+1) (by simp)]
 have:=heap_alloc_new (w.alloc (.cells #[.slice (some ⟨w.heap.size+1,0,none⟩) 1 1, .int .u64 34359738368, .int .u64 0, .int .u64 0, .int .u64 0] 87)) (.cells #[.int .u64 0, .int .i64 0] 170)
 rwa[show (w.alloc (.cells #[.slice (some ⟨w.heap.size+1,0,none⟩) 1 1, .int .u64 34359738368, .int .u64 0, .int .u64 0, .int .u64 0] 87)).heap.size=w.heap.size+1 by simp] at this
theorem newWords_core (w:World):Calls Tryz.prog 40 #[] w fun e w'=>∃bp bf,e= .returned (.agg #[.map (some bp), .map (some bf)])∧MapIs w' ptrElem bp 0 (fun _=>0)∧MapIs w' numElem bf 0 (fun _=>0)∧bp≠bf∧w.heap.size≤bp∧w.heap.size≤bf∧Below w.heap.size w w':=by
 have hmk:∀w:World,(Instr.makeMap 89 none).run Tryz.prog w= .ok (.map (some w.heap.size)) (w.alloc (.map #[] 0)):=fun _=>rfl
 have hmk2:∀w:World,(Instr.makeMap 90 none).run Tryz.prog w= .ok (.map (some w.heap.size)) (w.alloc (.map #[] 0)):=fun _=>rfl
 go_enter Tryz.func40,Tryz.ntmps40
 go_wp2_with fail
 have key:∀o:Obj,MapIs (((w.alloc o).alloc (.map #[] 0)).alloc (.map #[] 0)) ptrElem (w.heap.size+1) 0 (fun _=>0)∧MapIs (((w.alloc o).alloc (.map #[] 0)).alloc (.map #[] 0)) numElem (w.heap.size+1+1) 0 (fun _=>0):=fun o=>by
  have h1:=MapIs.made (w.alloc o) ptrElem
  have h2:=MapIs.made ((w.alloc o).alloc (.map #[] 0)) numElem
  rw[show (w.alloc o).heap.size=w.heap.size+1 by simp] at h1
  rw[show ((w.alloc o).alloc (.map #[] 0)).heap.size=w.heap.size+1+1 by simp] at h2
  exact ⟨h1.kept (Below.heap_alloc _ _ _ (by simp)),h2⟩
 simp[bodyPost,results,Tryz.results40,go_sem]
 exact ⟨_,_,⟨rfl,rfl⟩,(key _).1,(key _).2,by omega,by omega,by omega,(((Below.refl _ _).alloc (Nat.le_refl _) _).alloc (by simp) _).alloc (by simp;omega) _⟩
theorem Sl.below {w w':World} {v:Value} {xs:List Value} (h:Sl w v xs) (hb:Below w.heap.size w w'):Sl w' v xs:=by
 rcases h with h|⟨b,off,cap,h1,h2,h3,h4⟩
 ·exact Or.inl h
 ·exact Or.inr ⟨b,off,cap,h1,h2,Nat.lt_of_lt_of_le h3 hb.size,fun j u hu=>by rw[hb.cell (p:=⟨b,off+j,none⟩) h3];exact h4 j u hu⟩
theorem SlB.shape {w:World} {v:Value} {xs:List Value} {g:Nat} (h:SlB w v xs g):∃o m c,v= .slice o m c:=by
 rcases h with ⟨h,_⟩|⟨off,cap,h,_⟩
 ·exact ⟨_,_,_,h⟩
 ·exact ⟨_,_,_,h⟩
theorem cell_new (w:World) (c:Array Value) (t:TypeId) (k:Nat):(w.alloc (.cells c t)).cell? ⟨w.heap.size,k,none⟩=c[k]? :=by
 rw[cell_of_row _ w.heap.size k c t (0,0) (heap_alloc_new w (.cells c t))]
theorem SlB.below {w w':World} {v:Value} {xs:List Value} {g:Nat} (h:SlB w v xs g) (hb:Below w.heap.size w w'):SlB w' v xs g:=h.kept hb.size (fun hg=>hb.block g hg)
theorem new_lies {A1 A2 A3 A4 A5:World} {x0 x1 x2:Value} {pl:List Nat} {re:List Bool} {fi:List Nat} {g0 g1 g2 g bp bf:Nat} (B2:Below A1.heap.size A1 A2) (B3:Below A2.heap.size A2 A3) (B4:Below A3.heap.size A3 A4) (B5:Below A4.heap.size A4 A5)
 (P0:SlB A1 x0 (u64s pl) g0) (P1:SlB A2 x1 (bools re) g1) (P2:SlB A3 x2 (u64s fi) g2) (r0:g0≤A1.heap.size) (r1:g1≤A2.heap.size) (r2:g2≤A3.heap.size) (P3:HoldsR A4 g 1 [(0,0)]) (q3:A3.heap.size≤g) (r3:g<A4.heap.size)
 (P4:MapIs A5 ptrElem bp 0 (fun _=>0)) (P5:MapIs A5 numElem bf 0 (fun _=>0)) (q4:bp≠bf) (q5:A4.heap.size≤bp) (q6:A4.heap.size≤bf):
 Lies (A5.alloc (.cells #[x0,x1,x2, .slice (some ⟨g,0,none⟩) 1 1, .int .u64 34359738368, .int .u64 0, .int .u64 0, .int .u64 0, .map (some bp), .map (some bf)] 95)) A5.heap.size pl re fi (fun _=>0) g0 g1 g2 g 1 [(0,0)] bp bf 0 (fun _=>0) (fun _=>0) (fun _ _=>0):=by
 have s2:=B2.size
 have s3:=B3.size
 have s4:=B4.size
 have s5:=B5.size
 have hc:=cell_new A5 #[x0,x1,x2, .slice (some ⟨g,0,none⟩) 1 1, .int .u64 34359738368, .int .u64 0, .int .u64 0, .int .u64 0, .map (some bp), .map (some bf)] 95
 have B6:Below A5.heap.size A5 (A5.alloc (.cells #[x0,x1,x2, .slice (some ⟨g,0,none⟩) 1 1, .int .u64 34359738368, .int .u64 0, .int .u64 0, .int .u64 0, .map (some bp), .map (some bf)] 95)):=(Below.refl _ _).alloc (Nat.le_refl _) _
 have fzn:∀k,(A5.alloc (.cells #[x0,x1,x2, .slice (some ⟨g,0,none⟩) 1 1, .int .u64 34359738368, .int .u64 0, .int .u64 0, .int .u64 0, .map (some bp), .map (some bf)] 95)).frozen? ⟨A5.heap.size,k,none⟩=false:=fun k=>by simp[go_sem]
 generalize (A5.alloc (.cells #[x0,x1,x2, .slice (some ⟨g,0,none⟩) 1 1, .int .u64 34359738368, .int .u64 0, .int .u64 0, .int .u64 0, .map (some bp), .map (some bf)] 95))=W at *
 have C5:Below A4.heap.size A4 W:=B5.trans (B6.mono s5)
 have C4:Below A3.heap.size A3 W:=B4.trans (C5.mono s4)
 have C3:Below A2.heap.size A2 W:=B3.trans (C4.mono s3)
 have C2:Below A1.heap.size A1 W:=B2.trans (C3.mono s2)
 have wf:∀x,WFoot bp bf (fun _=>0) x→x=bp∨x=bf:=by
  rintro x (h|h|⟨q,h⟩)
  ·exact Or.inl h
  ·exact Or.inr h
  ·cases h
 have hbp:=P4.lt
 have hbf:=P5.lt
 have ct:∀k,cntI (fun _=>0) 0 34359738368 k=if 0=k then 34359738368 else 0:=fun k=>cntI_all (fun _ _ _=>rfl)
 refine ⟨⟨x0,hc 0,P0.below C2⟩,⟨x1,hc 1,P1.below C3⟩,⟨x2,hc 2,P2.below C4⟩,⟨hc 3,?_,fun k hk=> ?_,fzn,?_,?_,fun _=>Nat.zero_le _,by omega⟩,⟨hc 8,hc 9,P4.kept (B6.block bp hbp),P5.kept (B6.block bf hbf),fun p h=>absurd rfl h,fun p q h=>absurd rfl h,fun p h=>absurd rfl h,⟨by omega,by omega,q4⟩⟩,
  by omega,by omega,by omega,fun z=> ?_,fun z=> ?_,fun z=> ?_,fun z=> ?_⟩
 ·obtain ⟨⟨cur,hr,ht⟩,hl⟩:=P3
  exact ⟨⟨cur,⟨(C5.block g r3).trans hr.heap,hr.len,hr.cap⟩,ht⟩,hl⟩
 ·rw[ct,hc]
  have:k=0∨k=1∨k=2∨k=3:=by omega
  rcases this with rfl|rfl|rfl|rfl<;>rfl
 ·exact ⟨rfl,34359738368,by decide,fun _ _ _=>rfl,rfl⟩
 ·trivial
 ·have:=P0.lt (u64s_ne.2 z)
  exact ⟨by omega,fun y=>by rcases wf _ y with y|y<;>omega⟩
 ·have:=P1.lt (bools_ne.2 z)
  exact ⟨by omega,fun y=>by rcases wf _ y with y|y<;>omega⟩
 ·have:=P2.lt (u64s_ne.2 z)
  exact ⟨by omega,fun y=>by rcases wf _ y with y|y<;>omega⟩
 ·rcases wf _ z with y|y<;>omega
theorem new_fits (pl:List Nat) (re:List Bool) (fi:List Nat) (b0:∀x∈pl,x<18446744073709551616) (b2:∀x∈fi,x<18446744073709551616):Fits (Sp.new pl re fi) 0 [(0,0)] 0 (fun _=>0) (fun _=>0) (fun _ _=>0):=
 ⟨WF.new _ _ _,fun _=>Iff.rfl,rfl,fun p j _ h=>(by cases h),fun _ _=>⟨rfl,rfl⟩,b0,b2,by decide,by decide⟩
set_option maxRecDepth 100000 in
set_option maxHeartbeats 2000000 in
theorem vnew (w:World) (v0 v1 v2:Value) (pl:List Nat) (re:List Bool) (fi:List Nat) (h0:Sl w v0 (u64s pl)) (h1:Sl w v1 (bools re)) (h2:Sl w v2 (u64s fi)) (b0:∀x∈pl,x<18446744073709551616) (b2:∀x∈fi,x<18446744073709551616)
 (l0:pl.length≤1048576) (l1:re.length≤1048576) (l2:fi.length≤1048576):
 Calls Tryz.prog vm.new #[.agg #[v0,v1,v2]] w fun e w'=>∃m F,e= .returned (.pointer (some m))∧VI w' m (Sp.new pl re fi) F 0∧Kept (fun _=>False) w w'∧∀b,F b→w.heap.size≤b:=by
 have H0:=hide h0
 have H1:=hide h1
 have H2:=hide h2
 clear h0 h1 h2
 show Calls Tryz.prog 10 _ w _
 go_enter Tryz.func10,Tryz.ntmps10
 go_wp2_with fail
 have BW:Below w.heap.size w (w.alloc (.cells #[v0,v1,v2] 25)):=(Below.refl _ _).alloc (Nat.le_refl _) _
 have hlt:w.heap.size<(w.alloc (.cells #[v0,v1,v2] 25)).heap.size:=by simp
 have c0:(w.alloc (.cells #[v0,v1,v2] 25)).cell? ⟨w.heap.size,0,none⟩=some v0:=by simp[go_sem]
 have c1:(w.alloc (.cells #[v0,v1,v2] 25)).cell? ⟨w.heap.size,1,none⟩=some v1:=by simp[go_sem]
 have c2:(w.alloc (.cells #[v0,v1,v2] 25)).cell? ⟨w.heap.size,2,none⟩=some v2:=by simp[go_sem]
 generalize w.alloc (.cells #[v0,v1,v2] 25)=W at *
 have BD:Below w.heap.size w (W.drewN 1):=below_drewN BW 1
 go_region_held3 (fun w'=>w'.cell? ⟨w.heap.size,0,none⟩=some v0∧w'.cell? ⟨w.heap.size,1,none⟩=some v1∧w'.cell? ⟨w.heap.size,2,none⟩=some v2) (go_keep) (first
  |(go_at_call_of 37 v0;refine (clone_u64 v0 pl _ (H0.out.below BD) l0).mono ?_;rintro e A1 ⟨x0,g0,rfl,p0,q0,r0,B1⟩;obtain ⟨o0,u0,d0,rfl⟩:=p0.shape;have P0:=hide p0;have E1:Below w.heap.size w A1:=BD.trans (B1.mono BD.size);have t1:w.heap.size<A1.heap.size:=Nat.lt_of_lt_of_le hlt B1.size;have k0:=((bcell B1).1 w.heap.size 0 hlt).trans c0;have k1:=((bcell B1).1 w.heap.size 1 hlt).trans c1;have k2:=((bcell B1).1 w.heap.size 2 hlt).trans c2;clear p0)
  |(go_at_call_of 38 v1;refine (clone_bool v1 re _ (H1.out.below E1) l1).mono ?_;rintro e A2 ⟨x1,g1,rfl,p1,q1,r1,B2⟩;obtain ⟨o1,u1,d1,rfl⟩:=p1.shape;have P1:=hide p1;have E2:Below w.heap.size w A2:=E1.trans (B2.mono E1.size);have t2:w.heap.size<A2.heap.size:=Nat.lt_of_lt_of_le t1 B2.size;have m0:=((bcell B2).1 w.heap.size 0 t1).trans k0;have m1:=((bcell B2).1 w.heap.size 1 t1).trans k1;have m2:=((bcell B2).1 w.heap.size 2 t1).trans k2;clear p1)
  |(go_at_call_of 37 v2;refine (clone_u64 v2 fi _ (H2.out.below E2) l2).mono ?_;rintro e A3 ⟨x2,g2,rfl,p2,q2,r2,B3⟩;obtain ⟨o2,u2,d2,rfl⟩:=p2.shape;have P2:=hide p2;have E3:Below w.heap.size w A3:=E2.trans (B3.mono E2.size);have t3:w.heap.size<A3.heap.size:=Nat.lt_of_lt_of_le t2 B3.size;have n0:=((bcell B3).1 w.heap.size 0 t2).trans m0;have n1:=((bcell B3).1 w.heap.size 1 t2).trans m1;have n2:=((bcell B3).1 w.heap.size 2 t2).trans m2;clear p2)
  |(go_at_call 39;refine (newRows_core _).mono ?_;rintro e A4 ⟨g,rfl,p3,q3,r3,B4⟩;have P3:=hide p3;have E4:Below w.heap.size w A4:=E3.trans (B4.mono E3.size);have t4:w.heap.size<A4.heap.size:=Nat.lt_of_lt_of_le t3 B4.size;have y0:=((bcell B4).1 w.heap.size 0 t3).trans n0;have y1:=((bcell B4).1 w.heap.size 1 t3).trans n1;have y2:=((bcell B4).1 w.heap.size 2 t3).trans n2;clear p3)
  |(go_at_call 40;refine (newWords_core _).mono ?_;rintro e A5 ⟨bp,bf,rfl,p4,p5,q4,q5,q6,B5⟩;have P4:=hide p4;have P5:=hide p5;have E5:Below w.heap.size w A5:=E4.trans (B5.mono E4.size);have t5:w.heap.size<A5.heap.size:=Nat.lt_of_lt_of_le t4 B5.size;have z0:=((bcell B5).1 w.heap.size 0 t4).trans y0;have z1:=((bcell B5).1 w.heap.size 1 t4).trans y1;have z2:=((bcell B5).1 w.heap.size 2 t4).trans y2;clear p4 p5))
 have L:=hide (new_lies B2 B3 B4 B5 P0.out P1.out P2.out r0 r1 r2 P3.out q3 r3 P4.out P5.out q4 q5 q6)
 have hq:w.heap.size≤g0∧w.heap.size≤g1∧w.heap.size≤g2∧w.heap.size≤g∧w.heap.size≤bp∧w.heap.size≤bf∧w.heap.size≤A5.heap.size:=⟨Nat.le_trans (Nat.le_of_lt hlt) q0,Nat.le_trans (Nat.le_of_lt t1) q1,Nat.le_trans (Nat.le_of_lt t2) q2,Nat.le_trans (Nat.le_of_lt t3) q3,Nat.le_trans (Nat.le_of_lt t4) q5,Nat.le_trans (Nat.le_of_lt t4) q6,Nat.le_of_lt t5⟩
 have HQ:=hide hq
 clear hq
 go_wp2_with fail
 go_ret
 have hB:Below w.heap.size w (A5.alloc (.cells #[.slice o0 u0 d0, .slice o1 u1 d1, .slice o2 u2 d2, .slice (some ⟨g,0,none⟩) 1 1, .int .u64 34359738368, .int .u64 0, .int .u64 0, .int .u64 0, .map (some bp), .map (some bf)] 95)):=E5.alloc E5.size _
 refine ⟨⟨A5.heap.size,0,none⟩,rfl,Foot A5.heap.size g0 g1 g2 g bp bf pl re fi (fun _=>0),⟨A5.heap.size,g0,g1,g2,g,1,[(0,0)],bp,bf,0,fun _=>0,fun _=>0,fun _ _=>0,rfl,rfl,L.out,new_fits pl re fi b0 b2⟩,⟨hB.os,hB.tape,hB.output,hB.size,fun x hx _=>hB.block x hx⟩,?_⟩
 obtain ⟨a1,a2,a3,a4,a5,a6,a7⟩:=HQ.out
 rintro x (rfl|⟨_,rfl⟩|⟨_,rfl⟩|⟨_,rfl⟩|rfl|(rfl|rfl|⟨q,hq⟩))
 ·exact a7
 ·exact a1
 ·exact a2
 ·exact a3
 ·exact a4
 ·exact a5
 ·exact a6
 ·cases hq
end Go.Proofs.YtdgdhnnakcncoaaGreatDoor.V
namespace Go.Proofs.YtdgdhnnakcncoaaGreatDoor.V
set_option maxHeartbeats 1600000
open Go.ChangeShapes Go.WideShapes Go.ChangeAt Go.RowKit Go.Proofs.Sp Go.Maps
set_option linter.unusedVariables false
set_option linter.unusedSimpArgs false
theorem Sl.lt {w:World} {v:Value} {xs:List Value} (h:Sl w v xs) {b:Nat} (hb:v.ownBlock=some b):b<w.heap.size:=by
 rcases h with ⟨e,_⟩|⟨b',off,cap,e,_,hl,_⟩
 ·rw[e] at hb;cases hb
 ·rw[e] at hb
  have:b'=b:=by simpa [Value.ownBlock] using hb
  omega
theorem Sl.kept {w w':World} {v:Value} {xs:List Value} (h:Sl w v xs) (hs:w.heap.size≤w'.heap.size) (hb:∀b,v.ownBlock=some b→w'.heap[b]? =w.heap[b]?):Sl w' v xs:=by
 rcases h with h|⟨b,off,cap,hv,hc,hl,hx⟩
 ·exact Or.inl h
 ·refine Or.inr ⟨b,off,cap,hv,hc,by omega,fun j u hu=> ?_⟩
  have e:=hb b (by rw[hv];rfl)
  rw[←hx j u hu]
  exact World.cell?_of_block (w:=w) e
theorem pg_shape {w:World} {base n size:Nat} {e:TypeId} {v:Value} {xs:List Value} (h:w.ownsRow base e size v n xs):∃o cap,v= .slice o n cap∧(0<n→∃g,o=some ⟨g,0,none⟩):=by
 obtain ⟨_,⟨e1,e2⟩|⟨g,cap,cur,e1,_⟩⟩:=h
 ·exact ⟨none,0,by rw[e1,e2],fun z=>by omega⟩
 ·exact ⟨some ⟨g,0,none⟩,cap,e1,fun _=>⟨g,rfl⟩⟩
theorem addr_add (b o j:Nat):(⟨b,o,none⟩:Addr).add j=⟨b,o+j,none⟩:=by
 simp[Addr.add]
theorem step_append_run {P:Program} {w w':World} {ops:Array Oper} {o:Oper} {a:Act} {K:Act→World→Prop} {Q:Exit→Act→World→Prop} {E:Prop} (hgd:o.guard=none) (s x:Operand) (t:TypeId)
 (ho:o.op= .call {callee:= .builtin .append,args:=#[s,x],argTypes:=#[t,t]}) {v u v':Value} (hs:a.eval s=v) (hx:a.eval x=u) (hr:(Builtin.append_ #[t,t] o.type #[v,u]).run P w= .ok v' w') (h:K (a.put o.dst v') w'):
 if Region.wanted o (yielded ops a.tmps)=true then Oper.wp P o a w K Q else E:=by
 have hw:Region.wanted o (yielded ops a.tmps)=true:=by simp[Region.wanted,hgd]
 rw[if_pos hw]
 exact wp_append_run s x t ho hs hx hr h
theorem infoU8:(Tryz.prog.info? 39).map (fun i=>(i.zero,i.size,i.bytes))=some (some (.int .u64 0),1,8):=by kernel_rfl
theorem infoB1:(Tryz.prog.info? 4).map (fun i=>(i.zero,i.size,i.bytes))=some (some (.bool false),1,1):=by kernel_rfl
theorem u64s_one8 (l:List Nat):∀v∈u64s l,v.oneCell'=true:=by
 intro v hv
 obtain ⟨n,_,rfl⟩:=List.mem_map.1 hv
 rfl
theorem bools_one1 (l:List Bool):∀v∈bools l,v.oneCell'=true:=by
 intro v hv
 obtain ⟨n,_,rfl⟩:=List.mem_map.1 hv
 rfl
theorem u64s_len (l:List Nat):(u64s l).length=l.length:=by simp[u64s]
theorem bools_len (l:List Bool):(bools l).length=l.length:=by simp[bools]
theorem Sl.low {w w':World} {v:Value} {xs:List Value} (h:Sl w v xs) (hb:Below w.heap.size w w'):Sl w' v xs:=h.kept hb.size (fun b e=>hb.block b (h.lt e))
theorem step_build {w:World} {ops:Array Oper} {o:Oper} {a:Act} {K:Act→World→Prop} {Q:Exit→Act→World→Prop} {E:Prop} (hgd:o.guard=none) (d:Tmp) (hd:o.dst=some d) (t e:TypeId)
 (ho:o.op= .buildSlice t 0 #[]) (hr:∀w:World,(Instr.buildSlice t 0 #[]).run Tryz.prog w= .ok (.slice (some ⟨w.heap.size,0,none⟩) 0 0) (w.alloc (.cells #[] e))) (h:K (a.put o.dst (.slice (some ⟨w.heap.size,0,none⟩) 0 0)) (w.alloc (.cells #[] e))):
 if Region.wanted o (yielded ops a.tmps)=true then Oper.wp Tryz.prog o a w K Q else E:=by
 have hw:Region.wanted o (yielded ops a.tmps)=true:=by simp[Region.wanted,hgd]
 rw[if_pos hw]
 unfold Oper.wp execOp
 simp only[ho,Sem.run_bind,Sem.run_pure,Result.andThen_ok,List.map_toArray,List.map_nil,hr]
 exact h
theorem build_u (w:World):(Instr.buildSlice 22 0 #[]).run Tryz.prog w= .ok (.slice (some ⟨w.heap.size,0,none⟩) 0 0) (w.alloc (.cells #[] 39)):=by kernel_rfl
theorem build_b (w:World):(Instr.buildSlice 23 0 #[]).run Tryz.prog w= .ok (.slice (some ⟨w.heap.size,0,none⟩) 0 0) (w.alloc (.cells #[] 4)):=by kernel_rfl
structure Gs (W Y:World) (v0:Value) (n0:Nat) (x0:List Value) (v1:Value) (n1:Nat) (x1:List Value) (v2:Value) (n2:Nat) (x2:List Value):Prop where
 be:Below W.heap.size W Y
 o0:Y.ownsRow W.heap.size 39 1 v0 n0 x0
 o1:Y.ownsRow W.heap.size 4 1 v1 n1 x1
 o2:Y.ownsRow W.heap.size 39 1 v2 n2 x2
 d01:∀b,v0.ownBlock=some b→v1.ownBlock≠some b
 d02:∀b,v0.ownBlock=some b→v2.ownBlock≠some b
 d12:∀b,v1.ownBlock=some b→v2.ownBlock≠some b
theorem owns_nil (w:World) (base:Nat) (e:TypeId):w.ownsRow base e 1 (.slice none 0 0) 0 []:=⟨rfl,Or.inl ⟨rfl,rfl⟩⟩
theorem Gs.start (W:World):Gs W W.drew (.slice none 0 0) 0 [] (.slice none 0 0) 0 [] (.slice none 0 0) 0 []:=
 ⟨⟨rfl,rfl,rfl,Nat.le_refl _,fun _ _=>rfl⟩,owns_nil _ _ _,owns_nil _ _ _,owns_nil _ _ _,(fun b h=>by cases h),(fun b h=>by cases h),(fun b h=>by cases h)⟩
theorem owns_ltB {w:World} {base n:Nat} {e:TypeId} {v:Value} {xs:List Value} (h:w.ownsRow base e 1 v n xs) {b:Nat} (hb:v.ownBlock=some b):base≤b∧b<w.heap.size:=by
 obtain ⟨_,⟨rfl,_⟩|⟨g,cap,cur,rfl,h1,h2,_⟩⟩:=h
 ·cases hb
 ·cases hb;exact ⟨h1,(Array.getElem?_eq_some_iff.1 h2).1⟩
theorem owns_frame {w w':World} {base n:Nat} {e:TypeId} {v:Value} {xs:List Value} (h:w.ownsRow base e 1 v n xs) (hk:∀b,v.ownBlock=some b→w'.heap[b]? =w.heap[b]?):w'.ownsRow base e 1 v n xs:=by
 obtain ⟨hl,h|⟨g,cap,cur,rfl,h1,h2,h3⟩⟩:=h
 ·exact ⟨hl,Or.inl h⟩
 ·exact ⟨hl,Or.inr ⟨g,cap,cur,rfl,h1,(hk g rfl).trans h2,h3⟩⟩
theorem owns_new {w:World} {base:Nat} (e:TypeId) (hb:base≤w.heap.size):(w.alloc (.cells #[] e)).ownsRow base e 1 (.slice (some ⟨w.heap.size,0,none⟩) 0 0) 0 []:=
 ⟨rfl,Or.inr ⟨w.heap.size,0,#[],rfl,hb,by show (w.heap.push _)[w.heap.size]? =_;simp,Nat.le_refl _,Nat.zero_le _,rfl,rfl⟩⟩
theorem alloc_old (w:World) (o:Obj) {b:Nat} (h:b<w.heap.size):(w.alloc o).heap[b]? =w.heap[b]? :=by
 show (w.heap.push o)[b]? =_
 rw[Array.getElem?_push,if_neg (by omega)]
theorem app_fresh {Y:World} {base:Nat} {t e:TypeId} {z:Value} {by_:Nat} (ht:Tryz.prog.underlying t=some (.slice e)) (hinfo:(Tryz.prog.info? e).map (fun i=>(i.zero,i.size,i.bytes))=some (some z,1,by_)) (hz:z.cells.size=1) (hby:by_≤8) (ty:TypeId)
 {v:Value} (own:Y.ownsRow base e 1 v 0 []) (hne:v≠ .slice none 0 0) (hb:base≤Y.heap.size) {u:Value} {zs:List Value} (h:Sl Y u zs) (hl:zs.length≤1048576) (h1:∀v∈zs,v.oneCell'=true):
 ∃v' Y',(Builtin.append_ #[t,t] ty #[v,u]).run Tryz.prog Y= .ok v' Y'∧Y'.ownsRow base e 1 v' zs.length zs∧Y.grownBy Y' v.ownBlock∧(v'.ownBlock=v.ownBlock∨v'.ownBlock=some Y.heap.size):=by
 obtain ⟨i0,hi0,hz0,hz1,hz2⟩:=info_parts hinfo
 rcases h with ⟨rfl,rfl⟩|⟨b,off,cap,rfl,hc,hbl,hx⟩
 ·have hr:=run_append_owned_none (P:=Tryz.prog) (w:=Y) base t ty e i0 1 ht hi0 _ 0 [] own
  exact ⟨_,_,hr,own,⟨rfl,rfl,rfl,Nat.le_refl _,fun _ _ _=>rfl⟩, .inl rfl⟩
 ·obtain ⟨v',w2,hr,hown,hg,_,ho⟩:=run_append_own_at (P:=Tryz.prog) Y base t ty e i0 _ 1 by_ ht hi0 hz0 hz1 hz2 hz (by decide) _ 0 [] own ⟨b,off,none⟩ zs.length cap zs (by rw[Nat.mul_one]) (fun j u hu=>by rw[addr_add];exact hx j u hu) h1 (by unfold maxLen;omega) (by
   have:(0+zs.length) * by_≤1048576 * 8:=Nat.mul_le_mul (by omega) hby
   omega) hb
  rw[List.nil_append,Nat.zero_add] at hown
  exact ⟨v',w2,hr,hown,hg,ho⟩
theorem Gs.make0 {W Y:World} {v1 v2:Value} {n1 n2:Nat} {x1 x2:List Value} (h:Gs W Y (.slice none 0 0) 0 [] v1 n1 x1 v2 n2 x2):Gs W (Y.alloc (.cells #[] 39)) (.slice (some ⟨Y.heap.size,0,none⟩) 0 0) 0 [] v1 n1 x1 v2 n2 x2:=
 ⟨h.be.alloc h.be.size _,owns_new 39 h.be.size,owns_frame h.o1 (fun b hb=>alloc_old _ _ (owns_ltB h.o1 hb).2),owns_frame h.o2 (fun b hb=>alloc_old _ _ (owns_ltB h.o2 hb).2),(fun b hb hc=>by cases hb;exact absurd (owns_ltB h.o1 hc).2 (Nat.lt_irrefl _)),(fun b hb hc=>by cases hb;exact absurd (owns_ltB h.o2 hc).2 (Nat.lt_irrefl _)),h.d12⟩
theorem Gs.app0 {W Y:World} {v0 v1 v2:Value} {n1 n2:Nat} {x1 x2:List Value} (h:Gs W Y v0 0 [] v1 n1 x1 v2 n2 x2) (hne:v0≠ .slice none 0 0) {u:Value} {zs:List Value} (hs:Sl W u zs) (hl:zs.length≤1048576) (h1:∀v∈zs,v.oneCell'=true) (ty:TypeId):
 ∃o c Y',(Builtin.append_ #[22,22] ty #[v0,u]).run Tryz.prog Y= .ok (.slice o zs.length c) Y'∧Gs W Y' (.slice o zs.length c) zs.length zs v1 n1 x1 v2 n2 x2:=by
 obtain ⟨v',Y',hr,ho,hg,hb⟩:=app_fresh Tryz.underlying22 infoU8 rfl (by decide) ty h.o0 hne h.be.size (hs.low h.be) hl h1
 obtain ⟨o,c,rfl,_⟩:=pg_shape ho
 have hblk:∀b,(Value.slice o zs.length c).ownBlock=some b→v0.ownBlock=some b∨b=Y.heap.size:=fun b e=>by
  rcases hb with hb|hb
  ·left;exact hb.symm.trans e
  ·right;exact (Option.some.inj (hb.symm.trans e)).symm
 refine ⟨o,c,Y',hr,h.be.grown hg h.be.size (fun k hk=>(owns_ltB h.o0 hk).1),ho,owns_frame h.o1 (fun b e=>hg.block b (owns_ltB h.o1 e).2 (fun z=>h.d01 b z.symm e)),owns_frame h.o2 (fun b e=>hg.block b (owns_ltB h.o2 e).2 (fun z=>h.d02 b z.symm e)),(fun b hb hc=>by rcases hblk b hb with z|z;exact h.d01 b z hc;have:=(owns_ltB h.o1 hc).2;omega),(fun b hb hc=>by rcases hblk b hb with z|z;exact h.d02 b z hc;have:=(owns_ltB h.o2 hc).2;omega),h.d12⟩
theorem Gs.sapp0 {W Y:World} {v0 v1 v2:Value} {n1 n2:Nat} {x1 x2:List Value} (h:Gs W Y v0 0 [] v1 n1 x1 v2 n2 x2) (hne:v0≠ .slice none 0 0) {u:Value} {zs:List Value} (hs:Sl W u zs) (hl:zs.length≤1048576) (h1:∀v∈zs,v.oneCell'=true) {ops:Array Oper} {o:Oper} {a:Act} {K:Act→World→Prop} {Q:Exit→Act→World→Prop} {E:Prop} (hgd:o.guard=none) (s x:Operand)
 (ho:o.op= .call {callee:= .builtin .append,args:=#[s,x],argTypes:=#[22,22]}) (es:a.eval s=v0) (ex:a.eval x=u) (hK:∀(o':Option Addr) (c:Nat) (Y':World),Gs W Y' (.slice o' zs.length c) zs.length zs v1 n1 x1 v2 n2 x2→K (a.put o.dst (.slice o' zs.length c)) Y'):
 if Region.wanted o (yielded ops a.tmps)=true then Oper.wp Tryz.prog o a Y K Q else E:=by
 obtain ⟨o',c,Y',hr,g⟩:=h.app0 hne hs hl h1 o.type
 exact step_append_run hgd s x 22 ho es ex hr (hK o' c Y' g)
theorem Gs.make1 {W Y:World} {v0 v2:Value} {n0 n2:Nat} {x0 x2:List Value} (h:Gs W Y v0 n0 x0 (.slice none 0 0) 0 [] v2 n2 x2):Gs W (Y.alloc (.cells #[] 4)) v0 n0 x0 (.slice (some ⟨Y.heap.size,0,none⟩) 0 0) 0 [] v2 n2 x2:=
 ⟨h.be.alloc h.be.size _,owns_frame h.o0 (fun b hb=>alloc_old _ _ (owns_ltB h.o0 hb).2),owns_new 4 h.be.size,owns_frame h.o2 (fun b hb=>alloc_old _ _ (owns_ltB h.o2 hb).2),(fun b hb hc=>by cases hc;exact absurd (owns_ltB h.o0 hb).2 (Nat.lt_irrefl _)),h.d02,(fun b hb hc=>by cases hb;exact absurd (owns_ltB h.o2 hc).2 (Nat.lt_irrefl _))⟩
theorem Gs.app1 {W Y:World} {v0 v1 v2:Value} {n0 n2:Nat} {x0 x2:List Value} (h:Gs W Y v0 n0 x0 v1 0 [] v2 n2 x2) (hne:v1≠ .slice none 0 0) {u:Value} {zs:List Value} (hs:Sl W u zs) (hl:zs.length≤1048576) (h1:∀v∈zs,v.oneCell'=true) (ty:TypeId):
 ∃o c Y',(Builtin.append_ #[23,23] ty #[v1,u]).run Tryz.prog Y= .ok (.slice o zs.length c) Y'∧Gs W Y' v0 n0 x0 (.slice o zs.length c) zs.length zs v2 n2 x2:=by
 obtain ⟨v',Y',hr,ho,hg,hb⟩:=app_fresh Tryz.underlying23 infoB1 rfl (by decide) ty h.o1 hne h.be.size (hs.low h.be) hl h1
 obtain ⟨o,c,rfl,_⟩:=pg_shape ho
 have hblk:∀b,(Value.slice o zs.length c).ownBlock=some b→v1.ownBlock=some b∨b=Y.heap.size:=fun b e=>by
  rcases hb with hb|hb
  ·left;exact hb.symm.trans e
  ·right;exact (Option.some.inj (hb.symm.trans e)).symm
 refine ⟨o,c,Y',hr,h.be.grown hg h.be.size (fun k hk=>(owns_ltB h.o1 hk).1),owns_frame h.o0 (fun b e=>hg.block b (owns_ltB h.o0 e).2 (fun z=>h.d01 b e z.symm)),ho,owns_frame h.o2 (fun b e=>hg.block b (owns_ltB h.o2 e).2 (fun z=>h.d12 b z.symm e)),(fun b hb hc=>by rcases hblk b hc with z|z;exact h.d01 b hb z;have:=(owns_ltB h.o0 hb).2;omega),h.d02,(fun b hb hc=>by rcases hblk b hb with z|z;exact h.d12 b z hc;have:=(owns_ltB h.o2 hc).2;omega)⟩
theorem Gs.sapp1 {W Y:World} {v0 v1 v2:Value} {n0 n2:Nat} {x0 x2:List Value} (h:Gs W Y v0 n0 x0 v1 0 [] v2 n2 x2) (hne:v1≠ .slice none 0 0) {u:Value} {zs:List Value} (hs:Sl W u zs) (hl:zs.length≤1048576) (h1:∀v∈zs,v.oneCell'=true) {ops:Array Oper} {o:Oper} {a:Act} {K:Act→World→Prop} {Q:Exit→Act→World→Prop} {E:Prop} (hgd:o.guard=none) (s x:Operand)
 (ho:o.op= .call {callee:= .builtin .append,args:=#[s,x],argTypes:=#[23,23]}) (es:a.eval s=v1) (ex:a.eval x=u) (hK:∀(o':Option Addr) (c:Nat) (Y':World),Gs W Y' v0 n0 x0 (.slice o' zs.length c) zs.length zs v2 n2 x2→K (a.put o.dst (.slice o' zs.length c)) Y'):
 if Region.wanted o (yielded ops a.tmps)=true then Oper.wp Tryz.prog o a Y K Q else E:=by
 obtain ⟨o',c,Y',hr,g⟩:=h.app1 hne hs hl h1 o.type
 exact step_append_run hgd s x 23 ho es ex hr (hK o' c Y' g)
theorem Gs.make2 {W Y:World} {v0 v1:Value} {n0 n1:Nat} {x0 x1:List Value} (h:Gs W Y v0 n0 x0 v1 n1 x1 (.slice none 0 0) 0 []):Gs W (Y.alloc (.cells #[] 39)) v0 n0 x0 v1 n1 x1 (.slice (some ⟨Y.heap.size,0,none⟩) 0 0) 0 []:=
 ⟨h.be.alloc h.be.size _,owns_frame h.o0 (fun b hb=>alloc_old _ _ (owns_ltB h.o0 hb).2),owns_frame h.o1 (fun b hb=>alloc_old _ _ (owns_ltB h.o1 hb).2),owns_new 39 h.be.size,h.d01,(fun b hb hc=>by cases hc;exact absurd (owns_ltB h.o0 hb).2 (Nat.lt_irrefl _)),(fun b hb hc=>by cases hc;exact absurd (owns_ltB h.o1 hb).2 (Nat.lt_irrefl _))⟩
theorem Gs.app2 {W Y:World} {v0 v1 v2:Value} {n0 n1:Nat} {x0 x1:List Value} (h:Gs W Y v0 n0 x0 v1 n1 x1 v2 0 []) (hne:v2≠ .slice none 0 0) {u:Value} {zs:List Value} (hs:Sl W u zs) (hl:zs.length≤1048576) (h1:∀v∈zs,v.oneCell'=true) (ty:TypeId):
 ∃o c Y',(Builtin.append_ #[22,22] ty #[v2,u]).run Tryz.prog Y= .ok (.slice o zs.length c) Y'∧Gs W Y' v0 n0 x0 v1 n1 x1 (.slice o zs.length c) zs.length zs:=by
 obtain ⟨v',Y',hr,ho,hg,hb⟩:=app_fresh Tryz.underlying22 infoU8 rfl (by decide) ty h.o2 hne h.be.size (hs.low h.be) hl h1
 obtain ⟨o,c,rfl,_⟩:=pg_shape ho
 have hblk:∀b,(Value.slice o zs.length c).ownBlock=some b→v2.ownBlock=some b∨b=Y.heap.size:=fun b e=>by
  rcases hb with hb|hb
  ·left;exact hb.symm.trans e
  ·right;exact (Option.some.inj (hb.symm.trans e)).symm
 refine ⟨o,c,Y',hr,h.be.grown hg h.be.size (fun k hk=>(owns_ltB h.o2 hk).1),owns_frame h.o0 (fun b e=>hg.block b (owns_ltB h.o0 e).2 (fun z=>h.d02 b e z.symm)),owns_frame h.o1 (fun b e=>hg.block b (owns_ltB h.o1 e).2 (fun z=>h.d12 b e z.symm)),ho,h.d01,(fun b hb hc=>by rcases hblk b hc with z|z;exact h.d02 b hb z;have:=(owns_ltB h.o0 hb).2;omega),(fun b hb hc=>by rcases hblk b hc with z|z;exact h.d12 b hb z;have:=(owns_ltB h.o1 hb).2;omega)⟩
theorem Gs.sapp2 {W Y:World} {v0 v1 v2:Value} {n0 n1:Nat} {x0 x1:List Value} (h:Gs W Y v0 n0 x0 v1 n1 x1 v2 0 []) (hne:v2≠ .slice none 0 0) {u:Value} {zs:List Value} (hs:Sl W u zs) (hl:zs.length≤1048576) (h1:∀v∈zs,v.oneCell'=true) {ops:Array Oper} {o:Oper} {a:Act} {K:Act→World→Prop} {Q:Exit→Act→World→Prop} {E:Prop} (hgd:o.guard=none) (s x:Operand)
 (ho:o.op= .call {callee:= .builtin .append,args:=#[s,x],argTypes:=#[22,22]}) (es:a.eval s=v2) (ex:a.eval x=u) (hK:∀(o':Option Addr) (c:Nat) (Y':World),Gs W Y' v0 n0 x0 v1 n1 x1 (.slice o' zs.length c) zs.length zs→K (a.put o.dst (.slice o' zs.length c)) Y'):
 if Region.wanted o (yielded ops a.tmps)=true then Oper.wp Tryz.prog o a Y K Q else E:=by
 obtain ⟨o',c,Y',hr,g⟩:=h.app2 hne hs hl h1 o.type
 exact step_append_run hgd s x 22 ho es ex hr (hK o' c Y' g)
theorem sne {B c:Nat}:Value.slice (some ⟨B,0,none⟩) 0 c≠ .slice none 0 0:=fun h=>by cases h
end Go.Proofs.YtdgdhnnakcncoaaGreatDoor.V
