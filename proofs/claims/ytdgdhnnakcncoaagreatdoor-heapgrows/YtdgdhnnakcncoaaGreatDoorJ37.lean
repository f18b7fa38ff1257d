/- Of the proof of HeapGrows: texts VGv. -/
import Derived.Test.YtdgdhnnakcncoaaGreatDoorJ61
import Derived.Test.YtdgdhnnakcncoaaGreatDoorJ28
namespace Go.Proofs.YtdgdhnnakcncoaaGreatDoor.V
set_option maxHeartbeats 1600000
open Go.ChangeShapes Go.WideShapes Go.ChangeAt Go.RowKit Go.Proofs.Sp Go.Maps
set_option linter.unusedVariables false
set_option linter.unusedSimpArgs false
structure Gv (w Y:World) (s0 s1 s2:Value) (pl:List Nat) (re:List Bool) (fi:List Nat):Prop where
 be:Below w.heap.size w Y
 o0:Y.ownsRow w.heap.size 39 1 s0 pl.length (u64s pl)
 o1:Y.ownsRow w.heap.size 4 1 s1 re.length (bools re)
 o2:Y.ownsRow w.heap.size 39 1 s2 fi.length (u64s fi)
 d01:∀b,s0.ownBlock=some b→s1.ownBlock≠some b
 d02:∀b,s0.ownBlock=some b→s2.ownBlock≠some b
 d12:∀b,s1.ownBlock=some b→s2.ownBlock≠some b
theorem owns_mono {w:World} {B B' n:Nat} {e:TypeId} {v:Value} {xs:List Value} (h:w.ownsRow B e 1 v n xs) (hB:B'≤B):w.ownsRow B' e 1 v n xs:=by
 obtain ⟨hl,h|⟨g,cap,cur,rfl,h1,h2⟩⟩:=h
 ·exact ⟨hl,Or.inl h⟩
 ·exact ⟨hl,Or.inr ⟨g,cap,cur,rfl,Nat.le_trans hB h1,h2⟩⟩
theorem results_one3 {fn:Func} {p:Tmp} {ty:TypeId} (h:fn.results=#[.cell p ty]) (tmps:Array Value) (w:World) (v:Value) {a:Addr} (hv:(loadVar ty a).run Tryz.prog w= .ok v w) (ha:tmps.getD p undef= .pointer (some a)):
 (results fn tmps).run Tryz.prog w= .ok v w:=by
 have hp':tmps[p]?.getD undef= .pointer (some a):=by simpa using ha
 simp[results,h,hp',asAddr,hv]
def put3 (w:World) (b:Nat) (a0 a1 a2:Value):World:=((w.setCell ⟨b,0,none⟩ a0).setCell ⟨b,1,none⟩ a1).setCell ⟨b,2,none⟩ a2
theorem put3_block (w:World) (b k:Nat) (a0 a1 a2:Value) (h:k≠b):(put3 w b a0 a1 a2).heap[k]? =w.heap[k]? :=by
 unfold put3
 rw[Below.heap_setCell _ _ _ _ (by simp;omega),Below.heap_setCell _ _ _ _ (by simp;omega),Below.heap_setCell _ _ _ _ (by simp;omega)]
theorem put3_cells {w:World} {b:Nat} {t:TypeId} {c0 c1 c2:Value} (h:w.heap[b]? =some (.cells #[c0,c1,c2] t (0,0))) (a0 a1 a2:Value):(put3 w b a0 a1 a2).heap[b]? =some (.cells #[a0,a1,a2] t (0,0)):=by
 obtain ⟨hlt,hk⟩:=Array.getElem?_eq_some_iff.1 h
 have one:∀(w:World) (cs:Array Value) (k:Nat) (v:Value),w.heap[b]? =some (.cells cs t (0,0))→(w.setCell ⟨b,k,none⟩ v).heap[b]? =some (.cells (cs.setIfInBounds k v) t (0,0)):=fun w cs k v hh=>by
  obtain ⟨hlt,hk⟩:=Array.getElem?_eq_some_iff.1 hh
  show (w.heap.modify b _)[b]? =_
  rw[Array.getElem?_eq_getElem (by rw[Array.size_modify];exact hlt),Array.getElem_modify_self,hk]
  rfl
 unfold put3
 rw[one _ _ 2 a2 (one _ _ 1 a1 (one _ _ 0 a0 h))]
 rfl
theorem size_put3 (w:World) (b:Nat) (a0 a1 a2:Value):(put3 w b a0 a1 a2).heap.size=w.heap.size:=by unfold put3;simp
theorem below_put3 {N:Nat} {w w':World} (h:Below N w w') (b:Nat) (hb:N≤b) (a0 a1 a2:Value):Below N w (put3 w' b a0 a1 a2):=
 ⟨h.os,h.tape,h.output,by rw[size_put3];exact h.size,fun k hk=>(put3_block w' b k a0 a1 a2 (by omega)).trans (h.block k hk)⟩
theorem load3 {w:World} {b:Nat} {a0 a1 a2:Value} (h:w.heap[b]? =some (.cells #[a0,a1,a2] 25 (0,0))):(loadVar 25 ⟨b,0,none⟩).run Tryz.prog w= .ok (.agg #[a0,a1,a2]) w:=
 run_loadVar_mid (P:=Tryz.prog) w b 0 25 [a0,a1,a2] _ (fun j v hv=>by
  rw[Nat.zero_add,cell_of_row w b j _ _ (0,0) h]
  simpa using hv) Tryz.underlying25 rfl (by kernel_rfl)
set_option maxRecDepth 100000 in
set_option maxHeartbeats 4000000 in
theorem given_any (w:World) (v0 v1 v2:Value) (pl:List Nat) (re:List Bool) (fi:List Nat) (h0:Sl w v0 (u64s pl)) (h1:Sl w v1 (bools re)) (h2:Sl w v2 (u64s fi))
 (l0:pl.length≤1048576) (l1:re.length≤1048576) (l2:fi.length≤1048576):
 Calls Tryz.prog 11 #[.agg #[v0,v1,v2]] w fun e w'=>∃(o0:Option Addr) (k0:Nat) (o1:Option Addr) (k1:Nat) (o2:Option Addr) (k2:Nat),e= .returned (.agg #[.slice o0 pl.length k0, .slice o1 re.length k1, .slice o2 fi.length k2])∧Gv w w' (.slice o0 pl.length k0) (.slice o1 re.length k1) (.slice o2 fi.length k2) pl re fi:=by
 obtain ⟨W,hW⟩:∃W,W=(w.alloc (.cells #[v0,v1,v2] 25)).alloc (.cells #[.slice none 0 0, .slice none 0 0, .slice none 0 0] 25):=⟨_,rfl⟩
 have BW:Below w.heap.size w W:=by rw[hW];exact ((Below.refl _ _).alloc (Nat.le_refl _) _).alloc (by simp) _
 have hsz:W.heap.size=w.heap.size+2:=by rw[hW];simp
 have c0:W.cell? ⟨w.heap.size,0,none⟩=some v0:=by rw[hW];simp[go_sem]
 have c1:W.cell? ⟨w.heap.size,1,none⟩=some v1:=by rw[hW];simp[go_sem]
 have c2:W.cell? ⟨w.heap.size,2,none⟩=some v2:=by rw[hW];simp[go_sem]
 have hR:W.heap[w.heap.size+1]? =some (.cells #[.slice none 0 0, .slice none 0 0, .slice none 0 0] 25 (0,0)):=by
  rw[hW]
  have:=heap_alloc_new (w.alloc (.cells #[v0,v1,v2] 25)) (.cells #[.slice none 0 0, .slice none 0 0, .slice none 0 0] 25)
  rwa[World.size_alloc] at this
 have S0:=hide (h0.low BW)
 have S1:=hide (h1.low BW)
 have S2:=hide (h2.low BW)
 have cel:∀Y:World,Below W.heap.size W Y→(Y.cell? ⟨w.heap.size,0,none⟩=some v0∧Y.cell? ⟨w.heap.size,1,none⟩=some v1∧Y.cell? ⟨w.heap.size,2,none⟩=some v2):=fun Y hY=>by
  have e:=hY.block w.heap.size (by omega)
  exact ⟨(World.cell?_of_block (a:=⟨w.heap.size,0,none⟩) e).trans c0,(World.cell?_of_block (a:=⟨w.heap.size,1,none⟩) e).trans c1,(World.cell?_of_block (a:=⟨w.heap.size,2,none⟩) e).trans c2⟩
 have CEL:=hide cel
 have CE3:=hide (show ∀(Y:World) (a0 a1 a2:Value),Below W.heap.size W Y→((put3 Y (w.heap.size+1) a0 a1 a2).cell? ⟨w.heap.size,0,none⟩=some v0∧(put3 Y (w.heap.size+1) a0 a1 a2).cell? ⟨w.heap.size,1,none⟩=some v1∧(put3 Y (w.heap.size+1) a0 a1 a2).cell? ⟨w.heap.size,2,none⟩=some v2) from fun Y a0 a1 a2 hY=>by
  have e:=put3_block Y (w.heap.size+1) w.heap.size a0 a1 a2 (by omega)
  obtain ⟨d0,d1,d2⟩:=cel Y hY
  exact ⟨(World.cell?_of_block (a:=⟨w.heap.size,0,none⟩) e).trans d0,(World.cell?_of_block (a:=⟨w.heap.size,1,none⟩) e).trans d1,(World.cell?_of_block (a:=⟨w.heap.size,2,none⟩) e).trans d2⟩)
 have rr:∀Y:World,Below W.heap.size W Y→Y.heap[w.heap.size+1]? =some (.cells #[.slice none 0 0, .slice none 0 0, .slice none 0 0] 25 (0,0)):=fun Y hY=>(hY.block _ (by omega)).trans hR
 have RES:=hide (show ∀Y:World,Below W.heap.size W Y→(Y.cell? ⟨w.heap.size+1,0,none⟩=some (.slice none 0 0)∧Y.cell? ⟨w.heap.size+1,1,none⟩=some (.slice none 0 0)∧Y.cell? ⟨w.heap.size+1,2,none⟩=some (.slice none 0 0)∧Y.frozen? ⟨w.heap.size+1,0,none⟩=false∧Y.frozen? ⟨w.heap.size+1,1,none⟩=false∧Y.frozen? ⟨w.heap.size+1,2,none⟩=false) from fun Y hY=>by
  have e:=rr Y hY
  simp[World.cell?,World.frozen?,e])
 have LD:=hide (show ∀(Y:World) (a0 a1 a2:Value),Below W.heap.size W Y→(loadVar 25 ⟨w.heap.size+1,0,none⟩).run Tryz.prog (put3 Y (w.heap.size+1) a0 a1 a2)= .ok (.agg #[a0,a1,a2]) (put3 Y (w.heap.size+1) a0 a1 a2) from fun Y a0 a1 a2 hY=>load3 (put3_cells (rr Y hY) a0 a1 a2))
 have FIN:=hide (show ∀(Y:World) (o0:Option Addr) (k0:Nat) (o1:Option Addr) (k1:Nat) (o2:Option Addr) (k2:Nat),Gs W Y (.slice o0 (u64s pl).length k0) (u64s pl).length (u64s pl) (.slice o1 (bools re).length k1) (bools re).length (bools re) (.slice o2 (u64s fi).length k2) (u64s fi).length (u64s fi)→
  ∃(o0':Option Addr) (k0':Nat) (o1':Option Addr) (k1':Nat) (o2':Option Addr) (k2':Nat),Ending.returned (.agg #[.slice o0 (u64s pl).length k0, .slice o1 (bools re).length k1, .slice o2 (u64s fi).length k2])= .returned (.agg #[.slice o0' pl.length k0', .slice o1' re.length k1', .slice o2' fi.length k2'])∧Gv w (put3 Y (w.heap.size+1) (.slice o0 (u64s pl).length k0) (.slice o1 (bools re).length k1) (.slice o2 (u64s fi).length k2)) (.slice o0' pl.length k0') (.slice o1' re.length k1') (.slice o2' fi.length k2') pl re fi from fun Y o0 k0 o1 k1 o2 k2 g=>by
  have fr:∀{v:Value} {n:Nat} {e:TypeId} {xs:List Value},Y.ownsRow W.heap.size e 1 v n xs→(put3 Y (w.heap.size+1) (.slice o0 (u64s pl).length k0) (.slice o1 (bools re).length k1) (.slice o2 (u64s fi).length k2)).ownsRow w.heap.size e 1 v n xs:=fun h=>owns_mono (owns_frame h (fun b hb=>put3_block _ _ _ _ _ _ (by have:=(owns_ltB h hb).1;omega))) (by omega)
  have g0:=fr g.o0
  have g1:=fr g.o1
  have g2:=fr g.o2
  have d01:=g.d01
  have d02:=g.d02
  have d12:=g.d12
  have bb:=below_put3 (BW.trans (g.be.mono BW.size)) (w.heap.size+1) (by omega) (.slice o0 (u64s pl).length k0) (.slice o1 (bools re).length k1) (.slice o2 (u64s fi).length k2)
  rw[u64s_len,bools_len,u64s_len] at *
  exact ⟨o0,k0,o1,k1,o2,k2,rfl,bb,g0,g1,g2,d01,d02,d12⟩)
 have HW:=hide hW
 have L0:=hide (show (u64s pl).length≤1048576 by rw[u64s_len];exact l0)
 have L1:=hide (show (bools re).length≤1048576 by rw[bools_len];exact l1)
 have L2:=hide (show (u64s fi).length≤1048576 by rw[u64s_len];exact l2)
 clear c0 c1 c2 hsz BW hW h0 h1 h2 l0 l1 l2 hR rr cel
 go_enter Tryz.func11,Tryz.ntmps11
 go_wp2_with fail
 rw[←HW.out]
 clear HW
 have G:=hide (Gs.start W)
 refine wp_region_held_drew (S:=fun w'=>w'.cell? ⟨w.heap.size,0,none⟩=some v0∧w'.cell? ⟨w.heap.size,1,none⟩=some v1∧w'.cell? ⟨w.heap.size,2,none⟩=some v2) (by kernel_rfl) (CEL.out _ G.out.be) (fun hHeld=> ?_)
 refine wpAnyH_take (i:=1) (oi:=⟨some 4,_,_,_,_,_⟩) (v:= ?_) rfl (by kernel_rfl) (by kernel_rfl) (by kernel_rfl) (fun _ _ _ h=>h) (Or.inl ⟨by rfl,?_⟩) (by assumption) ?_
 rotate_left
 ·(intro w hSw;(try dsimp only at hSw);go_simp;try with_reducible rfl)
 try simp only[Act.put,List.setIfInBounds_toArray,List.set_cons_zero,List.set_cons_succ]
 refine wpAnyH_take (i:=2) (oi:=⟨some 5,_,_,_,_,_⟩) (v:= ?_) rfl (by kernel_rfl) (by kernel_rfl) (by kernel_rfl) (fun _ _ _ h=>h) (Or.inl ⟨by rfl,?_⟩) (by assumption) ?_
 rotate_left
 ·(intro w hSw;(try dsimp only at hSw);go_simp;try with_reducible rfl)
 try simp only[Act.put,List.setIfInBounds_toArray,List.set_cons_zero,List.set_cons_succ]
 refine wpAnyH_take (i:=5) (oi:=⟨some 8,_,_,_,_,_⟩) (v:= ?_) rfl (by kernel_rfl) (by kernel_rfl) (by kernel_rfl) (fun _ _ _ h=>h) (Or.inl ⟨by rfl,?_⟩) (by assumption) ?_
 rotate_left
 ·(intro w hSw;(try dsimp only at hSw);go_simp;try with_reducible rfl)
 try simp only[Act.put,List.setIfInBounds_toArray,List.set_cons_zero,List.set_cons_succ]
 refine wpAnyH_take (i:=6) (oi:=⟨some 9,_,_,_,_,_⟩) (v:= ?_) rfl (by kernel_rfl) (by kernel_rfl) (by kernel_rfl) (fun _ _ _ h=>h) (Or.inl ⟨by rfl,?_⟩) (by assumption) ?_
 rotate_left
 ·(intro w hSw;(try dsimp only at hSw);go_simp;try with_reducible rfl)
 try simp only[Act.put,List.setIfInBounds_toArray,List.set_cons_zero,List.set_cons_succ]
 refine wpAnyH_take (i:=9) (oi:=⟨some 12,_,_,_,_,_⟩) (v:= ?_) rfl (by kernel_rfl) (by kernel_rfl) (by kernel_rfl) (fun _ _ _ h=>h) (Or.inl ⟨by rfl,?_⟩) (by assumption) ?_
 rotate_left
 ·(intro w hSw;(try dsimp only at hSw);go_simp;try with_reducible rfl)
 try simp only[Act.put,List.setIfInBounds_toArray,List.set_cons_zero,List.set_cons_succ]
 refine wpAnyH_take (i:=10) (oi:=⟨some 13,_,_,_,_,_⟩) (v:= ?_) rfl (by kernel_rfl) (by kernel_rfl) (by kernel_rfl) (fun _ _ _ h=>h) (Or.inl ⟨by rfl,?_⟩) (by assumption) ?_
 rotate_left
 ·(intro w hSw;(try dsimp only at hSw);go_simp;try with_reducible rfl)
 try simp only[Act.put,List.setIfInBounds_toArray,List.set_cons_zero,List.set_cons_succ]
 refine wpAnyH_ready (rs:=[0,4,8]) (by kernel_rfl) (by simp) ?_
 refine AllReadyH.cons (o:=⟨some 3,_,_,_,_,_⟩) rfl (fun K hK=> ?_) (AllReadyH.cons (o:=⟨some 7,_,_,_,_,_⟩) rfl (fun K hK=> ?_) (AllReadyH.cons (o:=⟨some 11,_,_,_,_,_⟩) rfl (fun K hK=> ?_) AllReadyH.nil))
 focus
  refine step_build (by kernel_rfl) 3 (by kernel_rfl) 22 39 (by kernel_rfl) build_u ?_
  have G:=hide G.out.make0
  refine hK.out _ _ (CEL.out _ G.out.be) (fun hHeld=> ?_)
  clear hK K
  try simp only[Act.put,List.setIfInBounds_toArray,List.set_cons_zero,List.set_cons_succ]
  refine wpAnyH_ready (rs:=[3,4,8]) (by kernel_rfl) (by simp) ?_
  refine AllReadyH.cons (o:=⟨some 6,_,_,_,_,_⟩) rfl (fun K hK=> ?_) (AllReadyH.cons (o:=⟨some 7,_,_,_,_,_⟩) rfl (fun K hK=> ?_) (AllReadyH.cons (o:=⟨some 11,_,_,_,_,_⟩) rfl (fun K hK=> ?_) AllReadyH.nil))
  focus
   refine G.out.sapp0 sne S0.out L0.out (u64s_one8 pl) (by kernel_rfl) (.tmp 3) (.tmp 5) (by kernel_rfl) (by kernel_rfl) (by kernel_rfl) (fun o0 k0 Y0 g0=> ?_)
   have G:=hide g0
   clear g0
   refine hK.out _ _ (CEL.out _ G.out.be) (fun hHeld=> ?_)
   clear hK K
   try simp only[Act.put,List.setIfInBounds_toArray,List.set_cons_zero,List.set_cons_succ]
   refine wpAnyH_ready (rs:=[4,8]) (by kernel_rfl) (by simp) ?_
   refine AllReadyH.cons (o:=⟨some 7,_,_,_,_,_⟩) rfl (fun K hK=> ?_) (AllReadyH.cons (o:=⟨some 11,_,_,_,_,_⟩) rfl (fun K hK=> ?_) AllReadyH.nil)
   focus
    refine step_build (by kernel_rfl) 7 (by kernel_rfl) 23 4 (by kernel_rfl) build_b ?_
    have G:=hide G.out.make1
    refine hK.out _ _ (CEL.out _ G.out.be) (fun hHeld=> ?_)
    clear hK K
    try simp only[Act.put,List.setIfInBounds_toArray,List.set_cons_zero,List.set_cons_succ]
    refine wpAnyH_ready (rs:=[7,8]) (by kernel_rfl) (by simp) ?_
    refine AllReadyH.cons (o:=⟨some 10,_,_,_,_,_⟩) rfl (fun K hK=> ?_) (AllReadyH.cons (o:=⟨some 11,_,_,_,_,_⟩) rfl (fun K hK=> ?_) AllReadyH.nil)
    focus
     refine G.out.sapp1 sne S1.out L1.out (bools_one1 re) (by kernel_rfl) (.tmp 7) (.tmp 9) (by kernel_rfl) (by kernel_rfl) (by kernel_rfl) (fun o1 k1 Y1 g1=> ?_)
     have G:=hide g1
     clear g1
     refine hK.out _ _ (CEL.out _ G.out.be) (fun hHeld=> ?_)
     clear hK K
     try simp only[Act.put,List.setIfInBounds_toArray,List.set_cons_zero,List.set_cons_succ]
     refine wpAnyH_ready (rs:=[8]) (by kernel_rfl) (by simp) ?_
     refine AllReadyH.cons (o:=⟨some 11,_,_,_,_,_⟩) rfl (fun K hK=> ?_) AllReadyH.nil
     refine step_build (by kernel_rfl) 11 (by kernel_rfl) 22 39 (by kernel_rfl) build_u ?_
     have G:=hide G.out.make2
     refine hK.out _ _ (CEL.out _ G.out.be) (fun hHeld=> ?_)
     clear hK K
     try simp only[Act.put,List.setIfInBounds_toArray,List.set_cons_zero,List.set_cons_succ]
     refine wpAnyH_ready (rs:=[11]) (by kernel_rfl) (by simp) ?_
     refine AllReadyH.cons (o:=⟨some 14,_,_,_,_,_⟩) rfl (fun K hK=> ?_) AllReadyH.nil
     refine G.out.sapp2 sne S2.out L2.out (u64s_one8 fi) (by kernel_rfl) (.tmp 11) (.tmp 13) (by kernel_rfl) (by kernel_rfl) (by kernel_rfl) (fun o2 k2 Y2 g2=> ?_)
     have G:=hide g2
     clear g2
     refine hK.out _ _ (CEL.out _ G.out.be) (fun hHeld=> ?_)
     clear hK K
     try simp only[Act.put,List.setIfInBounds_toArray,List.set_cons_zero,List.set_cons_succ]
     refine wpAnyH_take (i:=12) (oi:=⟨some 15,_,_,_,_,_⟩) (v:= ?_) rfl (by kernel_rfl) (by kernel_rfl) (by kernel_rfl) (fun _ _ _ h=>h) (Or.inl ⟨by rfl,?_⟩) (by assumption) ?_
     rotate_left
     ·(intro w hSw;(try dsimp only at hSw);go_simp;try with_reducible rfl)
     try simp only[Act.put,List.setIfInBounds_toArray,List.set_cons_zero,List.set_cons_succ]
     refine wpAnyH_ready (rs:=[13]) (by kernel_rfl) (by simp) ?_
     refine AllReadyH.cons (o:=⟨none,_,_,_,_,_⟩) rfl (fun K hK=> ?_) AllReadyH.nil
     have q0:=(RES.out _ G.out.be).1
     have q1:=(RES.out _ G.out.be).2.1
     have q2:=(RES.out _ G.out.be).2.2.1
     have f0:=(RES.out _ G.out.be).2.2.2.1
     have f1:=(RES.out _ G.out.be).2.2.2.2.1
     have f2:=(RES.out _ G.out.be).2.2.2.2.2
     go_simp
     refine hK.out _ _ (CE3.out _ _ _ _ G.out.be) (fun hHeld=> ?_)
     clear hK K
     try simp only[Act.put,List.setIfInBounds_toArray,List.set_cons_zero,List.set_cons_succ]
     refine wpAnyH_done (by kernel_rfl) ?_ _
     clear hHeld q0 q1 q2 f0 f1 f2
     go_wp2_with fail
     exact bodyPost_ret (results_one3 Tryz.results11 _ _ _ (LD.out _ _ _ _ G.out.be) rfl) rfl (FIN.out _ _ _ _ _ _ _ G.out)
    focus
     refine step_build (by kernel_rfl) 11 (by kernel_rfl) 22 39 (by kernel_rfl) build_u ?_
     have G:=hide G.out.make2
     refine hK.out _ _ (CEL.out _ G.out.be) (fun hHeld=> ?_)
     clear hK K
     try simp only[Act.put,List.setIfInBounds_toArray,List.set_cons_zero,List.set_cons_succ]
     refine wpAnyH_ready (rs:=[7]) (by kernel_rfl) (by simp) ?_
     refine AllReadyH.cons (o:=⟨some 10,_,_,_,_,_⟩) rfl (fun K hK=> ?_) AllReadyH.nil
     refine G.out.sapp1 sne S1.out L1.out (bools_one1 re) (by kernel_rfl) (.tmp 7) (.tmp 9) (by kernel_rfl) (by kernel_rfl) (by kernel_rfl) (fun o1 k1 Y1 g1=> ?_)
     have G:=hide g1
     clear g1
     refine hK.out _ _ (CEL.out _ G.out.be) (fun hHeld=> ?_)
     clear hK K
     try simp only[Act.put,List.setIfInBounds_toArray,List.set_cons_zero,List.set_cons_succ]
     refine wpAnyH_ready (rs:=[11]) (by kernel_rfl) (by simp) ?_
     refine AllReadyH.cons (o:=⟨some 14,_,_,_,_,_⟩) rfl (fun K hK=> ?_) AllReadyH.nil
     refine G.out.sapp2 sne S2.out L2.out (u64s_one8 fi) (by kernel_rfl) (.tmp 11) (.tmp 13) (by kernel_rfl) (by kernel_rfl) (by kernel_rfl) (fun o2 k2 Y2 g2=> ?_)
     have G:=hide g2
     clear g2
     refine hK.out _ _ (CEL.out _ G.out.be) (fun hHeld=> ?_)
     clear hK K
     try simp only[Act.put,List.setIfInBounds_toArray,List.set_cons_zero,List.set_cons_succ]
     refine wpAnyH_take (i:=12) (oi:=⟨some 15,_,_,_,_,_⟩) (v:= ?_) rfl (by kernel_rfl) (by kernel_rfl) (by kernel_rfl) (fun _ _ _ h=>h) (Or.inl ⟨by rfl,?_⟩) (by assumption) ?_
     rotate_left
     ·(intro w hSw;(try dsimp only at hSw);go_simp;try with_reducible rfl)
     try simp only[Act.put,List.setIfInBounds_toArray,List.set_cons_zero,List.set_cons_succ]
     refine wpAnyH_ready (rs:=[13]) (by kernel_rfl) (by simp) ?_
     refine AllReadyH.cons (o:=⟨none,_,_,_,_,_⟩) rfl (fun K hK=> ?_) AllReadyH.nil
     have q0:=(RES.out _ G.out.be).1
     have q1:=(RES.out _ G.out.be).2.1
     have q2:=(RES.out _ G.out.be).2.2.1
     have f0:=(RES.out _ G.out.be).2.2.2.1
     have f1:=(RES.out _ G.out.be).2.2.2.2.1
     have f2:=(RES.out _ G.out.be).2.2.2.2.2
     go_simp
     refine hK.out _ _ (CE3.out _ _ _ _ G.out.be) (fun hHeld=> ?_)
     clear hK K
     try simp only[Act.put,List.setIfInBounds_toArray,List.set_cons_zero,List.set_cons_succ]
     refine wpAnyH_done (by kernel_rfl) ?_ _
     clear hHeld q0 q1 q2 f0 f1 f2
     go_wp2_with fail
     exact bodyPost_ret (results_one3 Tryz.results11 _ _ _ (LD.out _ _ _ _ G.out.be) rfl) rfl (FIN.out _ _ _ _ _ _ _ G.out)
   focus
    refine step_build (by kernel_rfl) 11 (by kernel_rfl) 22 39 (by kernel_rfl) build_u ?_
    have G:=hide G.out.make2
    refine hK.out _ _ (CEL.out _ G.out.be) (fun hHeld=> ?_)
    clear hK K
    try simp only[Act.put,List.setIfInBounds_toArray,List.set_cons_zero,List.set_cons_succ]
    refine wpAnyH_ready (rs:=[4]) (by kernel_rfl) (by simp) ?_
    refine AllReadyH.cons (o:=⟨some 7,_,_,_,_,_⟩) rfl (fun K hK=> ?_) AllReadyH.nil
    refine step_build (by kernel_rfl) 7 (by kernel_rfl) 23 4 (by kernel_rfl) build_b ?_
    have G:=hide G.out.make1
    refine hK.out _ _ (CEL.out _ G.out.be) (fun hHeld=> ?_)
    clear hK K
    try simp only[Act.put,List.setIfInBounds_toArray,List.set_cons_zero,List.set_cons_succ]
    refine wpAnyH_ready (rs:=[7]) (by kernel_rfl) (by simp) ?_
    refine AllReadyH.cons (o:=⟨some 10,_,_,_,_,_⟩) rfl (fun K hK=> ?_) AllReadyH.nil
    refine G.out.sapp1 sne S1.out L1.out (bools_one1 re) (by kernel_rfl) (.tmp 7) (.tmp 9) (by kernel_rfl) (by kernel_rfl) (by kernel_rfl) (fun o1 k1 Y1 g1=> ?_)
    have G:=hide g1
    clear g1
    refine hK.out _ _ (CEL.out _ G.out.be) (fun hHeld=> ?_)
    clear hK K
    try simp only[Act.put,List.setIfInBounds_toArray,List.set_cons_zero,List.set_cons_succ]
    refine wpAnyH_ready (rs:=[11]) (by kernel_rfl) (by simp) ?_
    refine AllReadyH.cons (o:=⟨some 14,_,_,_,_,_⟩) rfl (fun K hK=> ?_) AllReadyH.nil
    refine G.out.sapp2 sne S2.out L2.out (u64s_one8 fi) (by kernel_rfl) (.tmp 11) (.tmp 13) (by kernel_rfl) (by kernel_rfl) (by kernel_rfl) (fun o2 k2 Y2 g2=> ?_)
    have G:=hide g2
    clear g2
    refine hK.out _ _ (CEL.out _ G.out.be) (fun hHeld=> ?_)
    clear hK K
    try simp only[Act.put,List.setIfInBounds_toArray,List.set_cons_zero,List.set_cons_succ]
    refine wpAnyH_take (i:=12) (oi:=⟨some 15,_,_,_,_,_⟩) (v:= ?_) rfl (by kernel_rfl) (by kernel_rfl) (by kernel_rfl) (fun _ _ _ h=>h) (Or.inl ⟨by rfl,?_⟩) (by assumption) ?_
    rotate_left
    ·(intro w hSw;(try dsimp only at hSw);go_simp;try with_reducible rfl)
    try simp only[Act.put,List.setIfInBounds_toArray,List.set_cons_zero,List.set_cons_succ]
    refine wpAnyH_ready (rs:=[13]) (by kernel_rfl) (by simp) ?_
    refine AllReadyH.cons (o:=⟨none,_,_,_,_,_⟩) rfl (fun K hK=> ?_) AllReadyH.nil
    have q0:=(RES.out _ G.out.be).1
    have q1:=(RES.out _ G.out.be).2.1
    have q2:=(RES.out _ G.out.be).2.2.1
    have f0:=(RES.out _ G.out.be).2.2.2.1
    have f1:=(RES.out _ G.out.be).2.2.2.2.1
    have f2:=(RES.out _ G.out.be).2.2.2.2.2
    go_simp
    refine hK.out _ _ (CE3.out _ _ _ _ G.out.be) (fun hHeld=> ?_)
    clear hK K
    try simp only[Act.put,List.setIfInBounds_toArray,List.set_cons_zero,List.set_cons_succ]
    refine wpAnyH_done (by kernel_rfl) ?_ _
    clear hHeld q0 q1 q2 f0 f1 f2
    go_wp2_with fail
    exact bodyPost_ret (results_one3 Tryz.results11 _ _ _ (LD.out _ _ _ _ G.out.be) rfl) rfl (FIN.out _ _ _ _ _ _ _ G.out)
  focus
   refine step_build (by kernel_rfl) 7 (by kernel_rfl) 23 4 (by kernel_rfl) build_b ?_
   have G:=hide G.out.make1
   refine hK.out _ _ (CEL.out _ G.out.be) (fun hHeld=> ?_)
   clear hK K
   try simp only[Act.put,List.setIfInBounds_toArray,List.set_cons_zero,List.set_cons_succ]
   refine wpAnyH_ready (rs:=[3,8]) (by kernel_rfl) (by simp) ?_
   refine AllReadyH.cons (o:=⟨some 6,_,_,_,_,_⟩) rfl (fun K hK=> ?_) (AllReadyH.cons (o:=⟨some 11,_,_,_,_,_⟩) rfl (fun K hK=> ?_) AllReadyH.nil)
   focus
    refine G.out.sapp0 sne S0.out L0.out (u64s_one8 pl) (by kernel_rfl) (.tmp 3) (.tmp 5) (by kernel_rfl) (by kernel_rfl) (by kernel_rfl) (fun o0 k0 Y0 g0=> ?_)
    have G:=hide g0
    clear g0
    refine hK.out _ _ (CEL.out _ G.out.be) (fun hHeld=> ?_)
    clear hK K
    try simp only[Act.put,List.setIfInBounds_toArray,List.set_cons_zero,List.set_cons_succ]
    refine wpAnyH_ready (rs:=[7,8]) (by kernel_rfl) (by simp) ?_
    refine AllReadyH.cons (o:=⟨some 10,_,_,_,_,_⟩) rfl (fun K hK=> ?_) (AllReadyH.cons (o:=⟨some 11,_,_,_,_,_⟩) rfl (fun K hK=> ?_) AllReadyH.nil)
    focus
     refine G.out.sapp1 sne S1.out L1.out (bools_one1 re) (by kernel_rfl) (.tmp 7) (.tmp 9) (by kernel_rfl) (by kernel_rfl) (by kernel_rfl) (fun o1 k1 Y1 g1=> ?_)
     have G:=hide g1
     clear g1
     refine hK.out _ _ (CEL.out _ G.out.be) (fun hHeld=> ?_)
     clear hK K
     try simp only[Act.put,List.setIfInBounds_toArray,List.set_cons_zero,List.set_cons_succ]
     refine wpAnyH_ready (rs:=[8]) (by kernel_rfl) (by simp) ?_
     refine AllReadyH.cons (o:=⟨some 11,_,_,_,_,_⟩) rfl (fun K hK=> ?_) AllReadyH.nil
     refine step_build (by kernel_rfl) 11 (by kernel_rfl) 22 39 (by kernel_rfl) build_u ?_
     have G:=hide G.out.make2
     refine hK.out _ _ (CEL.out _ G.out.be) (fun hHeld=> ?_)
     clear hK K
     try simp only[Act.put,List.setIfInBounds_toArray,List.set_cons_zero,List.set_cons_succ]
     refine wpAnyH_ready (rs:=[11]) (by kernel_rfl) (by simp) ?_
     refine AllReadyH.cons (o:=⟨some 14,_,_,_,_,_⟩) rfl (fun K hK=> ?_) AllReadyH.nil
     refine G.out.sapp2 sne S2.out L2.out (u64s_one8 fi) (by kernel_rfl) (.tmp 11) (.tmp 13) (by kernel_rfl) (by kernel_rfl) (by kernel_rfl) (fun o2 k2 Y2 g2=> ?_)
     have G:=hide g2
     clear g2
     refine hK.out _ _ (CEL.out _ G.out.be) (fun hHeld=> ?_)
     clear hK K
     try simp only[Act.put,List.setIfInBounds_toArray,List.set_cons_zero,List.set_cons_succ]
     refine wpAnyH_take (i:=12) (oi:=⟨some 15,_,_,_,_,_⟩) (v:= ?_) rfl (by kernel_rfl) (by kernel_rfl) (by kernel_rfl) (fun _ _ _ h=>h) (Or.inl ⟨by rfl,?_⟩) (by assumption) ?_
     rotate_left
     ·(intro w hSw;(try dsimp only at hSw);go_simp;try with_reducible rfl)
     try simp only[Act.put,List.setIfInBounds_toArray,List.set_cons_zero,List.set_cons_succ]
     refine wpAnyH_ready (rs:=[13]) (by kernel_rfl) (by simp) ?_
     refine AllReadyH.cons (o:=⟨none,_,_,_,_,_⟩) rfl (fun K hK=> ?_) AllReadyH.nil
     have q0:=(RES.out _ G.out.be).1
     have q1:=(RES.out _ G.out.be).2.1
     have q2:=(RES.out _ G.out.be).2.2.1
     have f0:=(RES.out _ G.out.be).2.2.2.1
     have f1:=(RES.out _ G.out.be).2.2.2.2.1
     have f2:=(RES.out _ G.out.be).2.2.2.2.2
     go_simp
     refine hK.out _ _ (CE3.out _ _ _ _ G.out.be) (fun hHeld=> ?_)
     clear hK K
     try simp only[Act.put,List.setIfInBounds_toArray,List.set_cons_zero,List.set_cons_succ]
     refine wpAnyH_done (by kernel_rfl) ?_ _
     clear hHeld q0 q1 q2 f0 f1 f2
     go_wp2_with fail
     exact bodyPost_ret (results_one3 Tryz.results11 _ _ _ (LD.out _ _ _ _ G.out.be) rfl) rfl (FIN.out _ _ _ _ _ _ _ G.out)
    focus
     refine step_build (by kernel_rfl) 11 (by kernel_rfl) 22 39 (by kernel_rfl) build_u ?_
     have G:=hide G.out.make2
     refine hK.out _ _ (CEL.out _ G.out.be) (fun hHeld=> ?_)
     clear hK K
     try simp only[Act.put,List.setIfInBounds_toArray,List.set_cons_zero,List.set_cons_succ]
     refine wpAnyH_ready (rs:=[7]) (by kernel_rfl) (by simp) ?_
     refine AllReadyH.cons (o:=⟨some 10,_,_,_,_,_⟩) rfl (fun K hK=> ?_) AllReadyH.nil
     refine G.out.sapp1 sne S1.out L1.out (bools_one1 re) (by kernel_rfl) (.tmp 7) (.tmp 9) (by kernel_rfl) (by kernel_rfl) (by kernel_rfl) (fun o1 k1 Y1 g1=> ?_)
     have G:=hide g1
     clear g1
     refine hK.out _ _ (CEL.out _ G.out.be) (fun hHeld=> ?_)
     clear hK K
     try simp only[Act.put,List.setIfInBounds_toArray,List.set_cons_zero,List.set_cons_succ]
     refine wpAnyH_ready (rs:=[11]) (by kernel_rfl) (by simp) ?_
     refine AllReadyH.cons (o:=⟨some 14,_,_,_,_,_⟩) rfl (fun K hK=> ?_) AllReadyH.nil
     refine G.out.sapp2 sne S2.out L2.out (u64s_one8 fi) (by kernel_rfl) (.tmp 11) (.tmp 13) (by kernel_rfl) (by kernel_rfl) (by kernel_rfl) (fun o2 k2 Y2 g2=> ?_)
     have G:=hide g2
     clear g2
     refine hK.out _ _ (CEL.out _ G.out.be) (fun hHeld=> ?_)
     clear hK K
     try simp only[Act.put,List.setIfInBounds_toArray,List.set_cons_zero,List.set_cons_succ]
     refine wpAnyH_take (i:=12) (oi:=⟨some 15,_,_,_,_,_⟩) (v:= ?_) rfl (by kernel_rfl) (by kernel_rfl) (by kernel_rfl) (fun _ _ _ h=>h) (Or.inl ⟨by rfl,?_⟩) (by assumption) ?_
     rotate_left
     ·(intro w hSw;(try dsimp only at hSw);go_simp;try with_reducible rfl)
     try simp only[Act.put,List.setIfInBounds_toArray,List.set_cons_zero,List.set_cons_succ]
     refine wpAnyH_ready (rs:=[13]) (by kernel_rfl) (by simp) ?_
     refine AllReadyH.cons (o:=⟨none,_,_,_,_,_⟩) rfl (fun K hK=> ?_) AllReadyH.nil
     have q0:=(RES.out _ G.out.be).1
     have q1:=(RES.out _ G.out.be).2.1
     have q2:=(RES.out _ G.out.be).2.2.1
     have f0:=(RES.out _ G.out.be).2.2.2.1
     have f1:=(RES.out _ G.out.be).2.2.2.2.1
     have f2:=(RES.out _ G.out.be).2.2.2.2.2
     go_simp
     refine hK.out _ _ (CE3.out _ _ _ _ G.out.be) (fun hHeld=> ?_)
     clear hK K
     try simp only[Act.put,List.setIfInBounds_toArray,List.set_cons_zero,List.set_cons_succ]
     refine wpAnyH_done (by kernel_rfl) ?_ _
     clear hHeld q0 q1 q2 f0 f1 f2
     go_wp2_with fail
     exact bodyPost_ret (results_one3 Tryz.results11 _ _ _ (LD.out _ _ _ _ G.out.be) rfl) rfl (FIN.out _ _ _ _ _ _ _ G.out)
   focus
    refine step_build (by kernel_rfl) 11 (by kernel_rfl) 22 39 (by kernel_rfl) build_u ?_
    have G:=hide G.out.make2
    refine hK.out _ _ (CEL.out _ G.out.be) (fun hHeld=> ?_)
    clear hK K
    try simp only[Act.put,List.setIfInBounds_toArray,List.set_cons_zero,List.set_cons_succ]
    refine wpAnyH_ready (rs:=[3]) (by kernel_rfl) (by simp) ?_
    refine AllReadyH.cons (o:=⟨some 6,_,_,_,_,_⟩) rfl (fun K hK=> ?_) AllReadyH.nil
    refine G.out.sapp0 sne S0.out L0.out (u64s_one8 pl) (by kernel_rfl) (.tmp 3) (.tmp 5) (by kernel_rfl) (by kernel_rfl) (by kernel_rfl) (fun o0 k0 Y0 g0=> ?_)
    have G:=hide g0
    clear g0
    refine hK.out _ _ (CEL.out _ G.out.be) (fun hHeld=> ?_)
    clear hK K
    try simp only[Act.put,List.setIfInBounds_toArray,List.set_cons_zero,List.set_cons_succ]
    refine wpAnyH_ready (rs:=[7]) (by kernel_rfl) (by simp) ?_
    refine AllReadyH.cons (o:=⟨some 10,_,_,_,_,_⟩) rfl (fun K hK=> ?_) AllReadyH.nil
    refine G.out.sapp1 sne S1.out L1.out (bools_one1 re) (by kernel_rfl) (.tmp 7) (.tmp 9) (by kernel_rfl) (by kernel_rfl) (by kernel_rfl) (fun o1 k1 Y1 g1=> ?_)
    have G:=hide g1
    clear g1
    refine hK.out _ _ (CEL.out _ G.out.be) (fun hHeld=> ?_)
    clear hK K
    try simp only[Act.put,List.setIfInBounds_toArray,List.set_cons_zero,List.set_cons_succ]
    refine wpAnyH_ready (rs:=[11]) (by kernel_rfl) (by simp) ?_
    refine AllReadyH.cons (o:=⟨some 14,_,_,_,_,_⟩) rfl (fun K hK=> ?_) AllReadyH.nil
    refine G.out.sapp2 sne S2.out L2.out (u64s_one8 fi) (by kernel_rfl) (.tmp 11) (.tmp 13) (by kernel_rfl) (by kernel_rfl) (by kernel_rfl) (fun o2 k2 Y2 g2=> ?_)
    have G:=hide g2
    clear g2
    refine hK.out _ _ (CEL.out _ G.out.be) (fun hHeld=> ?_)
    clear hK K
    try simp only[Act.put,List.setIfInBounds_toArray,List.set_cons_zero,List.set_cons_succ]
    refine wpAnyH_take (i:=12) (oi:=⟨some 15,_,_,_,_,_⟩) (v:= ?_) rfl (by kernel_rfl) (by kernel_rfl) (by kernel_rfl) (fun _ _ _ h=>h) (Or.inl ⟨by rfl,?_⟩) (by assumption) ?_
    rotate_left
    ·(intro w hSw;(try dsimp only at hSw);go_simp;try with_reducible rfl)
    try simp only[Act.put,List.setIfInBounds_toArray,List.set_cons_zero,List.set_cons_succ]
    refine wpAnyH_ready (rs:=[13]) (by kernel_rfl) (by simp) ?_
    refine AllReadyH.cons (o:=⟨none,_,_,_,_,_⟩) rfl (fun K hK=> ?_) AllReadyH.nil
    have q0:=(RES.out _ G.out.be).1
    have q1:=(RES.out _ G.out.be).2.1
    have q2:=(RES.out _ G.out.be).2.2.1
    have f0:=(RES.out _ G.out.be).2.2.2.1
    have f1:=(RES.out _ G.out.be).2.2.2.2.1
    have f2:=(RES.out _ G.out.be).2.2.2.2.2
    go_simp
    refine hK.out _ _ (CE3.out _ _ _ _ G.out.be) (fun hHeld=> ?_)
    clear hK K
    try simp only[Act.put,List.setIfInBounds_toArray,List.set_cons_zero,List.set_cons_succ]
    refine wpAnyH_done (by kernel_rfl) ?_ _
    clear hHeld q0 q1 q2 f0 f1 f2
    go_wp2_with fail
    exact bodyPost_ret (results_one3 Tryz.results11 _ _ _ (LD.out _ _ _ _ G.out.be) rfl) rfl (FIN.out _ _ _ _ _ _ _ G.out)
  focus
   refine step_build (by kernel_rfl) 11 (by kernel_rfl) 22 39 (by kernel_rfl) build_u ?_
   have G:=hide G.out.make2
   refine hK.out _ _ (CEL.out _ G.out.be) (fun hHeld=> ?_)
   clear hK K
   try simp only[Act.put,List.setIfInBounds_toArray,List.set_cons_zero,List.set_cons_succ]
   refine wpAnyH_ready (rs:=[3,4]) (by kernel_rfl) (by simp) ?_
   refine AllReadyH.cons (o:=⟨some 6,_,_,_,_,_⟩) rfl (fun K hK=> ?_) (AllReadyH.cons (o:=⟨some 7,_,_,_,_,_⟩) rfl (fun K hK=> ?_) AllReadyH.nil)
   focus
    refine G.out.sapp0 sne S0.out L0.out (u64s_one8 pl) (by kernel_rfl) (.tmp 3) (.tmp 5) (by kernel_rfl) (by kernel_rfl) (by kernel_rfl) (fun o0 k0 Y0 g0=> ?_)
    have G:=hide g0
    clear g0
    refine hK.out _ _ (CEL.out _ G.out.be) (fun hHeld=> ?_)
    clear hK K
    try simp only[Act.put,List.setIfInBounds_toArray,List.set_cons_zero,List.set_cons_succ]
    refine wpAnyH_ready (rs:=[4]) (by kernel_rfl) (by simp) ?_
    refine AllReadyH.cons (o:=⟨some 7,_,_,_,_,_⟩) rfl (fun K hK=> ?_) AllReadyH.nil
    refine step_build (by kernel_rfl) 7 (by kernel_rfl) 23 4 (by kernel_rfl) build_b ?_
    have G:=hide G.out.make1
    refine hK.out _ _ (CEL.out _ G.out.be) (fun hHeld=> ?_)
    clear hK K
    try simp only[Act.put,List.setIfInBounds_toArray,List.set_cons_zero,List.set_cons_succ]
    refine wpAnyH_ready (rs:=[7]) (by kernel_rfl) (by simp) ?_
    refine AllReadyH.cons (o:=⟨some 10,_,_,_,_,_⟩) rfl (fun K hK=> ?_) AllReadyH.nil
    refine G.out.sapp1 sne S1.out L1.out (bools_one1 re) (by kernel_rfl) (.tmp 7) (.tmp 9) (by kernel_rfl) (by kernel_rfl) (by kernel_rfl) (fun o1 k1 Y1 g1=> ?_)
    have G:=hide g1
    clear g1
    refine hK.out _ _ (CEL.out _ G.out.be) (fun hHeld=> ?_)
    clear hK K
    try simp only[Act.put,List.setIfInBounds_toArray,List.set_cons_zero,List.set_cons_succ]
    refine wpAnyH_ready (rs:=[11]) (by kernel_rfl) (by simp) ?_
    refine AllReadyH.cons (o:=⟨some 14,_,_,_,_,_⟩) rfl (fun K hK=> ?_) AllReadyH.nil
    refine G.out.sapp2 sne S2.out L2.out (u64s_one8 fi) (by kernel_rfl) (.tmp 11) (.tmp 13) (by kernel_rfl) (by kernel_rfl) (by kernel_rfl) (fun o2 k2 Y2 g2=> ?_)
    have G:=hide g2
    clear g2
    refine hK.out _ _ (CEL.out _ G.out.be) (fun hHeld=> ?_)
    clear hK K
    try simp only[Act.put,List.setIfInBounds_toArray,List.set_cons_zero,List.set_cons_succ]
    refine wpAnyH_take (i:=12) (oi:=⟨some 15,_,_,_,_,_⟩) (v:= ?_) rfl (by kernel_rfl) (by kernel_rfl) (by kernel_rfl) (fun _ _ _ h=>h) (Or.inl ⟨by rfl,?_⟩) (by assumption) ?_
    rotate_left
    ·(intro w hSw;(try dsimp only at hSw);go_simp;try with_reducible rfl)
    try simp only[Act.put,List.setIfInBounds_toArray,List.set_cons_zero,List.set_cons_succ]
    refine wpAnyH_ready (rs:=[13]) (by kernel_rfl) (by simp) ?_
    refine AllReadyH.cons (o:=⟨none,_,_,_,_,_⟩) rfl (fun K hK=> ?_) AllReadyH.nil
    have q0:=(RES.out _ G.out.be).1
    have q1:=(RES.out _ G.out.be).2.1
    have q2:=(RES.out _ G.out.be).2.2.1
    have f0:=(RES.out _ G.out.be).2.2.2.1
    have f1:=(RES.out _ G.out.be).2.2.2.2.1
    have f2:=(RES.out _ G.out.be).2.2.2.2.2
    go_simp
    refine hK.out _ _ (CE3.out _ _ _ _ G.out.be) (fun hHeld=> ?_)
    clear hK K
    try simp only[Act.put,List.setIfInBounds_toArray,List.set_cons_zero,List.set_cons_succ]
    refine wpAnyH_done (by kernel_rfl) ?_ _
    clear hHeld q0 q1 q2 f0 f1 f2
    go_wp2_with fail
    exact bodyPost_ret (results_one3 Tryz.results11 _ _ _ (LD.out _ _ _ _ G.out.be) rfl) rfl (FIN.out _ _ _ _ _ _ _ G.out)
   focus
    refine step_build (by kernel_rfl) 7 (by kernel_rfl) 23 4 (by kernel_rfl) build_b ?_
    have G:=hide G.out.make1
    refine hK.out _ _ (CEL.out _ G.out.be) (fun hHeld=> ?_)
    clear hK K
    try simp only[Act.put,List.setIfInBounds_toArray,List.set_cons_zero,List.set_cons_succ]
    refine wpAnyH_ready (rs:=[3]) (by kernel_rfl) (by simp) ?_
    refine AllReadyH.cons (o:=⟨some 6,_,_,_,_,_⟩) rfl (fun K hK=> ?_) AllReadyH.nil
    refine G.out.sapp0 sne S0.out L0.out (u64s_one8 pl) (by kernel_rfl) (.tmp 3) (.tmp 5) (by kernel_rfl) (by kernel_rfl) (by kernel_rfl) (fun o0 k0 Y0 g0=> ?_)
    have G:=hide g0
    clear g0
    refine hK.out _ _ (CEL.out _ G.out.be) (fun hHeld=> ?_)
    clear hK K
    try simp only[Act.put,List.setIfInBounds_toArray,List.set_cons_zero,List.set_cons_succ]
    refine wpAnyH_ready (rs:=[7]) (by kernel_rfl) (by simp) ?_
    refine AllReadyH.cons (o:=⟨some 10,_,_,_,_,_⟩) rfl (fun K hK=> ?_) AllReadyH.nil
    refine G.out.sapp1 sne S1.out L1.out (bools_one1 re) (by kernel_rfl) (.tmp 7) (.tmp 9) (by kernel_rfl) (by kernel_rfl) (by kernel_rfl) (fun o1 k1 Y1 g1=> ?_)
    have G:=hide g1
    clear g1
    refine hK.out _ _ (CEL.out _ G.out.be) (fun hHeld=> ?_)
    clear hK K
    try simp only[Act.put,List.setIfInBounds_toArray,List.set_cons_zero,List.set_cons_succ]
    refine wpAnyH_ready (rs:=[11]) (by kernel_rfl) (by simp) ?_
    refine AllReadyH.cons (o:=⟨some 14,_,_,_,_,_⟩) rfl (fun K hK=> ?_) AllReadyH.nil
    refine G.out.sapp2 sne S2.out L2.out (u64s_one8 fi) (by kernel_rfl) (.tmp 11) (.tmp 13) (by kernel_rfl) (by kernel_rfl) (by kernel_rfl) (fun o2 k2 Y2 g2=> ?_)
    have G:=hide g2
    clear g2
    refine hK.out _ _ (CEL.out _ G.out.be) (fun hHeld=> ?_)
    clear hK K
    try simp only[Act.put,List.setIfInBounds_toArray,List.set_cons_zero,List.set_cons_succ]
    refine wpAnyH_take (i:=12) (oi:=⟨some 15,_,_,_,_,_⟩) (v:= ?_) rfl (by kernel_rfl) (by kernel_rfl) (by kernel_rfl) (fun _ _ _ h=>h) (Or.inl ⟨by rfl,?_⟩) (by assumption) ?_
    rotate_left
    ·(intro w hSw;(try dsimp only at hSw);go_simp;try with_reducible rfl)
    try simp only[Act.put,List.setIfInBounds_toArray,List.set_cons_zero,List.set_cons_succ]
    refine wpAnyH_ready (rs:=[13]) (by kernel_rfl) (by simp) ?_
    refine AllReadyH.cons (o:=⟨none,_,_,_,_,_⟩) rfl (fun K hK=> ?_) AllReadyH.nil
    have q0:=(RES.out _ G.out.be).1
    have q1:=(RES.out _ G.out.be).2.1
    have q2:=(RES.out _ G.out.be).2.2.1
    have f0:=(RES.out _ G.out.be).2.2.2.1
    have f1:=(RES.out _ G.out.be).2.2.2.2.1
    have f2:=(RES.out _ G.out.be).2.2.2.2.2
    go_simp
    refine hK.out _ _ (CE3.out _ _ _ _ G.out.be) (fun hHeld=> ?_)
    clear hK K
    try simp only[Act.put,List.setIfInBounds_toArray,List.set_cons_zero,List.set_cons_succ]
    refine wpAnyH_done (by kernel_rfl) ?_ _
    clear hHeld q0 q1 q2 f0 f1 f2
    go_wp2_with fail
    exact bodyPost_ret (results_one3 Tryz.results11 _ _ _ (LD.out _ _ _ _ G.out.be) rfl) rfl (FIN.out _ _ _ _ _ _ _ G.out)
 focus
  refine step_build (by kernel_rfl) 7 (by kernel_rfl) 23 4 (by kernel_rfl) build_b ?_
  have G:=hide G.out.make1
  refine hK.out _ _ (CEL.out _ G.out.be) (fun hHeld=> ?_)
  clear hK K
  try simp only[Act.put,List.setIfInBounds_toArray,List.set_cons_zero,List.set_cons_succ]
  refine wpAnyH_ready (rs:=[0,8]) (by kernel_rfl) (by simp) ?_
  refine AllReadyH.cons (o:=⟨some 3,_,_,_,_,_⟩) rfl (fun K hK=> ?_) (AllReadyH.cons (o:=⟨some 11,_,_,_,_,_⟩) rfl (fun K hK=> ?_) AllReadyH.nil)
  focus
   refine step_build (by kernel_rfl) 3 (by kernel_rfl) 22 39 (by kernel_rfl) build_u ?_
   have G:=hide G.out.make0
   refine hK.out _ _ (CEL.out _ G.out.be) (fun hHeld=> ?_)
   clear hK K
   try simp only[Act.put,List.setIfInBounds_toArray,List.set_cons_zero,List.set_cons_succ]
   refine wpAnyH_ready (rs:=[3,8]) (by kernel_rfl) (by simp) ?_
   refine AllReadyH.cons (o:=⟨some 6,_,_,_,_,_⟩) rfl (fun K hK=> ?_) (AllReadyH.cons (o:=⟨some 11,_,_,_,_,_⟩) rfl (fun K hK=> ?_) AllReadyH.nil)
   focus
    refine G.out.sapp0 sne S0.out L0.out (u64s_one8 pl) (by kernel_rfl) (.tmp 3) (.tmp 5) (by kernel_rfl) (by kernel_rfl) (by kernel_rfl) (fun o0 k0 Y0 g0=> ?_)
    have G:=hide g0
    clear g0
    refine hK.out _ _ (CEL.out _ G.out.be) (fun hHeld=> ?_)
    clear hK K
    try simp only[Act.put,List.setIfInBounds_toArray,List.set_cons_zero,List.set_cons_succ]
    refine wpAnyH_ready (rs:=[7,8]) (by kernel_rfl) (by simp) ?_
    refine AllReadyH.cons (o:=⟨some 10,_,_,_,_,_⟩) rfl (fun K hK=> ?_) (AllReadyH.cons (o:=⟨some 11,_,_,_,_,_⟩) rfl (fun K hK=> ?_) AllReadyH.nil)
    focus
     refine G.out.sapp1 sne S1.out L1.out (bools_one1 re) (by kernel_rfl) (.tmp 7) (.tmp 9) (by kernel_rfl) (by kernel_rfl) (by kernel_rfl) (fun o1 k1 Y1 g1=> ?_)
     have G:=hide g1
     clear g1
     refine hK.out _ _ (CEL.out _ G.out.be) (fun hHeld=> ?_)
     clear hK K
     try simp only[Act.put,List.setIfInBounds_toArray,List.set_cons_zero,List.set_cons_succ]
     refine wpAnyH_ready (rs:=[8]) (by kernel_rfl) (by simp) ?_
     refine AllReadyH.cons (o:=⟨some 11,_,_,_,_,_⟩) rfl (fun K hK=> ?_) AllReadyH.nil
     refine step_build (by kernel_rfl) 11 (by kernel_rfl) 22 39 (by kernel_rfl) build_u ?_
     have G:=hide G.out.make2
     refine hK.out _ _ (CEL.out _ G.out.be) (fun hHeld=> ?_)
     clear hK K
     try simp only[Act.put,List.setIfInBounds_toArray,List.set_cons_zero,List.set_cons_succ]
     refine wpAnyH_ready (rs:=[11]) (by kernel_rfl) (by simp) ?_
     refine AllReadyH.cons (o:=⟨some 14,_,_,_,_,_⟩) rfl (fun K hK=> ?_) AllReadyH.nil
     refine G.out.sapp2 sne S2.out L2.out (u64s_one8 fi) (by kernel_rfl) (.tmp 11) (.tmp 13) (by kernel_rfl) (by kernel_rfl) (by kernel_rfl) (fun o2 k2 Y2 g2=> ?_)
     have G:=hide g2
     clear g2
     refine hK.out _ _ (CEL.out _ G.out.be) (fun hHeld=> ?_)
     clear hK K
     try simp only[Act.put,List.setIfInBounds_toArray,List.set_cons_zero,List.set_cons_succ]
     refine wpAnyH_take (i:=12) (oi:=⟨some 15,_,_,_,_,_⟩) (v:= ?_) rfl (by kernel_rfl) (by kernel_rfl) (by kernel_rfl) (fun _ _ _ h=>h) (Or.inl ⟨by rfl,?_⟩) (by assumption) ?_
     rotate_left
     ·(intro w hSw;(try dsimp only at hSw);go_simp;try with_reducible rfl)
     try simp only[Act.put,List.setIfInBounds_toArray,List.set_cons_zero,List.set_cons_succ]
     refine wpAnyH_ready (rs:=[13]) (by kernel_rfl) (by simp) ?_
     refine AllReadyH.cons (o:=⟨none,_,_,_,_,_⟩) rfl (fun K hK=> ?_) AllReadyH.nil
     have q0:=(RES.out _ G.out.be).1
     have q1:=(RES.out _ G.out.be).2.1
     have q2:=(RES.out _ G.out.be).2.2.1
     have f0:=(RES.out _ G.out.be).2.2.2.1
     have f1:=(RES.out _ G.out.be).2.2.2.2.1
     have f2:=(RES.out _ G.out.be).2.2.2.2.2
     go_simp
     refine hK.out _ _ (CE3.out _ _ _ _ G.out.be) (fun hHeld=> ?_)
     clear hK K
     try simp only[Act.put,List.setIfInBounds_toArray,List.set_cons_zero,List.set_cons_succ]
     refine wpAnyH_done (by kernel_rfl) ?_ _
     clear hHeld q0 q1 q2 f0 f1 f2
     go_wp2_with fail
     exact bodyPost_ret (results_one3 Tryz.results11 _ _ _ (LD.out _ _ _ _ G.out.be) rfl) rfl (FIN.out _ _ _ _ _ _ _ G.out)
    focus
     refine step_build (by kernel_rfl) 11 (by kernel_rfl) 22 39 (by kernel_rfl) build_u ?_
     have G:=hide G.out.make2
     refine hK.out _ _ (CEL.out _ G.out.be) (fun hHeld=> ?_)
     clear hK K
     try simp only[Act.put,List.setIfInBounds_toArray,List.set_cons_zero,List.set_cons_succ]
     refine wpAnyH_ready (rs:=[7]) (by kernel_rfl) (by simp) ?_
     refine AllReadyH.cons (o:=⟨some 10,_,_,_,_,_⟩) rfl (fun K hK=> ?_) AllReadyH.nil
     refine G.out.sapp1 sne S1.out L1.out (bools_one1 re) (by kernel_rfl) (.tmp 7) (.tmp 9) (by kernel_rfl) (by kernel_rfl) (by kernel_rfl) (fun o1 k1 Y1 g1=> ?_)
     have G:=hide g1
     clear g1
     refine hK.out _ _ (CEL.out _ G.out.be) (fun hHeld=> ?_)
     clear hK K
     try simp only[Act.put,List.setIfInBounds_toArray,List.set_cons_zero,List.set_cons_succ]
     refine wpAnyH_ready (rs:=[11]) (by kernel_rfl) (by simp) ?_
     refine AllReadyH.cons (o:=⟨some 14,_,_,_,_,_⟩) rfl (fun K hK=> ?_) AllReadyH.nil
     refine G.out.sapp2 sne S2.out L2.out (u64s_one8 fi) (by kernel_rfl) (.tmp 11) (.tmp 13) (by kernel_rfl) (by kernel_rfl) (by kernel_rfl) (fun o2 k2 Y2 g2=> ?_)
     have G:=hide g2
     clear g2
     refine hK.out _ _ (CEL.out _ G.out.be) (fun hHeld=> ?_)
     clear hK K
     try simp only[Act.put,List.setIfInBounds_toArray,List.set_cons_zero,List.set_cons_succ]
     refine wpAnyH_take (i:=12) (oi:=⟨some 15,_,_,_,_,_⟩) (v:= ?_) rfl (by kernel_rfl) (by kernel_rfl) (by kernel_rfl) (fun _ _ _ h=>h) (Or.inl ⟨by rfl,?_⟩) (by assumption) ?_
     rotate_left
     ·(intro w hSw;(try dsimp only at hSw);go_simp;try with_reducible rfl)
     try simp only[Act.put,List.setIfInBounds_toArray,List.set_cons_zero,List.set_cons_succ]
     refine wpAnyH_ready (rs:=[13]) (by kernel_rfl) (by simp) ?_
     refine AllReadyH.cons (o:=⟨none,_,_,_,_,_⟩) rfl (fun K hK=> ?_) AllReadyH.nil
     have q0:=(RES.out _ G.out.be).1
     have q1:=(RES.out _ G.out.be).2.1
     have q2:=(RES.out _ G.out.be).2.2.1
     have f0:=(RES.out _ G.out.be).2.2.2.1
     have f1:=(RES.out _ G.out.be).2.2.2.2.1
     have f2:=(RES.out _ G.out.be).2.2.2.2.2
     go_simp
     refine hK.out _ _ (CE3.out _ _ _ _ G.out.be) (fun hHeld=> ?_)
     clear hK K
     try simp only[Act.put,List.setIfInBounds_toArray,List.set_cons_zero,List.set_cons_succ]
     refine wpAnyH_done (by kernel_rfl) ?_ _
     clear hHeld q0 q1 q2 f0 f1 f2
     go_wp2_with fail
     exact bodyPost_ret (results_one3 Tryz.results11 _ _ _ (LD.out _ _ _ _ G.out.be) rfl) rfl (FIN.out _ _ _ _ _ _ _ G.out)
   focus
    refine step_build (by kernel_rfl) 11 (by kernel_rfl) 22 39 (by kernel_rfl) build_u ?_
    have G:=hide G.out.make2
    refine hK.out _ _ (CEL.out _ G.out.be) (fun hHeld=> ?_)
    clear hK K
    try simp only[Act.put,List.setIfInBounds_toArray,List.set_cons_zero,List.set_cons_succ]
    refine wpAnyH_ready (rs:=[3]) (by kernel_rfl) (by simp) ?_
    refine AllReadyH.cons (o:=⟨some 6,_,_,_,_,_⟩) rfl (fun K hK=> ?_) AllReadyH.nil
    refine G.out.sapp0 sne S0.out L0.out (u64s_one8 pl) (by kernel_rfl) (.tmp 3) (.tmp 5) (by kernel_rfl) (by kernel_rfl) (by kernel_rfl) (fun o0 k0 Y0 g0=> ?_)
    have G:=hide g0
    clear g0
    refine hK.out _ _ (CEL.out _ G.out.be) (fun hHeld=> ?_)
    clear hK K
    try simp only[Act.put,List.setIfInBounds_toArray,List.set_cons_zero,List.set_cons_succ]
    refine wpAnyH_ready (rs:=[7]) (by kernel_rfl) (by simp) ?_
    refine AllReadyH.cons (o:=⟨some 10,_,_,_,_,_⟩) rfl (fun K hK=> ?_) AllReadyH.nil
    refine G.out.sapp1 sne S1.out L1.out (bools_one1 re) (by kernel_rfl) (.tmp 7) (.tmp 9) (by kernel_rfl) (by kernel_rfl) (by kernel_rfl) (fun o1 k1 Y1 g1=> ?_)
    have G:=hide g1
    clear g1
    refine hK.out _ _ (CEL.out _ G.out.be) (fun hHeld=> ?_)
    clear hK K
    try simp only[Act.put,List.setIfInBounds_toArray,List.set_cons_zero,List.set_cons_succ]
    refine wpAnyH_ready (rs:=[11]) (by kernel_rfl) (by simp) ?_
    refine AllReadyH.cons (o:=⟨some 14,_,_,_,_,_⟩) rfl (fun K hK=> ?_) AllReadyH.nil
    refine G.out.sapp2 sne S2.out L2.out (u64s_one8 fi) (by kernel_rfl) (.tmp 11) (.tmp 13) (by kernel_rfl) (by kernel_rfl) (by kernel_rfl) (fun o2 k2 Y2 g2=> ?_)
    have G:=hide g2
    clear g2
    refine hK.out _ _ (CEL.out _ G.out.be) (fun hHeld=> ?_)
    clear hK K
    try simp only[Act.put,List.setIfInBounds_toArray,List.set_cons_zero,List.set_cons_succ]
    refine wpAnyH_take (i:=12) (oi:=⟨some 15,_,_,_,_,_⟩) (v:= ?_) rfl (by kernel_rfl) (by kernel_rfl) (by kernel_rfl) (fun _ _ _ h=>h) (Or.inl ⟨by rfl,?_⟩) (by assumption) ?_
    rotate_left
    ·(intro w hSw;(try dsimp only at hSw);go_simp;try with_reducible rfl)
    try simp only[Act.put,List.setIfInBounds_toArray,List.set_cons_zero,List.set_cons_succ]
    refine wpAnyH_ready (rs:=[13]) (by kernel_rfl) (by simp) ?_
    refine AllReadyH.cons (o:=⟨none,_,_,_,_,_⟩) rfl (fun K hK=> ?_) AllReadyH.nil
    have q0:=(RES.out _ G.out.be).1
    have q1:=(RES.out _ G.out.be).2.1
    have q2:=(RES.out _ G.out.be).2.2.1
    have f0:=(RES.out _ G.out.be).2.2.2.1
    have f1:=(RES.out _ G.out.be).2.2.2.2.1
    have f2:=(RES.out _ G.out.be).2.2.2.2.2
    go_simp
    refine hK.out _ _ (CE3.out _ _ _ _ G.out.be) (fun hHeld=> ?_)
    clear hK K
    try simp only[Act.put,List.setIfInBounds_toArray,List.set_cons_zero,List.set_cons_succ]
    refine wpAnyH_done (by kernel_rfl) ?_ _
    clear hHeld q0 q1 q2 f0 f1 f2
    go_wp2_with fail
    exact bodyPost_ret (results_one3 Tryz.results11 _ _ _ (LD.out _ _ _ _ G.out.be) rfl) rfl (FIN.out _ _ _ _ _ _ _ G.out)
  focus
   refine step_build (by kernel_rfl) 11 (by kernel_rfl) 22 39 (by kernel_rfl) build_u ?_
   have G:=hide G.out.make2
   refine hK.out _ _ (CEL.out _ G.out.be) (fun hHeld=> ?_)
   clear hK K
   try simp only[Act.put,List.setIfInBounds_toArray,List.set_cons_zero,List.set_cons_succ]
   refine wpAnyH_ready (rs:=[0]) (by kernel_rfl) (by simp) ?_
   refine AllReadyH.cons (o:=⟨some 3,_,_,_,_,_⟩) rfl (fun K hK=> ?_) AllReadyH.nil
   refine step_build (by kernel_rfl) 3 (by kernel_rfl) 22 39 (by kernel_rfl) build_u ?_
   have G:=hide G.out.make0
   refine hK.out _ _ (CEL.out _ G.out.be) (fun hHeld=> ?_)
   clear hK K
   try simp only[Act.put,List.setIfInBounds_toArray,List.set_cons_zero,List.set_cons_succ]
   refine wpAnyH_ready (rs:=[3]) (by kernel_rfl) (by simp) ?_
   refine AllReadyH.cons (o:=⟨some 6,_,_,_,_,_⟩) rfl (fun K hK=> ?_) AllReadyH.nil
   refine G.out.sapp0 sne S0.out L0.out (u64s_one8 pl) (by kernel_rfl) (.tmp 3) (.tmp 5) (by kernel_rfl) (by kernel_rfl) (by kernel_rfl) (fun o0 k0 Y0 g0=> ?_)
   have G:=hide g0
   clear g0
   refine hK.out _ _ (CEL.out _ G.out.be) (fun hHeld=> ?_)
   clear hK K
   try simp only[Act.put,List.setIfInBounds_toArray,List.set_cons_zero,List.set_cons_succ]
   refine wpAnyH_ready (rs:=[7]) (by kernel_rfl) (by simp) ?_
   refine AllReadyH.cons (o:=⟨some 10,_,_,_,_,_⟩) rfl (fun K hK=> ?_) AllReadyH.nil
   refine G.out.sapp1 sne S1.out L1.out (bools_one1 re) (by kernel_rfl) (.tmp 7) (.tmp 9) (by kernel_rfl) (by kernel_rfl) (by kernel_rfl) (fun o1 k1 Y1 g1=> ?_)
   have G:=hide g1
   clear g1
   refine hK.out _ _ (CEL.out _ G.out.be) (fun hHeld=> ?_)
   clear hK K
   try simp only[Act.put,List.setIfInBounds_toArray,List.set_cons_zero,List.set_cons_succ]
   refine wpAnyH_ready (rs:=[11]) (by kernel_rfl) (by simp) ?_
   refine AllReadyH.cons (o:=⟨some 14,_,_,_,_,_⟩) rfl (fun K hK=> ?_) AllReadyH.nil
   refine G.out.sapp2 sne S2.out L2.out (u64s_one8 fi) (by kernel_rfl) (.tmp 11) (.tmp 13) (by kernel_rfl) (by kernel_rfl) (by kernel_rfl) (fun o2 k2 Y2 g2=> ?_)
   have G:=hide g2
   clear g2
   refine hK.out _ _ (CEL.out _ G.out.be) (fun hHeld=> ?_)
   clear hK K
   try simp only[Act.put,List.setIfInBounds_toArray,List.set_cons_zero,List.set_cons_succ]
   refine wpAnyH_take (i:=12) (oi:=⟨some 15,_,_,_,_,_⟩) (v:= ?_) rfl (by kernel_rfl) (by kernel_rfl) (by kernel_rfl) (fun _ _ _ h=>h) (Or.inl ⟨by rfl,?_⟩) (by assumption) ?_
   rotate_left
   ·(intro w hSw;(try dsimp only at hSw);go_simp;try with_reducible rfl)
   try simp only[Act.put,List.setIfInBounds_toArray,List.set_cons_zero,List.set_cons_succ]
   refine wpAnyH_ready (rs:=[13]) (by kernel_rfl) (by simp) ?_
   refine AllReadyH.cons (o:=⟨none,_,_,_,_,_⟩) rfl (fun K hK=> ?_) AllReadyH.nil
   have q0:=(RES.out _ G.out.be).1
   have q1:=(RES.out _ G.out.be).2.1
   have q2:=(RES.out _ G.out.be).2.2.1
   have f0:=(RES.out _ G.out.be).2.2.2.1
   have f1:=(RES.out _ G.out.be).2.2.2.2.1
   have f2:=(RES.out _ G.out.be).2.2.2.2.2
   go_simp
   refine hK.out _ _ (CE3.out _ _ _ _ G.out.be) (fun hHeld=> ?_)
   clear hK K
   try simp only[Act.put,List.setIfInBounds_toArray,List.set_cons_zero,List.set_cons_succ]
   refine wpAnyH_done (by kernel_rfl) ?_ _
   clear hHeld q0 q1 q2 f0 f1 f2
   go_wp2_with fail
   exact bodyPost_ret (results_one3 Tryz.results11 _ _ _ (LD.out _ _ _ _ G.out.be) rfl) rfl (FIN.out _ _ _ _ _ _ _ G.out)
 focus
  refine step_build (by kernel_rfl) 11 (by kernel_rfl) 22 39 (by kernel_rfl) build_u ?_
  have G:=hide G.out.make2
  refine hK.out _ _ (CEL.out _ G.out.be) (fun hHeld=> ?_)
  clear hK K
  try simp only[Act.put,List.setIfInBounds_toArray,List.set_cons_zero,List.set_cons_succ]
  refine wpAnyH_ready (rs:=[0,4]) (by kernel_rfl) (by simp) ?_
  refine AllReadyH.cons (o:=⟨some 3,_,_,_,_,_⟩) rfl (fun K hK=> ?_) (AllReadyH.cons (o:=⟨some 7,_,_,_,_,_⟩) rfl (fun K hK=> ?_) AllReadyH.nil)
  focus
   refine step_build (by kernel_rfl) 3 (by kernel_rfl) 22 39 (by kernel_rfl) build_u ?_
   have G:=hide G.out.make0
   refine hK.out _ _ (CEL.out _ G.out.be) (fun hHeld=> ?_)
   clear hK K
   try simp only[Act.put,List.setIfInBounds_toArray,List.set_cons_zero,List.set_cons_succ]
   refine wpAnyH_ready (rs:=[3,4]) (by kernel_rfl) (by simp) ?_
   refine AllReadyH.cons (o:=⟨some 6,_,_,_,_,_⟩) rfl (fun K hK=> ?_) (AllReadyH.cons (o:=⟨some 7,_,_,_,_,_⟩) rfl (fun K hK=> ?_) AllReadyH.nil)
   focus
    refine G.out.sapp0 sne S0.out L0.out (u64s_one8 pl) (by kernel_rfl) (.tmp 3) (.tmp 5) (by kernel_rfl) (by kernel_rfl) (by kernel_rfl) (fun o0 k0 Y0 g0=> ?_)
    have G:=hide g0
    clear g0
    refine hK.out _ _ (CEL.out _ G.out.be) (fun hHeld=> ?_)
    clear hK K
    try simp only[Act.put,List.setIfInBounds_toArray,List.set_cons_zero,List.set_cons_succ]
    refine wpAnyH_ready (rs:=[4]) (by kernel_rfl) (by simp) ?_
    refine AllReadyH.cons (o:=⟨some 7,_,_,_,_,_⟩) rfl (fun K hK=> ?_) AllReadyH.nil
    refine step_build (by kernel_rfl) 7 (by kernel_rfl) 23 4 (by kernel_rfl) build_b ?_
    have G:=hide G.out.make1
    refine hK.out _ _ (CEL.out _ G.out.be) (fun hHeld=> ?_)
    clear hK K
    try simp only[Act.put,List.setIfInBounds_toArray,List.set_cons_zero,List.set_cons_succ]
    refine wpAnyH_ready (rs:=[7]) (by kernel_rfl) (by simp) ?_
    refine AllReadyH.cons (o:=⟨some 10,_,_,_,_,_⟩) rfl (fun K hK=> ?_) AllReadyH.nil
    refine G.out.sapp1 sne S1.out L1.out (bools_one1 re) (by kernel_rfl) (.tmp 7) (.tmp 9) (by kernel_rfl) (by kernel_rfl) (by kernel_rfl) (fun o1 k1 Y1 g1=> ?_)
    have G:=hide g1
    clear g1
    refine hK.out _ _ (CEL.out _ G.out.be) (fun hHeld=> ?_)
    clear hK K
    try simp only[Act.put,List.setIfInBounds_toArray,List.set_cons_zero,List.set_cons_succ]
    refine wpAnyH_ready (rs:=[11]) (by kernel_rfl) (by simp) ?_
    refine AllReadyH.cons (o:=⟨some 14,_,_,_,_,_⟩) rfl (fun K hK=> ?_) AllReadyH.nil
    refine G.out.sapp2 sne S2.out L2.out (u64s_one8 fi) (by kernel_rfl) (.tmp 11) (.tmp 13) (by kernel_rfl) (by kernel_rfl) (by kernel_rfl) (fun o2 k2 Y2 g2=> ?_)
    have G:=hide g2
    clear g2
    refine hK.out _ _ (CEL.out _ G.out.be) (fun hHeld=> ?_)
    clear hK K
    try simp only[Act.put,List.setIfInBounds_toArray,List.set_cons_zero,List.set_cons_succ]
    refine wpAnyH_take (i:=12) (oi:=⟨some 15,_,_,_,_,_⟩) (v:= ?_) rfl (by kernel_rfl) (by kernel_rfl) (by kernel_rfl) (fun _ _ _ h=>h) (Or.inl ⟨by rfl,?_⟩) (by assumption) ?_
    rotate_left
    ·(intro w hSw;(try dsimp only at hSw);go_simp;try with_reducible rfl)
    try simp only[Act.put,List.setIfInBounds_toArray,List.set_cons_zero,List.set_cons_succ]
    refine wpAnyH_ready (rs:=[13]) (by kernel_rfl) (by simp) ?_
    refine AllReadyH.cons (o:=⟨none,_,_,_,_,_⟩) rfl (fun K hK=> ?_) AllReadyH.nil
    have q0:=(RES.out _ G.out.be).1
    have q1:=(RES.out _ G.out.be).2.1
    have q2:=(RES.out _ G.out.be).2.2.1
    have f0:=(RES.out _ G.out.be).2.2.2.1
    have f1:=(RES.out _ G.out.be).2.2.2.2.1
    have f2:=(RES.out _ G.out.be).2.2.2.2.2
    go_simp
    refine hK.out _ _ (CE3.out _ _ _ _ G.out.be) (fun hHeld=> ?_)
    clear hK K
    try simp only[Act.put,List.setIfInBounds_toArray,List.set_cons_zero,List.set_cons_succ]
    refine wpAnyH_done (by kernel_rfl) ?_ _
    clear hHeld q0 q1 q2 f0 f1 f2
    go_wp2_with fail
    exact bodyPost_ret (results_one3 Tryz.results11 _ _ _ (LD.out _ _ _ _ G.out.be) rfl) rfl (FIN.out _ _ _ _ _ _ _ G.out)
   focus
    refine step_build (by kernel_rfl) 7 (by kernel_rfl) 23 4 (by kernel_rfl) build_b ?_
    have G:=hide G.out.make1
    refine hK.out _ _ (CEL.out _ G.out.be) (fun hHeld=> ?_)
    clear hK K
    try simp only[Act.put,List.setIfInBounds_toArray,List.set_cons_zero,List.set_cons_succ]
    refine wpAnyH_ready (rs:=[3]) (by kernel_rfl) (by simp) ?_
    refine AllReadyH.cons (o:=⟨some 6,_,_,_,_,_⟩) rfl (fun K hK=> ?_) AllReadyH.nil
    refine G.out.sapp0 sne S0.out L0.out (u64s_one8 pl) (by kernel_rfl) (.tmp 3) (.tmp 5) (by kernel_rfl) (by kernel_rfl) (by kernel_rfl) (fun o0 k0 Y0 g0=> ?_)
    have G:=hide g0
    clear g0
    refine hK.out _ _ (CEL.out _ G.out.be) (fun hHeld=> ?_)
    clear hK K
    try simp only[Act.put,List.setIfInBounds_toArray,List.set_cons_zero,List.set_cons_succ]
    refine wpAnyH_ready (rs:=[7]) (by kernel_rfl) (by simp) ?_
    refine AllReadyH.cons (o:=⟨some 10,_,_,_,_,_⟩) rfl (fun K hK=> ?_) AllReadyH.nil
    refine G.out.sapp1 sne S1.out L1.out (bools_one1 re) (by kernel_rfl) (.tmp 7) (.tmp 9) (by kernel_rfl) (by kernel_rfl) (by kernel_rfl) (fun o1 k1 Y1 g1=> ?_)
    have G:=hide g1
    clear g1
    refine hK.out _ _ (CEL.out _ G.out.be) (fun hHeld=> ?_)
    clear hK K
    try simp only[Act.put,List.setIfInBounds_toArray,List.set_cons_zero,List.set_cons_succ]
    refine wpAnyH_ready (rs:=[11]) (by kernel_rfl) (by simp) ?_
    refine AllReadyH.cons (o:=⟨some 14,_,_,_,_,_⟩) rfl (fun K hK=> ?_) AllReadyH.nil
    refine G.out.sapp2 sne S2.out L2.out (u64s_one8 fi) (by kernel_rfl) (.tmp 11) (.tmp 13) (by kernel_rfl) (by kernel_rfl) (by kernel_rfl) (fun o2 k2 Y2 g2=> ?_)
    have G:=hide g2
    clear g2
    refine hK.out _ _ (CEL.out _ G.out.be) (fun hHeld=> ?_)
    clear hK K
    try simp only[Act.put,List.setIfInBounds_toArray,List.set_cons_zero,List.set_cons_succ]
    refine wpAnyH_take (i:=12) (oi:=⟨some 15,_,_,_,_,_⟩) (v:= ?_) rfl (by kernel_rfl) (by kernel_rfl) (by kernel_rfl) (fun _ _ _ h=>h) (Or.inl ⟨by rfl,?_⟩) (by assumption) ?_
    rotate_left
    ·(intro w hSw;(try dsimp only at hSw);go_simp;try with_reducible rfl)
    try simp only[Act.put,List.setIfInBounds_toArray,List.set_cons_zero,List.set_cons_succ]
    refine wpAnyH_ready (rs:=[13]) (by kernel_rfl) (by simp) ?_
    refine AllReadyH.cons (o:=⟨none,_,_,_,_,_⟩) rfl (fun K hK=> ?_) AllReadyH.nil
    have q0:=(RES.out _ G.out.be).1
    have q1:=(RES.out _ G.out.be).2.1
    have q2:=(RES.out _ G.out.be).2.2.1
    have f0:=(RES.out _ G.out.be).2.2.2.1
    have f1:=(RES.out _ G.out.be).2.2.2.2.1
    have f2:=(RES.out _ G.out.be).2.2.2.2.2
    go_simp
    refine hK.out _ _ (CE3.out _ _ _ _ G.out.be) (fun hHeld=> ?_)
    clear hK K
    try simp only[Act.put,List.setIfInBounds_toArray,List.set_cons_zero,List.set_cons_succ]
    refine wpAnyH_done (by kernel_rfl) ?_ _
    clear hHeld q0 q1 q2 f0 f1 f2
    go_wp2_with fail
    exact bodyPost_ret (results_one3 Tryz.results11 _ _ _ (LD.out _ _ _ _ G.out.be) rfl) rfl (FIN.out _ _ _ _ _ _ _ G.out)
  focus
   refine step_build (by kernel_rfl) 7 (by kernel_rfl) 23 4 (by kernel_rfl) build_b ?_
   have G:=hide G.out.make1
   refine hK.out _ _ (CEL.out _ G.out.be) (fun hHeld=> ?_)
   clear hK K
   try simp only[Act.put,List.setIfInBounds_toArray,List.set_cons_zero,List.set_cons_succ]
   refine wpAnyH_ready (rs:=[0]) (by kernel_rfl) (by simp) ?_
   refine AllReadyH.cons (o:=⟨some 3,_,_,_,_,_⟩) rfl (fun K hK=> ?_) AllReadyH.nil
   refine step_build (by kernel_rfl) 3 (by kernel_rfl) 22 39 (by kernel_rfl) build_u ?_
   have G:=hide G.out.make0
   refine hK.out _ _ (CEL.out _ G.out.be) (fun hHeld=> ?_)
   clear hK K
   try simp only[Act.put,List.setIfInBounds_toArray,List.set_cons_zero,List.set_cons_succ]
   refine wpAnyH_ready (rs:=[3]) (by kernel_rfl) (by simp) ?_
   refine AllReadyH.cons (o:=⟨some 6,_,_,_,_,_⟩) rfl (fun K hK=> ?_) AllReadyH.nil
   refine G.out.sapp0 sne S0.out L0.out (u64s_one8 pl) (by kernel_rfl) (.tmp 3) (.tmp 5) (by kernel_rfl) (by kernel_rfl) (by kernel_rfl) (fun o0 k0 Y0 g0=> ?_)
   have G:=hide g0
   clear g0
   refine hK.out _ _ (CEL.out _ G.out.be) (fun hHeld=> ?_)
   clear hK K
   try simp only[Act.put,List.setIfInBounds_toArray,List.set_cons_zero,List.set_cons_succ]
   refine wpAnyH_ready (rs:=[7]) (by kernel_rfl) (by simp) ?_
   refine AllReadyH.cons (o:=⟨some 10,_,_,_,_,_⟩) rfl (fun K hK=> ?_) AllReadyH.nil
   refine G.out.sapp1 sne S1.out L1.out (bools_one1 re) (by kernel_rfl) (.tmp 7) (.tmp 9) (by kernel_rfl) (by kernel_rfl) (by kernel_rfl) (fun o1 k1 Y1 g1=> ?_)
   have G:=hide g1
   clear g1
   refine hK.out _ _ (CEL.out _ G.out.be) (fun hHeld=> ?_)
   clear hK K
   try simp only[Act.put,List.setIfInBounds_toArray,List.set_cons_zero,List.set_cons_succ]
   refine wpAnyH_ready (rs:=[11]) (by kernel_rfl) (by simp) ?_
   refine AllReadyH.cons (o:=⟨some 14,_,_,_,_,_⟩) rfl (fun K hK=> ?_) AllReadyH.nil
   refine G.out.sapp2 sne S2.out L2.out (u64s_one8 fi) (by kernel_rfl) (.tmp 11) (.tmp 13) (by kernel_rfl) (by kernel_rfl) (by kernel_rfl) (fun o2 k2 Y2 g2=> ?_)
   have G:=hide g2
   clear g2
   refine hK.out _ _ (CEL.out _ G.out.be) (fun hHeld=> ?_)
   clear hK K
   try simp only[Act.put,List.setIfInBounds_toArray,List.set_cons_zero,List.set_cons_succ]
   refine wpAnyH_take (i:=12) (oi:=⟨some 15,_,_,_,_,_⟩) (v:= ?_) rfl (by kernel_rfl) (by kernel_rfl) (by kernel_rfl) (fun _ _ _ h=>h) (Or.inl ⟨by rfl,?_⟩) (by assumption) ?_
   rotate_left
   ·(intro w hSw;(try dsimp only at hSw);go_simp;try with_reducible rfl)
   try simp only[Act.put,List.setIfInBounds_toArray,List.set_cons_zero,List.set_cons_succ]
   refine wpAnyH_ready (rs:=[13]) (by kernel_rfl) (by simp) ?_
   refine AllReadyH.cons (o:=⟨none,_,_,_,_,_⟩) rfl (fun K hK=> ?_) AllReadyH.nil
   have q0:=(RES.out _ G.out.be).1
   have q1:=(RES.out _ G.out.be).2.1
   have q2:=(RES.out _ G.out.be).2.2.1
   have f0:=(RES.out _ G.out.be).2.2.2.1
   have f1:=(RES.out _ G.out.be).2.2.2.2.1
   have f2:=(RES.out _ G.out.be).2.2.2.2.2
   go_simp
   refine hK.out _ _ (CE3.out _ _ _ _ G.out.be) (fun hHeld=> ?_)
   clear hK K
   try simp only[Act.put,List.setIfInBounds_toArray,List.set_cons_zero,List.set_cons_succ]
   refine wpAnyH_done (by kernel_rfl) ?_ _
   clear hHeld q0 q1 q2 f0 f1 f2
   go_wp2_with fail
   exact bodyPost_ret (results_one3 Tryz.results11 _ _ _ (LD.out _ _ _ _ G.out.be) rfl) rfl (FIN.out _ _ _ _ _ _ _ G.out)
end Go.Proofs.YtdgdhnnakcncoaaGreatDoor.V
