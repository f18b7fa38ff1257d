/- Of the proof of HeapCached: texts VGx. -/
import Derived.Test.YtdgdhnnakcncoaaGreatDoorK36
import Derived.Deep.RegionHeld3
namespace Go.Proofs.YtdgdhnnakcncoaaGreatDoor.V
set_option maxHeartbeats 1600000
open Go.ChangeShapes Go.WideShapes Go.ChangeAt Go.RowKit Go.Proofs.Sp Go.Maps
set_option linter.unusedVariables false
set_option linter.unusedSimpArgs false
theorem Sl.lt {w:World} {v:Value} {xs:List Value} (h:Sl w v xs) {b:Nat} (hb:v.ownBlock=some b):b<w.heap.size:=by
 rcases h with ⟨e,_⟩|⟨b',off,cap,e,_,hl,_⟩
 ·rw[e] at hb;cases hb
 ·rw[e] at hb
  have:b'=b:=by simpa [Value.ownBlock] using hb
  omega
theorem Sl.kept {w w':World} {v:Value} {xs:List Value} (h:Sl w v xs) (hs:w.heap.size≤w'.heap.size) (hb:∀b,v.ownBlock=some b→w'.heap[b]? =w.heap[b]?):Sl w' v xs:=by
 rcases h with h|⟨b,off,cap,hv,hc,hl,hx⟩
 ·exact Or.inl h
 ·refine Or.inr ⟨b,off,cap,hv,hc,by omega,fun j u hu=> ?_⟩
  have e:=hb b (by rw[hv];rfl)
  rw[←hx j u hu]
  exact World.cell?_of_block (w:=w) e
theorem pg_shape {w:World} {base n size:Nat} {e:TypeId} {v:Value} {xs:List Value} (h:w.ownsRow base e size v n xs):∃o cap,v= .slice o n cap∧(0<n→∃g,o=some ⟨g,0,none⟩):=by
 obtain ⟨_,⟨e1,e2⟩|⟨g,cap,cur,e1,_⟩⟩:=h
 ·exact ⟨none,0,by rw[e1,e2],fun z=>by omega⟩
 ·exact ⟨some ⟨g,0,none⟩,cap,e1,fun _=>⟨g,rfl⟩⟩
theorem addr_add (b o j:Nat):(⟨b,o,none⟩:Addr).add j=⟨b,o+j,none⟩:=by
 simp[Addr.add]
theorem step_append_run {P:Program} {w w':World} {ops:Array Oper} {o:Oper} {a:Act} {K:Act→World→Prop} {Q:Exit→Act→World→Prop} {E:Prop} (hgd:o.guard=none) (s x:Operand) (t:TypeId)
 (ho:o.op= .call {callee:= .builtin .append,args:=#[s,x],argTypes:=#[t,t]}) {v u v':Value} (hs:a.eval s=v) (hx:a.eval x=u) (hr:(Builtin.append_ #[t,t] o.type #[v,u]).run P w= .ok v' w') (h:K (a.put o.dst v') w'):
 if Region.wanted o (yielded ops a.tmps)=true then Oper.wp P o a w K Q else E:=by
 have hw:Region.wanted o (yielded ops a.tmps)=true:=by simp[Region.wanted,hgd]
 rw[if_pos hw]
 exact wp_append_run s x t ho hs hx hr h
theorem infoU8:(Tryz.prog.info? 39).map (fun i=>(i.zero,i.size,i.bytes))=some (some (.int .u64 0),1,8):=by kernel_rfl
theorem infoB1:(Tryz.prog.info? 4).map (fun i=>(i.zero,i.size,i.bytes))=some (some (.bool false),1,1):=by kernel_rfl
theorem u64s_one8 (l:List Nat):∀v∈u64s l,v.oneCell'=true:=by
 intro v hv
 obtain ⟨n,_,rfl⟩:=List.mem_map.1 hv
 rfl
theorem bools_one1 (l:List Bool):∀v∈bools l,v.oneCell'=true:=by
 intro v hv
 obtain ⟨n,_,rfl⟩:=List.mem_map.1 hv
 rfl
theorem u64s_len (l:List Nat):(u64s l).length=l.length:=by simp[u64s]
theorem bools_len (l:List Bool):(bools l).length=l.length:=by simp[bools]
theorem Sl.low {w w':World} {v:Value} {xs:List Value} (h:Sl w v xs) (hb:Below w.heap.size w w'):Sl w' v xs:=h.kept hb.size (fun b e=>hb.block b (h.lt e))
theorem step_build {w:World} {ops:Array Oper} {o:Oper} {a:Act} {K:Act→World→Prop} {Q:Exit→Act→World→Prop} {E:Prop} (hgd:o.guard=none) (d:Tmp) (hd:o.dst=some d) (t e:TypeId)
 (ho:o.op= .buildSlice t 0 #[]) (hr:∀w:World,(Instr.buildSlice t 0 #[]).run Tryz.prog w= .ok (.slice (some ⟨w.heap.size,0,none⟩) 0 0) (w.alloc (.cells #[] e))) (h:K (a.put o.dst (.slice (some ⟨w.heap.size,0,none⟩) 0 0)) (w.alloc (.cells #[] e))):
 if Region.wanted o (yielded ops a.tmps)=true then Oper.wp Tryz.prog o a w K Q else E:=by
 have hw:Region.wanted o (yielded ops a.tmps)=true:=by simp[Region.wanted,hgd]
 rw[if_pos hw]
 unfold Oper.wp execOp
 simp only[ho,Sem.run_bind,Sem.run_pure,Result.andThen_ok,List.map_toArray,List.map_nil,hr]
 exact h
theorem build_u (w:World):(Instr.buildSlice 22 0 #[]).run Tryz.prog w= .ok (.slice (some ⟨w.heap.size,0,none⟩) 0 0) (w.alloc (.cells #[] 39)):=by kernel_rfl
theorem build_b (w:World):(Instr.buildSlice 23 0 #[]).run Tryz.prog w= .ok (.slice (some ⟨w.heap.size,0,none⟩) 0 0) (w.alloc (.cells #[] 4)):=by kernel_rfl
structure Gs (W Y:World) (v0:Value) (n0:Nat) (x0:List Value) (v1:Value) (n1:Nat) (x1:List Value) (v2:Value) (n2:Nat) (x2:List Value):Prop where
 be:Below W.heap.size W Y
 o0:Y.ownsRow W.heap.size 39 1 v0 n0 x0
 o1:Y.ownsRow W.heap.size 4 1 v1 n1 x1
 o2:Y.ownsRow W.heap.size 39 1 v2 n2 x2
 d01:∀b,v0.ownBlock=some b→v1.ownBlock≠some b
 d02:∀b,v0.ownBlock=some b→v2.ownBlock≠some b
 d12:∀b,v1.ownBlock=some b→v2.ownBlock≠some b
theorem owns_nil (w:World) (base:Nat) (e:TypeId):w.ownsRow base e 1 (.slice none 0 0) 0 []:=⟨rfl,Or.inl ⟨rfl,rfl⟩⟩
theorem Gs.start (W:World):Gs W W.drew (.slice none 0 0) 0 [] (.slice none 0 0) 0 [] (.slice none 0 0) 0 []:=
 ⟨⟨rfl,rfl,rfl,Nat.le_refl _,fun _ _=>rfl⟩,owns_nil _ _ _,owns_nil _ _ _,owns_nil _ _ _,(fun b h=>by cases h),(fun b h=>by cases h),(fun b h=>by cases h)⟩
theorem owns_ltB {w:World} {base n:Nat} {e:TypeId} {v:Value} {xs:List Value} (h:w.ownsRow base e 1 v n xs) {b:Nat} (hb:v.ownBlock=some b):base≤b∧b<w.heap.size:=by
 obtain ⟨_,⟨rfl,_⟩|⟨g,cap,cur,rfl,h1,h2,_⟩⟩:=h
 ·cases hb
 ·cases hb;exact ⟨h1,(Array.getElem?_eq_some_iff.1 h2).1⟩
theorem owns_frame {w w':World} {base n:Nat} {e:TypeId} {v:Value} {xs:List Value} (h:w.ownsRow base e 1 v n xs) (hk:∀b,v.ownBlock=some b→w'.heap[b]? =w.heap[b]?):w'.ownsRow base e 1 v n xs:=by
 obtain ⟨hl,h|⟨g,cap,cur,rfl,h1,h2,h3⟩⟩:=h
 ·exact ⟨hl,Or.inl h⟩
 ·exact ⟨hl,Or.inr ⟨g,cap,cur,rfl,h1,(hk g rfl).trans h2,h3⟩⟩
theorem owns_new {w:World} {base:Nat} (e:TypeId) (hb:base≤w.heap.size):(w.alloc (.cells #[] e)).ownsRow base e 1 (.slice (some ⟨w.heap.size,0,none⟩) 0 0) 0 []:=
 ⟨rfl,Or.inr ⟨w.heap.size,0,#[],rfl,hb,by show (w.heap.push _)[w.heap.size]? =_;simp,Nat.le_refl _,Nat.zero_le _,rfl,rfl⟩⟩
theorem alloc_old (w:World) (o:Obj) {b:Nat} (h:b<w.heap.size):(w.alloc o).heap[b]? =w.heap[b]? :=by
 show (w.heap.push o)[b]? =_
 rw[Array.getElem?_push,if_neg (by omega)]
theorem app_fresh {Y:World} {base:Nat} {t e:TypeId} {z:Value} {by_:Nat} (ht:Tryz.prog.underlying t=some (.slice e)) (hinfo:(Tryz.prog.info? e).map (fun i=>(i.zero,i.size,i.bytes))=some (some z,1,by_)) (hz:z.cells.size=1) (hby:by_≤8) (ty:TypeId)
 {v:Value} (own:Y.ownsRow base e 1 v 0 []) (hne:v≠ .slice none 0 0) (hb:base≤Y.heap.size) {u:Value} {zs:List Value} (h:Sl Y u zs) (hl:zs.length≤1048576) (h1:∀v∈zs,v.oneCell'=true):
 ∃v' Y',(Builtin.append_ #[t,t] ty #[v,u]).run Tryz.prog Y= .ok v' Y'∧Y'.ownsRow base e 1 v' zs.length zs∧Y.grownBy Y' v.ownBlock∧(v'.ownBlock=v.ownBlock∨v'.ownBlock=some Y.heap.size):=by
 obtain ⟨i0,hi0,hz0,hz1,hz2⟩:=info_parts hinfo
 rcases h with ⟨rfl,rfl⟩|⟨b,off,cap,rfl,hc,hbl,hx⟩
 ·have hr:=run_append_owned_none (P:=Tryz.prog) (w:=Y) base t ty e i0 1 ht hi0 _ 0 [] own
  exact ⟨_,_,hr,own,⟨rfl,rfl,rfl,Nat.le_refl _,fun _ _ _=>rfl⟩, .inl rfl⟩
 ·obtain ⟨v',w2,hr,hown,hg,_,ho⟩:=run_append_own_at (P:=Tryz.prog) Y base t ty e i0 _ 1 by_ ht hi0 hz0 hz1 hz2 hz (by decide) _ 0 [] own ⟨b,off,none⟩ zs.length cap zs (by rw[Nat.mul_one]) (fun j u hu=>by rw[addr_add];exact hx j u hu) h1 (by unfold maxLen;omega) (by
   have:(0+zs.length) * by_≤1048576 * 8:=Nat.mul_le_mul (by omega) hby
   omega) hb
  rw[List.nil_append,Nat.zero_add] at hown
  exact ⟨v',w2,hr,hown,hg,ho⟩
theorem Gs.make0 {W Y:World} {v1 v2:Value} {n1 n2:Nat} {x1 x2:List Value} (h:Gs W Y (.slice none 0 0) 0 [] v1 n1 x1 v2 n2 x2):Gs W (Y.alloc (.cells #[] 39)) (.slice (some ⟨Y.heap.size,0,none⟩) 0 0) 0 [] v1 n1 x1 v2 n2 x2:=
 ⟨h.be.alloc h.be.size _,owns_new 39 h.be.size,owns_frame h.o1 (fun b hb=>alloc_old _ _ (owns_ltB h.o1 hb).2),owns_frame h.o2 (fun b hb=>alloc_old _ _ (owns_ltB h.o2 hb).2),(fun b hb hc=>by cases hb;exact absurd (owns_ltB h.o1 hc).2 (Nat.lt_irrefl _)),(fun b hb hc=>by cases hb;exact absurd (owns_ltB h.o2 hc).2 (Nat.lt_irrefl _)),h.d12⟩
theorem Gs.app0 {W Y:World} {v0 v1 v2:Value} {n1 n2:Nat} {x1 x2:List Value} (h:Gs W Y v0 0 [] v1 n1 x1 v2 n2 x2) (hne:v0≠ .slice none 0 0) {u:Value} {zs:List Value} (hs:Sl W u zs) (hl:zs.length≤1048576) (h1:∀v∈zs,v.oneCell'=true) (ty:TypeId):
 ∃o c Y',(Builtin.append_ #[22,22] ty #[v0,u]).run Tryz.prog Y= .ok (.slice o zs.length c) Y'∧Gs W Y' (.slice o zs.length c) zs.length zs v1 n1 x1 v2 n2 x2:=by
 obtain ⟨v',Y',hr,ho,hg,hb⟩:=app_fresh Tryz.underlying22 infoU8 rfl (by decide) ty h.o0 hne h.be.size (hs.low h.be) hl h1
 obtain ⟨o,c,rfl,_⟩:=pg_shape ho
 have hblk:∀b,(Value.slice o zs.length c).ownBlock=some b→v0.ownBlock=some b∨b=Y.heap.size:=fun b e=>by
  rcases hb with hb|hb
  ·left;exact hb.symm.trans e
  ·right;exact (Option.some.inj (hb.symm.trans e)).symm
 refine ⟨o,c,Y',hr,h.be.grown hg h.be.size (fun k hk=>(owns_ltB h.o0 hk).1),ho,owns_frame h.o1 (fun b e=>hg.block b (owns_ltB h.o1 e).2 (fun z=>h.d01 b z.symm e)),owns_frame h.o2 (fun b e=>hg.block b (owns_ltB h.o2 e).2 (fun z=>h.d02 b z.symm e)),(fun b hb hc=>by rcases hblk b hb with z|z;exact h.d01 b z hc;have:=(owns_ltB h.o1 hc).2;omega),(fun b hb hc=>by rcases hblk b hb with z|z;exact h.d02 b z hc;have:=(owns_ltB h.o2 hc).2;omega),h.d12⟩
theorem Gs.sapp0 {W Y:World} {v0 v1 v2:Value} {n1 n2:Nat} {x1 x2:List Value} (h:Gs W Y v0 0 [] v1 n1 x1 v2 n2 x2) (hne:v0≠ .slice none 0 0) {u:Value} {zs:List Value} (hs:Sl W u zs) (hl:zs.length≤1048576) (h1:∀v∈zs,v.oneCell'=true) {ops:Array Oper} {o:Oper} {a:Act} {K:Act→World→Prop} {Q:Exit→Act→World→Prop} {E:Prop} (hgd:o.guard=none) (s x:Operand)
 (ho:o.op= .call {callee:= .builtin .append,args:=#[s,x],argTypes:=#[22,22]}) (es:a.eval s=v0) (ex:a.eval x=u) (hK:∀(o':Option Addr) (c:Nat) (Y':World),Gs W Y' (.slice o' zs.length c) zs.length zs v1 n1 x1 v2 n2 x2→K (a.put o.dst (.slice o' zs.length c)) Y'):
 if Region.wanted o (yielded ops a.tmps)=true then Oper.wp Tryz.prog o a Y K Q else E:=by
 obtain ⟨o',c,Y',hr,g⟩:=h.app0 hne hs hl h1 o.type
 exact step_append_run hgd s x 22 ho es ex hr (hK o' c Y' g)
theorem Gs.make1 {W Y:World} {v0 v2:Value} {n0 n2:Nat} {x0 x2:List Value} (h:Gs W Y v0 n0 x0 (.slice none 0 0) 0 [] v2 n2 x2):Gs W (Y.alloc (.cells #[] 4)) v0 n0 x0 (.slice (some ⟨Y.heap.size,0,none⟩) 0 0) 0 [] v2 n2 x2:=
 ⟨h.be.alloc h.be.size _,owns_frame h.o0 (fun b hb=>alloc_old _ _ (owns_ltB h.o0 hb).2),owns_new 4 h.be.size,owns_frame h.o2 (fun b hb=>alloc_old _ _ (owns_ltB h.o2 hb).2),(fun b hb hc=>by cases hc;exact absurd (owns_ltB h.o0 hb).2 (Nat.lt_irrefl _)),h.d02,(fun b hb hc=>by cases hb;exact absurd (owns_ltB h.o2 hc).2 (Nat.lt_irrefl _))⟩
theorem Gs.app1 {W Y:World} {v0 v1 v2:Value} {n0 n2:Nat} {x0 x2:List Value} (h:Gs W Y v0 n0 x0 v1 0 [] v2 n2 x2) (hne:v1≠ .slice none 0 0) {u:Value} {zs:List Value} (hs:Sl W u zs) (hl:zs.length≤1048576) (h1:∀v∈zs,v.oneCell'=true) (ty:TypeId):
 ∃o c Y',(Builtin.append_ #[23,23] ty #[v1,u]).run Tryz.prog Y= .ok (.slice o zs.length c) Y'∧Gs W Y' v0 n0 x0 (.slice o zs.length c) zs.length zs v2 n2 x2:=by
 obtain ⟨v',Y',hr,ho,hg,hb⟩:=app_fresh Tryz.underlying23 infoB1 rfl (by decide) ty h.o1 hne h.be.size (hs.low h.be) hl h1
 obtain ⟨o,c,rfl,_⟩:=pg_shape ho
 have hblk:∀b,(Value.slice o zs.length c).ownBlock=some b→v1.ownBlock=some b∨b=Y.heap.size:=fun b e=>by
  rcases hb with hb|hb
  ·left;exact hb.symm.trans e
  ·right;exact (Option.some.inj (hb.symm.trans e)).symm
 refine ⟨o,c,Y',hr,h.be.grown hg h.be.size (fun k hk=>(owns_ltB h.o1 hk).1),owns_frame h.o0 (fun b e=>hg.block b (owns_ltB h.o0 e).2 (fun z=>h.d01 b e z.symm)),ho,owns_frame h.o2 (fun b e=>hg.block b (owns_ltB h.o2 e).2 (fun z=>h.d12 b z.symm e)),(fun b hb hc=>by rcases hblk b hc with z|z;exact h.d01 b hb z;have:=(owns_ltB h.o0 hb).2;omega),h.d02,(fun b hb hc=>by rcases hblk b hb with z|z;exact h.d12 b z hc;have:=(owns_ltB h.o2 hc).2;omega)⟩
theorem Gs.sapp1 {W Y:World} {v0 v1 v2:Value} {n0 n2:Nat} {x0 x2:List Value} (h:Gs W Y v0 n0 x0 v1 0 [] v2 n2 x2) (hne:v1≠ .slice none 0 0) {u:Value} {zs:List Value} (hs:Sl W u zs) (hl:zs.length≤1048576) (h1:∀v∈zs,v.oneCell'=true) {ops:Array Oper} {o:Oper} {a:Act} {K:Act→World→Prop} {Q:Exit→Act→World→Prop} {E:Prop} (hgd:o.guard=none) (s x:Operand)
 (ho:o.op= .call {callee:= .builtin .append,args:=#[s,x],argTypes:=#[23,23]}) (es:a.eval s=v1) (ex:a.eval x=u) (hK:∀(o':Option Addr) (c:Nat) (Y':World),Gs W Y' v0 n0 x0 (.slice o' zs.length c) zs.length zs v2 n2 x2→K (a.put o.dst (.slice o' zs.length c)) Y'):
 if Region.wanted o (yielded ops a.tmps)=true then Oper.wp Tryz.prog o a Y K Q else E:=by
 obtain ⟨o',c,Y',hr,g⟩:=h.app1 hne hs hl h1 o.type
 exact step_append_run hgd s x 23 ho es ex hr (hK o' c Y' g)
theorem Gs.make2 {W Y:World} {v0 v1:Value} {n0 n1:Nat} {x0 x1:List Value} (h:Gs W Y v0 n0 x0 v1 n1 x1 (.slice none 0 0) 0 []):Gs W (Y.alloc (.cells #[] 39)) v0 n0 x0 v1 n1 x1 (.slice (some ⟨Y.heap.size,0,none⟩) 0 0) 0 []:=
 ⟨h.be.alloc h.be.size _,owns_frame h.o0 (fun b hb=>alloc_old _ _ (owns_ltB h.o0 hb).2),owns_frame h.o1 (fun b hb=>alloc_old _ _ (owns_ltB h.o1 hb).2),owns_new 39 h.be.size,h.d01,(fun b hb hc=>by cases hc;exact absurd (owns_ltB h.o0 hb).2 (Nat.lt_irrefl _)),(fun b hb hc=>by cases hc;exact absurd (owns_ltB h.o1 hb).2 (Nat.lt_irrefl _))⟩
theorem Gs.app2 {W Y:World} {v0 v1 v2:Value} {n0 n1:Nat} {x0 x1:List Value} (h:Gs W Y v0 n0 x0 v1 n1 x1 v2 0 []) (hne:v2≠ .slice none 0 0) {u:Value} {zs:List Value} (hs:Sl W u zs) (hl:zs.length≤1048576) (h1:∀v∈zs,v.oneCell'=true) (ty:TypeId):
 ∃o c Y',(Builtin.append_ #[22,22] ty #[v2,u]).run Tryz.prog Y= .ok (.slice o zs.length c) Y'∧Gs W Y' v0 n0 x0 v1 n1 x1 (.slice o zs.length c) zs.length zs:=by
 obtain ⟨v',Y',hr,ho,hg,hb⟩:=app_fresh Tryz.underlying22 infoU8 rfl (by decide) ty h.o2 hne h.be.size (hs.low h.be) hl h1
 obtain ⟨o,c,rfl,_⟩:=pg_shape ho
 have hblk:∀b,(Value.slice o zs.length c).ownBlock=some b→v2.ownBlock=some b∨b=Y.heap.size:=fun b e=>by
  rcases hb with hb|hb
  ·left;exact hb.symm.trans e
  ·right;exact (Option.some.inj (hb.symm.trans e)).symm
 refine ⟨o,c,Y',hr,h.be.grown hg h.be.size (fun k hk=>(owns_ltB h.o2 hk).1),owns_frame h.o0 (fun b e=>hg.block b (owns_ltB h.o0 e).2 (fun z=>h.d02 b e z.symm)),owns_frame h.o1 (fun b e=>hg.block b (owns_ltB h.o1 e).2 (fun z=>h.d12 b e z.symm)),ho,h.d01,(fun b hb hc=>by rcases hblk b hc with z|z;exact h.d02 b hb z;have:=(owns_ltB h.o0 hb).2;omega),(fun b hb hc=>by rcases hblk b hc with z|z;exact h.d12 b hb z;have:=(owns_ltB h.o1 hb).2;omega)⟩
theorem Gs.sapp2 {W Y:World} {v0 v1 v2:Value} {n0 n1:Nat} {x0 x1:List Value} (h:Gs W Y v0 n0 x0 v1 n1 x1 v2 0 []) (hne:v2≠ .slice none 0 0) {u:Value} {zs:List Value} (hs:Sl W u zs) (hl:zs.length≤1048576) (h1:∀v∈zs,v.oneCell'=true) {ops:Array Oper} {o:Oper} {a:Act} {K:Act→World→Prop} {Q:Exit→Act→World→Prop} {E:Prop} (hgd:o.guard=none) (s x:Operand)
 (ho:o.op= .call {callee:= .builtin .append,args:=#[s,x],argTypes:=#[22,22]}) (es:a.eval s=v2) (ex:a.eval x=u) (hK:∀(o':Option Addr) (c:Nat) (Y':World),Gs W Y' v0 n0 x0 v1 n1 x1 (.slice o' zs.length c) zs.length zs→K (a.put o.dst (.slice o' zs.length c)) Y'):
 if Region.wanted o (yielded ops a.tmps)=true then Oper.wp Tryz.prog o a Y K Q else E:=by
 obtain ⟨o',c,Y',hr,g⟩:=h.app2 hne hs hl h1 o.type
 exact step_append_run hgd s x 22 ho es ex hr (hK o' c Y' g)
theorem sne {B c:Nat}:Value.slice (some ⟨B,0,none⟩) 0 c≠ .slice none 0 0:=fun h=>by cases h
end Go.Proofs.YtdgdhnnakcncoaaGreatDoor.V
