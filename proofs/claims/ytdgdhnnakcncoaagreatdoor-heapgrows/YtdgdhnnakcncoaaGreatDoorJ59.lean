/- Of the proof of HeapGrows: texts VVmTa, VVmU, VVmVa, VVmVb. -/
import Derived.Test.YtdgdhnnakcncoaaGreatDoorJ58
import Derived.Test.YtdgdhnnakcncoaaGreatDoorJ56
import Derived.Test.YtdgdhnnakcncoaaGreatDoorJ53
import Derived.Test.YtdgdhnnakcncoaaGreatDoorJ57
import Derived.Maps.Views
namespace Go.Proofs.YtdgdhnnakcncoaaGreatDoor.V
set_option maxHeartbeats 1600000
open Go.ChangeShapes Go.WideShapes Go.ChangeAt Go.RowKit Go.Proofs.Sp
variable {w w':World} {b:Nat} {pl:List Nat} {re:List Bool} {fi:List Nat} {f:Nat→Nat} {g0 g1 g2 g cap:Nat} {R:List (Nat×Nat)} {bp bf n:Nat} {MP MF:Nat→Nat} {A:Nat→Nat→Nat}
theorem Cell1.moves {k:Nat} {v:Value} {F F':Nat→Prop} (h:Cell1 b k w w' v) (hb:F b) (hF:∀x,F' x→F x):Moves F F' w w':=
 ⟨⟨h.os,h.tape,h.output,h.size,fun x hx hn=>h.block x hx (fun e=>hn (e▸hb))⟩,fun x hx=>Or.inl (hF x hx)⟩
theorem tail_ne {α:Type} {l:List α} (h:l.tail≠ []):l≠ []:=fun z=>h (by rw[z];rfl)
theorem Lies.place (h:Lies w b pl re fi f g0 g1 g2 g cap R bp bf n MP MF A) {v:Value} (k:Cell1 b 0 w w' v) (hv:SlB w' v (u64s pl.tail) g0):
 Lies w' b pl.tail re fi f g0 g1 g2 g cap R bp bf n MP MF A∧Moves (Foot b g0 g1 g2 g bp bf pl re fi MP) (Foot b g0 g1 g2 g bp bf pl.tail re fi MP) w w':=by
 obtain ⟨v1,c1,k1⟩:=h.s1
 obtain ⟨v2,c2,k2⟩:=h.s2
 have hgl:=h.rows.glt
 refine ⟨⟨⟨v,k.here,hv⟩,⟨v1,(k.cell 1 (by omega)).trans c1,k.slB k1 h.n1⟩,⟨v2,(k.cell 2 (by omega)).trans c2,k.slB k2 h.n2⟩,h.rows.kept (fun j j1 j2=>k.cell j (by omega)) k.fz (k.block g hgl h.rows.ne),h.words.kept (k.cell 8 (by omega)) (k.cell 9 (by omega)) (fun x hx=>k.block x (h.words.foot hx).1 (h.words.foot hx).2),h.n0,h.n1,h.n2,fun z=>h.d0 (tail_ne z),h.d1,h.d2,h.dg⟩,k.moves (Or.inl rfl) ?_⟩
 rintro x (hx|hx|hx|hx|hx|hx)
 ·exact Or.inl hx
 ·exact Or.inr (Or.inl ⟨tail_ne hx.1,hx.2⟩)
 ·exact Or.inr (Or.inr (Or.inl hx))
 ·exact Or.inr (Or.inr (Or.inr (Or.inl hx)))
 ·exact Or.inr (Or.inr (Or.inr (Or.inr (Or.inl hx))))
 ·exact Or.inr (Or.inr (Or.inr (Or.inr (Or.inr hx))))
theorem Lies.refuse (h:Lies w b pl re fi f g0 g1 g2 g cap R bp bf n MP MF A) {v:Value} (k:Cell1 b 1 w w' v) (hv:SlB w' v (bools re.tail) g1):
 Lies w' b pl re.tail fi f g0 g1 g2 g cap R bp bf n MP MF A∧Moves (Foot b g0 g1 g2 g bp bf pl re fi MP) (Foot b g0 g1 g2 g bp bf pl re.tail fi MP) w w':=by
 obtain ⟨v0,c0,k0⟩:=h.s0
 obtain ⟨v2,c2,k2⟩:=h.s2
 have hgl:=h.rows.glt
 refine ⟨⟨⟨v0,(k.cell 0 (by omega)).trans c0,k.slB k0 h.n0⟩,⟨v,k.here,hv⟩,⟨v2,(k.cell 2 (by omega)).trans c2,k.slB k2 h.n2⟩,h.rows.kept (fun j j1 j2=>k.cell j (by omega)) k.fz (k.block g hgl h.rows.ne),h.words.kept (k.cell 8 (by omega)) (k.cell 9 (by omega)) (fun x hx=>k.block x (h.words.foot hx).1 (h.words.foot hx).2),h.n0,h.n1,h.n2,h.d0,fun z=>h.d1 (tail_ne z),h.d2,h.dg⟩,k.moves (Or.inl rfl) ?_⟩
 rintro x (hx|hx|hx|hx|hx|hx)
 ·exact Or.inl hx
 ·exact Or.inr (Or.inl hx)
 ·exact Or.inr (Or.inr (Or.inl ⟨tail_ne hx.1,hx.2⟩))
 ·exact Or.inr (Or.inr (Or.inr (Or.inl hx)))
 ·exact Or.inr (Or.inr (Or.inr (Or.inr (Or.inl hx))))
 ·exact Or.inr (Or.inr (Or.inr (Or.inr (Or.inr hx))))
theorem Lies.fill (h:Lies w b pl re fi f g0 g1 g2 g cap R bp bf n MP MF A) {v:Value} (k:Cell1 b 2 w w' v) (hv:SlB w' v (u64s fi.tail) g2):
 Lies w' b pl re fi.tail f g0 g1 g2 g cap R bp bf n MP MF A∧Moves (Foot b g0 g1 g2 g bp bf pl re fi MP) (Foot b g0 g1 g2 g bp bf pl re fi.tail MP) w w':=by
 obtain ⟨v0,c0,k0⟩:=h.s0
 obtain ⟨v1,c1,k1⟩:=h.s1
 have hgl:=h.rows.glt
 refine ⟨⟨⟨v0,(k.cell 0 (by omega)).trans c0,k.slB k0 h.n0⟩,⟨v1,(k.cell 1 (by omega)).trans c1,k.slB k1 h.n1⟩,⟨v,k.here,hv⟩,h.rows.kept (fun j j1 j2=>k.cell j (by omega)) k.fz (k.block g hgl h.rows.ne),h.words.kept (k.cell 8 (by omega)) (k.cell 9 (by omega)) (fun x hx=>k.block x (h.words.foot hx).1 (h.words.foot hx).2),h.n0,h.n1,h.n2,h.d0,h.d1,fun z=>h.d2 (tail_ne z),h.dg⟩,k.moves (Or.inl rfl) ?_⟩
 rintro x (hx|hx|hx|hx|hx|hx)
 ·exact Or.inl hx
 ·exact Or.inr (Or.inl hx)
 ·exact Or.inr (Or.inr (Or.inl hx))
 ·exact Or.inr (Or.inr (Or.inr (Or.inl ⟨tail_ne hx.1,hx.2⟩)))
 ·exact Or.inr (Or.inr (Or.inr (Or.inr (Or.inl hx))))
 ·exact Or.inr (Or.inr (Or.inr (Or.inr (Or.inr hx))))
theorem took_bool {k gg:Nat} {l:List Bool} {v:Value} (hv:w.cell? ⟨b,k,none⟩=some v) (h:(l= []∧w'=w)∨∃v',w'=w.setCell ⟨b,k,none⟩ v'∧SlB w v' (bools l.tail) gg) (hs:SlB w v (bools l) gg) (hg:gg≠b):∃v',Cell1 b k w w' v'∧SlB w' v' (bools l.tail) gg:=by
 rcases h with ⟨rfl,rfl⟩|⟨v',rfl,h⟩
 ·exact ⟨v,Cell1.start hv,hs⟩
 ·exact ⟨v',Cell1.put hv,(Cell1.put (v':=v') hv).slB h hg⟩
theorem took_u64 {k gg:Nat} {l:List Nat} {v:Value} (hv:w.cell? ⟨b,k,none⟩=some v) (h:(l= []∧w'=w)∨∃v',w'=w.setCell ⟨b,k,none⟩ v'∧SlB w v' (u64s l.tail) gg) (hs:SlB w v (u64s l) gg) (hg:gg≠b):∃v',Cell1 b k w w' v'∧SlB w' v' (u64s l.tail) gg:=by
 rcases h with ⟨rfl,rfl⟩|⟨v',rfl,h⟩
 ·exact ⟨v,Cell1.start hv,hs⟩
 ·exact ⟨v',Cell1.put hv,(Cell1.put (v':=v') hv).slB h hg⟩
structure Fits (S:Sp) (K:Nat) (R:List (Nat×Nat)) (n:Nat) (MP MF:Nat→Nat) (A:Nat→Nat→Nat):Prop where
 wf:WF S
 chunk:∀p,S.st p=0↔S.st (p/512 * 512)=0
 zero:S.st 0=0
 at_:∀p j,j<1024→S.st p=2→S.wd (p * 8192+j * 8)=wordAt MP MF A p j
 non:∀p,S.st p≠2→MP p=0∧MF p=0
 pl:∀x∈S.places,x<18446744073709551616
 fi:∀x∈S.fills,x<18446744073709551616
 rl:R.length≤1+K
 nl:n≤2 * K
theorem Fits.high {S:Sp} {K:Nat} (h:Fits S K R n MP MF A) (p:Nat) (hp:34359738368≤p):S.st p=0:=by
 cases z:S.st p with
 |zero=>rfl
 |succ k=>have:=h.wf.below p ((h.wf.mem p).1 (by omega));omega
def VI:Inv:=fun w m S F K=>∃b g0 g1 g2 g cap R bp bf n MP MF A,m=⟨b,0,none⟩∧F=Foot b g0 g1 g2 g bp bf S.places S.refuse S.fills MP∧
 Lies w b S.places S.refuse S.fills S.st g0 g1 g2 g cap R bp bf n MP MF A∧Fits S K R n MP MF A
theorem VI.wf {w:World} {m:Addr} {S:Sp} {F:Nat→Prop} {K:Nat} (h:VI w m S F K):WF S:=by
 obtain ⟨b,g0,g1,g2,g,cap,R,bp,bf,n,MP,MF,A,_,_,_,k⟩:=h
 exact k.wf
theorem VI.lt {w:World} {m:Addr} {S:Sp} {F:Nat→Prop} {K:Nat} (h:VI w m S F K) (x:Nat) (hx:F x):x<w.heap.size:=by
 obtain ⟨b,g0,g1,g2,g,cap,R,bp,bf,n,MP,MF,A,_,rfl,l,k⟩:=h
 exact l.lt hx
theorem VI.kept {w w':World} {m:Addr} {S:Sp} {F:Nat→Prop} {K:Nat} (h:VI w m S F K) (hs:w.heap.size≤w'.heap.size) (hk:∀x,F x→w'.heap[x]? =w.heap[x]?):VI w' m S F K:=by
 obtain ⟨b,g0,g1,g2,g,cap,R,bp,bf,n,MP,MF,A,e,rfl,l,k⟩:=h
 exact ⟨b,g0,g1,g2,g,cap,R,bp,bf,n,MP,MF,A,e,rfl,l.kept hs hk,k⟩
theorem VI.below {w w':World} {m:Addr} {S:Sp} {F:Nat→Prop} {K:Nat} (h:VI w m S F K) (hk:Below w.heap.size w w'):Step VI F w w' m S K:=
 ⟨F,h.kept hk.size (fun x hx=>hk.block x (h.lt x hx)),⟨hk.os,hk.tape,hk.output,hk.size,fun x hx _=>hk.block x hx⟩,fun _ h=>Or.inl h⟩
theorem VI.step {w w':World} {F':Nat→Prop} {m:Addr} {S:Sp} {F:Nat→Prop} {K:Nat} (h:Moves F F' w w') (k:VI w' m S F' K):Step VI F w w' m S K:=
 ⟨F',k,⟨h.fr.os,h.fr.tape,h.fr.output,h.fr.size,h.fr.block⟩,h.new⟩
end Go.Proofs.YtdgdhnnakcncoaaGreatDoor.V
namespace Go.Proofs.YtdgdhnnakcncoaaGreatDoor.V
set_option maxHeartbeats 1600000
open Go.ChangeShapes Go.WideShapes Go.ChangeAt Go.RowKit Go.Proofs.Sp
abbrev box3 (w:World) (v1 v2 v3:Value):World:=((w.alloc (.cells #[v1] 28)).alloc (.cells #[v2] 39)).alloc (.cells #[v3] 39)
abbrev box4 (w:World) (v1 v2 v3 v4:Value):World:=(box3 w v1 v2 v3).alloc (.cells #[v4] 45)
theorem box_size (w:World) (v1 v2 v3:Value):(box3 w v1 v2 v3).heap.size=w.heap.size+3:=by simp
theorem box_below (w:World) (v1 v2 v3 v4:Value):Below w.heap.size w (box4 w v1 v2 v3 v4):=
 ((((Below.refl _ _).alloc (Nat.le_refl _) _).alloc (by simp) _).alloc (by simp;omega) _).alloc (by simp;omega) _
theorem box_cells (w:World) (v1 v2 v3 v4:Value):(box4 w v1 v2 v3 v4).cell? ⟨w.heap.size,0,none⟩=some v1∧(box4 w v1 v2 v3 v4).cell? ⟨w.heap.size+1,0,none⟩=some v2∧(box4 w v1 v2 v3 v4).cell? ⟨w.heap.size+2,0,none⟩=some v3∧(box4 w v1 v2 v3 v4).cell? ⟨w.heap.size+3,0,none⟩=some v4∧
 (box4 w v1 v2 v3 v4).frozen? ⟨w.heap.size+2,0,none⟩=false∧(box4 w v1 v2 v3 v4).frozen? ⟨w.heap.size+3,0,none⟩=false∧(box4 w v1 v2 v3 v4).heap.size=w.heap.size+4:=by
 refine ⟨?_,?_,?_,?_,?_,?_,?_⟩<;>simp[go_sem]
theorem set_other {w:World} {x y k j:Nat} (v:Value) (h:x≠y):(w.setCell ⟨y,k,none⟩ v).cell? ⟨x,j,none⟩=w.cell? ⟨x,j,none⟩:=World.cell?_setCell_other _ _ _ _ (by intro e;exact h (congrArg Addr.block e).symm)
theorem below_set {w w2:World} (h:Below w.heap.size w w2) {x k:Nat} (hx:w.heap.size≤x) (v:Value):Below w.heap.size w (w2.setCell ⟨x,k,none⟩ v):=
 ⟨h.os,h.tape,h.output,by simpa using h.size,fun y hy=>by rw[Below.heap_setCell _ _ _ _ (by simp;omega)];exact h.block y hy⟩
theorem below_alloc {w w2:World} (h:Below w.heap.size w w2) (o:Obj):Below w.heap.size w (w2.alloc o):=h.alloc h.size o
set_option maxRecDepth 100000 in
theorem ent37 (args:Array Value) (w:World):(callFunc 71 args).run Tryz.prog w= .ok (.enter 71 args) w:=rfl
set_option maxRecDepth 100000 in
theorem ent49 (args:Array Value) (w:World):(callFunc 74 args).run Tryz.prog w= .ok (.enter 74 args) w:=rfl
theorem guard_fault {w:World} {v1 v2 v3:Value} {f:FuncId} {cp:Array Value} {c:Int} (hent:∀(args:Array Value) (w:World),(callFunc f args).run Tryz.prog w= .ok (.enter f args) w)
 (hw:Calls Tryz.prog f cp (box4 w v1 v2 v3 (.int .i64 0)) fun e w'=>e= .panicked [{v:= .iface 210 (.agg #[.int .i64 c]),recovered:=false}]∧Below (box4 w v1 v2 v3 (.int .i64 0)).heap.size (box4 w v1 v2 v3 (.int .i64 0)) w'):
 Calls Tryz.prog 70 #[.func (.func f) #[] cp] (box3 w v1 v2 v3) fun e w'=>e= .returned (.int .i64 c)∧Below w.heap.size w w'∧w'.cell? ⟨w.heap.size+1+1,0,none⟩=some v3∧w'.frozen? ⟨w.heap.size+1+1,0,none⟩=false:=by
 obtain ⟨b1,b2,b3,b4,b5,b6,b7⟩:=box_cells w v1 v2 v3 (.int .i64 0)
 have bb:=box_below w v1 v2 v3 (.int .i64 0)
 have bs:=box_size w v1 v2 v3
 refine (guard_bad f cp c (box3 w v1 v2 v3) _ hent hw (fun w2 k=> ?_)).mono ?_
 ·rw[bs]
  exact ⟨(k.cell (p:=⟨w.heap.size+3,0,none⟩) (by show w.heap.size+3<_;omega)).trans b4,(k.frozen (p:=⟨w.heap.size+3,0,none⟩) (by show w.heap.size+3<_;omega)).trans b6⟩
 ·rintro e w' ⟨rfl,w2,k,rfl⟩
  rw[bs]
  have ks:=k.size
  have kb:=bb.trans (k.mono bb.size)
  refine ⟨rfl,below_alloc (below_set kb (by omega) _) _,?_,?_⟩
  ·rw[show w.heap.size+1+1=w.heap.size+2 by omega]
   rw[World.cell?_of_block (Below.heap_alloc _ _ (w.heap.size+2) (by simp;omega)),set_other _ (by omega),k.cell (p:=⟨w.heap.size+2,0,none⟩) (by show w.heap.size+2<_;omega)]
   exact b3
  ·rw[show w.heap.size+1+1=w.heap.size+2 by omega]
   rw[fz_of_block (Below.heap_alloc _ _ (w.heap.size+2) (by simp;omega)),World.frozen?_setCell,k.frozen (p:=⟨w.heap.size+2,0,none⟩) (by show w.heap.size+2<_;omega)]
   exact b5
theorem load_guard {w:World} {b:Nat} {S:Sp} {F:Nat→Prop} {K:Nat} (a:Int) (ha:two64 a) (h:VI w ⟨b,0,none⟩ S F K) (hK:K≤lim):
 Calls Tryz.prog 70 #[.func (.func 71) #[] #[.pointer (some ⟨w.heap.size,0,none⟩), .pointer (some ⟨w.heap.size+1,0,none⟩), .pointer (some ⟨w.heap.size+1+1,0,none⟩)]] (box3 w (.pointer (some ⟨b,0,none⟩)) (.int .u64 a) (.int .u64 0)) fun e w'=>
  e= .returned (.int .i64 ((loadS S a.toNat).2:Nat))∧Below w.heap.size w w'∧w'.cell? ⟨w.heap.size+1+1,0,none⟩=some (.int .u64 ((loadS S a.toNat).1:Nat))∧w'.frozen? ⟨w.heap.size+1+1,0,none⟩=false:=by
 obtain ⟨b',g0,g1,g2,g,cap,R,bp,bf,n,MP,MF,A,e,rfl,l,k⟩:=h
 obtain rfl:b=b':=congrArg Addr.block e
 clear e
 have h0:=ha.1
 have h1:=ha.2
 have rl:=k.rl
 have hn:R.length≤70368744177664:=by unfold lim at hK;omega
 obtain ⟨b1,b2,b3,b4,b5,b6,b7⟩:=box_cells w (.pointer (some ⟨b,0,none⟩)) (.int .u64 a) (.int .u64 0) (.int .i64 0)
 have bb:=box_below w (.pointer (some ⟨b,0,none⟩)) (.int .u64 a) (.int .u64 0) (.int .i64 0)
 have bs:=box_size w (.pointer (some ⟨b,0,none⟩)) (.int .u64 a) (.int .u64 0)
 have b7':((box3 w (.pointer (some ⟨b,0,none⟩)) (.int .u64 a) (.int .u64 0)).alloc (.cells #[.int .i64 0] 45)).heap.size=w.heap.size+4:=b7
 have L:=l.below bb
 by_cases e1:a%8=0
 ·by_cases e2:S.st (a/8192).toNat=2
  ·have hl:loadS S a.toNat=(S.wd a.toNat,0):=by
    unfold loadS
    rw[if_neg (by omega),if_neg (by rw[show a.toNat/8192=(a/8192).toNat by omega,e2];simp)]
   rw[hl]
   have hx:S.wd a.toNat=wordAt MP MF A (a.toNat/8192) (a.toNat%8192/8):=by
    have:=k.at_ (a.toNat/8192) (a.toNat%8192/8) (by omega) (by rw[show a.toNat/8192=(a/8192).toNat by omega];exact e2)
    rw[←this]
    congr 1
    omega
   refine (guard_ok _ _ _ _ ent37 (load1_ok b w.heap.size (w.heap.size+1) (w.heap.size+1+1) g cap bp bf n R S.st MP MF A a h0 h1 hn _ L.rows.listAt L.rows.seg k.high L.words b1 b2 b3 b5 (by omega) (by omega) e1 e2) ?_).mono ?_
   ·rintro w' ⟨w2,kk,rfl⟩
    have ks:=kk.size
    rw[bs,set_other _ (by omega),World.frozen?_setCell]
    exact ⟨(kk.cell (p:=⟨w.heap.size+3,0,none⟩) (by show w.heap.size+3<_;omega)).trans b4,(kk.frozen (p:=⟨w.heap.size+3,0,none⟩) (by show w.heap.size+3<_;omega)).trans b6⟩
   ·rintro e w' ⟨rfl,w2',⟨w2,kk,rfl⟩,rfl⟩
    have ks:=kk.size
    have kb:=bb.trans (kk.mono bb.size)
    rw[bs]
    refine ⟨rfl,below_set (below_set kb (by omega) _) (by omega) _,?_,?_⟩
    ·rw[set_other _ (by omega),hx]
     exact World.cell?_setCell_same _ _ _ ((kk.cell (p:=⟨w.heap.size+2,0,none⟩) (by show w.heap.size+2<_;omega)).trans b3)
    ·rw[World.frozen?_setCell,World.frozen?_setCell]
     exact (kk.frozen (p:=⟨w.heap.size+2,0,none⟩) (by show w.heap.size+2<_;omega)).trans b5
  ·have hl:loadS S a.toNat=(0,12):=by
    unfold loadS
    rw[if_neg (by omega),if_pos (by rw[show a.toNat/8192=(a/8192).toNat by omega];exact e2)]
   rw[hl]
   exact guard_fault ent37 (load1_bad b w.heap.size (w.heap.size+1) (w.heap.size+1+1) a 12 _ b1 b2 (touch_bad b g cap R S.st a h0 h1 hn _ L.rows.listAt L.rows.seg k.high e1 e2))
 ·have hl:loadS S a.toNat=(0,11):=by
   unfold loadS
   rw[if_pos (by omega)]
  rw[hl]
  exact guard_fault ent37 (load1_bad b w.heap.size (w.heap.size+1) (w.heap.size+1+1) a 11 _ b1 b2 (touch_odd b a h0 h1 _ e1))
theorem vload {w:World} {m:Addr} {S:Sp} {F:Nat→Prop} {K:Nat} (a:Int) (ha:two64 a) (h:VI w m S F K) (hK:K≤lim):
 Calls Tryz.prog vm.load #[.pointer (some m), .int .u64 a] w fun e w'=>e= .returned (.tuple #[.int .u64 ((loadS S a.toNat).1:Nat), .int .i64 ((loadS S a.toNat).2:Nat)])∧Step VI F w w' m S K:=by
 have hmf:∀(fn:Fn) (first cap:Array Value) (w:World),(Instr.makeFunc fn first cap).run Tryz.prog w= .ok (.func fn first cap) w:=fun _ _ _ _=>rfl
 have V:=hide h
 obtain ⟨b,g0,g1,g2,g,cap,R,bp,bf,n,MP,MF,A,rfl,e,l,k⟩:=h
 have G:=hide (load_guard a ha V.out hK)
 clear e l k
 show Calls Tryz.prog 23 _ w _
 go_enter Tryz.func23,Tryz.ntmps23
 go_wp2_with fail
 refine G.out.mono ?_
 rintro e w5 ⟨rfl,B5,c5,f5⟩
 have HB:=hide B5
 clear B5 G
 go_wp2_with fail
 simp[bodyPost,results,Tryz.results23,go_sem,c5]
 exact V.out.below (below_set HB.out (by omega) _)
theorem Moves.set {F F':Nat→Prop} {w w':World} (h:Moves F F' w w') {x k:Nat} (hx:w.heap.size≤x) (v:Value):Moves F F' w (w'.setCell ⟨x,k,none⟩ v):=
 ⟨⟨h.fr.os,h.fr.tape,h.fr.output,by simpa using h.fr.size,fun y hy hn=>by rw[Below.heap_setCell _ _ _ _ (by simp;omega)];exact h.fr.block y hy hn⟩,h.new⟩
theorem Fits.turn {S:Sp} {K K' n n' b bp bf:Nat} {w w':World} {R:List (Nat×Nat)} {MP MF MP' MF':Nat→Nat} {A A':Nat→Nat→Nat} {Z:Nat→Prop} {W:Nat→Nat→Nat} (wd':Nat→Nat) (h:Fits S K R n MP MF A) (k:WNow w w' b bp bf n' MP MF Z W MP' MF' A')
 (hz:∀p,S.st p≠2→Z p) (hwd:∀p j,j<1024→S.st p=2→wd' (p * 8192+j * 8)=W p j) (hn:n'≤2 * K') (hK:K≤K'):Fits {S with wd:=wd'} K' R n' MP' MF' A':=
 ⟨⟨h.wf.rising,h.wf.below,h.wf.mem,h.wf.le3⟩,h.chunk,h.zero,fun p j hj hp=>(hwd p j hj hp).trans (k.at_ p j hj).symm,fun p hp=>k.non p (hz p hp) (h.non p hp).1 (h.non p hp).2,h.pl,h.fi,by have:=h.rl;omega,hn⟩
theorem Fits.more {S:Sp} {K K' n:Nat} {R:List (Nat×Nat)} {MP MF:Nat→Nat} {A:Nat→Nat→Nat} (h:Fits S K R n MP MF A) (hK:K≤K'):Fits S K' R n MP MF A:=
 ⟨h.wf,h.chunk,h.zero,h.at_,h.non,h.pl,h.fi,by have:=h.rl;omega,by have:=h.nl;omega⟩
theorem VI.more {w:World} {m:Addr} {S:Sp} {F:Nat→Prop} {K K':Nat} (h:VI w m S F K) (hK:K≤K'):VI w m S F K':=by
 obtain ⟨b,g0,g1,g2,g,cap,R,bp,bf,n,MP,MF,A,e,e2,l,k⟩:=h
 exact ⟨b,g0,g1,g2,g,cap,R,bp,bf,n,MP,MF,A,e,e2,l,k.more hK⟩
theorem words_done {w w2 w':World} {b g0 g1 g2 g cap bp bf n n' K K':Nat} {R:List (Nat×Nat)} {S:Sp} {MP MF:Nat→Nat} {A:Nat→Nat→Nat} {Z:Nat→Prop} {W:Nat→Nat→Nat} (wd':Nat→Nat) (x:Nat) (v:Value)
 (l:Lies w b S.places S.refuse S.fills S.st g0 g1 g2 g cap R bp bf n MP MF A) (f:Fits S K R n MP MF A) (kk:Below w.heap.size w w2) (hP:WPost w2 w' b bp bf n' MP MF Z W) (hx:w.heap.size≤x) (hx2:x<w2.heap.size)
 (hz:∀p,S.st p≠2→Z p) (hwd:∀p j,j<1024→S.st p=2→wd' (p * 8192+j * 8)=W p j) (hn:n'≤2 * K') (hK:K≤K'):
 Step VI (Foot b g0 g1 g2 g bp bf S.places S.refuse S.fills MP) w (w'.setCell ⟨x,0,none⟩ v) ⟨b,0,none⟩ {S with wd:=wd'} K':=by
 obtain ⟨MP',MF',A',k⟩:=hP
 obtain ⟨l',m⟩:=(l.below kk).turn k
 have m':Moves (Foot b g0 g1 g2 g bp bf S.places S.refuse S.fills MP) (Foot b g0 g1 g2 g bp bf S.places S.refuse S.fills MP') w w':=(Moves.below kk).trans m
 refine VI.step (m'.set hx v) ⟨b,g0,g1,g2,g,cap,R,bp,bf,n',MP',MF',A',rfl,rfl,l'.kept (by simp) (fun y hy=> ?_),f.turn wd' k hz hwd hn hK⟩
 refine Below.heap_setCell _ _ _ _ (fun e=> ?_)
 simp at e
 subst e
 rcases m.new _ hy with z|z
 ·have:=l.lt z;omega
 ·omega
theorem store_guard {w:World} {b:Nat} {S:Sp} {F:Nat→Prop} {K:Nat} (a c:Int) (ha:two64 a) (hc:two64 c) (h:VI w ⟨b,0,none⟩ S F K) (hK:K≤lim):
 Calls Tryz.prog 70 #[.func (.func 74) #[] #[.pointer (some ⟨w.heap.size,0,none⟩), .pointer (some ⟨w.heap.size+1,0,none⟩), .pointer (some ⟨w.heap.size+1+1,0,none⟩)]] (box3 w (.pointer (some ⟨b,0,none⟩)) (.int .u64 a) (.int .u64 c)) fun e w'=>
  e= .returned (.int .i64 ((storeS S a.toNat c.toNat).1:Nat))∧Step VI F w w' ⟨b,0,none⟩ (storeS S a.toNat c.toNat).2 (K+1):=by
 have V:=h
 obtain ⟨b',g0,g1,g2,g,cap,R,bp,bf,n,MP,MF,A,e,rfl,l,k⟩:=h
 obtain rfl:b=b':=congrArg Addr.block e
 clear e
 have h0:=ha.1
 have h1:=ha.2
 have c0:=hc.1
 have c1:=hc.2
 have rl:=k.rl
 have nl:=k.nl
 have hn:R.length≤70368744177664:=by unfold lim at hK;omega
 have hn2:n≤4398046511104:=by unfold lim at hK;omega
 obtain ⟨b1,b2,b3,b4,b5,b6,b7⟩:=box_cells w (.pointer (some ⟨b,0,none⟩)) (.int .u64 a) (.int .u64 c) (.int .i64 0)
 have bb:=box_below w (.pointer (some ⟨b,0,none⟩)) (.int .u64 a) (.int .u64 c) (.int .i64 0)
 have bs:=box_size w (.pointer (some ⟨b,0,none⟩)) (.int .u64 a) (.int .u64 c)
 have b7':((box3 w (.pointer (some ⟨b,0,none⟩)) (.int .u64 a) (.int .u64 c)).alloc (.cells #[.int .i64 0] 45)).heap.size=w.heap.size+4:=b7
 have L:=l.below bb
 by_cases e1:a%8=0
 ·by_cases e2:S.st (a/8192).toNat=2
  ·have hl:storeS S a.toNat c.toNat=(0,{S with wd:=fun x=>if x=a.toNat then c.toNat else S.wd x}):=by
    unfold storeS
    rw[if_neg (by omega),if_neg (by rw[show a.toNat/8192=(a/8192).toNat by omega,e2];simp)]
   rw[hl]
   refine (guard_ok _ _ _ _ ent49 (store1_ok b w.heap.size (w.heap.size+1) (w.heap.size+1+1) bp bf n MP MF A a c.toNat h0 h1 (by omega) hn2 _ L.words b1 b2 (by rw[show ((c.toNat:Nat):Int)=c by omega];exact b3) (touch_ok b g cap R S.st a h0 h1 hn _ L.rows.listAt L.rows.seg k.high e1 e2)) ?_).mono ?_
   ·rintro w' ⟨w2,kk,MP',MF',A',hP⟩
    have ks:=kk.size
    have hw:¬WFoot bp bf MP (w.heap.size+3):=fun z=>by have:=(l.words.foot z).1;omega
    rw[bs]
    exact ⟨(hP.fr.cell (by omega) hw).trans ((kk.cell (p:=⟨w.heap.size+3,0,none⟩) (by show w.heap.size+3<_;omega)).trans b4),(fz_of_block (hP.fr.block _ (by omega) hw)).trans ((kk.frozen (p:=⟨w.heap.size+3,0,none⟩) (by show w.heap.size+3<_;omega)).trans b6)⟩
   ·rintro e w' ⟨rfl,w3,⟨w2,kk,hP⟩,rfl⟩
    have ks:=kk.size
    have kb:=bb.trans (kk.mono bb.size)
    rw[bs]
    refine ⟨rfl,words_done _ _ _ l k kb hP (by omega) (by omega) (fun p hp e=>hp (by rw[e,show a.toNat/8192=(a/8192).toNat by omega];exact e2)) (fun p j hj hp=> ?_) (by omega) (by omega)⟩
    show (if p * 8192+j * 8=a.toNat then c.toNat else S.wd (p * 8192+j * 8))=_
    by_cases z:p=a.toNat/8192∧j=a.toNat%8192/8
    ·rw[if_pos z,if_pos (by omega)]
    ·rw[if_neg z,if_neg (by omega)]
     exact k.at_ p j hj hp
  ·have hl:storeS S a.toNat c.toNat=(12,S):=by
    unfold storeS
    rw[if_neg (by omega),if_pos (by rw[show a.toNat/8192=(a/8192).toNat by omega];exact e2)]
   rw[hl]
   exact (guard_fault ent49 (store1_bad b w.heap.size (w.heap.size+1) (w.heap.size+1+1) a 12 _ b1 b2 (touch_bad b g cap R S.st a h0 h1 hn _ L.rows.listAt L.rows.seg k.high e1 e2))).mono fun e w' ⟨h1,h2,_⟩=>⟨h1,(V.more (by omega)).below h2⟩
 ·have hl:storeS S a.toNat c.toNat=(11,S):=by
   unfold storeS
   rw[if_pos (by omega)]
  rw[hl]
  exact (guard_fault ent49 (store1_bad b w.heap.size (w.heap.size+1) (w.heap.size+1+1) a 11 _ b1 b2 (touch_odd b a h0 h1 _ e1))).mono fun e w' ⟨h1,h2,_⟩=>⟨h1,(V.more (by omega)).below h2⟩
theorem vstore {w:World} {m:Addr} {S:Sp} {F:Nat→Prop} {K:Nat} (a c:Int) (ha:two64 a) (hc:two64 c) (h:VI w m S F K) (hK:K≤lim):
 Calls Tryz.prog vm.store #[.pointer (some m), .int .u64 a, .int .u64 c] w fun e w'=>e= .returned (.int .i64 ((storeS S a.toNat c.toNat).1:Nat))∧Step VI F w w' m (storeS S a.toNat c.toNat).2 (K+1):=by
 have hmf:∀(fn:Fn) (first cap:Array Value) (w:World),(Instr.makeFunc fn first cap).run Tryz.prog w= .ok (.func fn first cap) w:=fun _ _ _ _=>rfl
 have V:=hide h
 obtain ⟨b,g0,g1,g2,g,cap,R,bp,bf,n,MP,MF,A,rfl,e,l,k⟩:=h
 have G:=hide (store_guard a c ha hc V.out hK)
 obtain ⟨PO,hPO⟩:∃PO:World→Prop,PO=fun w'=>Step VI F w w' ⟨b,0,none⟩ (storeS S a.toNat c.toNat).2 (K+1):=⟨_,rfl⟩
 obtain ⟨x,hx⟩:∃x:Nat,x=(storeS S a.toNat c.toNat).1:=⟨_,rfl⟩
 suffices Calls Tryz.prog 24 #[.pointer (some ⟨b,0,none⟩), .int .u64 a, .int .u64 c] w fun e w'=>e= .returned (.int .i64 (x:Int))∧PO w' by rw[hPO,hx] at this;exact this
 have G2:=hide (G.out.mono (R':=fun e w'=>e= .returned (.int .i64 (x:Int))∧PO w') (fun e w' h=>by rw[hPO,hx];exact h))
 clear e l k G hPO hx V
 go_enter Tryz.func24,Tryz.ntmps24
 go_wp2_with fail
 refine G2.out.mono ?_
 rintro e w5 ⟨rfl,h5⟩
 have H5:=hide h5
 clear h5 G2
 go_wp2_with fail
 go_ret
 exact ⟨rfl,H5.out⟩
theorem row_all {f:Nat→Nat} {a c:Nat} {P:Nat→Prop}:(∀i,i<c→P (f (a+ i)))↔∀p,a≤p→p<a+c→P (f p):=
 ⟨fun h p h1 h2=>by have:=h (p - a) (by omega);rwa[show a+(p - a)=p by omega] at this,fun h i hi=>h _ (by omega) (by omega)⟩
theorem Fits.asked {S:Sp} {K n:Nat} {R:List (Nat×Nat)} {MP MF:Nat→Nat} {A:Nat→Nat→Nat} (h:Fits S K R n MP MF A):Fits (takeRefuse S) K R n MP MF A:=⟨h.wf.refuse,h.chunk,h.zero,h.at_,h.non,h.pl,h.fi,h.rl,h.nl⟩
theorem Fits.placed {S:Sp} {K n:Nat} {R:List (Nat×Nat)} {MP MF:Nat→Nat} {A:Nat→Nat→Nat} (h:Fits S K R n MP MF A):Fits (takePlace S) K R n MP MF A:=⟨h.wf.place,h.chunk,h.zero,h.at_,h.non,fun x hx=>h.pl x (List.mem_of_mem_tail hx),h.fi,h.rl,h.nl⟩
theorem lay_fits {S:Sp} {K K' n q c:Nat} {R R':List (Nat×Nat)} {MP MF:Nat→Nat} {A:Nat→Nat→Nat} (h:Fits S K R n MP MF A) (hf:free S c q) (hc:c%512=0) (hR:R'.length≤R.length+2) (hK:K+2≤K'):Fits (lay S q c) K' R' n MP MF A:=by
 obtain ⟨f1,f2,f3,f4⟩:=hf
 have f5:=(row_all (P:=fun x=>x=0)).1 f4
 have rl:=h.rl
 have nl:=h.nl
 refine ⟨h.wf.lay ⟨f1,f2,f3,f4⟩,fun p=> ?_,?_,fun p j hj hp=> ?_,fun p hp=> ?_,h.pl,h.fi,by omega,by omega⟩
 ·show (if q≤p∧p<q+c then 1 else S.st p)=0↔(if q≤p/512 * 512∧p/512 * 512<q+c then 1 else S.st (p/512 * 512))=0
  by_cases z:q≤p∧p<q+c
  ·rw[if_pos z,if_pos (by omega)]
  ·rw[if_neg z,if_neg (by omega)];exact h.chunk p
 ·show (if q≤0∧0<q+c then 1 else S.st 0)=0
  rw[if_neg (by omega)];exact h.zero
 ·have hp:(if q≤p∧p<q+c then 1 else S.st p)=2:=hp
  by_cases z:q≤p∧p<q+c
  ·rw[if_pos z] at hp;cases hp
  ·rw[if_neg z] at hp;exact h.at_ p j hj hp
 ·have hp:(if q≤p∧p<q+c then 1 else S.st p)≠2:=hp
  by_cases z:q≤p∧p<q+c
  ·exact h.non p (by rw[f5 p z.1 z.2];decide)
  ·rw[if_neg z] at hp;exact h.non p hp
set_option maxRecDepth 100000 in
set_option maxHeartbeats 1000000 in
theorem vreserve {w:World} {m:Addr} {S:Sp} {F:Nat→Prop} {K:Nat} (a c:Int) (ha:two64 a) (hc:two64 c) (h:VI w m S F K) (hK:K≤lim):
 Calls Tryz.prog vm.reserve #[.pointer (some m), .int .u64 a, .int .u64 c] w fun e w'=>e= .returned (.tuple #[.int .u64 ((reserveS S a.toNat c.toNat).1:Nat), .int .i64 ((reserveS S a.toNat c.toNat).2.1:Nat)])∧Step VI F w w' m (reserveS S a.toNat c.toNat).2.2 (K+cost (reserveS S a.toNat c.toNat).2.1 c.toNat):=by
 have V:=hide h
 obtain ⟨b,g0,g1,g2,g,cap,R,bp,bf,n,MP,MF,A,rfl,e,l,k⟩:=h
 have h0:=ha.1
 have h1:=ha.2
 have c0:=hc.1
 have c1:=hc.2
 have rl:=k.rl
 have nl:=k.nl
 have hn:R.length≤1099511627777:=by unfold lim at hK;omega
 have L:=hide l
 have KF:=hide k
 have EF:=hide e
 obtain ⟨v1,v1c,v1s⟩:=l.s1
 have v1f:=l.rows.fz 1
 have S1:=hide v1s
 clear l k e rl nl ha hc v1s
 show Calls Tryz.prog 280 _ w _
 by_cases r:c.toNat=0∨c.toNat%512≠0∨134217728<c.toNat
 ·have hl:reserveS S a.toNat c.toNat=(0,1,S):=by
   unfold reserveS
   rw[if_pos r]
  rw[hl]
  have T:=hide ((V.out.more (K':=K+cost 1 c.toNat) (by omega)).below (Below.refl _ _))
  by_cases z0:c=0
  ·subst z0
   clear r hl
   go_enter Tryz.func280,Tryz.ntmps280
   go_wp2_with fail
   go_ret2
   exact ⟨rfl,T.out⟩
  ·have y0:(c==0)=false:=beq_eq_false_iff_ne.2 z0
   by_cases z1:c%512=0
   ·have y2:c>134217728:=by omega
    clear r hl
    go_enter Tryz.func280,Tryz.ntmps280
    go_wp2_with fail
    go_ret2
    exact ⟨rfl,T.out⟩
   ·have y1:(c%512 != 0)=true:=by rw[bne_iff_ne];exact z1
    clear r hl
    go_enter Tryz.func280,Tryz.ntmps280
    go_wp2_with fail
    go_ret2
    exact ⟨rfl,T.out⟩
 ·have cz:c≠0:=by omega
  have y0:(c==0)=false:=beq_eq_false_iff_ne.2 cz
  have z1:c%512=0:=by omega
  have y2:¬c>134217728:=by omega
  have cp:0<c:=by omega
  by_cases q:S.refuse.headD false=true
  ·have hl:reserveS S a.toNat c.toNat=(0,13,takeRefuse S):=by
    unfold reserveS
    rw[if_neg r,if_pos q]
   rw[hl]
   have Q:=hide (show S.refuse.head?.getD false=true by rw[←List.headD_eq_head?_getD];exact q)
   have FIN:Hid (∀w1 v',Cell1 b 1 w w1 v'→SlB w1 v' (bools S.refuse.tail) g1→Step VI F w w1 ⟨b,0,none⟩ (takeRefuse S) (K+cost 13 c.toNat)):=hide (by
    intro w1 v' k1 k2
    obtain ⟨l1,m1⟩:=L.out.refuse k1 k2
    rw[EF.out]
    exact VI.step m1 ⟨b,g0,g1,g2,g,cap,R,bp,bf,n,MP,MF,A,rfl,rfl,l1,KF.out.asked.more (by omega)⟩)
   obtain ⟨PO,hPO⟩:∃PO:World→Prop,PO=fun w'=>Step VI F w w' ⟨b,0,none⟩ (takeRefuse S) (K+cost 13 c.toNat):=⟨_,rfl⟩
   suffices Calls Tryz.prog 280 #[.pointer (some ⟨b,0,none⟩), .int .u64 a, .int .u64 c] w fun e w'=>e= .returned (.tuple #[.int .u64 0, .int .i64 13])∧PO w' by rw[hPO] at this;exact this
   have PE:=hide hPO
   clear q hl hPO r cz
   go_enter Tryz.func280,Tryz.ntmps280
   go_wp2_with fail
   refine (refused_core b g1 v1 S.refuse w v1c v1f S1.out).mono ?_
   rintro e w1 ⟨rfl,hT⟩
   rw[Q.out]
   have T:=hide hT
   clear hT
   go_wp2_with fail
   go_ret2
   refine ⟨rfl,?_⟩
   rw[PE.out]
   obtain ⟨v',k1,k2⟩:=took_bool v1c T.out S1.out L.out.n1
   exact FIN.out _ v' k1 k2
  ·have Q:=hide (show S.refuse.head?.getD false=false by rw[←List.headD_eq_head?_getD];simpa using q)
   cases z:placeA S a.toNat c.toNat with
   |none=>
    have hl:reserveS S a.toNat c.toNat=(0,13,takePlace (takeRefuse S)):=by
     unfold reserveS
     unfold placeA at z
     rw[if_neg r,if_neg q,z]
    rw[hl]
    have Z:=hide z
    have FIN:Hid (∀w1 v',Cell1 b 1 w w1 v'→SlB w1 v' (bools S.refuse.tail) g1→Lies w1 b S.places S.refuse.tail S.fills S.st g0 g1 g2 g cap R bp bf n MP MF A∧∀w2 v',Cell1 b 0 w1 w2 v'→SlB w2 v' (u64s S.places.tail) g0→Step VI F w w2 ⟨b,0,none⟩ (takePlace (takeRefuse S)) (K+cost 13 c.toNat)):=hide (by
     intro w1 v' k1 k2
     obtain ⟨l1,m1⟩:=L.out.refuse k1 k2
     refine ⟨l1,fun w2 v2 k3 k4=> ?_⟩
     obtain ⟨l2,m2⟩:=l1.place k3 k4
     rw[EF.out]
     exact VI.step (m1.trans m2) ⟨b,g0,g1,g2,g,cap,R,bp,bf,n,MP,MF,A,rfl,rfl,l2,KF.out.asked.placed.more (by omega)⟩)
    obtain ⟨PO,hPO⟩:∃PO:World→Prop,PO=fun w'=>Step VI F w w' ⟨b,0,none⟩ (takePlace (takeRefuse S)) (K+cost 13 c.toNat):=⟨_,rfl⟩
    suffices Calls Tryz.prog 280 #[.pointer (some ⟨b,0,none⟩), .int .u64 a, .int .u64 c] w fun e w'=>e= .returned (.tuple #[.int .u64 0, .int .i64 13])∧PO w' by rw[hPO] at this;exact this
    have PE:=hide hPO
    clear q hl hPO r cz z
    go_enter Tryz.func280,Tryz.ntmps280
    go_wp2_with fail
    refine (refused_core b g1 v1 S.refuse w v1c v1f S1.out).mono ?_
    rintro e w1 ⟨rfl,hT⟩
    rw[Q.out]
    obtain ⟨v',k1,k2⟩:=took_bool v1c hT S1.out L.out.n1
    have FI:=hide (FIN.out w1 v' k1 k2)
    clear hT k1 k2 v'
    go_wp2_with fail
    obtain ⟨v0,v0c,v0s⟩:=FI.out.1.s0
    refine (place_core b g g0 cap v0 R S a c h0 h1 cp (by omega) z1 (by omega) w1 FI.out.1.rows.listAt FI.out.1.rows.seg FI.out.1.rows.alt KF.out.chunk v0c (FI.out.1.rows.fz 0) v0s KF.out.pl FI.out.1.rows.ne L.out.n0).mono ?_
    rintro e w2 ⟨rfl,v',k1,k2⟩
    have FJ:=hide (FI.out.2 w2 v' k1 k2)
    rw[Z.out,opt2_none]
    clear k1 k2 v0c v0s
    go_wp2_with fail
    go_ret2
    refine ⟨rfl,?_⟩
    rw[PE.out]
    exact FJ.out
   |some x=>
    have hl:reserveS S a.toNat c.toNat=(x,0,lay (takePlace (takeRefuse S)) x c.toNat):=by
     unfold reserveS
     unfold placeA at z
     rw[if_neg r,if_neg q,z]
    rw[hl]
    have Z:=hide z
    have hf:free S c.toNat x:=or_free z
    have hf2:free (takePlace (takeRefuse S)) c.toNat x:=hf
    have x0:(0:Int)<(x:Int):=by have:=hf.2.1;omega
    have x1:(x:Int)+c≤34359738368:=by have:=hf.2.2.1;omega
    have FIN:Hid (∀w1 v',Cell1 b 1 w w1 v'→SlB w1 v' (bools S.refuse.tail) g1→Lies w1 b S.places S.refuse.tail S.fills S.st g0 g1 g2 g cap R bp bf n MP MF A∧∀w2 v',Cell1 b 0 w1 w2 v'→SlB w2 v' (u64s S.places.tail) g0→Lies w2 b S.places.tail S.refuse.tail S.fills S.st g0 g1 g2 g cap R bp bf n MP MF A∧
     ∀w3,SetPost b 3 g R (putSt S.st x (x+c.toNat) 1) w2 w3→Step VI F w w3 ⟨b,0,none⟩ (lay (takePlace (takeRefuse S)) x c.toNat) (K+cost 0 c.toNat)):=hide (by
     intro w1 v' k1 k2
     obtain ⟨l1,m1⟩:=L.out.refuse k1 k2
     refine ⟨l1,fun w2 v2 k3 k4=> ?_⟩
     obtain ⟨l2,m2⟩:=l1.place k3 k4
     refine ⟨l2,fun w3 k5=> ?_⟩
     obtain ⟨g',c',R',l3,hR,m3⟩:=l2.rowed k5
     rw[EF.out]
     exact VI.step ((m1.trans m2).trans m3) ⟨b,g0,g1,g2,g',c',R',bp,bf,n,MP,MF,A,rfl,rfl,l3,lay_fits KF.out.asked.placed hf2 (by omega) hR (by simp[cost];omega)⟩)
    obtain ⟨PO,hPO⟩:∃PO:World→Prop,PO=fun w'=>Step VI F w w' ⟨b,0,none⟩ (lay (takePlace (takeRefuse S)) x c.toNat) (K+cost 0 c.toNat):=⟨_,rfl⟩
    suffices Calls Tryz.prog 280 #[.pointer (some ⟨b,0,none⟩), .int .u64 a, .int .u64 c] w fun e w'=>e= .returned (.tuple #[.int .u64 (x:Int), .int .i64 0])∧PO w' by rw[hPO] at this;exact this
    have PE:=hide hPO
    clear q hl hPO r cz z hf hf2
    go_enter Tryz.func280,Tryz.ntmps280
    go_wp2_with fail
    refine (refused_core b g1 v1 S.refuse w v1c v1f S1.out).mono ?_
    rintro e w1 ⟨rfl,hT⟩
    rw[Q.out]
    obtain ⟨v',k1,k2⟩:=took_bool v1c hT S1.out L.out.n1
    have FI:=hide (FIN.out w1 v' k1 k2)
    clear hT k1 k2 v'
    go_wp2_with fail
    obtain ⟨v0,v0c,v0s⟩:=FI.out.1.s0
    refine (place_core b g g0 cap v0 R S a c h0 h1 cp (by omega) z1 (by omega) w1 FI.out.1.rows.listAt FI.out.1.rows.seg FI.out.1.rows.alt KF.out.chunk v0c (FI.out.1.rows.fz 0) v0s KF.out.pl FI.out.1.rows.ne L.out.n0).mono ?_
    rintro e w2 ⟨rfl,v',k1,k2⟩
    have FJ:=hide (FI.out.2 w2 v' k1 k2)
    rw[Z.out,opt2_some]
    clear k1 k2 v0c v0s
    go_wp2_with fail
    refine (set_core b 3 g cap R S.st (x:Int) ((x:Int)+c) 1 x0 (by omega) x1 (by omega) hn w2 FJ.out.1.rows).mono ?_
    rintro e w3 ⟨rfl,hS⟩
    rw[Int.toNat_natCast,show ((x:Int)+c).toNat=x+c.toNat by omega] at hS
    have FK:=hide (FJ.out.2 w3 hS)
    clear hS
    go_wp2_with fail
    go_ret2
    refine ⟨rfl,?_⟩
    rw[PE.out]
    exact FK.out
end Go.Proofs.YtdgdhnnakcncoaaGreatDoor.V
