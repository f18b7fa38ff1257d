/- Of the proof of HeapClasses: texts VVmD, VVmE, VVmF, VVmG. -/
import Derived.Test.YtdgdhnnakcncoaaGreatDoorJ28
import Derived.Test.YtdgdhnnakcncoaaGreatDoorJ53
import Derived.Deep.RegionHeld3
import Derived.Maps.RangeWalk
namespace Go.Proofs.YtdgdhnnakcncoaaGreatDoor.V
set_option maxHeartbeats 1600000
open Go.ChangeShapes Go.WideShapes Go.ChangeAt Go.RowKit Go.Proofs.Sp
theorem infoR:(Tryz.prog.info? 170).map (fun i=>(i.zero,i.size,i.bytes))=some (some (.agg #[.int .u64 0, .int .i64 0]),2,16):=by kernel_rfl
theorem sizeR:(Tryz.prog.info? 170).map (·.size)=some 2:=by kernel_rfl
theorem zeroR (w:World):(zeroValue 170).run Tryz.prog w= .ok (.agg #[.int .u64 0, .int .i64 0]) w:=by kernel_rfl
def flat2 (R:List (Nat×Nat)):List Value:=R.flatMap fun x=>[.int .u64 (x.1:Int), .int .i64 (x.2:Int)]
theorem flat2_cons (x:Nat×Nat) (R:List (Nat×Nat)):flat2 (x::R)= .int .u64 (x.1:Int):: .int .i64 (x.2:Int)::flat2 R:=by simp[flat2]
theorem flat2_length (R:List (Nat×Nat)):(flat2 R).length=R.length * 2:=by
 induction R with
 |nil=>rfl
 |cons x r ih=>rw[flat2_cons];simp[ih];omega
theorem flat2_append (A B:List (Nat×Nat)):flat2 (A++B)=flat2 A++flat2 B:=by simp[flat2]
theorem flat2_take (R:List (Nat×Nat)) (i:Nat):flat2 (R.take i)=(flat2 R).take (i * 2):=by
 induction R generalizing i with
 |nil=>simp[flat2]
 |cons x r ih=>
  cases i with
  |zero=>simp[flat2]
  |succ i=>rw[List.take_succ_cons,flat2_cons,flat2_cons,ih,show (i+1) * 2=i * 2+1+1 by omega];rfl
theorem flat2_drop (R:List (Nat×Nat)) (i:Nat):flat2 (R.drop i)=(flat2 R).drop (i * 2):=by
 induction R generalizing i with
 |nil=>simp[flat2]
 |cons x r ih=>
  cases i with
  |zero=>simp
  |succ i=>rw[List.drop_succ_cons,flat2_cons,ih,show (i+1) * 2=i * 2+1+1 by omega];rfl
theorem flat2_one (R:List (Nat×Nat)):∀v∈flat2 R,v.oneCell'=true:=by
 intro v hv
 unfold flat2 at hv
 obtain ⟨x,_,hx⟩:=List.mem_flatMap.1 hv
 simp at hx
 rcases hx with rfl|rfl<;>rfl
theorem flat2_get (R:List (Nat×Nat)) (i:Nat) (h:i<R.length):(flat2 R)[i * 2]? =some (.int .u64 (R[i].1:Int))∧(flat2 R)[i * 2+1]? =some (.int .i64 (R[i].2:Int)):=by
 induction R generalizing i with
 |nil=>exact absurd h (by simp)
 |cons x r ih=>
  rw[flat2_cons]
  cases i with
  |zero=>exact ⟨rfl,rfl⟩
  |succ i=>
   have:=ih i (by simpa using h)
   rw[show (i+1) * 2=i * 2+1+1 by omega]
   exact this
structure RowIs (w:World) (g cap:Nat) (cur:List Value):Prop where
 heap:w.heap[g]? =some (.cells cur.toArray 170 (0,0))
 len:cur.length=cap * 2
 cap:cap≤maxLen
theorem RowIs.cell {w:World} {g cap:Nat} {cur:List Value} (h:RowIs w g cap cur) (k:Nat):w.cell? ⟨g,k,none⟩=cur[k]? :=by
 rw[cell_of_row w g k cur.toArray _ (0,0) h.heap];simp
theorem RowIs.kept {w w':World} {g cap:Nat} {cur:List Value} {row:Option Nat} (h:RowIs w g cap cur) (hg:w.grownBy w' row) (hne:some g≠row):RowIs w' g cap cur:=
 ⟨by rw[hg.block g (Array.getElem?_eq_some_iff.1 h.heap).1 hne];exact h.heap,h.len,h.cap⟩
structure HoldsR (w:World) (g cap:Nat) (R:List (Nat×Nat)):Prop where
 row:∃cur,RowIs w g cap cur∧cur.take (R.length * 2)=flat2 R
 le:R.length≤cap
def FreshAt (w:World) (v:Value) (F:List (Nat×Nat)) (g:Nat):Prop:=
 (v= .slice none 0 0∧F= [])∨∃h c,v= .slice (some ⟨h,0,none⟩) F.length c∧h≠g∧0<F.length∧HoldsR w h c F
theorem splice_two (cur F D:List Value) (a:Nat) (h:a+F.length+D.length≤cur.length):(splice (splice cur a F) (a+F.length) D).take (a+F.length+D.length)=cur.take a++F++D:=by
 have e1:(splice cur a F).take (a+F.length)=cur.take a++F:=by
  unfold splice
  rw[←List.append_assoc,List.take_append_of_le_length (by simp;omega)]
  exact List.take_of_length_le (by simp;omega)
 have l1:=length_splice cur a F (by omega)
 show ((splice cur a F).take (a+F.length)++(D++(splice cur a F).drop (a+F.length+D.length))).take _=_
 rw[e1,←List.append_assoc,List.take_append_of_le_length (by simp;omega)]
 exact List.take_of_length_le (by simp;omega)
theorem splice_two' (cur F D:List Value) (a:Nat) (h:a+F.length+D.length≤cur.length):(splice (splice cur (a+F.length) D) a F).take (a+F.length+D.length)=cur.take a++F++D:=by
 have l1:=length_splice cur (a+F.length) D (by omega)
 have e1:(splice cur (a+F.length) D).take a=cur.take a:=by
  unfold splice
  rw[List.take_append_of_le_length (by simp;omega),List.take_take]
  congr 1;omega
 have e2:((splice cur (a+F.length) D).drop (a+F.length)).take D.length=D:=by
  unfold splice
  rw[List.drop_append_of_le_length (by simp;omega),List.drop_eq_nil_of_le (by simp;omega)]
  simp
 show ((splice cur (a+F.length) D).take a++(F++(splice cur (a+F.length) D).drop (a+F.length))).take _=_
 rw[e1,←List.append_assoc,List.take_append]
 have e3:(cur.take a++F).length=a+F.length:=by simp;omega
 rw[List.take_of_length_le (by omega),e3,show a+F.length+D.length -(a+F.length)=D.length by omega,e2]
theorem undrew {w w':World} {row:Option Nat} (h:w.drew.grownBy w' row):w.grownBy w' row:=⟨h.os,h.tape,h.output,h.size,h.block⟩
theorem len_of {R F:List (Nat×Nat)} {i j:Nat} (hi:i≤R.length):(R.take i++F++R.drop j).length=i+F.length+(R.length - j):=by simp;omega
theorem copies_fd {cur:List Value} {R F:List (Nat×Nat)} {i j:Nat} (hi:i≤R.length) (hA:cur.take (i * 2)=flat2 (R.take i)) (hfit:i * 2+F.length * 2+(R.length - j) * 2≤cur.length):
 (splice (splice cur (i * 2) (flat2 F)) ((i+F.length) * 2) (flat2 (R.drop j))).take ((R.take i++F++R.drop j).length * 2)=flat2 (R.take i++F++R.drop j):=by
 have h:=splice_two cur (flat2 F) (flat2 (R.drop j)) (i * 2) (by rw[flat2_length,flat2_length,List.length_drop];exact hfit)
 rw[flat2_length F] at h
 rw[len_of hi,flat2_append,flat2_append,←hA,←h,flat2_length,List.length_drop,show (i+F.length) * 2=i * 2+F.length * 2 by omega,show (i+F.length+(R.length - j)) * 2=i * 2+F.length * 2+(R.length - j) * 2 by omega]
theorem copies_df {cur:List Value} {R F:List (Nat×Nat)} {i j:Nat} (hi:i≤R.length) (hA:cur.take (i * 2)=flat2 (R.take i)) (hfit:i * 2+F.length * 2+(R.length - j) * 2≤cur.length):
 (splice (splice cur ((i+F.length) * 2) (flat2 (R.drop j))) (i * 2) (flat2 F)).take ((R.take i++F++R.drop j).length * 2)=flat2 (R.take i++F++R.drop j):=by
 have h:=splice_two' cur (flat2 F) (flat2 (R.drop j)) (i * 2) (by rw[flat2_length,flat2_length,List.length_drop];exact hfit)
 rw[flat2_length F] at h
 rw[len_of hi,flat2_append,flat2_append,←hA,←h,flat2_length,List.length_drop,show (i+F.length) * 2=i * 2+F.length * 2 by omega,show (i+F.length+(R.length - j)) * 2=i * 2+F.length * 2+(R.length - j) * 2 by omega]
theorem head_of {cur:List Value} {R:List (Nat×Nat)} (hR:cur.take (R.length * 2)=flat2 R) {i:Nat} (hi:i≤R.length):cur.take (i * 2)=flat2 (R.take i):=by
 rw[flat2_take,←hR,List.take_take];congr 1;omega
theorem overlaps_false (w:World) (a b:Option Addr) (la lb ca cb:Nat)
 (h:∀x y,a=some x→b=some y→0<la→0<lb→x.block≠y.block∧(∃c t,w.heap[x.block]? =some (.cells c t (0,0)))∧∃c t,w.heap[y.block]? =some (.cells c t (0,0))):
 (callFunc 263 #[.slice a la ca, .slice b lb cb]).run Tryz.prog w= .ok (.value (.bool false)) w:=by
 obtain ⟨i0,hi,_⟩:=info_parts infoR
 rw[run_callFunc_extern (e:=Extern.SlicesOverlaps.overlaps #[84,84] #[4]) Tryz.func263 (by kernel_rfl) (by kernel_rfl) (by kernel_rfl) (by kernel_rfl) _ w]
 have:=run_overlaps_apart (P:=Tryz.prog) w 84 170 i0 #[4] [84] Tryz.underlying84 hi a b la lb ca cb h
 rw[this]
 rfl
theorem src_cells {W:World} {g cap:Nat} {cur:List Value} {R:List (Nat×Nat)} (hr:RowIs W g cap cur) (hR:cur.take (R.length * 2)=flat2 R) (i:Nat):∀j v,(flat2 (R.drop i))[j]? =some v→W.cell? ((⟨g,i * 2,none⟩:Addr).add j)=some v:=by
 intro j v hv
 rw[addr_add0,hr.cell]
 rw[flat2_drop,←hR,List.getElem?_drop,List.getElem?_take] at hv
 split at hv
 ·exact hv
 ·cases hv
theorem src_cells0 {W:World} {g cap:Nat} {cur:List Value} {R:List (Nat×Nat)} (hr:RowIs W g cap cur) (hR:cur.take (R.length * 2)=flat2 R):∀j v,(flat2 R)[j]? =some v→W.cell? ((⟨g,0,none⟩:Addr).add j)=some v:=by
 have:=src_cells hr hR 0
 simpa using this
set_option maxRecDepth 100000 in
set_option maxHeartbeats 4000000 in
theorem insert_room (g cap h c:Nat) (cur curF:List Value) (R F:List (Nat×Nat)) (i:Nat) (w:World) (hr:RowIs w g cap cur) (hR:cur.take (R.length * 2)=flat2 R) (hc:R.length+F.length≤cap) (hi:i<R.length) (hn:cap≤9223372036854775807)
 (hf:RowIs w h c curF) (hF:curF.take (F.length * 2)=flat2 F) (hgh:h≠g) (hm:0<F.length):
 Calls Tryz.prog 262 #[.slice (some ⟨g,0,none⟩) R.length cap, .int .i64 (i:Int), .slice (some ⟨h,0,none⟩) F.length c] w fun e w'=>e= .returned (.slice (some ⟨g,0,none⟩) (R.length+F.length) cap)∧HoldsR w' g cap (R.take i++F++R.drop i)∧w.grownBy w' (some g):=by
 obtain ⟨n,hln⟩:∃n,R.length=n:=⟨_,rfl⟩
 obtain ⟨m,hlm⟩:∃m,F.length=m:=⟨_,rfl⟩
 rw[hln] at hR hc hi ⊢
 rw[hlm] at hc hF hm ⊢
 have HR:=hide hR
 have HF:=hide hF
 have Hr:=hide hr
 have Hf:=hide hf
 have HLN:=hide hln
 have HLM:=hide hlm
 clear hR hF hr hf hln hlm
 have b0:((m:Int)==0)=false:=beq_eq_false_iff_ne.2 (by omega)
 have b1:((i:Int)==(n:Int))=false:=beq_eq_false_iff_ne.2 (by omega)
 have b2:¬(cap:Int)<(n:Int)+(m:Int):=by omega
 have c1:¬cap=i:=by omega
 have c2:¬cap=i+m:=by omega
 have d0:(0:Int)≤(i:Int):=by omega
 have d1:(i:Int)≤(n:Int)+(m:Int):=by omega
 have d2:(0:Int)≤(i:Int)+(m:Int):=by omega
 have d3:(i:Int)+(m:Int)≤(n:Int)+(m:Int):=by omega
 have d4:IntKind.i64.wrap ((i:Int)+(m:Int))=(i:Int)+(m:Int):=by rw[IntKind.wrap_i64];omega
 have d5:((i:Int)+(m:Int)).toNat=i+m:=by omega
 have hov:∀(la ca lb cb o:Nat),(callFunc 263 #[.slice (some ⟨h,0,none⟩) la ca, .slice (some ⟨g,o,none⟩) lb cb]).run Tryz.prog w= .ok (.value (.bool false)) w:=fun la ca lb cb o=>
  overlaps_false w _ _ la lb ca cb fun x y hx hy _ _=>by cases hx;cases hy;exact ⟨hgh,⟨_,_,Hf.out.heap⟩,⟨_,_,Hr.out.heap⟩⟩
 have SR:=hide (src_cells Hr.out (by rw[HLN.out];exact HR.out) i)
 have SF:=hide (src_cells0 Hf.out (by rw[HLM.out];exact HF.out))
 have FT:=hide (show (i+m) * 2+(flat2 (R.drop i)).length≤cur.length by rw[flat2_length,List.length_drop,HLN.out,Hr.out.len];omega)
 have LN:=hide (show (flat2 (R.drop i)).length=Nat.min (n+m - i) (n+m -(i+m)) * 2 by rw[flat2_length,List.length_drop,HLN.out,show Nat.min (n+m - i) (n+m -(i+m))=n - i by show min _ _=_;omega])
 go_enter Tryz.func262,Tryz.ntmps262
 go_wp2_with fail
 go_region_held3 (fun w'=>True) (trivial) (first
  |(refine step_copy_sized rfl (.tmp 73) (.tmp 76) 84 84 rfl 170 2 Tryz.underlying84 sizeR (some ⟨g,(i+m) * 2,none⟩) (some ⟨g,i * 2,none⟩) (n+m -(i+m)) (cap -(i+m)) (n+m - i) (cap - i) rfl rfl g ((i+m) * 2) cur 170 Hr.out.heap (flat2 (R.drop i)) LN.out (by decide) (fun _=>⟨rfl,_,rfl,SR.out⟩) FT.out (flat2_one _) ?_;intro w1 HG1 hgrow1))
 have r1:RowIs w1 g cap (splice cur ((i+m) * 2) (flat2 (R.drop i))):=⟨HG1.out,by rw[length_splice _ _ _ FT.out];exact Hr.out.len,Hr.out.cap⟩
 have hgrow1:=undrew hgrow1
 have f1:=Hf.out.kept hgrow1 (by simpa using hgh)
 have R1:=hide r1
 have SF1:=hide (src_cells0 f1 (by rw[HLM.out];exact HF.out))
 have FT1:=hide (show i * 2+(flat2 F).length≤(splice cur ((i+m) * 2) (flat2 (R.drop i))).length by rw[r1.len,flat2_length,HLM.out];omega)
 have LN1:=hide (show (flat2 F).length=Nat.min m (n+m - i) * 2 by rw[flat2_length,HLM.out,show Nat.min m (n+m - i)=m by show min _ _=_;omega])
 clear r1 f1 HG1 SF FT SR hov
 go_wp2_with (refine wpList_copy_sized rfl (.tmp 80) (.tmp 81) 84 84 rfl 170 2 Tryz.underlying84 sizeR (some ⟨g,i * 2,none⟩) (some ⟨h,0,none⟩) (n+m - i) (cap - i) m c rfl rfl g (i * 2) _ 170 R1.out.heap (flat2 F) LN1.out (by decide) (fun _=>⟨rfl,_,rfl,SF1.out⟩) FT1.out (flat2_one _) ?_;intro w2 HG2 hgrow2)
 have hgrow:w.grownBy w2 (some g):=hgrow1.trans hgrow2
 have FIN:Hid (HoldsR w2 g cap (R.take i++F++R.drop i)):=by
  have hln:=HLN.out
  have hlm:=HLM.out
  have hcur:=Hr.out.len
  refine HoldsR.mk ⟨_,⟨HG2.out,by rw[length_splice _ _ _ FT1.out];exact R1.out.len,Hr.out.cap⟩,?_⟩ (by rw[len_of (by omega)];omega)
  have:=copies_df (cur:=cur) (R:=R) (F:=F) (i:=i) (j:=i) (by omega) (head_of (by rw[hln];exact HR.out) (by omega)) (by rw[hln,hlm,hcur];omega)
  rw[hlm] at this
  exact this
 go_ret
 exact ⟨rfl,FIN.out,hgrow⟩
end Go.Proofs.YtdgdhnnakcncoaaGreatDoor.V
namespace Go.Proofs.YtdgdhnnakcncoaaGreatDoor.V
set_option maxHeartbeats 1600000
open Go.ChangeShapes Go.WideShapes Go.ChangeAt Go.RowKit Go.Proofs.Sp
set_option linter.unusedVariables false
set_option linter.unusedSimpArgs false
set_option maxRecDepth 100000 in
set_option maxHeartbeats 4000000 in
theorem insert_grow (g cap h c:Nat) (cur curF:List Value) (R F:List (Nat×Nat)) (i:Nat) (w:World) (hr:RowIs w g cap cur) (hR:cur.take (R.length * 2)=flat2 R) (hrc:R.length≤cap) (hc:cap<R.length+F.length) (hi:i<R.length) (hn:R.length+F.length≤4398046511104)
 (hf:RowIs w h c curF) (hF:curF.take (F.length * 2)=flat2 F) (hgh:h≠g) (hm:0<F.length):
 Calls Tryz.prog 262 #[.slice (some ⟨g,0,none⟩) R.length cap, .int .i64 (i:Int), .slice (some ⟨h,0,none⟩) F.length c] w fun e w'=>∃c',e= .returned (.slice (some ⟨w.heap.size,0,none⟩) (R.length+F.length) c')∧HoldsR w' w.heap.size c' (R.take i++F++R.drop i)∧w.grownBy w' none:=by
 obtain ⟨i0,hi0,hz0,hz1,hz2⟩:=info_parts infoR
 obtain ⟨n,hln⟩:∃n,R.length=n:=⟨_,rfl⟩
 obtain ⟨m,hlm⟩:∃m,F.length=m:=⟨_,rfl⟩
 rw[hln] at hR hrc hc hi hn ⊢
 rw[hlm] at hc hF hm hn ⊢
 obtain ⟨k,hk⟩:∃k,k=n+m - i:=⟨_,rfl⟩
 have hik:i+k=n+m:=by omega
 rw[←hik]
 have hik1:i+k≤n+m:=by omega
 have hik2:n+m≤i+k:=by omega
 clear hik
 have hgl:=(Array.getElem?_eq_some_iff.1 hr.heap).1
 have hhl:=(Array.getElem?_eq_some_iff.1 hf.heap).1
 have HR:=hide hR
 have HF:=hide hF
 have Hr:=hide hr
 have Hf:=hide hf
 have HLN:=hide hln
 have HLM:=hide hlm
 clear hR hF hr hf hln hlm hk
 have b0:((m:Int)==0)=false:=beq_eq_false_iff_ne.2 (by omega)
 have b1:((i:Int)==(n:Int))=false:=beq_eq_false_iff_ne.2 (by omega)
 have b2:(cap:Int)<(n:Int)+(m:Int):=by omega
 have c1:¬cap=i:=by omega
 have d0:(0:Int)≤(i:Int):=by omega
 have d2:(0:Int)≤(i:Int)+(m:Int):=by omega
 have d4:IntKind.i64.wrap ((i:Int)+(m:Int))=(i:Int)+(m:Int):=by rw[IntKind.wrap_i64];omega
 have d5:((i:Int)+(m:Int)).toNat=i+m:=by omega
 have SO:=hide (show ∀j v,(flat2 (R.take i))[j]? =some v→w.cell? ((⟨g,0,none⟩:Addr).add j)=some v from fun j v hv=>by
  rw[flat2_take,List.getElem?_take] at hv
  split at hv
  ·exact src_cells0 Hr.out (by rw[HLN.out];exact HR.out) j v hv
  ·cases hv)
 have LO:=hide (show (flat2 (R.take i)).length=i * 2 by rw[flat2_length,List.length_take,HLN.out];omega)
 go_enter Tryz.func262,Tryz.ntmps262
 go_wp2_with (at_builtin;refine wpList_append_make rfl (.tmp 34) (.tmp 39) 84 3 rfl 170 i0 _ 2 16 Tryz.underlying84 Tryz.underlying3 hi0 hz0 hz1 hz2 rfl (by decide) ⟨g,0,none⟩ i cap rfl (flat2 (R.take i)) LO.out SO.out k (by simp[Act.eval];omega) (by omega) (by omega) (by unfold maxLen;omega) (by omega) ?_;intro c2 w1 more HG1 HL1 hc2 hcm hgrow1;go_frame)
 have e1:¬c2=i:=by omega
 have e2:¬c2=i+m:=by omega
 have e3:(i:Int)+(m:Int)≤(i:Int)+(k:Int):=by omega
 have e4:(i:Int)≤(i:Int)+(k:Int):=by omega
 have r1:RowIs w1 w.heap.size c2 (flat2 (R.take i)++more):=⟨HG1.out,HL1.out,hcm⟩
 have g1:=Hr.out.kept hgrow1 (by simp)
 have f1:=Hf.out.kept hgrow1 (by simp)
 have FT1:=hide (show i * 2+(flat2 F).length≤(flat2 (R.take i)++more).length by rw[HL1.out,flat2_length,HLM.out];omega)
 have SF1:=hide (src_cells0 f1 (by rw[HLM.out];exact HF.out))
 have LN1:=hide (show ∀x y,min x y=m→(flat2 F).length=Nat.min x y * 2 from fun x y hxy=>by rw[flat2_length,HLM.out];show _=min x y * 2;omega)
 have R1:=hide r1
 have G1:=hide g1
 clear r1 g1 f1 HG1 SO LO
 go_wp2_with fail
 obtain ⟨w2,hrun2,hg2',hgrow2⟩:=run_copy_splice (P:=Tryz.prog) w1 84 84 3 170 2 Tryz.underlying84 sizeR (some ⟨w.heap.size,i * 2,none⟩) (some ⟨h,0,none⟩) k (c2 - i) m c w.heap.size (i * 2) _ 170 R1.out.heap (flat2 F) (LN1.out _ _ (by show min _ _=_;omega)) (by decide) (fun _=>⟨rfl,_,rfl,SF1.out⟩) FT1.out (flat2_one _)
 have HG2:=hide hg2'
 clear hg2'
 rw[hrun2]
 clear hrun2
 have r2:RowIs w2 w.heap.size c2 (splice (flat2 (R.take i)++more) (i * 2) (flat2 F)):=⟨HG2.out,by rw[length_splice _ _ _ FT1.out];exact HL1.out,hcm⟩
 have g2:=G1.out.kept hgrow2 (by simp;omega)
 have FT2:=hide (show (i+m) * 2+(flat2 (R.drop i)).length≤(splice (flat2 (R.take i)++more) (i * 2) (flat2 F)).length by rw[r2.len,flat2_length,List.length_drop,HLN.out];omega)
 have SR:=hide (src_cells g2 (by rw[HLN.out];exact HR.out) i)
 have LN2:=hide (show ∀x y,min x y=n - i→(flat2 (R.drop i)).length=Nat.min x y * 2 from fun x y hxy=>by rw[flat2_length,List.length_drop,HLN.out];show _=min x y * 2;omega)
 have R2:=hide r2
 clear r2 g2 HG2 SF1 LN1
 go_wp2_with fail
 have y1:(0:Int)≤(i:Int):=by omega
 have y2:(i:Int)≤(n:Int):=by omega
 have y3:¬cap=i:=by omega
 have y4:i<cap:=by omega
 go_region_held3 (fun w'=>True) (trivial) (first
  |(refine step_copy_sized rfl (.tmp 50) (.tmp 53) 84 84 rfl 170 2 Tryz.underlying84 sizeR (some ⟨w.heap.size,(i+m) * 2,none⟩) (some ⟨g,i * 2,none⟩) (i+k -(i+m)) (c2 -(i+m)) (n - i) (cap - i) rfl rfl w.heap.size ((i+m) * 2) _ 170 R2.out.heap (flat2 (R.drop i)) (LN2.out _ _ (by show min _ _=_;omega)) (by decide) (fun _=>⟨rfl,_,rfl,SR.out⟩) FT2.out (flat2_one _) ?_;intro w3 HG3 hgrow3))
 have hgrow3:=undrew hgrow3
 have hgrow:w.grownBy w3 none:=(hgrow1.andThen hgrow2 (fun j hj=>Or.inl (by cases hj;omega))).andThen hgrow3 (fun j hj=>Or.inl (by cases hj;omega))
 have FIN:Hid (HoldsR w3 w.heap.size c2 (R.take i++F++R.drop i)):=by
  have hln:=HLN.out
  have hlm:=HLM.out
  have hl1:=HL1.out
  refine HoldsR.mk ⟨_,⟨HG3.out,by rw[length_splice _ _ _ FT2.out];exact R2.out.len,hcm⟩,?_⟩ (by rw[len_of (by omega)];omega)
  have hA:(flat2 (R.take i)++more).take (i * 2)=flat2 (R.take i):=by
   have:i * 2=(flat2 (R.take i)).length:=by rw[flat2_length,List.length_take,hln];omega
   rw[this];exact List.take_left
  have:=copies_fd (cur:=flat2 (R.take i)++more) (R:=R) (F:=F) (i:=i) (j:=i) (by omega) hA (by rw[hln,hlm,hl1];omega)
  rw[hlm] at this
  exact this
 clear HG3
 go_wp2_with fail
 go_ret
 exact ⟨c2,rfl,FIN.out,hgrow⟩
end Go.Proofs.YtdgdhnnakcncoaaGreatDoor.V
namespace Go.Proofs.YtdgdhnnakcncoaaGreatDoor.V
set_option maxHeartbeats 1600000
open Go.ChangeShapes Go.WideShapes Go.ChangeAt Go.RowKit Go.Proofs.Sp
theorem zc2 (n:Nat):∀v∈(Builtin.zeroCells (Value.agg #[Value.int .u64 0,Value.int .i64 0]).cells n).toList,v.oneCell'=true:=by
 intro v hv
 simp only[Builtin.zeroCells,Array.toList_map,List.mem_map] at hv
 obtain ⟨k,_,rfl⟩:=hv
 have h2:(Value.agg #[Value.int .u64 0,Value.int .i64 0]).cells.size=2:=rfl
 have:k%2=0∨k%2=1:=by omega
 rw[h2]
 rcases this with h|h<;>rw[h]<;>rfl
theorem tail_take {cur cur':List Value} {x y:Nat} (h:cur'.take y=cur.take y) (hxy:x≤y):cur'.take x=cur.take x:=by
 have:=congrArg (List.take x) h
 rwa[List.take_take,List.take_take,Nat.min_eq_left hxy] at this
set_option maxRecDepth 100000 in
set_option maxHeartbeats 4000000 in
theorem replace_less (g cap:Nat) (cur:List Value) (R F:List (Nat×Nat)) (i j d:Nat) (fp:Option Addr) (c:Nat) (w:World) (hr:RowIs w g cap cur) (hR:cur.take (R.length * 2)=flat2 R) (hln:R.length=j+d) (hrc:j+d≤cap) (hn:cap≤9223372036854775807) (hij:i<j) (hd:0<d) (hm:i+F.length≤j) (hq:¬cap=i+F.length+d)
 (hF:0<F.length→∃h curF,fp=some ⟨h,0,none⟩∧h≠g∧RowIs w h c curF∧curF.take (F.length * 2)=flat2 F):
 Calls Tryz.prog 207 #[.slice (some ⟨g,0,none⟩) (j+d) cap, .int .i64 (i:Int), .int .i64 (j:Int), .slice fp F.length c] w fun e w'=>e= .returned (.slice (some ⟨g,0,none⟩) (i+F.length+d) cap)∧HoldsR w' g cap (R.take i++F++R.drop j)∧w.grownBy w' (some g):=by
 obtain ⟨m,hlm⟩:∃m,F.length=m:=⟨_,rfl⟩
 rw[hlm] at hF hm hq ⊢
 have HR:=hide hR
 have Hr:=hide hr
 have HLN:=hide hln
 have HLM:=hide hlm
 have HF:=hide hF
 clear hR hr hln hlm hF
 have b1:((i:Int)==(j:Int))=false:=beq_eq_false_iff_ne.2 (by omega)
 have b2:((j:Int)==(j:Int)+(d:Int))=false:=beq_eq_false_iff_ne.2 (by omega)
 have b3:¬(cap:Int)<(i:Int)+(m:Int)+(d:Int):=by omega
 have b4:(i:Int)+(m:Int)≤(j:Int):=by omega
 have c1:¬cap=i:=by omega
 have c2:¬cap=j:=by omega
 have c3:¬cap=i+m:=by omega
 have d0:(0:Int)≤(i:Int):=by omega
 have d1:(i:Int)≤(j:Int):=by omega
 have d2:(i:Int)≤(j:Int)+(d:Int):=by omega
 have d3:(j:Int)≤(j:Int)+(d:Int):=by omega
 have d4:IntKind.i64.wrap ((i:Int)+(m:Int))=(i:Int)+(m:Int):=by rw[IntKind.wrap_i64];omega
 have d5:((i:Int)+(m:Int)).toNat=i+m:=by omega
 have d6:IntKind.i64.wrap ((i:Int)+(m:Int)+(d:Int))=(i:Int)+(m:Int)+(d:Int):=by rw[IntKind.wrap_i64];omega
 have d7:((i:Int)+(m:Int)+(d:Int)).toNat=i+m+d:=by omega
 have d8:(0:Int)≤(i:Int)+(m:Int):=by omega
 have d9:(0:Int)≤(i:Int)+(m:Int)+(d:Int):=by omega
 have d10:(i:Int)+(m:Int)≤(i:Int)+(m:Int)+(d:Int):=by omega
 have d11:(i:Int)≤(cap:Int):=by omega
 have d12:(j:Int)≤(cap:Int):=by omega
 go_enter Tryz.func207,Tryz.ntmps207
 go_wp2_with fail
 go_quiet (fail)
 go_wp2_with fail
 have hA:=hide (head_of HR.out (i:=i) (by rw[HLN.out];omega))
 have hcl:=Hr.out.len
 have FT1:=hide (show i * 2+(flat2 F).length≤cur.length by rw[hcl,flat2_length,HLM.out];omega)
 obtain ⟨w2,hrun2,hg2',hgrow2⟩:=run_copy_splice (P:=Tryz.prog) (w.drewN nq) 84 84 3 170 2 Tryz.underlying84 sizeR (some ⟨g,i * 2,none⟩) fp (i+m+d - i) (cap - i) m c g (i * 2) cur 170 Hr.out.heap (flat2 F) (by rw[flat2_length,HLM.out];show _=min _ _ * 2;omega) (by decide) (fun h0=>by
  have h0':0<m:=by have:0<min m (i+m+d - i):=h0;omega
  obtain ⟨h,curF,e1,e2,e3,e4⟩:=HF.out h0'
  exact ⟨rfl,_,e1,src_cells0 (W:=w.drewN nq) ⟨e3.heap,e3.len,e3.cap⟩ (by rw[HLM.out];exact e4)⟩) FT1.out (flat2_one _)
 have R2:Hid (RowIs w2 g cap (splice cur (i * 2) (flat2 F))):=RowIs.mk hg2' (by rw[length_splice _ _ _ FT1.out];exact hcl) Hr.out.cap
 clear hg2'
 rw[hrun2]
 clear hrun2
 have D2:Hid (∀jj v,(flat2 (R.drop j))[jj]? =some v→w2.cell? ((⟨g,j * 2,none⟩:Addr).add jj)=some v):=fun jj v hv=>by
  rw[addr_add0,R2.out.cell]
  rw[flat2_drop,←HR.out,List.getElem?_drop,List.getElem?_take] at hv
  split at hv
  ·rw[←hv]
   show (cur.take (i * 2)++(flat2 F++cur.drop (i * 2+(flat2 F).length)))[j * 2+jj]? =_
   have l1:(cur.take (i * 2)).length=i * 2:=by rw[List.length_take];omega
   have l2:(flat2 F).length=m * 2:=by rw[flat2_length,HLM.out]
   rw[List.getElem?_append_right (by omega),List.getElem?_append_right (by omega),List.getElem?_drop,l1,l2]
   congr 1;omega
  ·cases hv
 have FT2:=hide (show (i+m) * 2+(flat2 (R.drop j)).length≤(splice cur (i * 2) (flat2 F)).length by rw[R2.out.len,flat2_length,List.length_drop,HLN.out];omega)
 have LN2:=hide (show ∀x y,min x y=d→(flat2 (R.drop j)).length=Nat.min x y * 2 from fun x y hxy=>by rw[flat2_length,List.length_drop,HLN.out];show _=min x y * 2;omega)
 go_wp2_with fail
 go_region_held3 (fun w'=>True) (trivial) (first
  |(refine step_copy_sized rfl (.tmp 103) (.tmp 106) 84 84 rfl 170 2 Tryz.underlying84 sizeR (some ⟨g,(i+m) * 2,none⟩) (some ⟨g,j * 2,none⟩) d (cap -(i+m)) d (cap - j) rfl rfl g ((i+m) * 2) _ 170 R2.out.heap (flat2 (R.drop j)) (LN2.out _ _ (by show min _ _=_;omega)) (by decide) (fun _=>⟨rfl,_,rfl,D2.out⟩) FT2.out (flat2_one _) ?_;intro w3 HG3 hgrow3))
 have hgrow3:=undrew hgrow3
 have FIN:=hide (copies_fd (cur:=cur) (R:=R) (F:=F) (i:=i) (j:=j) (by rw[HLN.out];omega) hA.out (by rw[hcl,HLN.out,HLM.out];omega))
 have R3:Hid (RowIs w3 g cap (splice (splice cur (i * 2) (flat2 F)) ((i+m) * 2) (flat2 (R.drop j)))):=RowIs.mk HG3.out (by rw[length_splice _ _ _ FT2.out];exact R2.out.len) Hr.out.cap
 clear HG3
 go_wp2_with fail
 obtain ⟨w4,cur4,hrun4,hg4,hl4,ht4,hgrow4⟩:=run_clear_behind (P:=Tryz.prog) w3 84 0 170 _ Tryz.underlying84 (zeroR w3) zc2 (some ⟨g,(i+m+d) * 2,none⟩) (j+d -(i+m+d)) (cap -(i+m+d)) g ((i+m+d) * 2) _ 170 R3.out.heap (fun _=>rfl) (by show (i+m+d) * 2+(j+d -(i+m+d)) * 2≤_;rw[R3.out.len];omega)
 rw[hrun4]
 clear hrun4
 have FIN4:Hid (HoldsR w4 g cap (R.take i++F++R.drop j)):=by
  refine HoldsR.mk ⟨cur4,⟨hg4,by rw[hl4];exact R3.out.len,Hr.out.cap⟩,?_⟩ (by rw[len_of (by rw[HLN.out];omega),HLN.out,HLM.out];omega)
  have e:=FIN.out
  rw[HLM.out] at e
  rw[←e]
  exact tail_take ht4 (by rw[len_of (by rw[HLN.out];omega),HLN.out,HLM.out];omega)
 have hgrow:w.grownBy w4 (some g):=((show w.grownBy w2 (some g) from ⟨hgrow2.os,hgrow2.tape,hgrow2.output,hgrow2.size,hgrow2.block⟩).trans hgrow3).trans hgrow4
 clear hg4 hl4 ht4 hgrow2 hgrow3 hgrow4
 go_wp2_with fail
 go_ret
 exact ⟨rfl,FIN4.out,hgrow⟩
end Go.Proofs.YtdgdhnnakcncoaaGreatDoor.V
namespace Go.Proofs.YtdgdhnnakcncoaaGreatDoor.V
set_option maxHeartbeats 1600000
open Go.ChangeShapes Go.WideShapes Go.ChangeAt Go.RowKit Go.Proofs.Sp
set_option linter.unusedVariables false
set_option linter.unusedSimpArgs false
set_option maxRecDepth 100000 in
set_option maxHeartbeats 4000000 in
theorem replace_more (g cap h c:Nat) (cur curF:List Value) (R F:List (Nat×Nat)) (i j d:Nat) (w:World) (hr:RowIs w g cap cur) (hR:cur.take (R.length * 2)=flat2 R) (hln:R.length=j+d) (hn:cap≤9223372036854775807) (hij:i<j) (hd:0<d) (hm:j<i+F.length) (hc:i+F.length+d≤cap)
 (hf:RowIs w h c curF) (hF:curF.take (F.length * 2)=flat2 F) (hgh:h≠g):
 Calls Tryz.prog 207 #[.slice (some ⟨g,0,none⟩) (j+d) cap, .int .i64 (i:Int), .int .i64 (j:Int), .slice (some ⟨h,0,none⟩) F.length c] w fun e w'=>e= .returned (.slice (some ⟨g,0,none⟩) (i+F.length+d) cap)∧HoldsR w' g cap (R.take i++F++R.drop j)∧w.grownBy w' (some g):=by
 obtain ⟨m,hlm⟩:∃m,F.length=m:=⟨_,rfl⟩
 rw[hlm] at hF hm hc ⊢
 have HR:=hide hR
 have Hr:=hide hr
 have HLN:=hide hln
 have HLM:=hide hlm
 have Hf:=hide hf
 have HF:=hide hF
 clear hR hr hln hlm hf hF
 have b1:((i:Int)==(j:Int))=false:=beq_eq_false_iff_ne.2 (by omega)
 have b2:((j:Int)==(j:Int)+(d:Int))=false:=beq_eq_false_iff_ne.2 (by omega)
 have c1:¬cap=i:=by omega
 have c2:¬cap=j:=by omega
 have d0:(0:Int)≤(i:Int):=by omega
 have d1:(i:Int)≤(j:Int):=by omega
 have d2:(i:Int)≤(j:Int)+(d:Int):=by omega
 have d3:(j:Int)≤(j:Int)+(d:Int):=by omega
 have d4:IntKind.i64.wrap ((i:Int)+(m:Int))=(i:Int)+(m:Int):=by rw[IntKind.wrap_i64];omega
 have d5:((i:Int)+(m:Int)).toNat=i+m:=by omega
 have d6:IntKind.i64.wrap ((i:Int)+(m:Int)+(d:Int))=(i:Int)+(m:Int)+(d:Int):=by rw[IntKind.wrap_i64];omega
 have d7:((i:Int)+(m:Int)+(d:Int)).toNat=i+m+d:=by omega
 have d8:(0:Int)≤(i:Int)+(m:Int):=by omega
 have d9:(0:Int)≤(i:Int)+(m:Int)+(d:Int):=by omega
 have d10:(i:Int)+(m:Int)≤(i:Int)+(m:Int)+(d:Int):=by omega
 have d11:(i:Int)≤(cap:Int):=by omega
 have d12:(j:Int)≤(cap:Int):=by omega
 have b3:¬(cap:Int)<(i:Int)+(m:Int)+(d:Int):=by omega
 have b4:¬(i:Int)+(m:Int)≤(j:Int):=by omega
 have c3:¬cap=i+m:=by omega
 have hov:∀(q la ca lb cb o:Nat),(callFunc 263 #[.slice (some ⟨g,o,none⟩) la ca, .slice (some ⟨h,0,none⟩) lb cb]).run Tryz.prog (w.drewN q)= .ok (.value (.bool false)) (w.drewN q):=fun q la ca lb cb o=>
  overlaps_false (w.drewN q) _ _ la lb ca cb fun x y hx hy _ _=>by cases hx;cases hy;exact ⟨fun e=>hgh e.symm,⟨_,_,Hr.out.heap⟩,⟨_,_,Hf.out.heap⟩⟩
 go_enter Tryz.func207,Tryz.ntmps207
 go_wp2_with fail
 go_quiet (fail)
 have hA:=hide (head_of HR.out (i:=i) (by rw[HLN.out];omega))
 have hcl:=Hr.out.len
 have SR:=hide (src_cells (W:=w.drewN nq) ⟨Hr.out.heap,Hr.out.len,Hr.out.cap⟩ HR.out j)
 have FT:=hide (show (i+m) * 2+(flat2 (R.drop j)).length≤cur.length by rw[flat2_length,List.length_drop,HLN.out,hcl];omega)
 have LN2:=hide (show ∀x y,min x y=d→(flat2 (R.drop j)).length=Nat.min x y * 2 from fun x y hxy=>by rw[flat2_length,List.length_drop,HLN.out];show _=min x y * 2;omega)
 go_wp2_with fail
 go_region_held3 (fun w'=>True) (trivial) (first
  |(refine step_copy_sized rfl (.tmp 126) (.tmp 129) 84 84 rfl 170 2 Tryz.underlying84 sizeR (some ⟨g,(i+m) * 2,none⟩) (some ⟨g,j * 2,none⟩) d (cap -(i+m)) d (cap - j) rfl rfl g ((i+m) * 2) cur 170 Hr.out.heap (flat2 (R.drop j)) (LN2.out _ _ (by show min _ _=_;omega)) (by decide) (fun _=>⟨rfl,_,rfl,SR.out⟩) FT.out (flat2_one _) ?_;intro w1 HG1 hgrow1))
 have hgrow1:w.grownBy w1 (some g):=⟨hgrow1.os,hgrow1.tape,hgrow1.output,hgrow1.size,hgrow1.block⟩
 have r1:RowIs w1 g cap (splice cur ((i+m) * 2) (flat2 (R.drop j))):=⟨HG1.out,by rw[length_splice _ _ _ FT.out];exact hcl,Hr.out.cap⟩
 have f1:=Hf.out.kept hgrow1 (by simpa using hgh)
 have R1:=hide r1
 have SF1:=hide (src_cells0 f1 (by rw[HLM.out];exact HF.out))
 have FT1:=hide (show i * 2+(flat2 F).length≤(splice cur ((i+m) * 2) (flat2 (R.drop j))).length by rw[r1.len,flat2_length,HLM.out];omega)
 clear r1 f1 HG1 SR hov
 go_wp2_with fail
 obtain ⟨w2,hrun2,hg2,hgrow2⟩:=run_copy_splice (P:=Tryz.prog) w1 84 84 3 170 2 Tryz.underlying84 sizeR (some ⟨g,i * 2,none⟩) (some ⟨h,0,none⟩) (i+m+d - i) (cap - i) m c g (i * 2) _ 170 R1.out.heap (flat2 F) (by rw[flat2_length,HLM.out];show _=min _ _ * 2;omega) (by decide) (fun _=>⟨rfl,_,rfl,SF1.out⟩) FT1.out (flat2_one _)
 rw[hrun2]
 clear hrun2
 have hgrow:w.grownBy w2 (some g):=hgrow1.trans hgrow2
 have FIN:Hid (HoldsR w2 g cap (R.take i++F++R.drop j)):=by
  have hln:=HLN.out
  have hlm:=HLM.out
  refine HoldsR.mk ⟨_,⟨hg2,by rw[length_splice _ _ _ FT1.out];exact R1.out.len,Hr.out.cap⟩,?_⟩ (by rw[len_of (by omega)];omega)
  have:=copies_df (cur:=cur) (R:=R) (F:=F) (i:=i) (j:=j) (by omega) hA.out (by rw[hln,hlm,hcl];omega)
  rw[hlm] at this
  exact this
 clear hg2
 go_wp2_with fail
 go_ret
 exact ⟨rfl,FIN.out,hgrow⟩
set_option maxRecDepth 100000 in
set_option maxHeartbeats 4000000 in
theorem replace_grow (g cap h c:Nat) (cur curF:List Value) (R F:List (Nat×Nat)) (i j d:Nat) (w:World) (hr:RowIs w g cap cur) (hR:cur.take (R.length * 2)=flat2 R) (hln:R.length=j+d) (hrc:j+d≤cap) (hn:i+F.length+d≤4398046511104) (hij:i<j) (hd:0<d) (hc:cap<i+F.length+d)
 (hf:RowIs w h c curF) (hF:curF.take (F.length * 2)=flat2 F) (hgh:h≠g):
 Calls Tryz.prog 207 #[.slice (some ⟨g,0,none⟩) (j+d) cap, .int .i64 (i:Int), .int .i64 (j:Int), .slice (some ⟨h,0,none⟩) F.length c] w fun e w'=>∃c',e= .returned (.slice (some ⟨w.heap.size,0,none⟩) (i+(F.length+d)) c')∧HoldsR w' w.heap.size c' (R.take i++F++R.drop j)∧w.grownBy w' none:=by
 obtain ⟨i0,hi0,hz0,hz1,hz2⟩:=info_parts infoR
 obtain ⟨m,hlm⟩:∃m,F.length=m:=⟨_,rfl⟩
 rw[hlm] at hF hn hc ⊢
 have hgl:=(Array.getElem?_eq_some_iff.1 hr.heap).1
 have hhl:=(Array.getElem?_eq_some_iff.1 hf.heap).1
 have HR:=hide hR
 have Hr:=hide hr
 have HLN:=hide hln
 have HLM:=hide hlm
 have Hf:=hide hf
 have HF:=hide hF
 clear hR hr hln hlm hf hF
 have b1:((i:Int)==(j:Int))=false:=beq_eq_false_iff_ne.2 (by omega)
 have b2:((j:Int)==(j:Int)+(d:Int))=false:=beq_eq_false_iff_ne.2 (by omega)
 have c1:¬cap=i:=by omega
 have c2:¬cap=j:=by omega
 have d0:(0:Int)≤(i:Int):=by omega
 have d1:(i:Int)≤(j:Int):=by omega
 have d2:(i:Int)≤(j:Int)+(d:Int):=by omega
 have d3:(j:Int)≤(j:Int)+(d:Int):=by omega
 have d4:IntKind.i64.wrap ((i:Int)+(m:Int))=(i:Int)+(m:Int):=by rw[IntKind.wrap_i64];omega
 have d5:((i:Int)+(m:Int)).toNat=i+m:=by omega
 have d6:IntKind.i64.wrap ((i:Int)+(m:Int)+(d:Int))=(i:Int)+(m:Int)+(d:Int):=by rw[IntKind.wrap_i64];omega
 have d7:((i:Int)+(m:Int)+(d:Int)).toNat=i+m+d:=by omega
 have d8:(0:Int)≤(i:Int)+(m:Int):=by omega
 have d9:(0:Int)≤(i:Int)+(m:Int)+(d:Int):=by omega
 have d10:(i:Int)+(m:Int)≤(i:Int)+(m:Int)+(d:Int):=by omega
 have d11:(i:Int)≤(cap:Int):=by omega
 have d12:(j:Int)≤(cap:Int):=by omega
 have b3:(cap:Int)<(i:Int)+(m:Int)+(d:Int):=by omega
 have SO:=hide (show ∀j v,(flat2 (R.take i))[j]? =some v→w.cell? ((⟨g,0,none⟩:Addr).add j)=some v from fun j v hv=>by
  rw[flat2_take,List.getElem?_take] at hv
  split at hv
  ·exact src_cells0 Hr.out HR.out j v hv
  ·cases hv)
 have LO:=hide (show (flat2 (R.take i)).length=i * 2 by rw[flat2_length,List.length_take,HLN.out];omega)
 go_enter Tryz.func207,Tryz.ntmps207
 go_wp2_with fail
 go_quiet (fail)
 go_wp2_with (at_builtin;refine wpList_append_make rfl (.tmp 63) (.tmp 66) 84 3 rfl 170 i0 _ 2 16 Tryz.underlying84 Tryz.underlying3 hi0 hz0 hz1 hz2 rfl (by decide) ⟨g,0,none⟩ i cap rfl (flat2 (R.take i)) LO.out SO.out (m+d) (by simp[Act.eval];omega) (by omega) (by omega) (by unfold maxLen;omega) (by omega) ?_;intro c2 w1 more HG1 HL1 hc2 hcm hgrow1;go_frame)
 have hgrow1:w.grownBy w1 none:=⟨hgrow1.os,hgrow1.tape,hgrow1.output,hgrow1.size,hgrow1.block⟩
 have e1:¬c2=i:=by omega
 have e2:¬c2=i+m:=by omega
 have e3:(i:Int)+(m:Int)≤(i:Int)+((m:Int)+(d:Int)):=by omega
 have e4:(i:Int)≤(i:Int)+((m:Int)+(d:Int)):=by omega
 have r1:RowIs w1 w.heap.size c2 (flat2 (R.take i)++more):=⟨HG1.out,HL1.out,hcm⟩
 have g1:=Hr.out.kept hgrow1 (by simp)
 have f1:=Hf.out.kept hgrow1 (by simp)
 have FT1:=hide (show i * 2+(flat2 F).length≤(flat2 (R.take i)++more).length by rw[HL1.out,flat2_length,HLM.out];omega)
 have SF1:=hide (src_cells0 f1 (by rw[HLM.out];exact HF.out))
 have R1:=hide r1
 have G1:=hide g1
 clear r1 g1 f1 HG1 SO LO
 go_wp2_with fail
 obtain ⟨w2,hrun2,hg2',hgrow2⟩:=run_copy_splice (P:=Tryz.prog) w1 84 84 3 170 2 Tryz.underlying84 sizeR (some ⟨w.heap.size,i * 2,none⟩) (some ⟨h,0,none⟩) (m+d) (c2 - i) m c w.heap.size (i * 2) _ 170 R1.out.heap (flat2 F) (by rw[flat2_length,HLM.out];show _=min _ _ * 2;omega) (by decide) (fun _=>⟨rfl,_,rfl,SF1.out⟩) FT1.out (flat2_one _)
 have HG2:=hide hg2'
 clear hg2'
 rw[hrun2]
 clear hrun2
 have r2:RowIs w2 w.heap.size c2 (splice (flat2 (R.take i)++more) (i * 2) (flat2 F)):=⟨HG2.out,by rw[length_splice _ _ _ FT1.out];exact HL1.out,hcm⟩
 have g2:=G1.out.kept hgrow2 (by simp;omega)
 have FT2:=hide (show (i+m) * 2+(flat2 (R.drop j)).length≤(splice (flat2 (R.take i)++more) (i * 2) (flat2 F)).length by rw[r2.len,flat2_length,List.length_drop,HLN.out];omega)
 have SR:=hide (src_cells g2 HR.out j)
 have LN2:=hide (show ∀x y,min x y=d→(flat2 (R.drop j)).length=Nat.min x y * 2 from fun x y hxy=>by rw[flat2_length,List.length_drop,HLN.out];show _=min x y * 2;omega)
 have R2:=hide r2
 clear r2 g2 HG2 SF1
 go_wp2_with fail
 go_region_held3 (fun w'=>True) (trivial) (first
  |(refine step_copy_sized rfl (.tmp 78) (.tmp 81) 84 84 rfl 170 2 Tryz.underlying84 sizeR (some ⟨w.heap.size,(i+m) * 2,none⟩) (some ⟨g,j * 2,none⟩) (i+(m+d) -(i+m)) (c2 -(i+m)) d (cap - j) rfl rfl w.heap.size ((i+m) * 2) _ 170 R2.out.heap (flat2 (R.drop j)) (LN2.out _ _ (by show min _ _=_;omega)) (by decide) (fun _=>⟨rfl,_,rfl,SR.out⟩) FT2.out (flat2_one _) ?_;intro w3 HG3 hgrow3))
 have hgrow3:=undrew hgrow3
 have hgrow:w.grownBy w3 none:=(hgrow1.andThen hgrow2 (fun j hj=>Or.inl (by cases hj;omega))).andThen hgrow3 (fun j hj=>Or.inl (by cases hj;omega))
 have FIN:Hid (HoldsR w3 w.heap.size c2 (R.take i++F++R.drop j)):=by
  have hln:=HLN.out
  have hlm:=HLM.out
  have hl1:=HL1.out
  refine HoldsR.mk ⟨_,⟨HG3.out,by rw[length_splice _ _ _ FT2.out];exact R2.out.len,hcm⟩,?_⟩ (by rw[len_of (by omega)];omega)
  have hA:(flat2 (R.take i)++more).take (i * 2)=flat2 (R.take i):=by
   have:i * 2=(flat2 (R.take i)).length:=by rw[flat2_length,List.length_take,hln];omega
   rw[this];exact List.take_left
  have:=copies_fd (cur:=flat2 (R.take i)++more) (R:=R) (F:=F) (i:=i) (j:=j) (by omega) hA (by rw[hln,hlm,hl1];omega)
  rw[hlm] at this
  exact this
 clear HG3
 go_wp2_with fail
 go_ret
 exact ⟨c2,rfl,FIN.out,hgrow⟩
end Go.Proofs.YtdgdhnnakcncoaaGreatDoor.V
