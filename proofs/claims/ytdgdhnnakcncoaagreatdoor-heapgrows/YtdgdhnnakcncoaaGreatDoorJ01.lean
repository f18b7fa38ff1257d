/- Of the proof of HeapClasses: texts RBt, RBu, RMath, RPk, RPr. -/
import Derived.Lib.TrailingZeros
import Derived.Laws.MathBits
import Derived.WalkKit
namespace Go.Proofs.Bt
def cnt (f:Nat→Bool) (i:Nat):Nat→Nat
 |0=>0
 |n+1=>cnt f i n+(f (i+n)).toNat
theorem cnt_add (f:Nat→Bool) (i n m:Nat):cnt f i (n+m)=cnt f i n+cnt f (i+n) m:=by
 induction m with
 |zero=>rfl
 |succ m ih=>rw[←Nat.add_assoc,cnt,cnt,ih,Nat.add_assoc i n m];omega
theorem cnt_congr {f g:Nat→Bool} {i j n:Nat} (h:∀k,k<n→f (i+k)=g (j+k)):cnt f i n=cnt g j n:=by
 induction n with
 |zero=>rfl
 |succ n ih=>rw[cnt,cnt,ih (fun k hk=>h k (by omega)),h n (by omega)]
theorem toNat_le (b:Bool):b.toNat≤1:=by cases b<;>simp
theorem cnt_le (f:Nat→Bool) (i n:Nat):cnt f i n≤n:=by
 induction n with
 |zero=>exact Nat.le_refl _
 |succ n ih=>rw[cnt];have:=toNat_le (f (i+n));omega
theorem cnt_zero {f:Nat→Bool} {i n:Nat}:cnt f i n=0↔∀k,k<n→f (i+k)=false:=by
 induction n with
 |zero=>exact ⟨fun _ k hk=>by omega,fun _=>rfl⟩
 |succ n ih=>
  rw[cnt]
  constructor
  ·intro h k hk
   have h1:=ih.1 (by omega)
   by_cases e:k=n
   ·subst e;cases hf:f (i+k) with
    |false=>rfl
    |true=>rw[hf] at h;simp at h
   ·exact h1 k (by omega)
  ·intro h
   rw[ih.2 (fun k hk=>h k (by omega)),h n (by omega)];rfl
theorem cnt_full {f:Nat→Bool} {i n:Nat}:cnt f i n=n↔∀k,k<n→f (i+k)=true:=by
 induction n with
 |zero=>exact ⟨fun _ k hk=>by omega,fun _=>rfl⟩
 |succ n ih=>
  rw[cnt]
  have l1:=cnt_le f i n
  have l2:=toNat_le (f (i+n))
  constructor
  ·intro h k hk
   have h1:=ih.1 (by omega)
   by_cases e:k=n
   ·subst e;cases hf:f (i+k) with
    |true=>rfl
    |false=>rw[hf] at h;simp at h;omega
   ·exact h1 k (by omega)
  ·intro h
   rw[ih.2 (fun k hk=>h k (by omega)),h n (by omega)];rfl
theorem cnt_none {f:Nat→Bool} {i n:Nat} (h:∀k,k<n→f (i+k)=false):cnt f i n=0:=cnt_zero.2 h
def bitW (g:Nat→Nat) (i:Nat):Bool:=(g (i/64)).testBit (i%64)
theorem bitW_at (g:Nat→Nat) (w k:Nat) (hk:k<64):bitW g (64 * w+k)=(g w).testBit k:=by
 unfold bitW
 rw[show (64 * w+k)/64=w by omega,show (64 * w+k)%64=k by omega]
def low (n:Nat):Nat:=2^min n 64 - 1
theorem low_lt (n:Nat):low n<18446744073709551616:=by
 unfold low
 have:2^min n 64≤2^64:=Nat.pow_le_pow_right (by decide) (Nat.min_le_right _ _)
 have:0<2^min n 64:=Nat.two_pow_pos _
 have e:(2:Nat)^64=18446744073709551616:=by decide
 omega
theorem low_bit (n k:Nat):(low n).testBit k=decide (k<n∧k<64):=by
 unfold low
 rw[Nat.testBit_two_pow_sub_one]
 congr 1
 simp only[eq_iff_iff];omega
def andn (a b:Nat):Nat:=a ^^^ (a &&& b)
theorem andn_bit (a b k:Nat):(andn a b).testBit k=(a.testBit k&& !b.testBit k):=by
 unfold andn
 rw[Nat.testBit_xor,Nat.testBit_and]
 cases a.testBit k<;>cases b.testBit k<;>rfl
theorem lt_of_bits {a:Nat} (h:∀k,64≤k→a.testBit k=false):a<18446744073709551616:=Nat.lt_pow_two_of_testBit a h
theorem bit_high {a k:Nat} (h:a<18446744073709551616) (hk:64≤k):a.testBit k=false:=by
 apply Nat.testBit_lt_two_pow
 exact Nat.lt_of_lt_of_le h (by rw[show (18446744073709551616:Nat)=2^64 by decide];exact Nat.pow_le_pow_right (by decide) hk)
theorem andn_lt {a:Nat} (b:Nat) (h:a<18446744073709551616):andn a b<18446744073709551616:=lt_of_bits fun k hk=>by rw[andn_bit,bit_high h hk];rfl
theorem or_lt {a b:Nat} (h:a<18446744073709551616) (h':b<18446744073709551616):a ||| b<18446744073709551616:=lt_of_bits fun k hk=>by rw[Nat.testBit_or,bit_high h hk,bit_high h' hk];rfl
theorem and_lt {a:Nat} (b:Nat) (h:a<18446744073709551616):a &&& b<18446744073709551616:=lt_of_bits fun k hk=>by rw[Nat.testBit_and,bit_high h hk];rfl
def inv (a:Nat):Nat:=18446744073709551615 - a
theorem inv_lt (a:Nat):inv a<18446744073709551616:=by unfold inv;omega
theorem inv_bit {a k:Nat} (h:a<18446744073709551616) (hk:k<64):(inv a).testBit k= !a.testBit k:=by
 have:=Nat.testBit_two_pow_sub_succ (n:=64) h k
 rw[show (2:Nat)^64 -(a+1)=inv a by unfold inv;omega] at this
 rw[this,decide_eq_true hk];rfl
theorem eq_of_bits {a b:Nat} (ha:a<18446744073709551616) (hb:b<18446744073709551616) (h:∀k,k<64→a.testBit k=b.testBit k):a=b:=by
 apply Nat.eq_of_testBit_eq
 intro k
 by_cases hk:k<64
 ·exact h k hk
 ·rw[bit_high ha (by omega),bit_high hb (by omega)]
def prt (w a b:Nat):Nat:=andn (low (b - 64 * w)) (low (a - 64 * w))
theorem prt_lt (w a b:Nat):prt w a b<18446744073709551616:=andn_lt _ (low_lt _)
theorem prt_bit (w a b k:Nat) (hk:k<64):(prt w a b).testBit k=decide (a≤64 * w+k∧64 * w+k<b):=by
 unfold prt
 rw[andn_bit,low_bit,low_bit]
 rw[Bool.eq_iff_iff]
 simp only[Bool.and_eq_true,Bool.not_eq_true',decide_eq_true_eq,decide_eq_false_iff_not]
 omega
theorem ctz_bit {x:Nat} (h0:x≠0) (h:x<18446744073709551616):Lib.ctz 64 x<64∧x.testBit (Lib.ctz 64 x)=true∧∀k,k<Lib.ctz 64 x→x.testBit k=false:=by
 obtain ⟨m,hm,hl⟩:=Lib.ctzFrom_spec 64 x (by omega) h
 have e:Lib.ctz 64 x=Lib.ctzFrom 64 x:=by unfold Lib.ctz;rw[if_neg h0]
 rw[e]
 generalize Lib.ctzFrom 64 x=t at *
 refine ⟨hl,?_,fun k hk=> ?_⟩
 ·rw[hm,Nat.testBit_two_pow_mul];simp
 ·rw[hm,Nat.testBit_two_pow_mul];simp;omega
theorem cnt_span (F f:Nat→Bool) (i n:Nat) (hin:i+n≤512) (hF:∀k,k<512→F k=(f k&&decide (i≤k∧k<i+n))):cnt F 0 512=cnt f i n:=by
 rw[show 512=i+(n+(512 - i - n)) by omega,cnt_add,cnt_add]
 rw[cnt_none (i:=0) (n:=i),cnt_none (i:=0+ i+n),cnt_congr (g:=f) (j:=i)]
 ·omega
 ·intro k hk;rw[show 0+ i+k=i+k by omega,hF _ (by omega),decide_eq_true (by omega),Bool.and_true]
 ·intro k hk;rw[hF _ (by omega),decide_eq_false (by omega),Bool.and_false]
 ·intro k hk;rw[hF _ (by omega),decide_eq_false (by omega),Bool.and_false]
def scan (F:Nat→Bool):Nat→Nat→Option Nat→List (Nat×Nat)
 |0,_,none=>[]
 |0,p,some b=>[(b,p)]
 |n+1,p,none=>if F p then scan F n (p+1) none else scan F n (p+1) (some p)
 |n+1,p,some b=>if F p then (b,p)::scan F n (p+1) none else scan F n (p+1) (some b)
def rest (F:Nat→Bool) (p:Nat) (s:Option Nat):List (Nat×Nat):=scan F (512 - p) p s
def runs (F:Nat→Bool):List (Nat×Nat):=rest F 0 none
theorem rest_next_none {F:Nat→Bool} {p:Nat} (hp:p<512) (h:F p=true):rest F p none=rest F (p+1) none:=by
 unfold rest
 rw[show 512 - p=(512 -(p+1))+1 by omega,scan,if_pos h]
theorem rest_next_some {F:Nat→Bool} {p b:Nat} (hp:p<512) (h:F p=false):rest F p (some b)=rest F (p+1) (some b):=by
 unfold rest
 rw[show 512 - p=(512 -(p+1))+1 by omega,scan,if_neg (by rw[h];decide)]
theorem rest_open {F:Nat→Bool} {p:Nat} (hp:p<512) (h:F p=false):rest F p none=rest F p (some p):=by
 rw[rest_next_some hp h]
 unfold rest
 rw[show 512 - p=(512 -(p+1))+1 by omega,scan,if_neg (by rw[h];decide)]
theorem rest_shut {F:Nat→Bool} {p b:Nat} (hp:p<512) (h:F p=true):rest F p (some b)=(b,p)::rest F p none:=by
 rw[rest_next_none hp h]
 unfold rest
 rw[show 512 - p=(512 -(p+1))+1 by omega,scan,if_pos h]
theorem rest_end_none (F:Nat→Bool):rest F 512 none= []:=rfl
theorem rest_end_some (F:Nat→Bool) (b:Nat):rest F 512 (some b)= [(b,512)]:=rfl
theorem rest_skip {F:Nat→Bool} {s:Option Nat} (p d:Nat) (hq:p+d≤512) (h:∀k,p≤k→k<p+d→F k=s.isNone):rest F p s=rest F (p+d) s:=by
 induction d with
 |zero=>rfl
 |succ d ih=>
  rw[ih (by omega) (fun k h1 h2=>h k h1 (by omega))]
  have hk:=h (p+d) (by omega) (by omega)
  cases s with
  |none=>exact rest_next_none (by omega) hk
  |some b=>exact rest_next_some (by omega) hk
structure Row1 (F:Nat→Bool) (x:Nat×Nat):Prop where
 lt:x.1<x.2
 le:x.2≤512
 clear:∀k,x.1≤k→k<x.2→F k=false
 stop:x.2<512→F x.2=true
 start:0<x.1→F (x.1 - 1)=true
theorem scan_facts (F:Nat→Bool):∀(n p:Nat) (s:Option Nat),p+n=512→
 (∀b,s=some b→b<p∧(∀k,b≤k→k<p→F k=false)∧(0<b→F (b - 1)=true))→(s=none→0<p→F (p - 1)=true)→
 (∀x∈scan F n p s,Row1 F x∧(∀b,s=some b→b≤x.1)∧(s=none→p≤x.1))∧
 (∀k,p≤k→k<512→F k=false→∃x∈scan F n p s,x.1≤k∧k<x.2)∧
 (∀b,s=some b→∃x∈scan F n p s,x.1=b)∧
 List.Pairwise (fun x y=>x.2<y.1) (scan F n p s):=by
 intro n
 induction n with
 |zero=>
  intro p s hp h1 h2
  cases s with
  |none=>exact ⟨(fun x hx=>by cases hx),(fun k a b=>by omega),(fun b h=>by cases h),List.Pairwise.nil⟩
  |some b=>
   obtain ⟨a1,a2,a3⟩:=h1 b rfl
   refine ⟨fun x hx=> ?_,(fun k a b=>by omega),fun c h=> ?_,List.pairwise_singleton _ _⟩
   ·simp only[scan,List.mem_singleton] at hx
    subst hx
    exact ⟨⟨a1,(by show p≤512;omega),a2,(by show p<512→_;omega),a3⟩,(fun c h=>by cases h;exact Nat.le_refl _),(fun h=>by cases h)⟩
   ·cases h;exact ⟨(b,p),by simp[scan],rfl⟩
 |succ n ih=>
  intro p s hp h1 h2
  cases s with
  |none=>
   cases hF:F p with
   |true=>
    have e:scan F (n+1) p none=scan F n (p+1) none:=by rw[scan,if_pos hF]
    rw[e]
    obtain ⟨i1,i2,i3,i4⟩:=ih (p+1) none (by omega) (fun b h=>by cases h) (fun _ _=>hF)
    refine ⟨fun x hx=>⟨(i1 x hx).1,(fun b h=>by cases h),fun _=>by have:=(i1 x hx).2.2 rfl;omega⟩,fun k a b c=> ?_,i3,i4⟩
    by_cases e:k=p
    ·subst e;rw[hF] at c;cases c
    ·exact i2 k (by omega) b c
   |false=>
    have e:scan F (n+1) p none=scan F n (p+1) (some p):=by rw[scan,if_neg (by rw[hF];decide)]
    rw[e]
    obtain ⟨i1,i2,i3,i4⟩:=ih (p+1) (some p) (by omega) (fun b h=>by cases h;exact ⟨by omega,(fun k a b=>by rw[show k=p by omega];exact hF),h2 rfl⟩) (fun h=>by cases h)
    refine ⟨fun x hx=>⟨(i1 x hx).1,(fun b h=>by cases h),fun _=>(i1 x hx).2.1 p rfl⟩,fun k a b c=> ?_,(fun b h=>by cases h),i4⟩
    by_cases e:k=p
    ·subst e
     obtain ⟨x,hx,e⟩:=i3 k rfl
     have:=(i1 x hx).1.lt
     exact ⟨x,hx,by omega,by omega⟩
    ·exact i2 k (by omega) b c
  |some b=>
   obtain ⟨a1,a2,a3⟩:=h1 b rfl
   cases hF:F p with
   |true=>
    have e:scan F (n+1) p (some b)=(b,p)::scan F n (p+1) none:=by rw[scan,if_pos hF]
    rw[e]
    obtain ⟨i1,i2,i3,i4⟩:=ih (p+1) none (by omega) (fun b h=>by cases h) (fun _ _=>hF)
    refine ⟨fun x hx=> ?_,fun k a b c=> ?_,fun c h=> ?_,?_⟩
    ·rcases List.mem_cons.1 hx with rfl|hx
     ·exact ⟨⟨a1,(by show p≤512;omega),a2,(fun _=>hF),a3⟩,(fun c h=>by cases h;exact Nat.le_refl _),(fun h=>by cases h)⟩
     ·exact ⟨(i1 x hx).1,(fun c h=>by cases h;have:=(i1 x hx).2.2 rfl;omega),(fun h=>by cases h)⟩
    ·by_cases e:k=p
     ·subst e;rw[hF] at c;cases c
     ·obtain ⟨x,hx,e⟩:=i2 k (by omega) b c
      exact ⟨x,List.mem_cons_of_mem _ hx,e⟩
    ·cases h;exact ⟨(b,p),List.mem_cons_self,rfl⟩
    ·refine List.pairwise_cons.2 ⟨fun x hx=> ?_,i4⟩
     have:=(i1 x hx).2.2 rfl
     show p<x.1
     omega
   |false=>
    have e:scan F (n+1) p (some b)=scan F n (p+1) (some b):=by rw[scan,if_neg (by rw[hF];decide)]
    rw[e]
    obtain ⟨i1,i2,i3,i4⟩:=ih (p+1) (some b) (by omega) (fun c h=>by cases h;exact ⟨by omega,(fun k x y=>by
     by_cases e:k=p
     ·subst e;exact hF
     ·exact a2 k x (by omega)),a3⟩) (fun h=>by cases h)
    refine ⟨fun x hx=>⟨(i1 x hx).1,(i1 x hx).2.1,(fun h=>by cases h)⟩,fun k a c d=> ?_,i3,i4⟩
    by_cases e:k=p
    ·subst e
     obtain ⟨x,hx,e⟩:=i3 b rfl
     have h5:=(i1 x hx).1
     refine ⟨x,hx,by omega,?_⟩
     by_cases hlt:k<x.2
     ·exact hlt
     ·exfalso
      have hb:=h5.stop (by omega)
      have:=h5.lt
      rw[a2 x.2 (by omega) (by
       by_cases e2:x.2=k
       ·rw[e2,hF] at hb;cases hb
       ·omega)] at hb
      cases hb
    ·exact i2 k (by omega) c d
theorem runs_facts (F:Nat→Bool):(∀x∈runs F,Row1 F x)∧(∀k,k<512→F k=false→∃x∈runs F,x.1≤k∧k<x.2)∧List.Pairwise (fun x y=>x.2<y.1) (runs F):=by
 obtain ⟨h1,h2,_,h4⟩:=scan_facts F 512 0 none rfl (fun b h=>by cases h) (fun _ h=>by omega)
 exact ⟨fun x hx=>(h1 x hx).1,fun k hk hc=>h2 k (by omega) hk hc,h4⟩
end Go.Proofs.Bt
namespace Go.Proofs.Bt
def Clr (f:Nat→Bool) (c m:Nat):Prop:=∀k,k<m→f (c+k)=false
def blk (f:Nat→Bool) (a b k:Nat):Bool:=f k||decide (k<a)||decide (b≤k)
theorem blk_false {f:Nat→Bool} {a b k:Nat}:blk f a b k=false↔f k=false∧a≤k∧k<b:=by
 unfold blk;simp[and_assoc]
theorem win {f:Nat→Bool} {a b c m:Nat} (hb:b≤512) (hm:1≤m) (ha:a≤c) (hc:c+m≤b) (h:Clr f c m):∃y∈runs (blk f a b),y.1≤c∧c+m≤y.2:=by
 obtain ⟨h1,h2,h3⟩:=runs_facts (blk f a b)
 obtain ⟨y,hy,y1,y2⟩:=h2 c (by omega) (blk_false.2 ⟨by have:=h 0 (by omega);simpa using this,ha,by omega⟩)
 refine ⟨y,hy,y1,?_⟩
 by_cases hlt:c+m≤y.2
 ·exact hlt
 ·exfalso
  have hs:=(h1 y hy).stop (by omega)
  have:=h (y.2 - c) (by omega)
  rw[show c+(y.2 - c)=y.2 by omega] at this
  rw[blk_false.2 ⟨this,by omega,by omega⟩] at hs
  cases hs
theorem clr_run {f:Nat→Bool} {a b:Nat} {y:Nat×Nat} (h:Row1 (blk f a b) y) {k:Nat} (h1:y.1≤k) (h2:k<y.2):f k=false∧a≤k∧k<b:=blk_false.1 (h.clear k h1 h2)
def FindP (f:Nat→Bool) (n from_ i:Int) (ok:Bool):Prop:=
 (ok=true∧1≤n∧∃a:Nat,i=a∧from_.toNat≤a∧a+n.toNat≤512∧Clr f a n.toNat∧∀c,from_.toNat≤c→c<a→¬Clr f c n.toNat)∨
 (ok=false∧i=0∧(n<1∨∀c,from_.toNat≤c→c+n.toNat≤512→¬Clr f c n.toNat))
theorem FindP.one {f:Nat→Bool} {n from_ i j:Int} {ok is:Bool} (h:FindP f n from_ i ok) (k:FindP f n from_ j is):i=j∧ok=is:=by
 rcases h with ⟨rfl,h1,a,rfl,h2,h3,h4,h5⟩|⟨rfl,rfl,h1⟩<;>rcases k with ⟨rfl,k1,b,rfl,k2,k3,k4,k5⟩|⟨rfl,rfl,k1⟩
 ·refine ⟨?_,rfl⟩
  rcases Nat.lt_trichotomy a b with l|l|l
  ·exact absurd h4 (k5 a h2 l)
  ·rw[l]
  ·exact absurd k4 (h5 b k2 l)
 ·rcases k1 with k1|k1
  ·omega
  ·exact absurd h4 (k1 a h2 h3)
 ·rcases h1 with h1|h1
  ·omega
  ·exact absurd k4 (h1 b k2 k3)
 ·exact ⟨rfl,rfl⟩
theorem find_hit {f:Nat→Bool} {n from_:Int} {pre:List (Nat×Nat)} {x:Nat×Nat} (hn:1≤n) (hp:pre++ [x] <+: runs (blk f from_.toNat 512))
 (hs:∀y∈pre,((y.2 - y.1:Nat):Int)<n) (hx:n≤((x.2 - x.1:Nat):Int)):FindP f n from_ (x.1:Int) true:=by
 obtain ⟨h1,h2,h3⟩:=runs_facts (blk f from_.toNat 512)
 have hmem:∀y∈pre++ [x],y∈runs (blk f from_.toNat 512):=fun y hy=>hp.subset hy
 have hr:=h1 x (hmem x (by simp))
 have hlt:=hr.lt
 have hle:=hr.le
 refine .inl ⟨rfl,hn,x.1,rfl,(clr_run hr (Nat.le_refl _) hr.lt).2.1,by omega,fun k hk=>(clr_run hr (by omega) (by omega)).1,fun c c1 c2 hc=> ?_⟩
 obtain ⟨y,hy,y1,y2⟩:=win (a:=from_.toNat) (Nat.le_refl 512) (by omega) c1 (by omega) hc
 obtain ⟨suf,e⟩:=hp
 rw[←e] at hy h3
 rcases List.mem_append.1 hy with hy|hy
 ·rcases List.mem_append.1 hy with hy|hy
  ·have:=hs y hy;omega
  ·simp at hy;subst hy;omega
 ·have:=(List.pairwise_append.1 h3).2.2 x (by simp) y hy
  omega
theorem find_miss {f:Nat→Bool} {n from_:Int} (hn:1≤n) (hs:∀y∈runs (blk f from_.toNat 512),((y.2 - y.1:Nat):Int)<n):FindP f n from_ 0 false:=by
 refine .inr ⟨rfl,rfl, .inr fun c c1 c2 hc=> ?_⟩
 obtain ⟨y,hy,y1,y2⟩:=win (a:=from_.toNat) (Nat.le_refl 512) (by omega) c1 (by omega) hc
 have:=hs y hy
 omega
def LastP (f:Nat→Bool) (n to i k:Int):Prop:=
 (k=0∧i=0∧(n<1∨∀c,c<min to.toNat 512→f c=true))∨
 (1≤n∧∃a m:Nat,i=a∧k=m∧1≤m∧(m:Int)≤n∧a+m≤min to.toNat 512∧Clr f a m∧(∀c,a+m≤c→c<min to.toNat 512→f c=true)∧((m:Int)=n∨a=0∨f (a - 1)=true))
theorem LastP.one {f:Nat→Bool} {n to i j k l:Int} (h:LastP f n to i k) (g:LastP f n to j l):i=j∧k=l:=by
 rcases h with ⟨rfl,rfl,h1⟩|⟨h1,a,m,rfl,rfl,h2,h3,h4,h5,h6,h7⟩<;>rcases g with ⟨rfl,rfl,g1⟩|⟨g1,b,p,rfl,rfl,g2,g3,g4,g5,g6,g7⟩
 ·exact ⟨rfl,rfl⟩
 ·rcases h1 with h1|h1
  ·omega
  ·have:=g5 0 (by omega);rw[h1 _ (by omega)] at this;cases this
 ·rcases g1 with g1|g1
  ·omega
  ·have:=h5 0 (by omega);rw[g1 _ (by omega)] at this;cases this
 ·have e:a+m=b+p:=by
   rcases Nat.lt_trichotomy (a+m) (b+p) with l|l|l
   ·have:=g5 (p - 1) (by omega);rw[h6 _ (by omega) (by omega)] at this;cases this
   ·exact l
   ·have:=h5 (m - 1) (by omega);rw[g6 _ (by omega) (by omega)] at this;cases this
  have em:m=p:=by
   rcases Nat.lt_trichotomy m p with l|l|l
   ·rcases h7 with h7|h7|h7
    ·omega
    ·omega
    ·have:=g5 (a - 1 - b) (by omega);rw[show b+(a - 1 - b)=a - 1 by omega,h7] at this;cases this
   ·exact l
   ·rcases g7 with g7|g7|g7
    ·omega
    ·omega
    ·have:=h5 (b - 1 - a) (by omega);rw[show a+(b - 1 - a)=b - 1 by omega,g7] at this;cases this
  subst em
  exact ⟨by omega,rfl⟩
structure SumP (f:Nat→Bool) (s m e:Nat):Prop where
 s512:s≤512
 e512:e≤512
 sc:Clr f 0 s
 ss:s<512→f s=true
 ec:Clr f (512 - e) e
 es:e<512→f (511 - e)=true
 mx:∃c,c+m≤512∧Clr f c m
 mn:∀c,c+(m+1)≤512→¬Clr f c (m+1)
theorem SumP.one {f:Nat→Bool} {s m e s' m' e':Nat} (h:SumP f s m e) (k:SumP f s' m' e'):s=s'∧m=m'∧e=e':=by
 refine ⟨?_,?_,?_⟩
 ·rcases Nat.lt_trichotomy s s' with l|l|l
  ·have h1:=k.sc s l;have h2:=h.ss (by have:=k.s512;omega);rw[Nat.zero_add] at h1;rw[h1] at h2;cases h2
  ·exact l
  ·have h1:=h.sc s' l;have h2:=k.ss (by have:=h.s512;omega);rw[Nat.zero_add] at h1;rw[h1] at h2;cases h2
 ·obtain ⟨c,c1,c2⟩:=h.mx
  obtain ⟨d,d1,d2⟩:=k.mx
  rcases Nat.lt_trichotomy m m' with l|l|l
  ·exact absurd (fun j hj=>d2 j (by omega)) (h.mn d (by omega))
  ·exact l
  ·exact absurd (fun j hj=>c2 j (by omega)) (k.mn c (by omega))
 ·have h5:=h.e512
  have k5:=k.e512
  rcases Nat.lt_trichotomy e e' with l|l|l
  ·have h1:=k.ec (e' - 1 - e) (by omega);have h2:=h.es (by omega);rw[show 512 - e'+(e' - 1 - e)=511 - e by omega,h2] at h1;cases h1
  ·exact l
  ·have h1:=h.ec (e - 1 - e') (by omega);have h2:=k.es (by omega);rw[show 512 - e+(e - 1 - e')=511 - e' by omega,h2] at h1;cases h1
structure SI (l:List (Nat×Nat)) (s m e:Nat):Prop where
 sA:(∃x∈l,x.1=0∧s=x.2)∨((∀x∈l,x.1≠0)∧s=0)
 mA:(∃x∈l,m=x.2 - x.1)∨m=0
 mm:∀x∈l,x.2 - x.1≤m
 eA:(∃x∈l,x.2=512∧e=512 - x.1)∨((∀x∈l,x.2≠512)∧e=0)
theorem SI.zero:SI [] 0 0 0:=⟨.inr ⟨(fun x h=>by cases h),rfl⟩, .inr rfl,(fun x h=>by cases h), .inr ⟨(fun x h=>by cases h),rfl⟩⟩
theorem SI.step {l:List (Nat×Nat)} {s m e:Nat} (h:SI l s m e) (x:Nat×Nat):
 SI (l++ [x]) (if x.1=0 then x.2 - x.1 else s) (max m (x.2 - x.1)) (if x.2=512 then x.2 - x.1 else e):=by
 have hx:x∈l++ [x]:=by simp
 have hl:∀y∈l,y∈l++ [x]:=fun y hy=>List.mem_append_left _ hy
 refine ⟨?_,?_,?_,?_⟩
 ·by_cases h0:x.1=0
  ·rw[if_pos h0];exact .inl ⟨x,hx,h0,by omega⟩
  ·rw[if_neg h0]
   rcases h.sA with ⟨y,hy,y1,y2⟩|⟨h1,h2⟩
   ·exact .inl ⟨y,hl y hy,y1,y2⟩
   ·refine .inr ⟨fun y hy=> ?_,h2⟩
    rcases List.mem_append.1 hy with hy|hy
    ·exact h1 y hy
    ·simp at hy;subst hy;exact h0
 ·by_cases hm:m≤x.2 - x.1
  ·rw[Nat.max_eq_right hm];exact .inl ⟨x,hx,rfl⟩
  ·rw[Nat.max_eq_left (by omega)]
   rcases h.mA with ⟨y,hy,y1⟩|h1
   ·exact .inl ⟨y,hl y hy,y1⟩
   ·exact .inr h1
 ·intro y hy
  rcases List.mem_append.1 hy with hy|hy
  ·have:=h.mm y hy;omega
  ·simp at hy;subst hy;omega
 ·by_cases h0:x.2=512
  ·rw[if_pos h0];exact .inl ⟨x,hx,h0,by omega⟩
  ·rw[if_neg h0]
   rcases h.eA with ⟨y,hy,y1,y2⟩|⟨h1,h2⟩
   ·exact .inl ⟨y,hl y hy,y1,y2⟩
   ·refine .inr ⟨fun y hy=> ?_,h2⟩
    rcases List.mem_append.1 hy with hy|hy
    ·exact h1 y hy
    ·simp at hy;subst hy;exact h0
theorem SI.sum {f:Nat→Bool} {s m e:Nat} (h:SI (runs (blk f 0 512)) s m e):SumP f s m e:=by
 obtain ⟨h1,h2,h3⟩:=runs_facts (blk f 0 512)
 have hf:∀k,k<512→blk f 0 512 k=f k:=fun k hk=>by
  unfold blk;rw[decide_eq_false (by omega),decide_eq_false (by omega)];simp
 have hset:∀k,k<512→(∀x∈runs (blk f 0 512),¬(x.1≤k∧k<x.2))→f k=true:=fun k hk hn=>by
  cases hc:f k with
  |true=>rfl
  |false=>
   obtain ⟨y,hy,y1,y2⟩:=h2 k hk (by rw[hf k hk];exact hc)
   exact absurd ⟨y1,y2⟩ (hn y hy)
 have hS:s≤512∧Clr f 0 s∧(s<512→f s=true):=by
  rcases h.sA with ⟨x,hx,x1,rfl⟩|⟨hn,rfl⟩
  ·have hr:=h1 x hx
   exact ⟨hr.le,(fun k hk=>(clr_run hr (by omega) (by omega)).1),fun hl=>by have:=hr.stop hl;rw[hf _ hl] at this;exact this⟩
  ·exact ⟨by omega,(fun k hk=>by omega),fun _=>hset 0 (by omega) fun x hx hh=>hn x hx (by omega)⟩
 have hE:e≤512∧Clr f (512 - e) e∧(e<512→f (511 - e)=true):=by
  rcases h.eA with ⟨x,hx,x1,rfl⟩|⟨hn,rfl⟩
  ·have hr:=h1 x hx
   have:=hr.lt
   refine ⟨by omega,(fun k hk=>(clr_run hr (by omega) (by omega)).1),fun hl=> ?_⟩
   have hst:=hr.start (by omega)
   rw[hf _ (by omega),show x.1 - 1=511 -(512 - x.1) by omega] at hst
   exact hst
  ·refine ⟨by omega,(fun k hk=>by omega),fun _=>hset 511 (by omega) fun x hx hh=>hn x hx (by have:=(h1 x hx).le;omega)⟩
 refine ⟨hS.1,hE.1,hS.2.1,hS.2.2,hE.2.1,hE.2.2,?_,fun c hc hcl=> ?_⟩
 ·rcases h.mA with ⟨x,hx,rfl⟩|rfl
  ·have hr:=h1 x hx
   exact ⟨x.1,by have:=hr.lt;have:=hr.le;omega,fun k hk=>(clr_run hr (by omega) (by omega)).1⟩
  ·exact ⟨0,by omega,fun k hk=>by omega⟩
 ·obtain ⟨y,hy,y1,y2⟩:=win (a:=0) (Nat.le_refl 512) (by omega) (by omega) hc hcl
  have:=h.mm y hy
  omega
end Go.Proofs.Bt
namespace Go.Proofs.YtdgdhnnakcncoaaGreatDoor
set_option maxHeartbeats 1600000
def pc (n:Nat):Nat:=if _h:n=0 then 0 else n%2+pc (n/2)
def isPow (n:Nat):Bool:=if _h:1<n∧n%2=0 then isPow (n/2) else n==1
theorem pc_zero:pc 0=0:=by unfold pc;simp
theorem pc_step (n:Nat):pc n=n%2+pc (n/2):=by
 by_cases h:n=0
 ·subst h;simp[pc_zero]
 ·rw[pc];simp[h]
theorem pc_pos:∀n:Nat,0<n→0<pc n:=by
 intro n
 induction n using Nat.strongRecOn with
 |_ n ih=>
  intro h
  rw[pc_step]
  by_cases h2:n%2=0
  ·have:=ih (n/2) (by omega) (by omega);omega
  ·omega
theorem pc_isPow:∀n:Nat,(pc n==1)=isPow n:=by
 intro n
 induction n using Nat.strongRecOn with
 |_ n ih=>
  rw[isPow]
  split
  ·rename_i h
   rw[←ih (n/2) (by omega),pc_step,h.2];simp
  ·rename_i h
   by_cases h0:n=0
   ·subst h0;simp[pc_zero]
   ·by_cases h1:n=1
    ·subst h1;rw[pc_step];simp[pc_zero]
    ·have hp:=pc_pos (n/2) (by omega)
     have hs:=pc_step n
     have:n%2=1:=by omega
     have e1:(pc n==1)=false:=by simp only[beq_eq_false_iff_ne];omega
     have e2:(n==1)=false:=by simp only[beq_eq_false_iff_ne];omega
     rw[e1,e2]
theorem and_split (h a hm am:Nat) (ha:a<256) (ham:am<256):(256 * h+a) &&& (256 * hm+am)=256 *(h &&& hm)+(a &&& am):=by
 apply Nat.eq_of_testBit_eq
 intro j
 have hx:a &&& am<2^8:=Nat.lt_of_le_of_lt Nat.and_le_left (by omega)
 rw[Nat.testBit_and]
 have e:(256:Nat)=2^8:=by decide
 rw[e,Nat.testBit_two_pow_mul_add _ (by omega),Nat.testBit_two_pow_mul_add _ (by omega),Nat.testBit_two_pow_mul_add _ hx]
 split<;>simp[Nat.testBit_and]
def rep (c:Nat):Nat→Nat
 |0=>0
 |k+1=>256 * rep c k+c
def t1 (a:Nat):Nat:=(a/2 &&& 85)+(a &&& 85)
def t2 (a:Nat):Nat:=(a/4 &&& 51)+(a &&& 51)
def t3 (a:Nat):Nat:=(a/16+a) &&& 15
def s1 (k x:Nat):Nat:=(x/2 &&& rep 85 k)+(x &&& rep 85 k)
def s2 (k x:Nat):Nat:=(x/4 &&& rep 51 k)+(x &&& rep 51 k)
def s3 (k x:Nat):Nat:=(x/16+x) &&& rep 15 k
theorem mask85:∀(b:Fin 2) (a:Fin 256),(b.val * 128+a.val/2) &&& 85=a.val/2 &&& 85:=by decide+kernel
theorem mask51:∀(b:Fin 4) (a:Fin 256),(b.val * 64+a.val/4) &&& 51=a.val/4 &&& 51:=by decide+kernel
theorem t1_lt:∀a:Fin 256,t1 a.val<256:=by decide+kernel
theorem t2_lt:∀a:Fin 256,t2 (t1 a.val)≤68∧t2 (t1 a.val)%16≤4:=by decide+kernel
def pcf:Nat→Nat→Nat
 |0,_=>0
 |f+1,n=>n%2+pcf f (n/2)
theorem t3_pc:∀a:Fin 256,t3 (t2 (t1 a.val))=pcf 8 a.val:=by decide+kernel
theorem pcf_le:∀f n,pcf f n≤f:=by
 intro f
 induction f with
 |zero=>intro n;simp[pcf]
 |succ f ih=>intro n;have:=ih (n/2);rw[pcf];omega
theorem pc_split:∀f h a,a<2^f→pc (2^f * h+a)=pcf f a+pc h:=by
 intro f
 induction f with
 |zero=>intro h a ha;simp at ha;subst ha;simp[pcf]
 |succ f ih=>
  intro h a ha
  rw[Nat.pow_succ] at ha
  have e:2^(f+1) * h+a=2 *(2^f * h+a/2)+a%2:=by
   rw[Nat.pow_succ,Nat.mul_assoc,Nat.mul_left_comm];omega
  have h1:(2 *(2^f * h+a/2)+a%2)%2=a%2:=by omega
  have h2:(2 *(2^f * h+a/2)+a%2)/2=2^f * h+a/2:=by omega
  rw[e,pc_step,h1,h2,ih h (a/2) (by omega),pcf]
  omega
theorem s1_step (k h a:Nat) (ha:a<256):s1 (k+1) (256 * h+a)=256 * s1 k h+t1 a:=by
 have e:(256 * h+a)/2=256 *(h/2)+(h%2 * 128+a/2):=by omega
 have m:=mask85 ⟨h%2,by omega⟩ ⟨a,ha⟩
 simp only at m
 unfold s1 t1
 rw[rep,e,and_split _ _ _ _ (by omega) (by decide),and_split _ _ _ _ ha (by decide),m]
 omega
theorem s2_step (k h a:Nat) (ha:a<256):s2 (k+1) (256 * h+a)=256 * s2 k h+t2 a:=by
 have e:(256 * h+a)/4=256 *(h/4)+(h%4 * 64+a/4):=by omega
 have m:=mask51 ⟨h%4,by omega⟩ ⟨a,ha⟩
 simp only at m
 unfold s2 t2
 rw[rep,e,and_split _ _ _ _ (by omega) (by decide),and_split _ _ _ _ ha (by decide),m]
 omega
theorem s3_step (k h a:Nat) (ha:a≤68) (hh:h%16≤4):s3 (k+1) (256 * h+a)=256 * s3 k h+t3 a:=by
 have e:(256 * h+a)/16+(256 * h+a)=256 *(h/16+h)+(h%16 * 16+a/16+a):=by omega
 have m:(h%16 * 16+a/16+a) &&& 15=(a/16+a) &&& 15:=by
  rw[Nat.and_two_pow_sub_one_eq_mod _ 4,Nat.and_two_pow_sub_one_eq_mod _ 4];omega
 unfold s3 t3
 rw[rep,e,and_split _ _ _ _ (by omega) (by decide),m]
theorem s12_small (k y:Nat):s2 k (s1 k y)%16≤4:=by
 cases k with
 |zero=>simp[s2,rep]
 |succ k=>
  have e:y=256 *(y/256)+y%256:=by omega
  have hb:=t1_lt ⟨y%256,by omega⟩
  have ht:=t2_lt ⟨y%256,by omega⟩
  simp only at hb ht
  rw[e,s1_step _ _ _ (by omega),s2_step _ _ _ hb]
  omega
def S (k x:Nat):Nat:=s3 k (s2 k (s1 k x))
theorem S_step (k h a:Nat) (ha:a<256):S (k+1) (256 * h+a)=256 * S k h+t3 (t2 (t1 a)):=by
 have hb:=t1_lt ⟨a,ha⟩
 have ht:=t2_lt ⟨a,ha⟩
 simp only at hb ht
 unfold S
 rw[s1_step _ _ _ ha,s2_step _ _ _ hb,s3_step _ _ _ ht.1 (s12_small k h)]
theorem S_zero (x:Nat):S 0 x=0:=by simp[S,s3,rep]
theorem pc_byte (h a:Nat) (ha:a<256):pc (256 * h+a)=pc h+t3 (t2 (t1 a)):=by
 have ht:=t3_pc ⟨a,ha⟩
 simp only at ht
 have:=pc_split 8 h a ha
 rw[ht,show 256 * h=2^8 * h from rfl,this,Nat.add_comm]
theorem t3_le (a:Nat) (ha:a<256):t3 (t2 (t1 a))≤8:=by
 have ht:=t3_pc ⟨a,ha⟩
 simp only at ht
 rw[ht];exact pcf_le 8 a
theorem S_next (k y:Nat):S (k+1) y=t3 (t2 (t1 (y%256)))+256 * S k (y/256):=by
 have e:y=256 *(y/256)+y%256:=by omega
 have:=S_step k (y/256) (y%256) (by omega)
 rw[←e] at this;omega
theorem pc_next (y:Nat):pc y=t3 (t2 (t1 (y%256)))+pc (y/256):=by
 have e:y=256 *(y/256)+y%256:=by omega
 have:=pc_byte (y/256) (y%256) (by omega)
 rw[←e] at this;omega
theorem t3_low (y:Nat):t3 (t2 (t1 (y%256)))≤8:=t3_le _ (by omega)
theorem S_pc (k y:Nat):∃p,p≤8∧S (k+1) y=p+256 * S k (y/256)∧pc y=p+pc (y/256):=⟨_,t3_low y,S_next k y,pc_next y⟩
theorem S_eight (x:Nat) (hx:x<18446744073709551616):
 ∃p0 p1 p2 p3 p4 p5 p6 p7 r1 r2 r3 r4 r5 r6:Nat,p0≤8∧p1≤8∧p2≤8∧p3≤8∧p4≤8∧p5≤8∧p6≤8∧p7≤8∧
  S 8 x=p0+256 * r1∧r1=p1+256 * r2∧r2=p2+256 * r3∧r3=p3+256 * r4∧r4=p4+256 * r5∧r5=p5+256 * r6∧r6=p6+256 * p7∧pc x=p0+p1+p2+p3+p4+p5+p6+p7:=by
 have hz:x/256/256/256/256/256/256/256/256=0:=by
  simp only[Nat.div_div_eq_div_mul]
  exact Nat.div_eq_of_lt hx
 obtain ⟨p0,l0,a0,b0⟩:=S_pc 7 x
 obtain ⟨p1,l1,a1,b1⟩:=S_pc 6 (x/256)
 obtain ⟨p2,l2,a2,b2⟩:=S_pc 5 (x/256/256)
 obtain ⟨p3,l3,a3,b3⟩:=S_pc 4 (x/256/256/256)
 obtain ⟨p4,l4,a4,b4⟩:=S_pc 3 (x/256/256/256/256)
 obtain ⟨p5,l5,a5,b5⟩:=S_pc 2 (x/256/256/256/256/256)
 obtain ⟨p6,l6,a6,b6⟩:=S_pc 1 (x/256/256/256/256/256/256)
 obtain ⟨p7,l7,a7,b7⟩:=S_pc 0 (x/256/256/256/256/256/256/256)
 rw[hz,S_zero,Nat.mul_zero,Nat.add_zero] at a7
 rw[hz,pc_zero,Nat.add_zero] at b7
 rw[a7] at a6
 refine ⟨p0,p1,p2,p3,p4,p5,p6,p7,_,_,_,_,_,_,l0,l1,l2,l3,l4,l5,l6,l7,a0,a1,a2,a3,a4,a5,a6,?_⟩
 rw[b0,b1,b2,b3,b4,b5,b6,b7]
 simp only[Nat.add_assoc]
theorem sums (x y1 y2 y3:Nat) (hx:x<18446744073709551616) (h1:y1=S 8 x+S 8 x/256) (h2:y2=y1+y1/65536) (h3:y3=y2+y2/4294967296):
 y1<9223372036854775808∧y2<9223372036854775808∧y3<9223372036854775808∧y3%128=pc x:=by
 obtain ⟨p0,p1,p2,p3,p4,p5,p6,p7,r1,r2,r3,r4,r5,r6,l0,l1,l2,l3,l4,l5,l6,l7,e0,e1,e2,e3,e4,e5,e6,hp⟩:=S_eight x hx
 have d1:S 8 x/256=r1:=by clear h1 h2 h3 e1 e2 e3 e4 e5 e6 hp;omega
 have q1:y1=(p0+p1+256 *(p1+p2))+65536 *(r2+r3):=by rw[d1,e0] at h1;clear h2 h3 e3 e4 e5 e6 hp d1 e0;omega
 have d2:y1/65536=r2+r3:=by clear h1 h2 h3 e0 e1 e2 e3 e4 e5 e6 hp d1;omega
 have q2:y2=(p0+p1+p2+p3+256 *(p1+p2+p3+p4)+65536 *(p2+p3+p4+p5)+16777216 *(p3+p4+p5+p6))+4294967296 *(r4+r5+r6+p7):=by
  rw[d2,q1] at h2;clear h1 h3 hp d1 d2 q1 e0 e1;omega
 have d3:y2/4294967296=r4+r5+r6+p7:=by clear h1 h2 h3 e0 e1 e2 e3 e4 e5 e6 hp d1 d2 q1;omega
 have m6:r6≤2056:=by clear h1 h2 h3 e0 e1 e2 e3 e4 e5 hp d1 d2 q1 q2 d3;omega
 have m5:r5≤526344:=by clear h1 h2 h3 e0 e1 e2 e3 e4 e6 hp d1 d2 q1 q2 d3;omega
 have m4:r4≤134744072:=by clear h1 h2 h3 e0 e1 e2 e3 e5 e6 hp d1 d2 q1 q2 d3;omega
 have m3:r3≤34494482440:=by clear h1 h2 h3 e0 e1 e2 e4 e5 e6 hp d1 d2 q1 q2 d3;omega
 have m2:r2≤8830587504648:=by clear h1 h2 h3 e0 e1 e3 e4 e5 e6 hp d1 d2 q1 q2 d3;omega
 clear h1 h2 e0 d1 d2
 refine ⟨by clear h3 q2 d3 hp e1 e2 e3 e4 e5 e6;omega,by clear h3 q1 d3 hp e1 e2 e3 e4 e5 e6;omega,by clear q1 hp e1 e2 e3 e4 e5 e6;omega,?_⟩
 rw[hp,h3,d3,q2]
 clear h3 d3 q2 hp q1 e1 e2 e3
 omega
end Go.Proofs.YtdgdhnnakcncoaaGreatDoor
namespace Go.Proofs.Pk
structure Sm where
 s:Int
 m:Int
 e:Int
def Bnd (a:Sm) (p:Int):Prop:=0≤a.s∧0≤a.e∧a.s≤a.m∧a.e≤a.m∧a.m≤p∧(a.m<p∨a.s=p∧a.e=p)
def Rgt (a:Sm) (p:Int):Prop:=Bnd a p∧(a.m=p∨a.s+a.e<p)
def mg (p:Int) (X:Nat→Sm):Nat→Sm
 |0=>⟨0,0,0⟩
 |n+1=>⟨if (mg p X n).s=(n:Int) * p then (mg p X n).s+(X n).s else (mg p X n).s,
  max (max (mg p X n).m (X n).m) ((mg p X n).e+(X n).s),
  if (X n).e=p then (mg p X n).e+p else (X n).e⟩
theorem mg_congr {p:Int} {X Y:Nat→Sm}:∀n,(∀k,k<n→X k=Y k)→mg p X n=mg p Y n
 |0,_=>rfl
 |n+1,h=>by
  have:=mg_congr (p:=p) n (fun k hk=>h k (by omega))
  rw[mg,mg,this,h n (by omega)]
theorem succ_mul (n:Nat) (p:Int):((n+1:Nat):Int) * p=(n:Int) * p+p:=by rw[Int.natCast_succ,Int.add_mul];omega
structure Mok (p:Int) (n:Nat) (a:Sm):Prop where
 s0:0≤a.s
 e0:0≤a.e
 sm:a.s≤a.m
 em:a.e≤a.m
 mx:a.m≤(n:Int) * p
 whole:a.m=(n:Int) * p→a.s=(n:Int) * p∧a.e=(n:Int) * p
 part:a.s≠(n:Int) * p→a.s+a.e<(n:Int) * p
theorem mg_ok {p:Int} (hp:1≤p) {X:Nat→Sm}:∀n,(∀k,k<n→Rgt (X k) p)→Mok p n (mg p X n)
 |0,_=>⟨Int.le_refl _,Int.le_refl _,Int.le_refl _,Int.le_refl _,by simp[mg],fun _=>by simp[mg],fun h=>by simp[mg] at h⟩
 |n+1,h=>by
  obtain ⟨h1,h2,h3,h4,h5,h6,h7⟩:=mg_ok hp n (fun k hk=>h k (by omega))
  obtain ⟨⟨r1,r2,r3,r4,r5,r6⟩,r7⟩:=h n (by omega)
  have hq:0≤(n:Int) * p:=Int.mul_nonneg (by omega) (by omega)
  have e:=succ_mul n p
  unfold mg
  generalize mg p X n=a at *
  generalize X n=b at *
  generalize (n:Int) * p=q at *
  by_cases c1:a.s=q
  ·by_cases c2:b.e=p
   ·rw[if_pos c1,if_pos c2]
    constructor<;>dsimp only<;>rw[e] at * <;>omega
   ·rw[if_pos c1,if_neg c2]
    constructor<;>dsimp only<;>rw[e] at * <;>omega
  ·have h8:=h7 c1
   by_cases c2:b.e=p
   ·rw[if_neg c1,if_pos c2]
    constructor<;>dsimp only<;>rw[e] at * <;>omega
   ·rw[if_neg c1,if_neg c2]
    constructor<;>dsimp only<;>rw[e] at * <;>omega
end Go.Proofs.Pk
namespace Go.Proofs.Pk
open Go.Proofs.Bt
structure SumN (F:Nat→Bool) (L s m e:Nat):Prop where
 sl:s≤L
 el:e≤L
 sc:Clr F 0 s
 ss:s<L→F s=true
 ec:Clr F (L - e) e
 es:e<L→F (L - 1 - e)=true
 mx:∃c,c+m≤L∧Clr F c m
 mn:∀c,c+(m+1)≤L→¬Clr F c (m+1)
theorem Clr.sub {F:Nat→Bool} {c m c' m':Nat} (h:Clr F c m) (h1:c≤c') (h2:c'+m'≤c+m):Clr F c' m':=fun k hk=>by
 have:=h (c' - c+k) (by omega)
 rwa[show c+(c' - c+k)=c'+k by omega] at this
theorem Clr.at {F:Nat→Bool} {c m:Nat} (h:Clr F c m) {k:Nat} (h1:c≤k) (h2:k<c+m):F k=false:=by
 have:=h (k - c) (by omega)
 rwa[show c+(k - c)=k by omega] at this
theorem Clr.of {F:Nat→Bool} {c m:Nat} (h:∀k,c≤k→k<c+m→F k=false):Clr F c m:=fun k hk=>h (c+k) (by omega) (by omega)
theorem SumN.le {F:Nat→Bool} {L s m e:Nat} (h:SumN F L s m e) {c k:Nat} (hc:c+k≤L) (hk:Clr F c k):k≤m:=by
 rcases Nat.lt_or_ge m k with l|l
 ·exact absurd (Clr.sub hk (Nat.le_refl c) (by omega)) (h.mn c (by omega))
 ·exact l
theorem SumN.end_le {F:Nat→Bool} {L s m e:Nat} (h:SumN F L s m e) {c:Nat} (hc:c≤L) (hk:∀k,c≤k→k<L→F k=false):L - c≤e:=by
 rcases Nat.lt_or_ge e (L - c) with l|l
 ·have:=h.es (by omega)
  rw[hk (L - 1 - e) (by omega) (by omega)] at this
  cases this
 ·exact l
theorem SumN.all {F:Nat→Bool} {L s m e:Nat} (h:SumN F L s m e):s=L↔e=L:=by
 constructor
 ·intro z
  have:=h.end_le (c:=0) (by omega) (fun k _ hk=>Clr.at h.sc (by omega) (by omega))
  have:=h.el
  omega
 ·intro z
  rcases Nat.lt_or_ge s L with l|l
  ·have h1:=h.ss l
   rw[Clr.at h.ec (k:=s) (by omega) (by omega)] at h1
   cases h1
  ·have:=h.sl;omega
theorem SumN.zero (F:Nat→Bool):SumN F 0 0 0 0:=⟨Nat.le_refl _,Nat.le_refl _,fun k hk=>by omega,fun h=>by omega,fun k hk=>by omega,fun h=>by omega,⟨0,by omega,fun k hk=>by omega⟩,fun c hc=>by omega⟩
theorem SumN.one {F:Nat→Bool} {L s m e s' m' e':Nat} (h:SumN F L s m e) (k:SumN F L s' m' e'):s=s'∧m=m'∧e=e':=by
 refine ⟨?_,?_,?_⟩
 ·rcases Nat.lt_trichotomy s s' with l|l|l
  ·have h1:=Clr.at k.sc (k:=s) (by omega) (by omega);have h2:=h.ss (by have:=k.sl;omega);rw[h1] at h2;cases h2
  ·exact l
  ·have h1:=Clr.at h.sc (k:=s') (by omega) (by omega);have h2:=k.ss (by have:=h.sl;omega);rw[h1] at h2;cases h2
 ·obtain ⟨c,c1,c2⟩:=h.mx
  obtain ⟨d,d1,d2⟩:=k.mx
  have:=k.le c1 c2
  have:=h.le d1 d2
  omega
 ·have h1:=k.end_le (c:=L - e) (by omega) (fun i i1 i2=>Clr.at h.ec i1 (by have:=h.el;omega))
  have h2:=h.end_le (c:=L - e') (by omega) (fun i i1 i2=>Clr.at k.ec i1 (by have:=k.el;omega))
  have:=h.el
  have:=k.el
  omega
end Go.Proofs.Pk
