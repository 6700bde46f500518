/- Contracts of the document's own whole numbers: Of. -/
import Derived.Test.YtgilnmhejjpleaaGreatPWj
import Derived.IntWalk
import Derived.Test.YtgilnmhejjpleaaGreatPNat0
import Derived.Test.YtgilnmhejjpleaaGreatPNatA
namespace Go.Proofs.YtgilnmhejjpleaaGreat
open Go.RowKit
attribute [local go_sem ↓] Go.wp_at_zero Go.wp_at_succ
theorem j1ew {P:Prop}(h:P:=by grind):P:=h
theorem juu0 {P:Prop}(h:P:=by repeat (first | with_reducible assumption | (with_reducible refine Hid.out ?_; with_reducible assumption) | (with_reducible apply Rd.drew_) | (with_reducible refine Rd.alloc_ ?_ _) | ((with_reducible apply Rd.below); rotate_left; (with_reducible assumption)))):P:=h
theorem jfgm {P:Prop}(h:P:=by repeat (first | with_reducible assumption | (with_reducible refine Hid.out ?_; with_reducible assumption) | ((with_reducible refine Blk.new _ _ ?_ _ _) <;> (simp; done)) | (with_reducible apply Blk.drew_) | (with_reducible apply Lim.drew_) | (with_reducible apply IsNat.drew_) | (with_reducible refine Lim.alloc_ ?_ _) | (with_reducible refine IsNat.alloc_ ?_ _) | (with_reducible refine Blk.alloc_ ?_ _) | (with_reducible apply Blk.own2) | (with_reducible refine Blk.other2 ?_ j0i3) | (with_reducible apply IsNat.other2) | ((with_reducible apply Blk.below); rotate_left; (with_reducible assumption)) | ((with_reducible apply Lim.below); rotate_left; (with_reducible assumption)) | ((with_reducible apply IsNat.below); rotate_left; (with_reducible assumption)))):P:=h
theorem jjm8 {P:Prop}(h:P:=by repeat (first | with_reducible assumption | (with_reducible refine Hid.out ?_; with_reducible assumption) | ((with_reducible refine lit_one _ _ ?_ 10 _ rfl j0i3) <;> (simp; done)) | (with_reducible apply Lim.drew_) | (with_reducible refine Lim.alloc_ ?_ _) | ((with_reducible apply Lim.below); rotate_left; (with_reducible assumption)))):P:=h
def d10(N j:Nat):Nat:=N / 10 ^ j % 10
theorem d10_lt(N j:Nat):d10 N j<10:=Nat.mod_lt _ j0i3
def OfInv(w wr:World)(neg:Bool)(v:Value)(N t:Nat):Prop :=
 Own .u32 117 wr (w.heap.size+2) v t (d10 N)∧Blk wr w.heap.size 34 #[.bool false,.slice none 0 0]∧Blk wr (w.heap.size+1) 34 #[.bool neg,.slice none 0 0]∧Below w.heap.size w wr∧w.heap.size+2≤wr.heap.size∧t≤1000000
theorem div_step(N t:Nat):N / 10 ^ t / 10=N / 10 ^ (t+1):=by rw [Nat.div_div_eq_div_mul,Nat.pow_succ]
theorem OfInv.step {w wr w2:World} {neg:Bool} {v v2:Value} {N t:Nat} {x:Int}(h:OfInv w wr neg v N t)(h2:Own .u32 117 w2 (w.heap.size+2) v2 (t+1) (appF (d10 N) t (fun _=>d10 N t)))(hb:Below (w.heap.size+2) (wr.alloc (.cells #[.int .u32 x] 117)) w2)(hs:(wr.alloc (.cells #[.int .u32 x] 117)).heap.size≤w2.heap.size)(ht:t<20):OfInv w w2 neg v2 N (t+1):=by
 obtain⟨h1,k0,k1,b1,s1,_⟩:=h
 simp at hs
 have hk0:=k0.alloc_ (.cells #[.int .u32 x] 117)
 have hk1:=k1.alloc_ (.cells #[.int .u32 x] 117)
 refine⟨h2.congr fun j hj=>?_,(hb.block _ j0i3).trans hk0,(hb.block _ j0i3).trans hk1,(Below.alloc_ b1 j0i3 _).trans (hb.mono j0i3),by omega,by omega⟩
 unfold appF
 by_cases hjt:j<t
 ·rw [if_pos hjt]
 ·rw [if_neg hjt]
  obtain rfl:j=t := j0i3
  rfl
theorem cell_new {w:World} {p:Addr} {v:Value}(h:w.cell? p=some v)(o:Obj):(w.alloc o).cell? p=some v:=by
 rw [World.cell?_alloc_old w o p (Nat.ne_of_lt (block_lt_of_cell h))]
 exact h
theorem few_digits {N t:Nat}(hN:N<18446744073709551616)(h:N / 10 ^ t≠0):t<20:=by
 rcases Nat.lt_or_ge t 20 with hlt | hge
 ·exact hlt
 ·exfalso
  have h1:(10:Nat) ^ 20≤10 ^ t:=Nat.pow_le_pow_right j0i3 hge
  have h2:N<10 ^ 20:=Nat.lt_of_lt_of_le hN jpu1
  exact h (Nat.div_eq_of_lt (Nat.lt_of_lt_of_le h2 h1))
theorem Rd.alloc_ {K:IntKind} {w:World} {A:Option Addr} {n:Nat} {f:Nat→Nat}(h:Rd K w A n f)(o:Obj):Rd K (w.alloc o) A n f:=h.below (below_new w o)
theorem Rd.drew_ {K:IntKind} {w:World} {A:Option Addr} {n:Nat} {f:Nat→Nat}(h:Rd K w A n f):Rd K w.drew A n f:=h
theorem of_digit(N i:Nat):N / 10 ^ (i+1)*10+d10 N i=N / 10 ^ i:=by
 unfold d10
 rw [← div_step]
 omega
def OfInv2(w wr:World)(neg:Bool)(v m:Value)(N t i:Nat):Prop :=
 (∃A c,v = .slice A t c∧Rd .u32 wr A t (d10 N))∧Blk wr w.heap.size 34 #[.bool false,.slice none 0 0]∧Blk wr (w.heap.size+1) 34 #[.bool neg,m]∧IsNat wr m (N / 10 ^ i)∧Below w.heap.size w wr∧w.heap.size+2≤wr.heap.size
theorem own_slice {w:World} {base n:Nat} {v:Value} {f:Nat→Nat}(h:Own .u32 117 w base v n f) : ∃A c,v = .slice A n c∧Rd .u32 w A n f:=by
 rcases h.form with ⟨rfl,rfl⟩ | ⟨g,c,rfl,_⟩
 ·exact⟨none,0,rfl,Rd.zero⟩
 ·exact⟨_,c,rfl,h.rd_⟩
set_option maxRecDepth 100000 in
set_option maxHeartbeats 4000000 in
theorem rof_(b:Bool)(N:Nat)(w:World)(hN:N≤9223372036854775808)(hb0:decide (sg b N<0)=b)(hP:b=false→N≤9223372036854775807) :
 Calls Tryz.prog 98 #[.int .i64 (sg b N)] w fun e w'=>IntPost w w' e (sg b N):=by
 have HN1:=Lib.hid hN
 have HN2:Hid (N<18446744073709551616) := jn6w
 have HB0:=Lib.hid hb0
 have HP:=Lib.hid hP
 have hg0:(sg b N<0)=(b=true):=by rw [← decide_eq_true_iff (p:=sg b N<0),hb0]
 have hgd:decide (b=true)=b := jzab
 clear hN hb0 hP
 go_enter Tryz.func98,Tryz.ntmps98
 go_wp2
 clear hg0 hgd
 go_loopw [0,4] (fun v0 v4 wr => ∃t:Nat,v0 = .int .i64 (sg b (N / 10 ^ t))∧OfInv w wr b v4 N t) (fun v0 _ _=>(intOf v0).natAbs)
 case atStart=>exact⟨0,by simp,Own.nil,(Blk.new w w.heap.size rfl _ _).alloc_ _,Blk.new _ _ jupy _ _,Below.alloc_ (Below.alloc_ (Below.refl _ _) (Nat.le_refl _) _) jupy _,by simp,by omega⟩
 case round =>
  obtain⟨t,rfl,hinv⟩:=hrel
  have HI:=Lib.hid hinv
  clear hinv
  by_cases hM:N / 10 ^ t=0
  ·have HI20:=HI.out.2.2.2.2.2
   have hlen:Hid (∃A c,u4 = .slice A t c∧Rd .u32 wr A t (d10 N)):=own_slice HI.out.1
   obtain⟨A,c,rfl,hrd⟩:=hlen.out
   have HRd:=Lib.hid hrd
   have HK0:=Lib.hid HI.out.2.1
   have HK1:=Lib.hid HI.out.2.2.1
   have HB:=Lib.hid HI.out.2.2.2.1
   have hws:=HI.out.2.2.2.2.1
   have HM:=Lib.hid hM
   have hM':sg b (N / 10 ^ t)=0:=(sg_zero _ _).2 hM
   have htt:t≤1000000:=HI20
   clear hrd hlen HI hM
   rw [hM']
   clear hM'
   go_wp2
   obtain⟨wo,rfl⟩ : ∃wo:World,wo=wr:=⟨_,rfl⟩
   go_loopw [6] (fun v6 wr => ∃ (i:Nat) (m:Value),v6 = .int .i64 ((i:Int) - 1)∧i≤t∧OfInv2 w wr b (.slice A t c) m N t i) (fun v6 _=>(intOf v6+1).toNat)
   case atStart=>exact⟨t,.slice none 0 0,rfl,Nat.le_refl _,⟨A,c,rfl,HRd.out⟩,HK0.out,HK1.out,by rw [HM.out];exact isNat_nil _,HB.out,hws⟩
   case round =>
    clear HRd HK0 HK1 HB HM hws
    obtain⟨i,m,rfl,hit,hinv⟩:=hrel
    by_cases h0:0<i
    ·obtain⟨i,rfl⟩ : ∃j,i=j+1:=⟨i - 1,by omega⟩
     obtain⟨⟨A',c',e',hrd⟩,k0,k1,hm,hb,hws⟩:=hinv
     injection e' with e1 _ e3
     subst e1 e3
     obtain⟨ad,rfl,hcell⟩:=hrd i j0i3
     obtain⟨MA,mn,mc,rfl,_,hm⟩:=isNat_form hm
     rw [show((i+1:Nat):Int) - 1=(i:Int) from j0i3]
     have HQ:Hid (N / 10 ^ (i+1)<4294967296 ^ 2):=by show _<_;exact Nat.lt_of_le_of_lt (Nat.div_le_self _ _) (Nat.lt_of_lt_of_le HN2.out jpu1)
     have LM:=hm.lim HQ.out
     have HQ3:Hid (N / 10 ^ (i+1)*10<4294967296 ^ 3):=by
      show _<_
      have:=HQ.out
      rw [show(4294967296:Nat) ^ 3=4294967296 ^ 2*4294967296 from jpu1]
      omega
     have HTD:=Lib.hid (of_digit N i)
     have hd:=d10_lt N i
     generalize hdd:d10 N i=d at *
     have HDD:=Lib.hid hdd
     clear hdd
     generalize N / 10 ^ (i+1)=Q at *
     have hq1:=k1.cell1
     have fz1:=k1.frozen 1
     have hi0:(0:Int)≤(i:Int) := j0i3
     have hit':(i:Int)<(t:Int) := j0i3
     have hne:w.heap.size+1<wr.heap.size := j0i3
     have K0:=Lib.hid k0
     have K1:=Lib.hid k1
     have HRD:=Lib.hid hrd
     have HB:=Lib.hid hb
     have hqA:=fun o=>cell_new hq1 o
     have hqB:=fun o o'=>cell_new (cell_new hq1 o) o'
     have hcA:=fun o=>cell_new hcell o
     have hcB:=fun o o'=>cell_new (cell_new hcell o) o'
     clear k0 k1 hrd hb hm
     go_wp2
     go_region_with
      (first
       |(go_at_call 108;((with_reducible refine Calls.mono (rMul (k:=2) (m:=1) (N:=Q) (M:=10) jfgm jjm8 j0i3 j0i3) ?_));rintro e w3 ⟨v3,rfl,h3,hb3⟩;obtain⟨A3,n3,c3,rfl,hn3,h3⟩:=isNat_form h3;have L3:=h3.lim HQ3.out;have k3_0:=Blk.below (g:=w.heap.size) (t:=34) (cs := #[_,_]) jfgm hb3;have k3_1:=Blk.below (g:=w.heap.size+1) (t:=34) (cs := #[_,_]) jfgm hb3;have r3:=Rd.below (K := .u32) (f:=d10 N) (n:=t) (A:=some ad) juu0 hb3;have hcell3:=r3.at_ (j:=i) j0i3;rw [HDD.out] at hcell3;have hcC3:=fun o=>cell_new hcell3 o;have R3:=Lib.hid r3;clear r3;have q3_1:=k3_1.cell1;have fz3:=k3_1.frozen 1;have zz3:w.heap.size+1<w3.heap.size := jfkf;have K3_0:=Lib.hid k3_0;have K3_1:=Lib.hid k3_1;clear k3_0 k3_1)
       |(go_at_call 99;((with_reducible refine Calls.mono (rAdd (k:=3) (m:=1) (N:=Q*10) (M:=d) jjm8 (by repeat (first | with_reducible assumption | (with_reducible refine Hid.out ?_;with_reducible assumption) | ((with_reducible refine lit_one _ _ ?_ d _ rfl j0i3) <;> (simp;done)) | (with_reducible apply Lim.drew_) | (with_reducible refine Lim.alloc_ ?_ _) | ((with_reducible apply Lim.below);rotate_left;(with_reducible assumption)))) j0i3 j0i3) ?_));rintro e w4 ⟨v4,rfl,h4,hb4⟩;obtain⟨A4,n4,c4,rfl,hn4,h4⟩:=isNat_form h4;have k4_0:=Blk.below (g:=w.heap.size) (t:=34) (cs := #[_,_]) jfgm hb4;have k4_1:=Blk.below (g:=w.heap.size+1) (t:=34) (cs := #[_,_]) jfgm hb4;have r4:=Rd.below (K := .u32) (f:=d10 N) (n:=t) (A:=some ad) juu0 hb4;have hcell4:=r4.at_ (j:=i) j0i3;rw [HDD.out] at hcell4;have hcC4:=fun o=>cell_new hcell4 o;have R4:=Lib.hid r4;clear r4;have q4_1:=k4_1.cell1;have fz4:=k4_1.frozen 1;have zz4:w.heap.size+1<w4.heap.size := jto4;have K4_0:=Lib.hid k4_0;have K4_1:=Lib.hid k4_1;clear k4_0 k4_1))
     all_goals
      have hB4:=Lib.hid (show Below w.heap.size w w4 from(by repeat first | exact HB.out | exact Below.refl _ _ | (with_reducible refine Below.trans ?_ (Below.mono jiib ?_)) | (with_reducible refine Below.alloc_ ?_ ?_ _) | (with_reducible refine Below.drew ?_) | (with_reducible refine Below.set2 ?_ ?_) | exact Nat.le_refl _ | omega | focus (simp <;> omega)))
      have HINV:Hid (OfInv2 w (w4.setCell ⟨w.heap.size+1,1,none⟩ (.slice A4 n4 c4)) b (.slice (some ad) t c) (.slice A4 n4 c4) N t i):=by
       refine⟨⟨_,_,rfl,R4.out.apart q4_1 (fun z e=>by cases e) _⟩,K4_0.out.other j0i3 _ _,K4_1.out.set_ 1 _,?_,hB4.out.setCell jupy _,by simp;omega⟩
       have:=h4.apart q4_1 (fun z e=>by cases e) (.slice A4 n4 c4)
       rwa [HTD.out] at this
      go_wp2
      go_roundw
      case rel=>exact⟨i,_,rfl,by omega,HINV.out⟩
      case measure=>simp [intOf]
    ·obtain rfl:i=0:=by omega
     obtain⟨_,k0,k1,hm,hb,hws⟩:=hinv
     obtain⟨MA,mn,mc,rfl,_,hm⟩:=isNat_form hm
     rw [Nat.pow_zero,Nat.div_one] at hm
     have p1:=k1.cell0
     have q1:=k1.cell1
     obtain⟨p0,q0,r0,s0,t0⟩:=k0.facts2
     have HB:=Lib.hid hb
     have K0:=Lib.hid k0
     clear k0 k1 q0 hb
     go_wp2
     obtain⟨WF,hWF⟩ : ∃W,W=(wr.setCell ⟨w.heap.size,0,none⟩ (.bool b)).setCell ⟨w.heap.size,1,none⟩ (.slice MA mn mc):=⟨_,rfl⟩
     rw [← hWF]
     have kq:Blk WF (w.heap.size) 34 #[.bool b,.slice MA mn mc]:=by rw [hWF];exact K0.out.own2
     have hBF:Below w.heap.size w WF:=by rw [hWF];exact Below.set2 HB.out j0i3
     have hI:IsNat WF (.slice MA mn mc) (N):=by rw [hWF];exact hm.other2 K0.out
     have HE:Hid (IntPost w WF (.returned (.agg #[.bool b,.slice MA mn mc])) (sg b N)):=⟨_,rfl,⟨_,by rw [HB0.out],by rw [sg_abs];exact hI⟩,hBF⟩
     have e0:=kq.cell0
     have e1:=kq.cell1
     clear hWF
     exact bodyPost_ret (v := .agg #[.bool b,.slice MA mn mc]) (by simp [results,Tryz.results98,go_sem,e0,e1]) rfl HE.out
  ·have HT20:=Lib.hid (few_digits HN2.out hM)
   have hM1:N / 10 ^ t≤N:=Nat.div_le_self N (10 ^ t)
   have hM1':=Lib.hid hM1
   have HST:=Lib.hid (div_step N t)
   have HD:Hid (N / 10 ^ t % 10=d10 N t):=rfl
   generalize hMM:N / 10 ^ t=M at *
   clear hMM
   have hM0:(1:Int)≤(M:Int) := j0i3
   have hM3:(M:Int)≤9223372036854775808:=by have:=HN1.out;omega
   have hM2:M % 10<10:=Nat.mod_lt _ j0i3
   have O1:=(HI.out.1).alloc (.cells #[.int .u32 ((M:Int) % 10)] 117)
   have R1:Rd .u32 (wr.alloc (.cells #[.int .u32 ((M:Int) % 10)] 117)) (some ⟨wr.heap.size,0,none⟩) 1 (fun _=>d10 N t):=by
    have:=(row_one (K := .u32) (t:=117) wr (M % 10)).rd0 (Nat.le_refl _)
    rw [← HD.out]
    exact this
   have HO:=Lib.hid O1
   have HR:=Lib.hid R1
   have htt:t<20:=HT20.out
   have hws:w.heap.size+2≤wr.heap.size:=HI.out.2.2.2.2.1
   clear O1 R1 hM hM1
   cases b
   ·have hgn:sg false M=(M:Int):=rfl
    have hM4:(M:Int)≤9223372036854775807:=by
     have:=HP.out rfl
     have:=hM1'.out
     omega
    rw [hgn]
    clear hgn
    go_wp2_with (at_builtin;refine wpList_app rfl (.tmp 18) (.tmp 21) 32 rfl .u32 117 Tryz.underlying32 4 u32_info j0i3 (w.heap.size+2) _ t (d10 N) rfl HO.out (some ⟨wr.heap.size,0,none⟩) 1 1 (fun _=>d10 N t) rfl HR.out (fun h=>by cases h) j0i3 jb6b ?_;intro v2 w2 hown2 hb2 hsz2)
    have HS:=Lib.hid (HI.out.step hown2 hb2 hsz2 htt)
    clear hown2 hb2 hsz2 HO HR
    go_wp2
    go_roundw
    case rel=>exact⟨t+1,by rw [← HST.out];rfl,HS.out⟩
    case measure=>simp [intOf] <;> omega
   ·have hgn:sg true M = -(M:Int):=rfl
    have hdiv:(-(M:Int)).tdiv 10 = -((M:Int) / 10):=by rw [Int.neg_tdiv];rfl
    rw [hgn]
    clear hgn
    by_cases hz:M % 10=0
    ·have hz':(M:Int) % 10=0:=by omega
     have hmod:(-(M:Int)).tmod 10=0:=by rw [Int.neg_tmod,show(M:Int).tmod 10=(M:Int) % 10 from rfl,hz'];rfl
     rw [hz'] at HO HR
     clear hz hz'
     go_wp2_with (at_builtin;refine wpList_app rfl (.tmp 18) (.tmp 21) 32 rfl .u32 117 Tryz.underlying32 4 u32_info j0i3 (w.heap.size+2) _ t (d10 N) rfl HO.out (some ⟨wr.heap.size,0,none⟩) 1 1 (fun _=>d10 N t) rfl HR.out (fun h=>by cases h) j0i3 jb6b ?_;intro v2 w2 hown2 hb2 hsz2)
     have HS:=Lib.hid (HI.out.step hown2 hb2 hsz2 htt)
     clear hown2 hb2 hsz2 HO HR
     go_wp2
     go_roundw
     case rel=>exact⟨t+1,by rw [← HST.out];rfl,HS.out⟩
     case measure=>simp [intOf] <;> omega
    ·have hz':(0:Int)<(M:Int) % 10:=by omega
     have hmod:(-(M:Int)).tmod 10 = -((M:Int) % 10):=by rw [Int.neg_tmod];rfl
     have hz2:(M:Int) % 10<10 := j0i3
     have hmn : -(-((M:Int) % 10))=(M:Int) % 10 := j0i3
     have hlt : -((M:Int) % 10)<0 := j0i3
     clear hz
     go_wp2_with (at_builtin;refine wpList_app rfl (.tmp 18) (.tmp 21) 32 rfl .u32 117 Tryz.underlying32 4 u32_info j0i3 (w.heap.size+2) _ t (d10 N) rfl HO.out (some ⟨wr.heap.size,0,none⟩) 1 1 (fun _=>d10 N t) rfl HR.out (fun h=>by cases h) j0i3 jb6b ?_;intro v2 w2 hown2 hb2 hsz2)
     have HS:=Lib.hid (HI.out.step hown2 hb2 hsz2 htt)
     clear hown2 hb2 hsz2 HO HR
     go_wp2
     go_roundw
     case rel=>exact⟨t+1,by rw [← HST.out];rfl,HS.out⟩
     case measure=>simp [intOf] <;> omega
end Go.Proofs.YtgilnmhejjpleaaGreat
namespace Go.Proofs.YtgilnmhejjpleaaGreat
open Go.RowKit
theorem LimI.alloc_ {k:Nat} {w:World} {v:Value} {Z:Int}(h:LimI k w v Z)(o:Obj):LimI k (w.alloc o) v Z:=h.below (below_new w o)
theorem LimI.drew_ {k:Nat} {w:World} {v:Value} {Z:Int}(h:LimI k w v Z):LimI k w.drew v Z:=h
theorem IsInt.alloc_ {w:World} {v:Value} {Z:Int}(h:IsInt w v Z)(o:Obj):IsInt (w.alloc o) v Z:=h.below (below_new w o)
theorem IsInt.drew_ {w:World} {v:Value} {Z:Int}(h:IsInt w v Z):IsInt w.drew v Z:=h
theorem IsInt.form {w:World} {v:Value} {Z:Int}(h:IsInt w v Z) : ∃b A n c,v = .agg #[.bool b,.slice A n c]∧b=decide (Z<0)∧(0<n↔Z≠0)∧IsInt w (.agg #[.bool b,.slice A n c]) Z:=by
 obtain⟨m,rfl,hm⟩:=h
 obtain⟨A,n,c,rfl,hn,hm⟩:=isNat_form hm
 exact⟨_,A,n,c,rfl,rfl,by omega,_,rfl,hm⟩
theorem li_cmp_is {k l:Nat} {w:World} {v v':Value} {X Y:Int}(r:Int)(hr:cmpI X Y=r)(h:LimI k w v X)(h':LimI l w v' Y)(hk:k≤1000000)(hl:l≤1000000):Calls Tryz.prog 95 #[v,v'] w fun e w'=>e = .returned (.int .i64 r)∧Below w.heap.size w w':=by
 subst hr
 exact li_cmp h h' hk hl
theorem li_rcmp_is {k l:Nat} {w:World} {v v':Value} {X Y:Int}(r:Int)(hr:cmpI X Y=r)(h:LimI k w v X)(h':LimI l w v' Y)(hk:k≤400000)(hl:l≤400000):Calls Tryz.prog 62 #[v,v'] w fun e w'=>e = .returned (.int .i64 r)∧Below w.heap.size w w':=by
 subst hr
 exact li_rcmp h h' hk hl
theorem rof_any(n:Int)(w:World)(h1 : -9223372036854775808≤n)(h2:n≤9223372036854775807):Calls Tryz.prog 98 #[.int .i64 n] w fun e w'=>IntPost w w' e n:=by
 have e:=sg_of n
 have:=rof_ (decide (n<0)) n.natAbs w j0i3 (by rw [e]) (fun h=>by have:=of_decide_eq_false h;omega)
 rw [e] at this
 exact this
theorem i_add {k m:Nat} {X Y:Int}(h:X.natAbs<4294967296 ^ k)(h':Y.natAbs<4294967296 ^ m)(q:Nat)(hk:k<q)(hm:m<q):(X+Y).natAbs<4294967296 ^ q :=
 Nat.lt_of_le_of_lt (Int.natAbs_add_le X Y) (lt_add h h' q hk hm)
theorem i_mul {k m:Nat} {X Y:Int}(h:X.natAbs<4294967296 ^ k)(h':Y.natAbs<4294967296 ^ m)(q:Nat)(hq:k+m≤q):(X*Y).natAbs<4294967296 ^ q:=by
 rw [Int.natAbs_mul]
 exact lt_mul h h' q hq
theorem limI_zero(w:World):LimI 0 w (.agg #[.bool false,.slice none 0 0]) 0:=⟨false,_,0,rfl,lim_nil w,rfl⟩
end Go.Proofs.YtgilnmhejjpleaaGreat
namespace Go.Proofs.YtgilnmhejjpleaaGreat
open Go.RowKit
attribute [local go_sem ↓] Go.wp_at_zero Go.wp_at_succ
theorem li_small_is {k:Nat} {w:World} {v:Value} {X:Int}(h:LimI k w v X)(hk:k≤1000000)(h1 : -9223372036854775808≤X)(h2:X≤9223372036854775807):Calls Tryz.prog 132 #[v] w fun e w'=>e = .returned (.tuple #[.int .i64 X,.bool true])∧Below w.heap.size w w':=by
 have:=li_small h hk
 unfold SmallPost at this
 rw [(small_yes ⟨h1,h2⟩).1,(small_yes ⟨h1,h2⟩).2] at this
 exact this
theorem li_div_is {k l:Nat} {w:World} {v v':Value} {X Y:Int}(q r:Int)(hf:FDiv X Y q r)(h:LimI k w v X)(h':LimI l w v' Y)(hk:k≤1000000)(hl:l≤1000000)(hY:Y≠0) :
 Calls Tryz.prog 123 #[v,v'] w fun e w' => ∃vq vr,e = .returned (.tuple #[vq,vr,.bool true])∧IsInt w' vq q∧IsInt w' vr r∧Below w.heap.size w w' :=
 (li_div h h' hk hl hY).mono fun e w' ⟨vq,vr,q',r',he,hf',hq,hr,hb⟩=>by
  obtain⟨rfl,rfl⟩:=hf.uniq hf'
  exact⟨vq,vr,he,hq,hr,hb⟩
end Go.Proofs.YtgilnmhejjpleaaGreat
namespace Go.Proofs.YtgilnmhejjpleaaGreat
open Go.RowKit
attribute [local go_sem ↓] Go.wp_at_zero Go.wp_at_succ
set_option linter.unusedVariables false
theorem cmpI_gt {X Y:Int}(h:Y<X):cmpI X Y=1:=by unfold cmpI;rw [if_neg j0i3,if_neg j0i3]
end Go.Proofs.YtgilnmhejjpleaaGreat
namespace Go.Proofs.YtgilnmhejjpleaaGreat
def LI(s x0 y0 x y P Q R T:Int):Prop :=
 0≤P∧0≤Q∧0≤R∧1≤T∧x=s*(P*x0 - Q*y0)∧y=s*(T*y0 - R*x0)∧P*T - Q*R=s∧s*s=1∧R≤T∧P≤Q+(T - R)∧1≤P+R∧0≤y∧y≤x
theorem LI.start {x0 y0:Int}(h0:0≤y0)(h:y0≤x0):LI 1 x0 y0 x0 y0 1 0 0 1 :=
 ⟨by omega,by omega,by omega,by omega,by omega,by omega,by omega,by omega,by omega,by omega,by omega,h0,h⟩
theorem LI.back {s x0 y0 x y P Q R T:Int}(h:LI s x0 y0 x y P Q R T):T*x+Q*y=x0∧R*x+P*y=y0:=by
 obtain⟨_,_,_,_,h1,h2,h3,h4,_⟩:=h
 constructor
 ·have:T*x+Q*y=(s*s)*x0:=by subst h1 h2;rw [← h3];grind
  rw [this,h4,Int.one_mul]
 ·have:R*x+P*y=(s*s)*y0:=by subst h1 h2;rw [← h3];grind
  rw [this,h4,Int.one_mul]
theorem LI.step {s x0 y0 x y P Q R T k:Int}(h:LI s x0 y0 x y P Q R T)(hk:1≤k)(hr0:0≤x - k*y)(hr1:x - k*y≤y) :
 LI (-s) x0 y0 y (x - k*y) R T (P+k*R) (Q+k*T):=by
 obtain⟨hP,hQ,hR,hT,h1,h2,h3,h4,h5,h6,h7,h8,h9⟩:=h
 have e1:0≤(k - 1)*R:=Int.mul_nonneg j0i3 hR
 have e2:0≤(k - 1)*(T - R):=Int.mul_nonneg j0i3 j0i3
 have e3:(k - 1)*(T - R)=k*T - k*R - T+R := j1ew
 have e4:(k - 1)*R=k*R - R := j1ew
 have e5:0≤(k - 1)*T:=Int.mul_nonneg j0i3 j0i3
 have e6:(k - 1)*T=k*T - T := j1ew
 refine⟨hR,by omega,by omega,by omega,?_,?_,?_,?_,by omega,by omega,by omega,hr0,hr1⟩
 ·rw [h2];grind
 ·rw [h1,h2];grind
 ·rw [← h3];grind
 ·grind
theorem LI.small {s x0 y0 x y P Q R T k:Int}(h:LI s x0 y0 x y P Q R T)(hk:1≤k)(h62:x0<4611686018427387904)(hc1:Q+k*T≤x - k*y)(hc2:Q+k*T+T≤y - (x - k*y))(hr1:x - k*y≤y):Q+k*T<2147483648:=by
 have hs:=(h.step hk (by have:=h.1;obtain⟨_,hQ,_,hT,_⟩:=h;have:0≤k*T:=Int.mul_nonneg j0i3 j0i3;omega) hr1).back.1
 obtain⟨hP,hQ,hR,hT,_⟩:=h
 have hkT:0≤k*T:=Int.mul_nonneg j0i3 j0i3
 generalize x - k*y=z at *
 generalize hF:Q+k*T=F at *
 have hz:0≤T*z:=Int.mul_nonneg j0i3 j0i3
 have h1:F*y≤x0 := j0i3
 have h2:F*(2*F)≤F*y:=Int.mul_le_mul_of_nonneg_left j0i3 j0i3
 by_cases hlt:F<2147483648
 ·exact hlt
 ·exfalso
  have hge:2147483648≤F := j0i3
  have h3:2147483648*2147483648≤F*F:=Int.mul_le_mul hge hge j0i3 j0i3
  have h4:F*(2*F)=2*(F*F) := j1ew
  omega
theorem LI.truly {s x0 y0 x y P Q R T D a0 b0:Int}(h:LI s x0 y0 x y P Q R T)(hPQ:P≤Q)(hR1:1≤R)(hD:1≤D)(ha:0≤a0∧a0<D)(hb:0≤b0∧b0<D)(hc1:T≤y)(hc2:T+Q≤x - y) :
 ∃a b:Int,a=s*(P*(x0*D+a0) - Q*(y0*D+b0))∧b=s*(T*(y0*D+b0) - R*(x0*D+a0))∧0≤b∧b<a∧T*a+Q*b=x0*D+a0∧R*a+P*b=y0*D+b0∧a≤y0*D+b0:=by
 obtain⟨hP,hQ,hR,hT,h1,h2,h3,h4,h5,h6,h7,h8,h9⟩:=h
 obtain⟨ha0,ha1⟩:=ha
 obtain⟨hb0,hb1⟩:=hb
 refine⟨_,_,rfl,rfl,?_⟩
 have ea:s*(P*(x0*D+a0) - Q*(y0*D+b0))=x*D+s*(P*a0 - Q*b0):=by rw [h1];grind
 have eb:s*(T*(y0*D+b0) - R*(x0*D+a0))=y*D+s*(T*b0 - R*a0):=by rw [h2];grind
 have hback1:T*(s*(P*(x0*D+a0) - Q*(y0*D+b0)))+Q*(s*(T*(y0*D+b0) - R*(x0*D+a0)))=x0*D+a0:=by
  have:T*(s*(P*(x0*D+a0) - Q*(y0*D+b0)))+Q*(s*(T*(y0*D+b0) - R*(x0*D+a0)))=s*(P*T - Q*R)*(x0*D+a0) := j1ew
  rw [this,h3,h4,Int.one_mul]
 have hback2:R*(s*(P*(x0*D+a0) - Q*(y0*D+b0)))+P*(s*(T*(y0*D+b0) - R*(x0*D+a0)))=y0*D+b0:=by
  have:R*(s*(P*(x0*D+a0) - Q*(y0*D+b0)))+P*(s*(T*(y0*D+b0) - R*(x0*D+a0)))=s*(P*T - Q*R)*(y0*D+b0) := j1ew
  rw [this,h3,h4,Int.one_mul]
 have hs:s=1∨s = -1:=by
  have:(s - 1)*(s+1)=0 := j1ew
  rcases Int.mul_eq_zero.1 this with h | h
  ·exact .inl j0i3
  ·exact .inr j0i3
 have p1:0≤T*b0∧T*b0≤T*(D - 1):=⟨Int.mul_nonneg j0i3 hb0,Int.mul_le_mul_of_nonneg_left j0i3 j0i3⟩
 have p2:0≤R*a0∧R*a0≤R*(D - 1):=⟨Int.mul_nonneg hR ha0,Int.mul_le_mul_of_nonneg_left j0i3 hR⟩
 have p3:R*(D - 1)≤T*(D - 1):=Int.mul_le_mul_of_nonneg_right h5 j0i3
 have p4:0≤P*a0∧P*a0≤P*(D - 1):=⟨Int.mul_nonneg hP ha0,Int.mul_le_mul_of_nonneg_left j0i3 hP⟩
 have p5:0≤Q*b0∧Q*b0≤Q*(D - 1):=⟨Int.mul_nonneg hQ hb0,Int.mul_le_mul_of_nonneg_left j0i3 hQ⟩
 have p6:P*(D - 1)≤Q*(D - 1):=Int.mul_le_mul_of_nonneg_right hPQ j0i3
 have p7:T*D≤y*D:=Int.mul_le_mul_of_nonneg_right hc1 j0i3
 have p8:(T+Q)*D≤(x - y)*D:=Int.mul_le_mul_of_nonneg_right hc2 j0i3
 have q1:T*(D - 1)=T*D - T := j1ew
 have q2:Q*(D - 1)=Q*D - Q := j1ew
 have q3:(T+Q)*D=T*D+Q*D := j1ew
 have q4:(x - y)*D=x*D - y*D := j1ew
 have hb':0≤y*D+s*(T*b0 - R*a0):=by
  rcases hs with rfl | rfl
  ·rw [Int.one_mul];omega
  ·rw [Int.neg_mul,Int.one_mul];omega
 have hab:y*D+s*(T*b0 - R*a0)<x*D+s*(P*a0 - Q*b0):=by
  rcases hs with rfl | rfl
  ·rw [Int.one_mul,Int.one_mul];omega
  ·rw [Int.neg_mul,Int.one_mul,Int.neg_mul,Int.one_mul];omega
 rw [← ea,← eb] at hab
 rw [← eb] at hb'
 refine⟨hb',hab,hback1,hback2,?_⟩
 generalize s*(P*(x0*D+a0) - Q*(y0*D+b0))=a at *
 generalize s*(T*(y0*D+b0) - R*(x0*D+a0))=b at *
 have r1:1*a≤R*a:=Int.mul_le_mul_of_nonneg_right hR1 j0i3
 have r2:0≤P*b:=Int.mul_nonneg hP hb'
 omega
theorem gcd_same {s P Q R T A B a b:Int}(ha:a=s*(P*A - Q*B))(hb:b=s*(T*B - R*A))(hA:T*a+Q*b=A)(hB:R*a+P*b=B):Int.gcd a b=Int.gcd A B:=by
 have d1:(Int.gcd a b:Int)∣A:=by
  rw [← hA]
  exact Int.dvd_add (Int.dvd_mul_of_dvd_right (Int.gcd_dvd_left ..)) (Int.dvd_mul_of_dvd_right (Int.gcd_dvd_right ..))
 have d2:(Int.gcd a b:Int)∣B:=by
  rw [← hB]
  exact Int.dvd_add (Int.dvd_mul_of_dvd_right (Int.gcd_dvd_left ..)) (Int.dvd_mul_of_dvd_right (Int.gcd_dvd_right ..))
 have d3:(Int.gcd A B:Int)∣a:=by
  rw [ha]
  exact Int.dvd_mul_of_dvd_right (Int.dvd_sub (Int.dvd_mul_of_dvd_right (Int.gcd_dvd_left ..)) (Int.dvd_mul_of_dvd_right (Int.gcd_dvd_right ..)))
 have d4:(Int.gcd A B:Int)∣b:=by
  rw [hb]
  exact Int.dvd_mul_of_dvd_right (Int.dvd_sub (Int.dvd_mul_of_dvd_right (Int.gcd_dvd_right ..)) (Int.dvd_mul_of_dvd_right (Int.gcd_dvd_left ..)))
 exact Nat.dvd_antisymm (Int.natCast_dvd_natCast.1 (Int.dvd_coe_gcd d1 d2)) (Int.natCast_dvd_natCast.1 (Int.dvd_coe_gcd d3 d4))
end Go.Proofs.YtgilnmhejjpleaaGreat
namespace Go.Proofs.YtgilnmhejjpleaaGreat
theorem limb_at : ∀ (i:Nat) (f:Nat→Nat) (n:Nat),(∀j,j<n→f j<4294967296)→num 4294967296 f n / 4294967296 ^ i % 4294967296=limbOf f n i
 | 0,f,n,hf=>by
   rcases Nat.eq_zero_or_pos n with h | h
   ·subst h;simp [num,limbOf]
   ·rw [Nat.pow_zero,Nat.div_one,num_first h,Nat.add_mul_mod_self_left,Nat.mod_eq_of_lt (hf 0 h)]
    unfold limbOf;rw [if_pos h]
 |i+1,f,n,hf=>by
  rcases Nat.eq_zero_or_pos n with h | h
  ·subst h;simp [num,limbOf]
  ·have e:num 4294967296 f n / 4294967296 ^ (i+1)=num 4294967296 (fun j=>f (j+1)) (n - 1) / 4294967296 ^ i:=by
    rw [Nat.pow_succ,Nat.mul_comm,← Nat.div_div_eq_div_mul,num_first h,Nat.add_mul_div_left _ _ j0i3,Nat.div_eq_of_lt (hf 0 h),Nat.zero_add]
   rw [e,limb_at i _ (n - 1) (fun j hj=>hf (j+1) j0i3)]
   unfold limbOf
   by_cases hi:i<n - 1
   ·rw [if_pos hi,if_pos j0i3]
   ·rw [if_neg hi,if_neg j0i3]
theorem limb_split(i:Nat)(f:Nat→Nat)(n:Nat)(hf : ∀j,j<n→f j<4294967296) :
 num 4294967296 f n / 4294967296 ^ i=limbOf f n i+4294967296*(num 4294967296 f n / 4294967296 ^ (i+1)):=by
 have h:=limb_at i f n hf
 rw [Nat.pow_succ,← Nat.div_div_eq_div_mul]
 omega
theorem window_num {f:Nat→Nat} {n s:Nat}(hf : ∀j,j<n→f j<4294967296)(hN:num 4294967296 f n / 2 ^ s<4611686018427387904) :
 (limbOf f n (s / 32)+limbOf f n (s / 32+1)*4294967296) / 2 ^ (s % 32)+limbOf f n (s / 32+2)*2 ^ (64 - s % 32)=num 4294967296 f n / 2 ^ s∧
 (limbOf f n (s / 32)+limbOf f n (s / 32+1)*4294967296) / 2 ^ (s % 32)<2 ^ (64 - s % 32):=by
 have h0:=limbOf_lt hf (s / 32)
 have h1:=limbOf_lt hf (s / 32+1)
 have e0:=limb_split (s / 32) f n hf
 have e1:=limb_split (s / 32+1) f n hf
 have e2:=limb_split (s / 32+1+1) f n hf
 have hs:s % 32<32:=Nat.mod_lt _ j0i3
 have es:2 ^ s=4294967296 ^ (s / 32)*2 ^ (s % 32):=by
  rw [show(4294967296:Nat)=2 ^ 32 from by decide,← Nat.pow_mul,← Nat.pow_add]
  congr 1
  omega
 have hS:2 ^ (s % 32)*2 ^ (64 - s % 32)=18446744073709551616:=by
  rw [← Nat.pow_add,show s % 32+(64 - s % 32)=64 from j0i3]
 have hSl:2 ^ (s % 32)≤2147483648:=Nat.le_trans (Nat.pow_le_pow_right j0i3 (show s % 32≤31 by omega)) jpu1
 have hS0:0<2 ^ (s % 32):=Nat.pow_pos j0i3
 rw [es,← Nat.div_div_eq_div_mul] at hN ⊢
 rw [show s / 32+2=s / 32+1+1 from rfl]
 generalize 2 ^ (s % 32)=S at *
 generalize 2 ^ (64 - s % 32)=T at *
 generalize limbOf f n (s / 32)=l0 at *
 generalize limbOf f n (s / 32+1)=l1 at *
 generalize limbOf f n (s / 32+1+1)=l2 at *
 generalize num 4294967296 f n / 4294967296 ^ (s / 32+1+1+1)=M3 at *
 generalize num 4294967296 f n / 4294967296 ^ (s / 32+1+1)=M2 at *
 generalize num 4294967296 f n / 4294967296 ^ (s / 32+1)=M1 at *
 generalize num 4294967296 f n / 4294967296 ^ (s / 32)=M at *
 have hM:M<4611686018427387904*S:=(Nat.div_lt_iff_lt_mul hS0).1 hN
 have h3:M3=0 := j0i3
 subst h3
 have eM:M=l0+l1*4294967296+S*(l2*T):=by
  have:S*(l2*T)=l2*18446744073709551616:=by rw [← hS,← Nat.mul_assoc,Nat.mul_comm S l2,Nat.mul_assoc]
  omega
 constructor
 ·rw [eM,Nat.add_mul_div_left _ _ hS0]
 ·rw [Nat.div_lt_iff_lt_mul hS0,Nat.mul_comm T,hS]
  omega
theorem window_top {f:Nat→Nat} {k z:Nat}(hk:2≤k)(hf : ∀j,j<k+1→f j<4294967296)(hz:z<32)(h2:f k*2 ^ z<4294967296) :
 num 4294967296 f (k+1) / 2 ^ (32*(k+1) - z - 62)<4611686018427387904:=by
 have hl:=num_lt (B:=4294967296) (f:=f) j0i3 k (fun j hj=>hf j j0i3)
 have hp:0<2 ^ z:=Nat.pow_pos j0i3
 have e1:(4294967296:Nat)=2 ^ (32 - z)*2 ^ z:=by rw [← Nat.pow_add,show 32 - z+z=32 from j0i3]
 have h3:f k+1≤2 ^ (32 - z):=by
  rw [e1] at h2
  have:=Nat.lt_of_mul_lt_mul_right h2
  omega
 have h4:num 4294967296 f (k+1)<2 ^ (32 - z)*4294967296 ^ k:=by
  rw [num_succ]
  have:(f k+1)*4294967296 ^ k≤2 ^ (32 - z)*4294967296 ^ k:=Nat.mul_le_mul_right _ h3
  rw [Nat.add_mul,Nat.one_mul] at this
  omega
 rw [Nat.div_lt_iff_lt_mul (Nat.pow_pos j0i3),show(4611686018427387904:Nat)=2 ^ 62 from by decide,← Nat.pow_add]
 refine Nat.lt_of_lt_of_le h4 ?_
 rw [show(4294967296:Nat)=2 ^ 32 from by decide,← Nat.pow_mul,← Nat.pow_add]
 exact Nat.pow_le_pow_right j0i3 j0i3
theorem or_win(a b T k:Nat)(hT:T=2 ^ k)(ha:a<T)(hb:a+b*T<18446744073709551616):Go.bits Go.BinOp.or Go.IntKind.u64 (a:Int) ((b*T:Nat):Int)=((a+b*T:Nat):Int):=by
 subst hT
 rw [u64_or_nat _ _ j0i3 j0i3]
 congr 1
 rw [Nat.or_comm,Nat.add_comm,Nat.mul_comm b]
 exact(Nat.two_pow_add_eq_or_of_lt ha b).symm
end Go.Proofs.YtgilnmhejjpleaaGreat
namespace Go.Proofs.YtgilnmhejjpleaaGreat
open Go.RowKit
set_option maxHeartbeats 1000000 in
theorem size_any(x:Int)(w:World)(h1 : -9223372036854775807≤x)(h2:x≤9223372036854775807) :
 Calls Tryz.prog 149 #[.int .i64 x] w fun e w'=>e = .returned (.int .i64 (if x<0 then -x else x))∧w'=w:=by
 by_cases h:x<0
 ·rw [if_pos h]
  go_enter Tryz.func149,Tryz.ntmps149
  go_wp2
  go_ret
  exact⟨rfl,rfl⟩
 ·rw [if_neg h]
  go_enter Tryz.func149,Tryz.ntmps149
  go_wp2
  go_ret
  exact⟨rfl,rfl⟩
set_option maxHeartbeats 2000000 in
theorem window_any(A:Option Addr)(n c s:Nat)(f:Nat→Nat)(w:World)(ha:Rd .u32 w A n f)(hf : ∀j,j<n→f j<4294967296)(hs:s≤281474976710656)(hN:num 4294967296 f n / 2 ^ s<4611686018427387904) :
 Calls Tryz.prog 148 #[.slice A n c,.int .i64 (s:Nat)] w fun e w'=>e = .returned (.int .i64 (num 4294967296 f n / 2 ^ s:Nat))∧∃k,w'=w.drewN k:=by
 obtain⟨hw1,hw2⟩:=window_num hf hN
 have b0:=limbOf_lt hf (s / 32)
 have b1:=limbOf_lt hf (s / 32+1)
 have b2:=limbOf_lt hf (s / 32+2)
 have d0:=fun w' (h:Rd .u32 w' A n f)=>limb_any A n c (s / 32) f w' h hf
 have d1:=fun w' (h:Rd .u32 w' A n f)=>limb_any A n c (s / 32+1) f w' h hf
 have d2:=fun w' (h:Rd .u32 w' A n f)=>limb_any A n c (s / 32+2) f w' h hf
 have hor1:=or_high32 _ _ b0 b1
 have ho:s % 32<32:=Nat.mod_lt _ j0i3
 have hd1:(s:Int) / 32=((s / 32:Nat):Int):=rfl
 have hd2:(s:Int) % 32=((s % 32:Nat):Int):=rfl
 have hid:s / 32≤281474976710656 := j0i3
 generalize limbOf f n (s / 32)=l0 at *
 generalize limbOf f n (s / 32+1)=l1 at *
 generalize limbOf f n (s / 32+2)=l2 at *
 generalize num 4294967296 f n / 2 ^ s=X at *
 generalize s / 32=i at *
 generalize s % 32=o at *
 obtain⟨lo,hlo⟩ : ∃lo,lo=(l0+l1*4294967296):=⟨_,rfl⟩
 rw [← hlo] at hor1 hw1 hw2
 obtain⟨a,hae⟩ : ∃a,a=lo / 2 ^ o:=⟨_,rfl⟩
 rw [← hae] at hw1 hw2
 have hor2:=or_win a l2 (2 ^ (64 - o)) (64 - o) rfl hw2 j0i3
 have hpc:((l2*2 ^ (64 - o):Nat):Int)=(l2:Int)*2 ^ (64 - o):=by rw [Int.natCast_mul,Int.natCast_pow];rfl
 rw [hw1,hpc] at hor2
 have hT:IntKind.u64.wrap ((l2:Int)*2 ^ (64 - o))=(l2:Int)*2 ^ (64 - o):=by
  rw [← hpc]
  exact IntWalk.u64_in _ j0i3
 have hsa:(lo:Int) / 2 ^ o=(a:Int):=by
  rw [hae,show((2:Int) ^ o)=((2 ^ o:Nat):Int) from by rw [Int.natCast_pow];rfl]
  rfl
 have h64:((64:Int) - (o:Int)).toNat=64 - o := j0i3
 have hX:(X:Int)<4611686018427387904 := j0i3
 have D0:=Lib.hid d0
 have D1:=Lib.hid d1
 have D2:=Lib.hid d2
 have HA:=Lib.hid ha
 clear hpc hf ha d0 d1 d2 hN hae hlo hw2
 go_enter Tryz.func148,Tryz.ntmps148
 go_wp2_with fail
 refine(D0.out _ HA.out).mono ?_
 rintro e w' ⟨rfl,rfl⟩
 go_wp2_with fail
 refine(D1.out _ HA.out).mono ?_
 rintro e w' ⟨rfl,rfl⟩
 have hi2:IntKind.i64.wrap ((i:Int)+2)=(i:Int)+2:=IntWalk.i64_in _ j0i3
 have hi3:IntKind.i64.wrap (64 - (o:Int))=64 - (o:Int):=IntWalk.i64_in _ j0i3
 have hi4:IntKind.i64.wrap (X:Int)=(X:Int):=IntWalk.i64_in _ j0i3
 go_wp2
 go_quiet ((go_at_call 144;exact Calls.quiet_of_same (D2.out _ HA.out)))
 go_wp2
 go_ret
 exact⟨rfl,_,rfl⟩
end Go.Proofs.YtgilnmhejjpleaaGreat
