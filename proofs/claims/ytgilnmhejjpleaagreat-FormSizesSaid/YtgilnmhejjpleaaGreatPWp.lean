/- Contracts of the document's own whole numbers: Of. -/
import Derived.Test.YtgilnmhejjpleaaGreatPWi
import Derived.IntWalk
namespace Go.Proofs.YtgilnmhejjpleaaGreat
open Go.RowKit
attribute [local go_sem ↓] Go.wp_at_zero Go.wp_at_succ
theorem jcl {P:Prop}(h:P:=by repeat (first | with_reducible assumption | (with_reducible refine Hid.out ?_; with_reducible assumption) | (with_reducible apply Rd.drew_) | (with_reducible refine Rd.alloc_ ?_ _) | ((with_reducible apply Rd.below); rotate_left; (with_reducible assumption)))):P:=h
theorem jde {P:Prop}(h:P:=by repeat (first | with_reducible assumption | (with_reducible refine Hid.out ?_; with_reducible assumption) | ((with_reducible refine Blk.new _ _ ?_ _ _) <;> (simp; done)) | (with_reducible apply Blk.drew_) | (with_reducible apply Lim.drew_) | (with_reducible apply IsNat.drew_) | (with_reducible refine Lim.alloc_ ?_ _) | (with_reducible refine IsNat.alloc_ ?_ _) | (with_reducible refine Blk.alloc_ ?_ _) | (with_reducible apply Blk.own2) | (with_reducible refine Blk.other2 ?_ j0a) | (with_reducible apply IsNat.other2) | ((with_reducible apply Blk.below); rotate_left; (with_reducible assumption)) | ((with_reducible apply Lim.below); rotate_left; (with_reducible assumption)) | ((with_reducible apply IsNat.below); rotate_left; (with_reducible assumption)))):P:=h
theorem jdo {P:Prop}(h:P:=by repeat (first | with_reducible assumption | (with_reducible refine Hid.out ?_; with_reducible assumption) | ((with_reducible refine lit_one _ _ ?_ 10 _ rfl j0a) <;> (simp; done)) | (with_reducible apply Lim.drew_) | (with_reducible refine Lim.alloc_ ?_ _) | ((with_reducible apply Lim.below); rotate_left; (with_reducible assumption)))):P:=h
def d10(N j:Nat):Nat:=N / 10 ^ j % 10
theorem d10_lt(N j:Nat):d10 N j<10:=Nat.mod_lt _ j0a
def OfInv(w wr:World)(neg:Bool)(v:Value)(N t:Nat):Prop :=
 Own .u32 117 wr (w.heap.size+2) v t (d10 N)∧Blk wr w.heap.size 34 #[.bool false,.slice none 0 0]∧Blk wr (w.heap.size+1) 34 #[.bool neg,.slice none 0 0]∧Below w.heap.size w wr∧w.heap.size+2≤wr.heap.size∧t≤1000000
theorem div_step(N t:Nat):N / 10 ^ t / 10=N / 10 ^ (t+1):=by rw [Nat.div_div_eq_div_mul,Nat.pow_succ]
theorem OfInv.step {w wr w2:World} {neg:Bool} {v v2:Value} {N t:Nat} {x:Int}(h:OfInv w wr neg v N t)(h2:Own .u32 117 w2 (w.heap.size+2) v2 (t+1) (appF (d10 N) t (fun _=>d10 N t)))(hb:Below (w.heap.size+2) (wr.alloc (.cells #[.int .u32 x] 117)) w2)(hs:(wr.alloc (.cells #[.int .u32 x] 117)).heap.size≤w2.heap.size)(ht:t<20):OfInv w w2 neg v2 N (t+1):=by
 obtain⟨h1,k0,k1,b1,s1,_⟩:=h
 simp at hs
 have hk0:=k0.alloc_ (.cells #[.int .u32 x] 117)
 have hk1:=k1.alloc_ (.cells #[.int .u32 x] 117)
 refine⟨h2.congr fun j hj=>?_,(hb.block _ j0a).trans hk0,(hb.block _ j0a).trans hk1,(Below.alloc_ b1 j0a _).trans (hb.mono j0a),by omega,by omega⟩
 unfold appF
 by_cases hjt:j<t
 ·rw [if_pos hjt]
 ·rw [if_neg hjt]
  obtain rfl:j=t := j0a
  rfl
theorem cell_new {w:World} {p:Addr} {v:Value}(h:w.cell? p=some v)(o:Obj):(w.alloc o).cell? p=some v:=by
 rw [World.cell?_alloc_old w o p (Nat.ne_of_lt (block_lt_of_cell h))]
 exact h
theorem few_digits {N t:Nat}(hN:N<18446744073709551616)(h:N / 10 ^ t≠0):t<20:=by
 rcases Nat.lt_or_ge t 20 with hlt | hge
 ·exact hlt
 ·exfalso
  have h1:(10:Nat) ^ 20≤10 ^ t:=Nat.pow_le_pow_right j0a hge
  have h2:N<10 ^ 20:=Nat.lt_of_lt_of_le hN j0e
  exact h (Nat.div_eq_of_lt (Nat.lt_of_lt_of_le h2 h1))
theorem Rd.alloc_ {K:IntKind} {w:World} {A:Option Addr} {n:Nat} {f:Nat→Nat}(h:Rd K w A n f)(o:Obj):Rd K (w.alloc o) A n f:=h.below (below_new w o)
theorem Rd.drew_ {K:IntKind} {w:World} {A:Option Addr} {n:Nat} {f:Nat→Nat}(h:Rd K w A n f):Rd K w.drew A n f:=h
theorem of_digit(N i:Nat):N / 10 ^ (i+1)*10+d10 N i=N / 10 ^ i:=by
 unfold d10
 rw [← div_step]
 omega
def OfInv2(w wr:World)(neg:Bool)(v m:Value)(N t i:Nat):Prop :=
 (∃A c,v = .slice A t c∧Rd .u32 wr A t (d10 N))∧Blk wr w.heap.size 34 #[.bool false,.slice none 0 0]∧Blk wr (w.heap.size+1) 34 #[.bool neg,m]∧IsNat wr m (N / 10 ^ i)∧Below w.heap.size w wr∧w.heap.size+2≤wr.heap.size
theorem own_slice {w:World} {base n:Nat} {v:Value} {f:Nat→Nat}(h:Own .u32 117 w base v n f) : ∃A c,v = .slice A n c∧Rd .u32 w A n f:=by
 rcases h.form with ⟨rfl,rfl⟩ | ⟨g,c,rfl,_⟩
 ·exact⟨none,0,rfl,Rd.zero⟩
 ·exact⟨_,c,rfl,h.rd_⟩
set_option maxRecDepth 100000 in
set_option maxHeartbeats 4000000 in
theorem rof_(b:Bool)(N:Nat)(w:World)(hN:N≤9223372036854775808)(hb0:decide (sg b N<0)=b)(hP:b=false→N≤9223372036854775807) :
 Calls Tryz.prog 98 #[.int .i64 (sg b N)] w fun e w'=>IntPost w w' e (sg b N):=by
 have HN1:=Lib.hid hN
 have HN2:Hid (N<18446744073709551616) := j03
 have HB0:=Lib.hid hb0
 have HP:=Lib.hid hP
 have hg0:(sg b N<0)=(b=true):=by rw [← decide_eq_true_iff (p:=sg b N<0),hb0]
 have hgd:decide (b=true)=b := jbp
 clear hN hb0 hP
 go_enter Tryz.func98,Tryz.ntmps98
 go_wp2
 clear hg0 hgd
 go_loopw [0,4] (fun v0 v4 wr => ∃t:Nat,v0 = .int .i64 (sg b (N / 10 ^ t))∧OfInv w wr b v4 N t) (fun v0 _ _=>(intOf v0).natAbs)
 case atStart=>exact⟨0,by simp,Own.nil,(Blk.new w w.heap.size rfl _ _).alloc_ _,Blk.new _ _ j0b _ _,Below.alloc_ (Below.alloc_ (Below.refl _ _) (Nat.le_refl _) _) j0b _,by simp,by omega⟩
 case round =>
  obtain⟨t,rfl,hinv⟩:=hrel
  have HI:=Lib.hid hinv
  clear hinv
  by_cases hM:N / 10 ^ t=0
  ·have HI20:=HI.out.2.2.2.2.2
   have hlen:Hid (∃A c,u4 = .slice A t c∧Rd .u32 wr A t (d10 N)):=own_slice HI.out.1
   obtain⟨A,c,rfl,hrd⟩:=hlen.out
   have HRd:=Lib.hid hrd
   have HK0:=Lib.hid HI.out.2.1
   have HK1:=Lib.hid HI.out.2.2.1
   have HB:=Lib.hid HI.out.2.2.2.1
   have hws:=HI.out.2.2.2.2.1
   have HM:=Lib.hid hM
   have hM':sg b (N / 10 ^ t)=0:=(sg_zero _ _).2 hM
   have htt:t≤1000000:=HI20
   clear hrd hlen HI hM
   rw [hM']
   clear hM'
   go_wp2
   obtain⟨wo,rfl⟩ : ∃wo:World,wo=wr:=⟨_,rfl⟩
   go_loopw [6] (fun v6 wr => ∃ (i:Nat) (m:Value),v6 = .int .i64 ((i:Int) - 1)∧i≤t∧OfInv2 w wr b (.slice A t c) m N t i) (fun v6 _=>(intOf v6+1).toNat)
   case atStart=>exact⟨t,.slice none 0 0,rfl,Nat.le_refl _,⟨A,c,rfl,HRd.out⟩,HK0.out,HK1.out,by rw [HM.out];exact isNat_nil _,HB.out,hws⟩
   case round =>
    clear HRd HK0 HK1 HB HM hws
    obtain⟨i,m,rfl,hit,hinv⟩:=hrel
    by_cases h0:0<i
    ·obtain⟨i,rfl⟩ : ∃j,i=j+1:=⟨i - 1,by omega⟩
     obtain⟨⟨A',c',e',hrd⟩,k0,k1,hm,hb,hws⟩:=hinv
     injection e' with e1 _ e3
     subst e1 e3
     obtain⟨ad,rfl,hcell⟩:=hrd i j0a
     obtain⟨MA,mn,mc,rfl,_,hm⟩:=isNat_form hm
     rw [show((i+1:Nat):Int) - 1=(i:Int) from j0a]
     have HQ:Hid (N / 10 ^ (i+1)<4294967296 ^ 2):=by show _<_;exact Nat.lt_of_le_of_lt (Nat.div_le_self _ _) (Nat.lt_of_lt_of_le HN2.out j0e)
     have LM:=hm.lim HQ.out
     have HQ3:Hid (N / 10 ^ (i+1)*10<4294967296 ^ 3):=by
      show _<_
      have:=HQ.out
      rw [show(4294967296:Nat) ^ 3=4294967296 ^ 2*4294967296 from j0e]
      omega
     have HTD:=Lib.hid (of_digit N i)
     have hd:=d10_lt N i
     generalize hdd:d10 N i=d at *
     have HDD:=Lib.hid hdd
     clear hdd
     generalize N / 10 ^ (i+1)=Q at *
     have hq1:=k1.cell1
     have fz1:=k1.frozen 1
     have hi0:(0:Int)≤(i:Int) := j0a
     have hit':(i:Int)<(t:Int) := j0a
     have hne:w.heap.size+1<wr.heap.size := j0a
     have K0:=Lib.hid k0
     have K1:=Lib.hid k1
     have HRD:=Lib.hid hrd
     have HB:=Lib.hid hb
     have hqA:=fun o=>cell_new hq1 o
     have hqB:=fun o o'=>cell_new (cell_new hq1 o) o'
     have hcA:=fun o=>cell_new hcell o
     have hcB:=fun o o'=>cell_new (cell_new hcell o) o'
     clear k0 k1 hrd hb hm
     go_wp2
     go_region_with
      (first
       |(go_at_call 108;((with_reducible refine Calls.mono (rMul (k:=2) (m:=1) (N:=Q) (M:=10) jde jdo j0a j0a) ?_));rintro e w3 ⟨v3,rfl,h3,hb3⟩;obtain⟨A3,n3,c3,rfl,hn3,h3⟩:=isNat_form h3;have L3:=h3.lim HQ3.out;have k3_0:=Blk.below (g:=w.heap.size) (t:=34) (cs := #[_,_]) jde hb3;have k3_1:=Blk.below (g:=w.heap.size+1) (t:=34) (cs := #[_,_]) jde hb3;have r3:=Rd.below (K := .u32) (f:=d10 N) (n:=t) (A:=some ad) jcl hb3;have hcell3:=r3.at_ (j:=i) j0a;rw [HDD.out] at hcell3;have hcC3:=fun o=>cell_new hcell3 o;have R3:=Lib.hid r3;clear r3;have q3_1:=k3_1.cell1;have fz3:=k3_1.frozen 1;have zz3:w.heap.size+1<w3.heap.size := jbx;have K3_0:=Lib.hid k3_0;have K3_1:=Lib.hid k3_1;clear k3_0 k3_1)
       |(go_at_call 99;((with_reducible refine Calls.mono (rAdd (k:=3) (m:=1) (N:=Q*10) (M:=d) jdo (by repeat (first | with_reducible assumption | (with_reducible refine Hid.out ?_;with_reducible assumption) | ((with_reducible refine lit_one _ _ ?_ d _ rfl j0a) <;> (simp;done)) | (with_reducible apply Lim.drew_) | (with_reducible refine Lim.alloc_ ?_ _) | ((with_reducible apply Lim.below);rotate_left;(with_reducible assumption)))) j0a j0a) ?_));rintro e w4 ⟨v4,rfl,h4,hb4⟩;obtain⟨A4,n4,c4,rfl,hn4,h4⟩:=isNat_form h4;have k4_0:=Blk.below (g:=w.heap.size) (t:=34) (cs := #[_,_]) jde hb4;have k4_1:=Blk.below (g:=w.heap.size+1) (t:=34) (cs := #[_,_]) jde hb4;have r4:=Rd.below (K := .u32) (f:=d10 N) (n:=t) (A:=some ad) jcl hb4;have hcell4:=r4.at_ (j:=i) j0a;rw [HDD.out] at hcell4;have hcC4:=fun o=>cell_new hcell4 o;have R4:=Lib.hid r4;clear r4;have q4_1:=k4_1.cell1;have fz4:=k4_1.frozen 1;have zz4:w.heap.size+1<w4.heap.size:=(by have hz:=hb4.size;(try simp at hz);omega);have K4_0:=Lib.hid k4_0;have K4_1:=Lib.hid k4_1;clear k4_0 k4_1))
     all_goals
      have hB4:=Lib.hid (show Below w.heap.size w w4 from(by repeat first | exact HB.out | exact Below.refl _ _ | (with_reducible refine Below.trans ?_ (Below.mono j0c ?_)) | (with_reducible refine Below.alloc_ ?_ ?_ _) | (with_reducible refine Below.drew ?_) | (with_reducible refine Below.set2 ?_ ?_) | exact Nat.le_refl _ | omega | focus (simp <;> omega)))
      have HINV:Hid (OfInv2 w (w4.setCell ⟨w.heap.size+1,1,none⟩ (.slice A4 n4 c4)) b (.slice (some ad) t c) (.slice A4 n4 c4) N t i):=by
       refine⟨⟨_,_,rfl,R4.out.apart q4_1 (fun z e=>by cases e) _⟩,K4_0.out.other j0a _ _,K4_1.out.set_ 1 _,?_,hB4.out.setCell j0b _,by simp;omega⟩
       have:=h4.apart q4_1 (fun z e=>by cases e) (.slice A4 n4 c4)
       rwa [HTD.out] at this
      go_wp2
      go_roundw
      case rel=>exact⟨i,_,rfl,by omega,HINV.out⟩
      case measure=>simp [intOf]
    ·obtain rfl:i=0:=by omega
     obtain⟨_,k0,k1,hm,hb,hws⟩:=hinv
     obtain⟨MA,mn,mc,rfl,_,hm⟩:=isNat_form hm
     rw [Nat.pow_zero,Nat.div_one] at hm
     have p1:=k1.cell0
     have q1:=k1.cell1
     obtain⟨p0,q0,r0,s0,t0⟩:=k0.facts2
     have HB:=Lib.hid hb
     have K0:=Lib.hid k0
     clear k0 k1 q0 hb
     go_wp2
     obtain⟨WF,hWF⟩ : ∃W,W=(wr.setCell ⟨w.heap.size,0,none⟩ (.bool b)).setCell ⟨w.heap.size,1,none⟩ (.slice MA mn mc):=⟨_,rfl⟩
     rw [← hWF]
     have kq:Blk WF (w.heap.size) 34 #[.bool b,.slice MA mn mc]:=by rw [hWF];exact K0.out.own2
     have hBF:Below w.heap.size w WF:=by rw [hWF];exact Below.set2 HB.out j0a
     have hI:IsNat WF (.slice MA mn mc) (N):=by rw [hWF];exact hm.other2 K0.out
     have HE:Hid (IntPost w WF (.returned (.agg #[.bool b,.slice MA mn mc])) (sg b N)):=⟨_,rfl,⟨_,by rw [HB0.out],by rw [sg_abs];exact hI⟩,hBF⟩
     have e0:=kq.cell0
     have e1:=kq.cell1
     clear hWF
     exact bodyPost_ret (v := .agg #[.bool b,.slice MA mn mc]) (by simp [results,Tryz.results98,go_sem,e0,e1]) rfl HE.out
  ·have HT20:=Lib.hid (few_digits HN2.out hM)
   have hM1:N / 10 ^ t≤N:=Nat.div_le_self N (10 ^ t)
   have hM1':=Lib.hid hM1
   have HST:=Lib.hid (div_step N t)
   have HD:Hid (N / 10 ^ t % 10=d10 N t):=rfl
   generalize hMM:N / 10 ^ t=M at *
   clear hMM
   have hM0:(1:Int)≤(M:Int) := j0a
   have hM3:(M:Int)≤9223372036854775808:=by have:=HN1.out;omega
   have hM2:M % 10<10:=Nat.mod_lt _ j0a
   have O1:=(HI.out.1).alloc (.cells #[.int .u32 ((M:Int) % 10)] 117)
   have R1:Rd .u32 (wr.alloc (.cells #[.int .u32 ((M:Int) % 10)] 117)) (some ⟨wr.heap.size,0,none⟩) 1 (fun _=>d10 N t):=by
    have:=(row_one (K := .u32) (t:=117) wr (M % 10)).rd0 (Nat.le_refl _)
    rw [← HD.out]
    exact this
   have HO:=Lib.hid O1
   have HR:=Lib.hid R1
   have htt:t<20:=HT20.out
   have hws:w.heap.size+2≤wr.heap.size:=HI.out.2.2.2.2.1
   clear O1 R1 hM hM1
   cases b
   ·have hgn:sg false M=(M:Int):=rfl
    have hM4:(M:Int)≤9223372036854775807:=by
     have:=HP.out rfl
     have:=hM1'.out
     omega
    rw [hgn]
    clear hgn
    go_wp2_with (at_builtin;refine wpList_app rfl (.tmp 18) (.tmp 21) 32 rfl .u32 117 Tryz.underlying32 4 u32_info j0a (w.heap.size+2) _ t (d10 N) rfl HO.out (some ⟨wr.heap.size,0,none⟩) 1 1 (fun _=>d10 N t) rfl HR.out (fun h=>by cases h) j0a j0j ?_;intro v2 w2 hown2 hb2 hsz2)
    have HS:=Lib.hid (HI.out.step hown2 hb2 hsz2 htt)
    clear hown2 hb2 hsz2 HO HR
    go_wp2
    go_roundw
    case rel=>exact⟨t+1,by rw [← HST.out];rfl,HS.out⟩
    case measure=>simp [intOf] <;> omega
   ·have hgn:sg true M = -(M:Int):=rfl
    have hdiv:(-(M:Int)).tdiv 10 = -((M:Int) / 10):=by rw [Int.neg_tdiv];rfl
    rw [hgn]
    clear hgn
    by_cases hz:M % 10=0
    ·have hz':(M:Int) % 10=0:=by omega
     have hmod:(-(M:Int)).tmod 10=0:=by rw [Int.neg_tmod,show(M:Int).tmod 10=(M:Int) % 10 from rfl,hz'];rfl
     rw [hz'] at HO HR
     clear hz hz'
     go_wp2_with (at_builtin;refine wpList_app rfl (.tmp 18) (.tmp 21) 32 rfl .u32 117 Tryz.underlying32 4 u32_info j0a (w.heap.size+2) _ t (d10 N) rfl HO.out (some ⟨wr.heap.size,0,none⟩) 1 1 (fun _=>d10 N t) rfl HR.out (fun h=>by cases h) j0a j0j ?_;intro v2 w2 hown2 hb2 hsz2)
     have HS:=Lib.hid (HI.out.step hown2 hb2 hsz2 htt)
     clear hown2 hb2 hsz2 HO HR
     go_wp2
     go_roundw
     case rel=>exact⟨t+1,by rw [← HST.out];rfl,HS.out⟩
     case measure=>simp [intOf] <;> omega
    ·have hz':(0:Int)<(M:Int) % 10:=by omega
     have hmod:(-(M:Int)).tmod 10 = -((M:Int) % 10):=by rw [Int.neg_tmod];rfl
     have hz2:(M:Int) % 10<10 := j0a
     have hmn : -(-((M:Int) % 10))=(M:Int) % 10 := j0a
     have hlt : -((M:Int) % 10)<0 := j0a
     clear hz
     go_wp2_with (at_builtin;refine wpList_app rfl (.tmp 18) (.tmp 21) 32 rfl .u32 117 Tryz.underlying32 4 u32_info j0a (w.heap.size+2) _ t (d10 N) rfl HO.out (some ⟨wr.heap.size,0,none⟩) 1 1 (fun _=>d10 N t) rfl HR.out (fun h=>by cases h) j0a j0j ?_;intro v2 w2 hown2 hb2 hsz2)
     have HS:=Lib.hid (HI.out.step hown2 hb2 hsz2 htt)
     clear hown2 hb2 hsz2 HO HR
     go_wp2
     go_roundw
     case rel=>exact⟨t+1,by rw [← HST.out];rfl,HS.out⟩
     case measure=>simp [intOf] <;> omega
end Go.Proofs.YtgilnmhejjpleaaGreat
namespace Go.Proofs.YtgilnmhejjpleaaGreat
open Go.RowKit
theorem LimI.alloc_ {k:Nat} {w:World} {v:Value} {Z:Int}(h:LimI k w v Z)(o:Obj):LimI k (w.alloc o) v Z:=h.below (below_new w o)
theorem LimI.drew_ {k:Nat} {w:World} {v:Value} {Z:Int}(h:LimI k w v Z):LimI k w.drew v Z:=h
theorem IsInt.alloc_ {w:World} {v:Value} {Z:Int}(h:IsInt w v Z)(o:Obj):IsInt (w.alloc o) v Z:=h.below (below_new w o)
theorem IsInt.form {w:World} {v:Value} {Z:Int}(h:IsInt w v Z) : ∃b A n c,v = .agg #[.bool b,.slice A n c]∧b=decide (Z<0)∧(0<n↔Z≠0)∧IsInt w (.agg #[.bool b,.slice A n c]) Z:=by
 obtain⟨m,rfl,hm⟩:=h
 obtain⟨A,n,c,rfl,hn,hm⟩:=isNat_form hm
 exact⟨_,A,n,c,rfl,rfl,by omega,_,rfl,hm⟩
theorem li_cmp_is {k l:Nat} {w:World} {v v':Value} {X Y:Int}(r:Int)(hr:cmpI X Y=r)(h:LimI k w v X)(h':LimI l w v' Y)(hk:k≤1000000)(hl:l≤1000000):Calls Tryz.prog 95 #[v,v'] w fun e w'=>e = .returned (.int .i64 r)∧Below w.heap.size w w':=by
 subst hr
 exact li_cmp h h' hk hl
theorem rof_any(n:Int)(w:World)(h1 : -9223372036854775808≤n)(h2:n≤9223372036854775807):Calls Tryz.prog 98 #[.int .i64 n] w fun e w'=>IntPost w w' e n:=by
 have e:=sg_of n
 have:=rof_ (decide (n<0)) n.natAbs w j0a (by rw [e]) (fun h=>by have:=of_decide_eq_false h;omega)
 rw [e] at this
 exact this
theorem i_add {k m:Nat} {X Y:Int}(h:X.natAbs<4294967296 ^ k)(h':Y.natAbs<4294967296 ^ m)(q:Nat)(hk:k<q)(hm:m<q):(X+Y).natAbs<4294967296 ^ q :=
 Nat.lt_of_le_of_lt (Int.natAbs_add_le X Y) (lt_add h h' q hk hm)
theorem i_mul {k m:Nat} {X Y:Int}(h:X.natAbs<4294967296 ^ k)(h':Y.natAbs<4294967296 ^ m)(q:Nat)(hq:k+m≤q):(X*Y).natAbs<4294967296 ^ q:=by
 rw [Int.natAbs_mul]
 exact lt_mul h h' q hq
theorem limI_zero(w:World):LimI 0 w (.agg #[.bool false,.slice none 0 0]) 0:=⟨false,_,0,rfl,lim_nil w,rfl⟩
end Go.Proofs.YtgilnmhejjpleaaGreat
namespace Go.Proofs.YtgilnmhejjpleaaGreat
open Go.RowKit
attribute [local go_sem ↓] Go.wp_at_zero Go.wp_at_succ
theorem li_small_is {k:Nat} {w:World} {v:Value} {X:Int}(h:LimI k w v X)(hk:k≤1000000)(h1 : -9223372036854775808≤X)(h2:X≤9223372036854775807):Calls Tryz.prog 132 #[v] w fun e w'=>e = .returned (.tuple #[.int .i64 X,.bool true])∧Below w.heap.size w w':=by
 have:=li_small h hk
 unfold SmallPost at this
 rw [(small_yes ⟨h1,h2⟩).1,(small_yes ⟨h1,h2⟩).2] at this
 exact this
theorem li_div_is {k l:Nat} {w:World} {v v':Value} {X Y:Int}(q r:Int)(hf:FDiv X Y q r)(h:LimI k w v X)(h':LimI l w v' Y)(hk:k≤1000000)(hl:l≤1000000)(hY:Y≠0) :
 Calls Tryz.prog 123 #[v,v'] w fun e w' => ∃vq vr,e = .returned (.tuple #[vq,vr,.bool true])∧IsInt w' vq q∧IsInt w' vr r∧Below w.heap.size w w' :=
 (li_div h h' hk hl hY).mono fun e w' ⟨vq,vr,q',r',he,hf',hq,hr,hb⟩=>by
  obtain⟨rfl,rfl⟩:=hf.uniq hf'
  exact⟨vq,vr,he,hq,hr,hb⟩
end Go.Proofs.YtgilnmhejjpleaaGreat
namespace Go.Proofs.YtgilnmhejjpleaaGreat
open Go.RowKit
attribute [local go_sem ↓] Go.wp_at_zero Go.wp_at_succ
set_option linter.unusedVariables false
theorem cmpI_gt {X Y:Int}(h:Y<X):cmpI X Y=1:=by unfold cmpI;rw [if_neg j0a,if_neg j0a]
end Go.Proofs.YtgilnmhejjpleaaGreat
