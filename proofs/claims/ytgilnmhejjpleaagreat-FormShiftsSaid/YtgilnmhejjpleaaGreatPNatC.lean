/- Merged of Co,Cp,De. -/
import Derived.Test.YtgilnmhejjpleaaGreatPNat0
import Derived.Test.YtgilnmhejjpleaaGreatPNatA
namespace Go.Proofs.YtgilnmhejjpleaaGreat
open Go.RowKit
theorem j6y2 {P:Prop}(h:P:=by simp at hsz2; omega):P:=h
theorem jkha {P:Prop}(h:P:=by show _ = _; omega):P:=h
theorem trimmed_of_low {f:Nat→Nat} {n:Nat}(hf : ∀j,j<n→f j<4294967296)(h:n=0∨4294967296 ^ (n - 1)≤num 4294967296 f n):Trimmed f n:=by
 rcases h with h | h
 ·exact .inl h
 ·by_cases hn:n=0
  ·exact .inl hn
  ·right
   intro h0
   obtain⟨k,rfl⟩ : ∃k,n=k+1:=⟨n - 1,by omega⟩
   simp only [Nat.add_sub_cancel] at h h0
   rw [num_succ,h0] at h
   have:=num_lt (B:=4294967296) (f:=f) j0i3 k fun j hj=>hf j j0i3
   omega
theorem u32_info':(Tryz.prog.info? 117).map (fun i=>(i.zero,i.size,i.bytes))=some (some (.int .u32 0),1,4):=by kernel_rfl
end Go.Proofs.YtgilnmhejjpleaaGreat
namespace Go.Proofs.YtgilnmhejjpleaaGreat
open Go.RowKit
end Go.Proofs.YtgilnmhejjpleaaGreat
namespace Go.Proofs.YtgilnmhejjpleaaGreat
open Go.RowKit
end Go.Proofs.YtgilnmhejjpleaaGreat
namespace Go.Proofs.YtgilnmhejjpleaaGreat
open Go.RowKit
theorem i64_info:(Tryz.prog.info? 3).map (fun i=>(i.zero,i.size,i.bytes))=some (some (.int .i64 0),1,8):=by kernel_rfl
def IsDig(w:World)(v:Value)(N:Nat):Prop :=
 ∃A n c f,v = .slice A n c∧n≤c∧(A=none→c=0)∧Rd .i64 w A n f∧(∀j,j<n→f j<256)∧Trimmed f n∧num 256 f n=N
theorem IsDig.below {w w':World} {v:Value} {N:Nat}(h:IsDig w v N)(hb:Below w.heap.size w w'):IsDig w' v N:=by
 obtain⟨A,n,c,f,h1,h2,h3,h4,h5⟩:=h
 exact⟨A,n,c,f,h1,h2,h3,h4.below hb,h5⟩
def DigPost(w w':World)(e:Ending)(N:Nat):Prop := ∃v,e = .returned v∧IsDig w' v N∧Below w.heap.size w w'
set_option maxHeartbeats 400000 in
theorem rcut_any(A:Option Addr)(n c:Nat)(f:Nat→Nat)(w:World)(hr:Rd .i64 w A n f)(hc:n≤c)(hm:n≤4611686018427387904) :
 Calls Tryz.prog 126 #[.slice A n c] w fun e w'=>e = .returned (.slice A (tlen f n) c)∧w'=w:=by
 go_enter Tryz.func126,Tryz.ntmps126
 go_wp2
 go_loop [0] (fun v => ∃k:Nat,k≤n∧v = .slice A k c∧tlen f k=tlen f n) (fun v=>match v with | .slice _ k _=>k | _=>0)
 case atStart=>exact⟨n,Nat.le_refl _,rfl,rfl⟩
 case round =>
  obtain⟨k,hk,rfl,ht⟩:=hrel
  have HR:=Lib.hid hr
  have HT:=Lib.hid ht
  clear hr ht
  by_cases h0:k=0
  ·subst h0
   go_wp2
   go_ret
   rw [← HT.out]
   exact⟨rfl,rfl⟩
  ·have hp:0<k:=by omega
   obtain⟨ad,rfl,hcell⟩:=HR.out (k - 1) j0i3
   have htl:tlen f k=if f (k - 1)=0 then tlen f (k - 1) else k:=by
    obtain⟨i,rfl⟩ : ∃i,k=i+1:=⟨k - 1,by omega⟩
    simp [tlen]
   by_cases hx:f (k - 1)=0
   ·rw [hx] at hcell
    rw [if_pos hx] at htl
    have HL:Hid (tlen f (k - 1)=tlen f n):=by show _=_;rw [← htl];exact HT.out
    clear hx h0 htl
    go_wp2
    go_round
    case rel=>exact⟨k - 1,by omega,rfl,HL.out⟩
    case measure=>simp;omega
   ·have g2:((f (k - 1):Int) == 0)=false:=by
     rw [beq_eq_false_iff_ne];omega
    rw [if_neg hx] at htl
    have HL:Hid (k=tlen f n):=by show _=_;rw [← htl];exact HT.out
    clear hx h0 htl
    go_wp2
    go_ret
    have e:=HL.out
    exact⟨by rw [← e];rfl,rfl⟩
set_option maxHeartbeats 400000 in
theorem rat_any(A:Option Addr)(n c i:Nat)(f:Nat→Nat)(w:World)(hr:Rd .i64 w A n f) :
 Calls Tryz.prog 134 #[.slice A n c,.int .i64 (i:Nat)] w fun e w'=>e = .returned (.int .i64 ((if i<n then f i else 0:Nat)))∧w'=w:=by
 by_cases h:i<n
 ·obtain⟨ad,rfl,hcell⟩:=hr i h
  rw [if_pos h]
  clear hr
  go_enter Tryz.func134,Tryz.ntmps134
  go_wp2
  go_ret
  exact⟨rfl,rfl⟩
 ·rw [if_neg h]
  clear hr
  go_enter Tryz.func134,Tryz.ntmps134
  go_wp2
  go_ret
  exact⟨rfl,rfl⟩
theorem pow_limb(i:Nat):(4294967296:Nat) ^ i=256 ^ (4*i):=by rw [Nat.pow_mul]
def DigitsInv(wr:World)(base:Nat)(v:Value)(n X N:Nat):Prop :=
 ∃F,Own .i64 3 wr base v n F∧(∀j,j<n→F j<256)∧num 256 F n+X*256 ^ n=N
theorem DigitsInv.step {w2:World} {base n X N:Nat} {v2:Value} {F:Nat→Nat}(h1:Own .i64 3 w2 base v2 (n+1) (appF F n (fun _=>X % 256)))(h2 : ∀j,j<n→F j<256)(h3:num 256 F n+X*256 ^ n=N) :
 DigitsInv w2 base v2 (n+1) (X / 256) N:=by
 refine⟨_,h1,fun j hj=>?_,?_⟩
 ·simp only [appF]
  split
  ·exact h2 j ‹_›
  ·omega
 ·rw [num_succ,num_congr (f':=F) n (fun j hj=>by simp [appF,hj])]
  simp only [appF,Nat.lt_irrefl,if_false]
  rw [Nat.pow_succ,← h3,Nat.add_assoc]
  congr 1
  have e:X=256*(X / 256)+X % 256:=(Nat.div_add_mod X 256).symm
  generalize X / 256=q at *
  generalize X % 256=r at *
  subst e
  rw [Nat.add_mul,Nat.add_comm,Nat.mul_comm (256 ^ n) 256,← Nat.mul_assoc,Nat.mul_comm q 256]
set_option maxHeartbeats 1000000 in
theorem digits_any(A:Option Addr)(n c:Nat)(f:Nat→Nat)(w:World)(ha:Rd .u32 w A n f)(hc:n≤c)(hn:n≤1099511627776)(hf : ∀j,j<n→f j<4294967296) :
 Calls Tryz.prog 105 #[.slice A n c] w fun e w'=>DigPost w w' e (num 4294967296 f n):=by
 have HA:=Lib.hid ha
 have HF:=Lib.hid hf
 clear ha hf
 go_enter Tryz.func105,Tryz.ntmps105
 go_wp2
 go_loopw [3,4] (fun v3 v4 wr => ∃i,i≤n∧v4 = .int .i64 (i:Nat)∧w.heap.size≤wr.heap.size∧DigitsInv wr w.heap.size v3 (4*i) 0 (num 4294967296 f i)∧Below w.heap.size w wr) (fun _ v4 _=>n - (intOf v4).toNat)
 case atStart=>exact⟨0,Nat.zero_le _,rfl,Nat.le_refl _,⟨fun _=>0,Own.nil,fun j hj=>absurd hj j0i3,rfl⟩,Below.refl _ _⟩
 case round =>
  obtain⟨i,hi,rfl,hws,hinv,hbl⟩:=hrel
  by_cases hlt:i<n
  ·obtain⟨ad,rfl,hcell⟩:=(HA.out.below hbl) i hlt
   have hfi:=HF.out i hlt
   have HI:Hid (DigitsInv wr w.heap.size u3 (4*i+0) (f i / 256 ^ 0) (num 4294967296 f (i+1))):=by
    obtain⟨F,o1,o2,o3⟩:=hinv
    refine⟨F,o1,o2,?_⟩
    rw [num_succ,pow_limb,← o3]
    simp
   have HB:=Lib.hid hbl
   clear hinv hbl
   go_wp2
   obtain⟨wo,rfl⟩ : ∃wo:World,wo=wr:=⟨_,rfl⟩
   go_loopw [3,5,6] (fun v3 v5 v6 wr => ∃k X,k≤4∧X=f i / 256 ^ k∧v5 = .int .u32 (X:Nat)∧v6 = .int .i64 (k:Nat)∧w.heap.size≤wr.heap.size∧DigitsInv wr w.heap.size v3 (4*i+k) X (num 4294967296 f (i+1))∧Below w.heap.size w wr) (fun _ _ v6 _=>4 - (intOf v6).toNat)
   case atStart=>exact⟨0,f i,by omega,by simp,rfl,rfl,hws,by simpa using HI.out,HB.out⟩
   case round =>
    clear HI HB hfi
    obtain⟨k,X,hk,hX,rfl,rfl,hws2,hinv,hbl⟩:=hrel
    have hfi2:=HF.out i hlt
    have hX1:X<4294967296:=by rw [hX];exact Nat.lt_of_le_of_lt (Nat.div_le_self _ _) hfi2
    by_cases hk4:k<4
    ·have HX:Hid (X / 256=f i / 256 ^ (k+1)):=by show _=_;rw [hX,Nat.div_div_eq_div_mul,Nat.pow_succ]
     clear hX hfi2 hcell
     obtain⟨F,o1,o2,o3⟩:=hinv
     have hrd1:Rd .i64 (wr.alloc (.cells #[.int .i64 ((X:Int) % 256)] 3)) (some ⟨wr.heap.size,0,none⟩) 1 (fun _=>X % 256):=(row_one wr (X % 256)).rd0 (Nat.le_refl _)
     have hown1:=o1.alloc (.cells #[.int .i64 ((X:Int) % 256)] 3)
     have hbn:=below_new wr (.cells #[.int .i64 ((X:Int) % 256)] 3)
     have O2:=Lib.hid o2
     have O3:=Lib.hid o3
     clear o1 o2 o3
     go_wp2_with (at_builtin;refine wpList_app rfl (.tmp 21) (.tmp 25) 71 rfl .i64 3 Tryz.underlying71 8 i64_info j0i3 w.heap.size u3 (4*i+k) F rfl hown1 (some ⟨wr.heap.size,0,none⟩) 1 1 (fun _=>X % 256) rfl hrd1 (fun h=>by cases h) j0i3 jb6b ?_;intro v2 w2 hown2 hb2 hsz2)
     have HS:=Lib.hid (DigitsInv.step hown2 O2.out O3.out)
     have HB:=Lib.hid ((hbl.trans (hbn.mono hws2)).trans hb2)
     have hws3:w.heap.size≤w2.heap.size := j6y2
     clear hown2 hb2 hsz2 hbn hown1 hrd1 hbl
     go_wp2
     go_roundw
     case rel=>exact⟨k+1,X / 256,by omega,HX.out,by go_num,by go_num,hws3,HS.out,HB.out⟩
     case measure=>simp [intOf];omega
    ·obtain rfl:k=4:=by omega
     have hX0:X=0:=by rw [hX];exact Nat.div_eq_of_lt (by simpa using hfi2)
     subst hX0
     have HI:Hid (DigitsInv wr w.heap.size u3 (4*(i+1)) 0 (num 4294967296 f (i+1))):=hinv
     clear hinv hX hfi2 hcell
     go_wp2
     go_roundw
     case rel=>exact⟨i+1,by omega,by go_num,hws2,HI.out,hbl⟩
     case measure=>simp [intOf];omega
  ·obtain rfl:i=n:=by omega
   obtain⟨F,o1,o2,o3⟩:=hinv
   have O3:Hid (num 256 F (4*i)=num 4294967296 f i):=by show _=_;simpa using o3
   have O2:=Lib.hid o2
   have HV:Hid (∃A c,u3 = .slice A (4*i) c∧4*i≤c∧(A=none→c=0)):=by
    rcases o1.form with ⟨rfl,h⟩ | ⟨g,c,rfl,_,hc⟩
    ·exact⟨none,0,by rw [h],by omega,fun _=>rfl⟩
    ·exact⟨_,c,rfl,hc,fun h=>by cases h⟩
   obtain⟨A2,c2,rfl,hc2,hnil⟩:=HV.out
   have hrd:=o1.rd_
   have HN:=Lib.hid hnil
   clear o1 o2 o3 hnil HV
   go_wp2_with fail
   refine(rcut_any A2 (4*i) c2 F wr hrd hc2 j0i3).mono ?_
   rintro e w2 ⟨rfl,hw⟩
   subst w2
   go_wp2
   go_ret
   have ht:=tlen_le (f:=F) (4*i)
   exact⟨_,rfl,⟨A2,_,c2,F,rfl,by omega,HN.out,hrd.less ht,fun j hj=>O2.out j j0i3,tlen_trimmed _,by rw [num_tlen];exact O3.out⟩,hbl⟩
end Go.Proofs.YtgilnmhejjpleaaGreat
namespace Go.Proofs.YtgilnmhejjpleaaGreat
open Go.RowKit
def dg(f:Nat→Nat)(n:Nat):Nat→Nat:=fun j=>if j<n then f j else 0
theorem dg_lt {f:Nat→Nat} {n:Nat}(hf : ∀j,j<n→f j<256)(j:Nat):dg f n j<256:=by
 unfold dg;split
 ·exact hf _ ‹_›
 ·omega
theorem num_dg {B:Nat} {f:Nat→Nat} {n m:Nat}(h:n≤m):num B (dg f n) m=num B f n:=num_pad m h
def LimbsInv(wr:World)(base:Nat)(v:Value)(t n:Nat)(f:Nat→Nat):Prop :=
 ∃F,Own .u32 117 wr base v t F∧(∀j,j<t→F j<4294967296)∧num 4294967296 F t=num 256 (dg f n) (4*t)
theorem LimbsInv.step {w2:World} {base t n x:Nat} {v2:Value} {f F:Nat→Nat}(h1:Own .u32 117 w2 base v2 (t+1) (appF F t (fun _=>x)))(h2 : ∀j,j<t→F j<4294967296)(h3:num 4294967296 F t=num 256 (dg f n) (4*t))
 (hx:x<4294967296) (hx2:x=num 256 (fun j=>dg f n (4*t+j)) 4):LimbsInv w2 base v2 (t+1) n f:=by
 refine⟨_,h1,fun j hj=>?_,?_⟩
 ·simp only [appF]
  split
  ·exact h2 j ‹_›
  ·exact hx
 ·rw [num_succ,num_congr (f':=F) t (fun j hj=>by simp [appF,hj]),h3]
  simp only [appF,Nat.lt_irrefl,if_false]
  rw [show 4*(t+1)=4*t+4 from by omega,num_add,← hx2,pow_limb,Nat.mul_comm x]
theorem below_trans_ {w w1 w2:World}(h:Below w.heap.size w w1)(h':Below w1.heap.size w1 w2):Below w.heap.size w w2:=h.trans (h'.mono h.size)
theorem num_from_top {B:Nat}(g:Nat→Nat)(k p:Nat):num B (fun j=>g (k+j)) (p+1)=g k+B*num B (fun j=>g (k+1+j)) p:=by
 rw [num_first j0i3]
 simp only [Nat.add_zero,Nat.add_sub_cancel]
 congr 2
 exact num_congr p fun j _=>by congr 1;omega
set_option maxHeartbeats 1000000 in
theorem limbs_any(A:Option Addr)(n c:Nat)(f:Nat→Nat)(w:World)(ha:Rd .i64 w A n f)(hc:n≤c)(hn:n≤1099511627776)(hf : ∀j,j<n→f j<256) :
 Calls Tryz.prog 107 #[.slice A n c] w fun e w'=>NatPost w w' e (num 256 f n):=by
 have C:=rcut_any A n c f w ha hc j0i3
 have ht:=tlen_le (f:=f) n
 have ha':=ha.less ht
 have hf' : ∀j,j<tlen f n→f j<256:=fun j hj=>hf j j0i3
 have HT:=Lib.hid (tlen_trimmed (f:=f) n)
 have HN:=Lib.hid (num_tlen (B:=256) (f:=f) n)
 have D:=Lib.hid C
 have HF:=Lib.hid hf'
 have HA:=Lib.hid ha'
 clear C hf hf' ha ha'
 generalize hNN:num 256 f n=N at *
 clear hNN
 generalize tlen f n=p at *
 go_enter Tryz.func107,Tryz.ntmps107
 go_wp2_with fail
 refine D.out.mono ?_
 rintro e w2 ⟨rfl,hw⟩
 subst w2
 clear D
 go_wp2
 go_loopw [3,4] (fun v3 v4 wr => ∃t,4*t≤p+3∧v4 = .int .i64 ((4*t:Nat))∧w.heap.size≤wr.heap.size∧LimbsInv wr w.heap.size v3 t p f∧Below w.heap.size w wr) (fun _ v4 _=>p+3 - (intOf v4).toNat)
 case atStart=>exact⟨0,by omega,rfl,Nat.le_refl _,⟨fun _=>0,Own.nil,fun j hj=>absurd hj j0i3,rfl⟩,Below.refl _ _⟩
 case round =>
  obtain⟨t,htp,rfl,hws,hinv,hbl⟩:=hrel
  by_cases hlt:4*t<p
  ·have HI:=Lib.hid hinv
   have HB:=Lib.hid hbl
   clear hinv hbl
   go_wp2
   obtain⟨wo,rfl⟩ : ∃wo:World,wo=wr:=⟨_,rfl⟩
   go_loopw [5,6] (fun v5 v6 w4 => ∃q x,q≤4∧w4=wo∧v5 = .int .u32 (x:Nat)∧v6 = .int .i64 (3 - (q:Nat))∧x<256 ^ q∧x=num 256 (fun j=>dg f p (4*t+(4 - q)+j)) q) (fun _ v6 _=>((intOf v6)+1).toNat)
   case atStart=>exact⟨0,0,by omega,rfl,rfl,rfl,by simp,rfl⟩
   case round =>
    obtain⟨q,x,hq,hwo,rfl,rfl,hx,hxe⟩:=hrel
    subst hwo
    have hx3:q<4→x<16777216:=fun h=>Nat.lt_of_lt_of_le hx (Nat.le_trans (Nat.pow_le_pow_right j0i3 (show q≤3 by omega)) jpu1)
    by_cases hq4:q<4
    ·have hx4:=hx3 hq4
     have HX:Hid (∀d,d=dg f p (4*t+(3 - q))→d<256→x*256+d<256 ^ (q+1)∧x*256+d=num 256 (fun j=>dg f p (4*t+(4 - (q+1))+j)) (q+1)):=by
      intro d hd hd2
      refine⟨by rw [Nat.pow_succ];omega,?_⟩
      rw [num_from_top (dg f p) (4*t+(4 - (q+1))) q,show 4*t+(4 - (q+1))=4*t+(3 - q) from by omega,← hd]
      have e:num 256 (fun j=>dg f p (4*t+(3 - q)+1+j)) q=x:=by
       rw [hxe]
       exact num_congr q fun j _=>by congr 1;omega
      rw [e]
      omega
     clear hx hxe hx3
     by_cases hin:4*t+(3 - q)<p
     ·obtain⟨ad,rfl,hcell⟩:=(HA.out.below HB.out) (4*t+(3 - q)) hin
      have hb:=HF.out _ hin
      have HX2:=Lib.hid (HX.out (f (4*t+(3 - q))) (by unfold dg;rw [if_pos hin]) hb)
      clear HX
      go_wp2
      go_roundw
      case rel=>exact⟨q+1,x*256+f (4*t+(3 - q)),by omega,(by first | rfl | trivial),by go_num,by go_num,HX2.out.1,HX2.out.2⟩
      case measure=>simp [intOf];omega
     ·have HX2:=Lib.hid (HX.out 0 (by unfold dg;rw [if_neg hin]) j0i3)
      clear HX
      go_wp2
      go_roundw
      case rel=>exact⟨q+1,x*256,by omega,(by first | rfl | trivial),by go_num,by go_num,by have:=HX2.out.1;rwa [Nat.add_zero] at this,by have:=HX2.out.2;rwa [Nat.add_zero] at this⟩
      case measure=>simp [intOf];omega
    ·obtain rfl:q=4:=by omega
     have hx32:x<4294967296:=Nat.lt_of_lt_of_le hx jpu1
     have HXE:Hid (x=num 256 (fun j=>dg f p (4*t+j)) 4):=by show _=_;simpa using hxe
     clear hx hxe hx3
     obtain⟨F,o1,o2,o3⟩:=HI.out
     have hrd1:Rd .u32 (wr.alloc (.cells #[.int .u32 (x:Nat)] 117)) (some ⟨wr.heap.size,0,none⟩) 1 (fun _=>x):=(row_one wr x).rd0 (Nat.le_refl _)
     have hown1:=o1.alloc (.cells #[.int .u32 (x:Nat)] 117)
     have hbn:=below_new wr (.cells #[.int .u32 (x:Nat)] 117)
     have O2:=Lib.hid o2
     have O3:=Lib.hid o3
     clear o1 o2 o3
     go_wp2_with (at_builtin;refine wpList_app rfl (.tmp 36) (.tmp 38) 32 rfl .u32 117 Tryz.underlying32 4 u32_info' j0i3 w.heap.size u3 t F rfl hown1 (some ⟨wr.heap.size,0,none⟩) 1 1 (fun _=>x) rfl hrd1 (fun h=>by cases h) j0i3 jb6b ?_;intro v2 w5 hown2 hb2 hsz2)
     have HS:=Lib.hid (LimbsInv.step hown2 O2.out O3.out hx32 HXE.out)
     have HB5:=Lib.hid ((HB.out.trans (hbn.mono hws)).trans hb2)
     have hws3:w.heap.size≤w5.heap.size := j6y2
     clear hown2 hb2 hsz2 hbn hown1 hrd1
     go_wp2
     go_roundw
     case rel=>exact⟨t+1,by omega,by go_num,hws3,HS.out,HB5.out⟩
     case measure=>simp [intOf];omega
  ·obtain⟨F,o1,o2,o3⟩:=hinv
   rw [num_dg j0i3,HN.out] at o3
   have HQ:Hid (IsNat wr u3 N):=by
    have htr:Trimmed F t:=trimmed_of_low o2 (by
     rcases Nat.eq_zero_or_pos t with h | h
     ·exact .inl h
     ·right
      have h1:=HT.out.low (B:=256) j0i3
      rw [HN.out,← o3] at h1
      rw [pow_limb]
      exact Nat.le_trans (Nat.pow_le_pow_right j0i3 j0i3) h1)
    rcases o1.form with ⟨rfl,h2⟩ | ⟨g,c,rfl,hg,hc⟩
    ·exact⟨none,0,0,F,rfl,Nat.le_refl _,Rd.zero,fun j hj=>absurd hj j0i3,.inl rfl,by rw [← o3,h2]⟩
    ·exact⟨_,t,c,F,rfl,hc,o1.rd_,o2,htr,o3⟩
   clear o1 o2 o3
   go_wp2
   go_ret
   exact⟨_,rfl,HQ.out,hbl⟩
theorem IsDig.limbs {w:World} {v:Value} {N k:Nat}(h:IsDig w v N)(hN:N<256 ^ k)(hk:k≤1000000000):Calls Tryz.prog 107 #[v] w fun e w'=>NatPost w w' e N:=by
 obtain⟨A,n,c,f,rfl,h2,_,h4,h5,h6,h7⟩:=h
 have hn:n≤k:=h6.len (B:=256) j0i3 (by rw [h7];exact hN)
 rw [← h7]
 exact limbs_any A n c f w h4 h2 j0i3 h5
set_option maxHeartbeats 1000000 in
theorem rtrim_any(A:Option Addr)(n c:Nat)(f:Nat→Nat)(w:World)(ha:Rd .u32 w A n f)(hc:n≤c)(hn:n≤1000000)(hf : ∀j,j<n→f j<4294967296) :
 Calls Tryz.prog 85 #[.slice A n c] w fun e w'=>NatPost w w' e (num 4294967296 f n):=by
 have D:=Lib.hid (digits_any A n c f w ha hc j0i3 hf)
 have HN:Hid (num 4294967296 f n<256 ^ (4*n)):=by
  show _<_
  rw [← pow_limb];exact num_lt j0i3 n hf
 clear ha hf
 generalize num 4294967296 f n=N at *
 go_enter Tryz.func85,Tryz.ntmps85
 go_wp2_with fail
 refine D.out.mono ?_
 rintro e w1 ⟨v1,rfl,hv1,hb1⟩
 go_wp2_with fail
 refine(hv1.limbs HN.out j0i3).mono ?_
 rintro e w2 ⟨v2,rfl,hv2,hb2⟩
 go_wp2
 go_ret
 exact⟨_,rfl,hv2,below_trans_ hb1 hb2⟩
end Go.Proofs.YtgilnmhejjpleaaGreat
namespace Go.Proofs.YtgilnmhejjpleaaGreat
open Go.RowKit
theorem rat_dg(A:Option Addr)(n c i:Nat)(f:Nat→Nat)(w:World)(hr:Rd .i64 w A n f) :
 Calls Tryz.prog 134 #[.slice A n c,.int .i64 (i:Nat)] w fun e w'=>e = .returned (.int .i64 (dg f n i:Nat))∧w'=w:=rat_any A n c i f w hr
theorem num_dg_top_lt {f h:Nat→Nat} {n m q j:Nat}(hj:j<q)(hf : ∀i,i<n→f i<256)(ht:dg f n j<dg h m j)(he : ∀i,j<i→i<q→dg f n i=dg h m i)(hn:n≤q)(hm:m≤q):num 256 f n<num 256 h m:=by
 rw [← num_dg (f:=f) hn,← num_dg (f:=h) hm]
 exact num_top_lt j0i3 hj (fun i _=>dg_lt hf i) ht he
set_option maxHeartbeats 1000000 in
theorem rcmp_any(A:Option Addr)(n c:Nat)(f:Nat→Nat)(B:Option Addr)(m d:Nat)(h:Nat→Nat)(w:World)(ha:Rd .i64 w A n f)(hn:n≤1099511627776)(hf : ∀j,j<n→f j<256)
 (hb:Rd .i64 w B m h) (hm:m≤1099511627776) (hh : ∀j,j<m→h j<256) :
 Calls Tryz.prog 118 #[.slice A n c,.slice B m d] w fun e w'=>e = .returned (.int .i64 (cmpN (num 256 f n) (num 256 h m)))∧w'=w:=by
 have DA:=Lib.hid (fun i=>rat_dg A n c i f w ha)
 have DB:=Lib.hid (fun i=>rat_dg B m d i h w hb)
 have HF:=Lib.hid hf
 have HH:=Lib.hid hh
 clear ha hb hf hh
 go_enter Tryz.func118,Tryz.ntmps118
 go_wp2
 go_loop [5] (fun v => ∃p:Nat,p≤n+m+1∧v = .int .i64 ((p:Int) - 1)∧∀j,p≤j→j<n+m+1→dg f n j=dg h m j) (fun v=>(intOf v+1).toNat)
 case atStart=>exact⟨n+m+1,Nat.le_refl _,by go_num,fun j h1 h2=>absurd h1 j0i3⟩
 case round =>
  obtain⟨p,hp,rfl,hs⟩:=hrel
  have HS:=Lib.hid hs
  clear hs
  by_cases h0:0<p
  ·obtain⟨i,rfl⟩ : ∃i,p=i+1:=⟨p - 1,by omega⟩
   have e1:(((i+1:Nat):Int) - 1)=(i:Int) := j0i3
   rw [e1]
   have da:=DA.out i
   have db:=DB.out i
   have hx:=dg_lt HF.out i
   have hy:=dg_lt HH.out i
   obtain⟨x,hxe⟩ : ∃x,dg f n i=x:=⟨_,rfl⟩
   obtain⟨y,hye⟩ : ∃y,dg h m i=y:=⟨_,rfl⟩
   rw [hxe] at da hx
   rw [hye] at db hy
   have HDA:=Lib.hid da
   have HDB:=Lib.hid db
   have HX:=Lib.hid hxe
   have HY:=Lib.hid hye
   clear da db hxe hye e1
   by_cases hlt:x<y
   ·have HL:Hid (cmpN (num 256 f n) (num 256 h m) = -1):=by
     show _=_
     unfold cmpN
     rw [if_pos (num_dg_top_lt (q:=n+m+1) (j:=i) j0i3 HF.out (by rw [HX.out,HY.out];exact hlt) (fun j h1 h2=>HS.out j j0i3 h2) j0i3 j0i3)]
    go_wp2_with fail
    refine HDA.out.mono ?_
    rintro e w2 ⟨rfl,hw⟩
    subst w2
    go_wp2_with fail
    refine HDB.out.mono ?_
    rintro e w2 ⟨rfl,hw⟩
    subst w2
    go_wp2
    go_ret
    exact⟨by rw [HL.out];rfl,rfl⟩
   ·by_cases hgt:y<x
    ·have HL:Hid (cmpN (num 256 f n) (num 256 h m)=1):=by
      show _=_
      have:=num_dg_top_lt (f:=h) (h:=f) (n:=m) (m:=n) (q:=n+m+1) (j:=i) j0i3 HH.out (by rw [HX.out,HY.out];exact hgt) (fun j h1 h2=>(HS.out j j0i3 h2).symm) j0i3 j0i3
      unfold cmpN
      rw [if_neg j0i3,if_neg j0i3]
     go_wp2_with fail
     refine HDA.out.mono ?_
     rintro e w2 ⟨rfl,hw⟩
     subst w2
     go_wp2_with fail
     refine HDB.out.mono ?_
     rintro e w2 ⟨rfl,hw⟩
     subst w2
     go_wp2_with fail
     refine HDA.out.mono ?_
     rintro e w2 ⟨rfl,hw⟩
     subst w2
     go_wp2_with fail
     refine HDB.out.mono ?_
     rintro e w2 ⟨rfl,hw⟩
     subst w2
     go_wp2
     go_ret
     exact⟨by rw [HL.out];rfl,rfl⟩
    ·have HE:Hid (∀j,i≤j→j<n+m+1→dg f n j=dg h m j):=fun j h1 h2=>by
      by_cases hj:j=i
      ·subst hj;rw [HX.out,HY.out];omega
      ·exact HS.out j j0i3 h2
     go_wp2_with fail
     refine HDA.out.mono ?_
     rintro e w2 ⟨rfl,hw⟩
     subst w2
     go_wp2_with fail
     refine HDB.out.mono ?_
     rintro e w2 ⟨rfl,hw⟩
     subst w2
     go_wp2_with fail
     refine HDA.out.mono ?_
     rintro e w2 ⟨rfl,hw⟩
     subst w2
     go_wp2_with fail
     refine HDB.out.mono ?_
     rintro e w2 ⟨rfl,hw⟩
     subst w2
     go_wp2
     go_round
     case rel=>exact⟨i,by omega,rfl,HE.out⟩
     case measure=>simp [intOf]
  ·obtain rfl:p=0:=by omega
   have HL:Hid (cmpN (num 256 f n) (num 256 h m)=0):=by
    show _=_
    have:num 256 f n=num 256 h m:=by
     rw [← num_dg (f:=f) (n:=n) (m:=n+m+1) j0i3,← num_dg (f:=h) (n:=m) (m:=n+m+1) j0i3]
     exact num_congr _ fun j hj=>HS.out j (Nat.zero_le _) hj
    rw [this,cmpN,if_neg j0i3,if_pos rfl]
   go_wp2
   go_ret
   exact⟨by rw [HL.out];rfl,rfl⟩
def RaddInv(wr:World)(base:Nat)(v:Value)(i cy:Nat)(F f h:Nat→Nat):Prop :=
 Own .i64 3 wr base v i F∧(∀j,j<i→F j<256)∧cy≤1∧num 256 F i+cy*256 ^ i=num 256 f i+num 256 h i
theorem RaddInv.step {w2:World} {base i cy s:Nat} {v2:Value} {F f h:Nat→Nat}(h1:Own .i64 3 w2 base v2 (i+1) (appF F i (fun _=>s % 256)))(h2 : ∀j,j<i→F j<256)(h3:num 256 F i+cy*256 ^ i=num 256 f i+num 256 h i)
 (hs:s=f i+h i+cy) (hf:f i<256) (hh:h i<256) (hc:cy≤1):RaddInv w2 base v2 (i+1) (s / 256) (appF F i (fun _=>s % 256)) f h:=by
 refine⟨h1,fun j hj=>?_,by omega,?_⟩
 ·simp only [appF]
  split
  ·exact h2 j ‹_›
  ·omega
 ·rw [num_succ,num_succ,num_succ,num_congr (f':=F) i (fun j hj=>by simp [appF,hj])]
  simp only [appF,Nat.lt_irrefl,if_false]
  have hd:=Nat.div_add_mod s 256
  generalize s % 256=r at *
  generalize s / 256=q at *
  have e3:r*256 ^ i+q*256 ^ (i+1)=(f i+h i+cy)*256 ^ i:=by
   rw [← hs,← hd,Nat.pow_succ,Nat.add_mul,Nat.add_comm]
   congr 1
   rw [Nat.mul_comm (256 ^ i),← Nat.mul_assoc,Nat.mul_comm q]
  rw [Nat.add_mul,Nat.add_mul] at e3
  omega
set_option maxHeartbeats 1000000 in
theorem radd_any(A:Option Addr)(n c:Nat)(f:Nat→Nat)(B:Option Addr)(m d:Nat)(h:Nat→Nat)(w:World)(ha:Rd .i64 w A n f)(hn:n≤1099511627776)(hf : ∀j,j<n→f j<256)
 (hb:Rd .i64 w B m h) (hm:m≤1099511627776) (hh : ∀j,j<m→h j<256) :
 Calls Tryz.prog 119 #[.slice A n c,.slice B m d] w fun e w'=>DigPost w w' e (num 256 f n+num 256 h m):=by
 have HA:=Lib.hid ha
 have HB:=Lib.hid hb
 have HF:=Lib.hid hf
 have HH:=Lib.hid hh
 clear ha hb hf hh
 go_enter Tryz.func119,Tryz.ntmps119
 go_wp2
 go_loopw [5,6,7] (fun v5 v6 v7 wr => ∃i cy F,i≤max n m+1∧v6 = .int .i64 (cy:Nat)∧v7 = .int .i64 (i:Nat)∧w.heap.size≤wr.heap.size∧RaddInv wr w.heap.size v5 i cy F (dg f n) (dg h m)∧Below w.heap.size w wr) (fun _ _ v7 _=>max n m+1 - (intOf v7).toNat)
 case atStart=>exact⟨0,0,fun _=>0,by omega,rfl,rfl,Nat.le_refl _,⟨Own.nil,fun j hj=>absurd hj j0i3,by omega,rfl⟩,Below.refl _ _⟩
 case round =>
  obtain⟨i,cy,F,hi,rfl,rfl,hws,hinv,hbl⟩:=hrel
  by_cases hlt:i≤n∨i≤m
  ·have DA:=Lib.hid (fun wq hq=>rat_dg A n c i f wq hq)
   have DB:=Lib.hid (fun wq hq=>rat_dg B m d i h wq hq)
   have RA:=HA.out.below hbl
   have RB:=HB.out.below hbl
   have hx:=dg_lt HF.out i
   have hy:=dg_lt HH.out i
   obtain⟨o1,o2,hcy,o3⟩:=hinv
   have hrd1:Rd .i64 (wr.alloc (.cells #[.int .i64 (((dg f n i:Nat)+(dg h m i:Nat)+(cy:Nat):Int) % 256)] 3)) (some ⟨wr.heap.size,0,none⟩) 1 (fun _=>(dg f n i+dg h m i+cy) % 256):=(row_one wr ((dg f n i+dg h m i+cy) % 256)).rd0 (Nat.le_refl _)
   have hown1:=o1.alloc (.cells #[.int .i64 (((dg f n i:Nat)+(dg h m i:Nat)+(cy:Nat):Int) % 256)] 3)
   have hbn:=below_new wr (.cells #[.int .i64 (((dg f n i:Nat)+(dg h m i:Nat)+(cy:Nat):Int) % 256)] 3)
   have HST:Hid (∀w2 v2,Own .i64 3 w2 w.heap.size v2 (i+1) (appF F i (fun _=>(dg f n i+dg h m i+cy) % 256))→RaddInv w2 w.heap.size v2 (i+1) ((dg f n i+dg h m i+cy) / 256) (appF F i (fun _=>(dg f n i+dg h m i+cy) % 256)) (dg f n) (dg h m)) :=
    fun w2 v2 ho=>RaddInv.step ho o2 o3 rfl hx hy hcy
   have O2:=Lib.hid o2
   have O3:=Lib.hid o3
   clear o1 o2 o3
   generalize dg f n i=x at *
   generalize dg h m i=y at *
   have him:i≤1099511627776 := j0i3
   have hcase:i≤n∨(n<i∧i≤m) := j0i3
   clear hlt
   rcases hcase with hln | ⟨hln,hlm⟩
   all_goals
    go_wp2_with fail
    refine(DA.out _ RA).mono ?_
    rintro e w2 ⟨rfl,hw⟩
    subst w2
    go_wp2_with fail
    refine(DB.out _ RB).mono ?_
    rintro e w2 ⟨rfl,hw⟩
    subst w2
    go_wp2_with (at_builtin;refine wpList_app rfl (.tmp 30) (.tmp 33) 71 rfl .i64 3 Tryz.underlying71 8 i64_info j0i3 w.heap.size u5 i F rfl hown1 (some ⟨wr.heap.size,0,none⟩) 1 1 (fun _=>(x+y+cy) % 256) rfl hrd1 (fun h=>by cases h) j0i3 jb6b ?_;intro v2 w2 hown2 hb2 hsz2)
    have HS:=Lib.hid (HST.out w2 v2 hown2)
    have HB2:=Lib.hid ((hbl.trans (hbn.mono hws)).trans hb2)
    have hws3:w.heap.size≤w2.heap.size := j6y2
    clear hown2 hb2 hsz2 hbn hown1 hrd1 hbl
    go_wp2
    go_roundw
    case rel=>exact⟨i+1,(x+y+cy) / 256,_,by omega,by go_num,by go_num,hws3,HS.out,HB2.out⟩
    case measure=>simp [intOf];omega
  ·obtain⟨o1,o2,hcy,o3⟩:=hinv
   rw [num_dg (f:=f) j0i3,num_dg (f:=h) j0i3] at o3
   have hc0:cy=0:=by
    have h1:=num_lt (B:=256) (f:=f) j0i3 n HF.out
    have h2:=num_lt (B:=256) (f:=h) j0i3 m HH.out
    have h3:(256:Nat) ^ n≤256 ^ (i - 1):=Nat.pow_le_pow_right j0i3 j0i3
    have h4:(256:Nat) ^ m≤256 ^ (i - 1):=Nat.pow_le_pow_right j0i3 j0i3
    have h5:(256:Nat) ^ i=256 ^ (i - 1)*256:=by rw [← Nat.pow_succ];congr 1;omega
    rcases Nat.eq_zero_or_pos cy with h | h
    ·exact h
    ·obtain rfl:cy=1:=by omega
     omega
   subst hc0
   have O3:Hid (num 256 F i=num 256 f n+num 256 h m) := jkha
   have O2:=Lib.hid o2
   have HV:Hid (∃A c,u5 = .slice A i c∧i≤c∧(A=none→c=0)):=by
    rcases o1.form with ⟨rfl,h⟩ | ⟨g,c,rfl,_,hc⟩
    ·exact⟨none,0,by rw [h],by omega,fun _=>rfl⟩
    ·exact⟨_,c,rfl,hc,fun h=>by cases h⟩
   obtain⟨A2,c2,rfl,hc2,hnil⟩:=HV.out
   have hrd:=o1.rd_
   have HN:=Lib.hid hnil
   have hni:n<i := j0i3
   have hmi:m<i := j0i3
   clear o1 o2 o3 hnil HV hlt
   go_wp2_with fail
   refine(rcut_any A2 i c2 F wr hrd hc2 j0i3).mono ?_
   rintro e w2 ⟨rfl,hw⟩
   subst w2
   go_wp2
   go_ret
   have ht:=tlen_le (f:=F) i
   exact⟨_,rfl,⟨A2,_,c2,F,rfl,by omega,HN.out,hrd.less ht,fun j hj=>O2.out j j0i3,tlen_trimmed _,by rw [num_tlen];exact O3.out⟩,hbl⟩
end Go.Proofs.YtgilnmhejjpleaaGreat
namespace Go.Proofs.YtgilnmhejjpleaaGreat
open Go.RowKit
def RsubInv(wr:World)(base:Nat)(v:Value)(i cy:Nat)(F f h:Nat→Nat):Prop :=
 Own .i64 3 wr base v i F∧(∀j,j<i→F j<256)∧cy≤1∧num 256 F i+num 256 h i=num 256 f i+cy*256 ^ i
theorem RsubInv.step {w2:World} {base i cy r q:Nat} {v2:Value} {F f h:Nat→Nat}(h1:Own .i64 3 w2 base v2 (i+1) (appF F i (fun _=>r)))(h2 : ∀j,j<i→F j<256)(h3:num 256 F i+num 256 h i=num 256 f i+cy*256 ^ i)
 (hs:r+h i+cy=f i+256*q) (hr:r<256) (hq:q≤1):RsubInv w2 base v2 (i+1) q (appF F i (fun _=>r)) f h:=by
 refine⟨h1,fun j hj=>?_,hq,?_⟩
 ·simp only [appF]
  split
  ·exact h2 j ‹_›
  ·omega
 ·rw [num_succ,num_succ,num_succ,num_congr (f':=F) i (fun j hj=>by simp [appF,hj])]
  simp only [appF,Nat.lt_irrefl,if_false]
  have e3:(r+h i+cy)*256 ^ i=(f i+256*q)*256 ^ i:=by rw [hs]
  rw [Nat.add_mul,Nat.add_mul,Nat.add_mul] at e3
  rw [Nat.pow_succ]
  have e1:q*(256 ^ i*256)=(256*q)*256 ^ i:=by rw [Nat.mul_comm (256 ^ i),← Nat.mul_assoc,Nat.mul_comm q]
  rw [e1]
  omega
set_option maxHeartbeats 1000000 in
theorem rsub_any(A:Option Addr)(n c:Nat)(f:Nat→Nat)(B:Option Addr)(m d:Nat)(h:Nat→Nat)(w:World)(ha:Rd .i64 w A n f)(hn:n≤1099511627776)(hf : ∀j,j<n→f j<256)
 (hb:Rd .i64 w B m h) (hh : ∀j,j<m→h j<256) (hmn:m≤n) (hle:num 256 h m≤num 256 f n) :
 Calls Tryz.prog 120 #[.slice A n c,.slice B m d] w fun e w'=>DigPost w w' e (num 256 f n - num 256 h m):=by
 have HA:=Lib.hid ha
 have HB:=Lib.hid hb
 have HF:=Lib.hid hf
 have HH:=Lib.hid hh
 have HLE:=Lib.hid hle
 clear ha hb hf hh hle
 go_enter Tryz.func120,Tryz.ntmps120
 go_wp2
 go_loopw [5,6,7] (fun v5 v6 v7 wr => ∃i cy F,i≤n∧v6 = .int .i64 (cy:Nat)∧v7 = .int .i64 (i:Nat)∧w.heap.size≤wr.heap.size∧RsubInv wr w.heap.size v5 i cy F f (dg h m)∧Below w.heap.size w wr) (fun _ _ v7 _=>n - (intOf v7).toNat)
 case atStart=>exact⟨0,0,fun _=>0,by omega,rfl,rfl,Nat.le_refl _,⟨Own.nil,fun j hj=>absurd hj j0i3,by omega,rfl⟩,Below.refl _ _⟩
 case round =>
  obtain⟨i,cy,F,hi,rfl,rfl,hws,hinv,hbl⟩:=hrel
  by_cases hlt:i<n
  ·have DB:=Lib.hid (fun wq hq=>rat_dg B m d i h wq hq)
   obtain⟨ad,rfl,hcell⟩:=(HA.out.below hbl) i hlt
   have RB:=HB.out.below hbl
   have hx:=HF.out i hlt
   have hy:=dg_lt HH.out i
   obtain⟨o1,o2,hcy,o3⟩:=hinv
   have HST:Hid (∀w2 v2 r q,Own .i64 3 w2 w.heap.size v2 (i+1) (appF F i (fun _=>r))→r+dg h m i+cy=f i+256*q→r<256→q≤1→RsubInv w2 w.heap.size v2 (i+1) q (appF F i (fun _=>r)) f (dg h m)) :=
    fun w2 v2 r q ho hs hr hq=>RsubInv.step ho o2 o3 hs hr hq
   have O1:=Lib.hid o1
   clear o1 o2 o3
   generalize dg h m i=y at *
   generalize f i=x at *
   go_wp2
   go_quiet ((go_at_call 134;exact Calls.quiet_of_same (DB.out _ (by exact RB))))
   have hbl2:=Below.drewN_ hbl nq
   have O2:Hid (Own .i64 3 (wr.drewN nq) w.heap.size u5 i F):=O1.out
   have hws2:w.heap.size≤(wr.drewN nq).heap.size:=hws
   generalize wr.drewN nq=w3 at *
   by_cases hneg:x<y+cy
   ·have g1:(x:Int) - (y:Int) - (cy:Int)<0:=by omega
    have hrd1:Rd .i64 (w3.alloc (.cells #[.int .i64 ((x:Int) - (y:Int) - (cy:Int)+256)] 3)) (some ⟨w3.heap.size,0,none⟩) 1 (fun _=>x+256 - y - cy):=by
     have:=(row_one (K := .i64) (t:=3) w3 (x+256 - y - cy)).rd0 (Nat.le_refl _)
     rw [show((x+256 - y - cy:Nat):Int)=(x:Int) - (y:Int) - (cy:Int)+256 from j0i3] at this
     exact this
    have hown1:=O2.out.alloc (.cells #[.int .i64 ((x:Int) - (y:Int) - (cy:Int)+256)] 3)
    have hbn:=below_new w3 (.cells #[.int .i64 ((x:Int) - (y:Int) - (cy:Int)+256)] 3)
    go_wp2_with (at_builtin;refine wpList_app rfl (.tmp 29) (.tmp 31) 71 rfl .i64 3 Tryz.underlying71 8 i64_info j0i3 w.heap.size u5 i F rfl hown1 (some ⟨w3.heap.size,0,none⟩) 1 1 (fun _=>x+256 - y - cy) rfl hrd1 (fun h=>by cases h) j0i3 jb6b ?_;intro v2 w2 hown2 hb2 hsz2)
    have HS:=Lib.hid (HST.out w2 v2 _ 1 hown2 j0i3 j0i3 j0i3)
    have HB2:=Lib.hid ((hbl2.trans (hbn.mono hws2)).trans hb2)
    have hws3:w.heap.size≤w2.heap.size := j6y2
    clear hown2 hb2 hsz2 hbn hown1 hrd1 hbl2
    go_wp2
    go_roundw
    case rel=>exact⟨i+1,1,_,by omega,rfl,by go_num,hws3,HS.out,HB2.out⟩
    case measure=>simp [intOf];omega
   ·have g1:0≤(x:Int) - (y:Int) - (cy:Int):=by omega
    have hrd1:Rd .i64 (w3.alloc (.cells #[.int .i64 ((x:Int) - (y:Int) - (cy:Int))] 3)) (some ⟨w3.heap.size,0,none⟩) 1 (fun _=>x - y - cy):=by
     have:=(row_one (K := .i64) (t:=3) w3 (x - y - cy)).rd0 (Nat.le_refl _)
     rw [show((x - y - cy:Nat):Int)=(x:Int) - (y:Int) - (cy:Int) from j0i3] at this
     exact this
    have hown1:=O2.out.alloc (.cells #[.int .i64 ((x:Int) - (y:Int) - (cy:Int))] 3)
    have hbn:=below_new w3 (.cells #[.int .i64 ((x:Int) - (y:Int) - (cy:Int))] 3)
    go_wp2_with (at_builtin;refine wpList_app rfl (.tmp 29) (.tmp 31) 71 rfl .i64 3 Tryz.underlying71 8 i64_info j0i3 w.heap.size u5 i F rfl hown1 (some ⟨w3.heap.size,0,none⟩) 1 1 (fun _=>x - y - cy) rfl hrd1 (fun h=>by cases h) j0i3 jb6b ?_;intro v2 w2 hown2 hb2 hsz2)
    have HS:=Lib.hid (HST.out w2 v2 _ 0 hown2 j0i3 j0i3 j0i3)
    have HB2:=Lib.hid ((hbl2.trans (hbn.mono hws2)).trans hb2)
    have hws3:w.heap.size≤w2.heap.size := j6y2
    clear hown2 hb2 hsz2 hbn hown1 hrd1 hbl2
    go_wp2
    go_roundw
    case rel=>exact⟨i+1,0,_,by omega,rfl,by go_num,hws3,HS.out,HB2.out⟩
    case measure=>simp [intOf];omega
  ·obtain rfl:i=n:=by omega
   obtain⟨o1,o2,hcy,o3⟩:=hinv
   rw [num_dg (f:=h) j0i3] at o3
   have hc0:cy=0:=by
    have h1:=num_lt (B:=256) (f:=F) j0i3 i o2
    have h2:=HLE.out
    rcases Nat.eq_zero_or_pos cy with h | h
    ·exact h
    ·obtain rfl:cy=1:=by omega
     omega
   subst hc0
   have O3:Hid (num 256 F i=num 256 f i - num 256 h m) := jkha
   have O2:=Lib.hid o2
   have HV:Hid (∃A c,u5 = .slice A i c∧i≤c∧(A=none→c=0)):=by
    rcases o1.form with ⟨rfl,h⟩ | ⟨g,c,rfl,_,hc⟩
    ·exact⟨none,0,by rw [h],by omega,fun _=>rfl⟩
    ·exact⟨_,c,rfl,hc,fun h=>by cases h⟩
   obtain⟨A2,c2,rfl,hc2,hnil⟩:=HV.out
   have hrd:=o1.rd_
   have HN:=Lib.hid hnil
   clear o1 o2 o3 hnil HV
   go_wp2_with fail
   refine(rcut_any A2 i c2 F wr hrd hc2 j0i3).mono ?_
   rintro e w2 ⟨rfl,hw⟩
   subst w2
   go_wp2
   go_ret
   have ht:=tlen_le (f:=F) i
   exact⟨_,rfl,⟨A2,_,c2,F,rfl,by omega,HN.out,hrd.less ht,fun j hj=>O2.out j j0i3,tlen_trimmed _,by rw [num_tlen];exact O3.out⟩,hbl⟩
end Go.Proofs.YtgilnmhejjpleaaGreat
