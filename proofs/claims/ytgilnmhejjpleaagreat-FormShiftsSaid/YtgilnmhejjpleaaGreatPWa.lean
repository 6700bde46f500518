/- Merged of Rf,Ba,Bb,Rg,Rh,Gd,Kp. -/
import Derived.Test.YtgilnmhejjpleaaGreatPNatCb
import Derived.Test.YtgilnmhejjpleaaGreatPNatBb
import Derived.Test.YtgilnmhejjpleaaGreatPNatA
import Derived.Test.YtgilnmhejjpleaaGreatPNatD
import Derived.Deep.RegionWith
import Derived.Test.YtgilnmhejjpleaaGreatPNatC
import Derived.Deep.DrawnRows
import Derived.Deep.RegionHeld3
namespace Go.Proofs.YtgilnmhejjpleaaGreat
open Go.RowKit
theorem j40t {P:Prop}(h:P:=by cases h):P:=h
theorem dlt_le {k N q:Nat}(h:N<256 ^ k)(hq:k≤q):N<256 ^ q:=Nat.lt_of_lt_of_le h (Nat.pow_le_pow_right j0i3 hq)
section
variable {k m:Nat} {w:World} {v1 v2:Value} {N M:Nat}
theorem lim_rtr(h1:Lim k w v1 N)(hk:k≤1000000):Calls Tryz.prog 85 #[v1] w fun e w'=>NatPost w w' e N:=by
 obtain⟨A,n,c,f,rfl,a1,a2,a3,a4,rfl⟩:=h1
 exact rtrim_any A n c f w a2 a1 j0i3 a3
theorem lim_digits(h1:Lim k w v1 N)(hk:k≤1000000):Calls Tryz.prog 105 #[v1] w fun e w'=>DigPost w w' e N:=by
 obtain⟨A,n,c,f,rfl,a1,a2,a3,a4,rfl⟩:=h1
 exact digits_any A n c f w a2 a1 j0i3 a3
theorem dig_cmp(h1:IsDig w v1 N)(h2:IsDig w v2 M)(hN:N<256 ^ k)(hM:M<256 ^ m)(hk:k≤1000000000)(hm:m≤1000000000):Calls Tryz.prog 118 #[v1,v2] w fun e w'=>e = .returned (.int .i64 (cmpN N M))∧w'=w:=by
 obtain⟨A,n,c,f,rfl,a2,_,a4,a5,a6,rfl⟩:=h1
 obtain⟨B,l,d,h,rfl,b2,_,b4,b5,b6,rfl⟩:=h2
 have hn:n≤k:=a6.len (B:=256) j0i3 hN
 have hl:l≤m:=b6.len (B:=256) j0i3 hM
 exact rcmp_any A n c f B l d h w a4 j0i3 a5 b4 j0i3 b5
theorem dig_add(h1:IsDig w v1 N)(h2:IsDig w v2 M)(hN:N<256 ^ k)(hM:M<256 ^ m)(hk:k≤1000000000)(hm:m≤1000000000):Calls Tryz.prog 119 #[v1,v2] w fun e w'=>DigPost w w' e (N+M):=by
 obtain⟨A,n,c,f,rfl,a2,_,a4,a5,a6,rfl⟩:=h1
 obtain⟨B,l,d,h,rfl,b2,_,b4,b5,b6,rfl⟩:=h2
 have hn:n≤k:=a6.len (B:=256) j0i3 hN
 have hl:l≤m:=b6.len (B:=256) j0i3 hM
 exact radd_any A n c f B l d h w a4 j0i3 a5 b4 j0i3 b5
theorem dig_mul(h1:IsDig w v1 N)(h2:IsDig w v2 M)(hN:N<256 ^ k)(hM:M<256 ^ m)(hk:k≤1000000000)(hm:m≤1000000000):Calls Tryz.prog 127 #[v1,v2] w fun e w'=>DigPost w w' e (N*M):=by
 obtain⟨A,n,c,f,rfl,a2,_,a4,a5,a6,rfl⟩:=h1
 obtain⟨B,l,d,h,rfl,b2,_,b4,b5,b6,rfl⟩:=h2
 have hn:n≤k:=a6.len (B:=256) j0i3 hN
 have hl:l≤m:=b6.len (B:=256) j0i3 hM
 exact rmul_any A n c f B l d h w a4 j0i3 a5 b4 j0i3 b5
theorem dig_sub(h1:IsDig w v1 N)(h2:IsDig w v2 M)(hN:N<256 ^ k)(hk:k≤1000000000)(hle:M≤N):Calls Tryz.prog 120 #[v1,v2] w fun e w'=>DigPost w w' e (N - M):=by
 obtain⟨A,n,c,f,rfl,a2,_,a4,a5,a6,rfl⟩:=h1
 obtain⟨B,l,d,h,rfl,b2,_,b4,b5,b6,rfl⟩:=h2
 have hn:n≤k:=a6.len (B:=256) j0i3 hN
 have hl:l≤n:=b6.len (B:=256) j0i3 (Nat.lt_of_le_of_lt hle (num_lt j0i3 n a5))
 exact rsub_any A n c f B l d h w a4 j0i3 a5 b4 b5 hl hle
set_option maxHeartbeats 1000000 in
theorem rCmp(h1:Lim k w v1 N)(h2:Lim m w v2 M)(hk:k≤1000000)(hm:m≤1000000):Calls Tryz.prog 97 #[v1,v2] w fun e w'=>CmpPost w w' e N M:=by
 have hN:=h1.lt
 have hM:=h2.lt
 rw [pow_limb] at hN hM
 have D1:=Lib.hid (lim_digits h1 hk)
 have D2:=Lib.hid (fun wq (h:Lim m wq v2 M)=>lim_digits h hm)
 have L2:=Lib.hid h2
 have HN:=Lib.hid hN
 have HM:=Lib.hid hM
 clear h1 h2 hN hM
 go_enter Tryz.func97,Tryz.ntmps97
 go_wp2_with fail
 refine D1.out.mono ?_
 rintro e w1 ⟨d1,rfl,hd1,hb1⟩
 go_wp2_with fail
 refine(D2.out _ (L2.out.below hb1)).mono ?_
 rintro e w2 ⟨d2,rfl,hd2,hb2⟩
 go_wp2_with fail
 refine(dig_cmp (hd1.below hb2) hd2 HN.out HM.out j0i3 j0i3).mono ?_
 rintro e w3 ⟨rfl,hw⟩
 subst w3
 go_wp2
 go_ret
 exact⟨rfl,below_trans hb1 hb2⟩
set_option maxHeartbeats 1000000 in
theorem rAdd(h1:Lim k w v1 N)(h2:Lim m w v2 M)(hk:k≤1000000)(hm:m≤1000000):Calls Tryz.prog 99 #[v1,v2] w fun e w'=>NatPost w w' e (N+M):=by
 have hN:=h1.lt
 have hM:=h2.lt
 have hNM:=lt_add hN hM (k+m+1) j0i3 j0i3
 rw [pow_limb] at hN hM hNM
 have D1:=Lib.hid (lim_digits h1 hk)
 have D2:=Lib.hid (fun wq (h:Lim m wq v2 M)=>lim_digits h hm)
 have L2:=Lib.hid h2
 have HN:=Lib.hid hN
 have HM:=Lib.hid hM
 have HNM:=Lib.hid hNM
 clear h1 h2 hN hM hNM
 go_enter Tryz.func99,Tryz.ntmps99
 go_wp2_with fail
 refine D1.out.mono ?_
 rintro e w1 ⟨d1,rfl,hd1,hb1⟩
 go_wp2_with fail
 refine(D2.out _ (L2.out.below hb1)).mono ?_
 rintro e w2 ⟨d2,rfl,hd2,hb2⟩
 go_wp2_with fail
 refine(dig_add (hd1.below hb2) hd2 HN.out HM.out j0i3 j0i3).mono ?_
 rintro e w3 ⟨d3,rfl,hd3,hb3⟩
 go_wp2_with fail
 refine(hd3.limbs HNM.out j0i3).mono ?_
 rintro e w4 ⟨v4,rfl,hv4,hb4⟩
 go_wp2
 go_ret
 exact⟨_,rfl,hv4,below_trans (below_trans (below_trans hb1 hb2) hb3) hb4⟩
set_option maxHeartbeats 1000000 in
theorem rMul(h1:Lim k w v1 N)(h2:Lim m w v2 M)(hk:k≤1000000)(hm:m≤1000000):Calls Tryz.prog 108 #[v1,v2] w fun e w'=>NatPost w w' e (N*M):=by
 have hN:=h1.lt
 have hM:=h2.lt
 have hNM:=lt_mul hN hM (k+m) j0i3
 rw [pow_limb] at hN hM hNM
 have D1:=Lib.hid (lim_digits h1 hk)
 have D2:=Lib.hid (fun wq (h:Lim m wq v2 M)=>lim_digits h hm)
 have L2:=Lib.hid h2
 have HN:=Lib.hid hN
 have HM:=Lib.hid hM
 have HNM:=Lib.hid hNM
 clear h1 h2 hN hM hNM
 go_enter Tryz.func108,Tryz.ntmps108
 go_wp2_with fail
 refine D1.out.mono ?_
 rintro e w1 ⟨d1,rfl,hd1,hb1⟩
 go_wp2_with fail
 refine(D2.out _ (L2.out.below hb1)).mono ?_
 rintro e w2 ⟨d2,rfl,hd2,hb2⟩
 go_wp2_with fail
 refine(dig_mul (hd1.below hb2) hd2 HN.out HM.out j0i3 j0i3).mono ?_
 rintro e w3 ⟨d3,rfl,hd3,hb3⟩
 go_wp2_with fail
 refine(hd3.limbs HNM.out j0i3).mono ?_
 rintro e w4 ⟨v4,rfl,hv4,hb4⟩
 go_wp2
 go_ret
 exact⟨_,rfl,hv4,below_trans (below_trans (below_trans hb1 hb2) hb3) hb4⟩
set_option maxHeartbeats 1000000 in
theorem rSub_yes(h1:Lim k w v1 N)(h2:Lim m w v2 M)(hk:k≤1000000)(hm:m≤1000000)(hle:M≤N):Calls Tryz.prog 100 #[v1,v2] w fun e w'=>SubYes w w' e N M:=by
 have hN:=h1.lt
 have C:=rCmp h1 h2 hk hm
 unfold CmpPost at C
 obtain⟨r,hr,hr0⟩ : ∃r,cmpN N M=r∧0≤r:=⟨_,rfl,by unfold cmpN;rw [if_neg j0i3];split <;> omega⟩
 rw [hr] at C
 rw [pow_limb] at hN
 have D:=Lib.hid C
 have D1:=Lib.hid (fun wq (h:Lim k wq v1 N)=>lim_digits h hk)
 have D2:=Lib.hid (fun wq (h:Lim m wq v2 M)=>lim_digits h hm)
 have L1:=Lib.hid h1
 have L2:=Lib.hid h2
 have HN:=Lib.hid hN
 have HNM:Hid (N - M<256 ^ (4*k)):=Nat.lt_of_le_of_lt (Nat.sub_le _ _) hN
 clear h1 h2 hN C hr
 go_enter Tryz.func100,Tryz.ntmps100
 go_wp2_with fail
 refine D.out.mono ?_
 rintro e w1 ⟨rfl,hb1⟩
 go_wp2_with fail
 refine(D1.out _ (L1.out.below hb1)).mono ?_
 rintro e w2 ⟨d2,rfl,hd2,hb2⟩
 have hb12:=below_trans hb1 hb2
 go_wp2_with fail
 refine(D2.out _ (L2.out.below hb12)).mono ?_
 rintro e w3 ⟨d3,rfl,hd3,hb3⟩
 go_wp2_with fail
 refine(dig_sub (hd2.below hb3) hd3 HN.out j0i3 hle).mono ?_
 rintro e w4 ⟨d4,rfl,hd4,hb4⟩
 go_wp2_with fail
 refine(hd4.limbs HNM.out j0i3).mono ?_
 rintro e w5 ⟨v5,rfl,hv5,hb5⟩
 go_wp2
 go_ret2
 exact⟨_,rfl,hv5,below_trans (below_trans (below_trans hb12 hb3) hb4) hb5⟩
end
end Go.Proofs.YtgilnmhejjpleaaGreat
namespace Go.Proofs.YtgilnmhejjpleaaGreat
open Go.RowKit
end Go.Proofs.YtgilnmhejjpleaaGreat
namespace Go.Proofs.YtgilnmhejjpleaaGreat
open Go.RowKit
end Go.Proofs.YtgilnmhejjpleaaGreat
namespace Go.Proofs.YtgilnmhejjpleaaGreat
open Go.RowKit
def QD(w:World)(v:Value)(m Q:Nat):Prop :=
 ∃A c f,v = .slice A m c∧m≤c∧(A=none→c=0)∧Rd .i64 w A m f∧(∀j,j<m→f j<256)∧num 256 f m=Q
theorem QD.below {w w':World} {v:Value} {m Q:Nat}(h:QD w v m Q)(hb:Below w.heap.size w w'):QD w' v m Q:=by
 obtain⟨A,c,f,h1,h2,h3,h4,h5⟩:=h
 exact⟨A,c,f,h1,h2,h3,h4.below hb,h5⟩
theorem QD.nil(w:World):QD w (.slice none 0 0) 0 0:=⟨none,0,fun _=>0,rfl,Nat.le_refl _,fun _=>rfl,Rd.zero,fun j hj=>absurd hj j0i3,rfl⟩
theorem IsDig.nil(w:World):IsDig w (.slice none 0 0) 0:=⟨none,0,0,fun _=>0,rfl,Nat.le_refl _,fun _=>rfl,Rd.zero,fun j hj=>absurd hj j0i3,.inl rfl,rfl⟩
theorem own_one(w:World)(x:Nat):Own .i64 3 (w.alloc (.cells #[.int .i64 (x:Nat)] 3)) w.heap.size (.slice (some ⟨w.heap.size,0,none⟩) 1 1) 1 (fun _=>x) :=
 World.ownsRow_lit w _ 1 (Nat.le_refl _) j22u rfl
theorem num_push {x n:Nat} {f:Nat→Nat} : num 256 (appF (fun _=>x) 1 f) (1+n)=x+256*num 256 f n:=by
 rw [num_add,show num 256 (appF (fun _=>x) 1 f) 1=x from by simp [num,appF],Nat.pow_one]
 congr 2
 exact num_congr n fun j _=>by show appF _ 1 f (1+j)=f j;unfold appF;rw [if_neg j0i3,Nat.add_sub_cancel_left]
theorem qd_push {w:World} {base n x Q:Nat} {v:Value} {f:Nat→Nat}(h:Own .i64 3 w base v (1+n) (appF (fun _=>x) 1 f))(hx:x<256)(hf : ∀j,j<n→f j<256)(hQ:num 256 f n=Q) :
 QD w v (1+n) (x+256*Q):=by
 rcases h.form with ⟨_,h0⟩ | ⟨g,c,rfl,_,hc⟩
 ·omega
 ·refine⟨_,_,_,rfl,hc,fun h => j40t,h.rd_,fun j hj=>?_,by rw [num_push,hQ]⟩
  unfold appF
  split
  ·exact hx
  ·exact hf _ j0i3
theorem qd_cut {w:World} {v:Value} {m Q:Nat}(h:QD w v m Q)(hm:m≤4611686018427387904) :
 Calls Tryz.prog 126 #[v] w fun e w'=>(∃v',e = .returned v'∧IsDig w v' Q)∧w'=w:=by
 obtain⟨A,c,f,rfl,h2,h3,h4,h5,rfl⟩:=h
 refine(rcut_any A m c f w h4 h2 hm).mono ?_
 rintro e w' ⟨rfl,rfl⟩
 have hl:=tlen_le (f:=f) m
 exact⟨⟨_,rfl,A,_,c,f,rfl,by omega,h3,h4.less hl,fun j hj=>h5 j j0i3,tlen_trimmed m,num_tlen m⟩,rfl⟩
def top(f:Nat→Nat)(n t:Nat):Nat:=num 256 (fun j=>f (t+j)) (n - t)
theorem top_step {f:Nat→Nat} {n i:Nat}(hi:i<n):top f n i=f i+256*top f n (i+1):=by
 unfold top
 rw [show n - i=(n - (i+1))+1 from by omega,num_from_top]
theorem top_end {f:Nat→Nat} {n:Nat} : top f n n=0:=by unfold top;rw [Nat.sub_self];rfl
theorem top_all {f:Nat→Nat} {n:Nat} : top f n 0=num 256 f n:=by unfold top;rw [Nat.sub_zero];exact num_congr n fun j _=>by rw [Nat.zero_add]
theorem topd_div(x S D:Nat)(hD:0<D):(x+256*S) / D=(x+256*(S % D)) / D+256*(S / D)∧(x+256*S) % D=(x+256*(S % D)) % D:=by
 have e:x+256*S=x+256*(S % D)+D*(256*(S / D)):=by
  have h:=Nat.div_add_mod S D
  generalize S / D=q at *
  generalize S % D=r at *
  subst h
  rw [Nat.mul_add,Nat.mul_left_comm D 256 q]
  omega
 rw [e,Nat.add_mul_div_left _ _ hD,Nat.add_mul_mod_self_left]
 exact⟨rfl,rfl⟩
theorem take_end {X k D:Nat}(h1:k*D≤X)(h2:X - k*D<D):k=X / D∧X - k*D=X % D:=by
 have hD:0<D := j0i3
 obtain⟨r,hr⟩ : ∃r,r=X - k*D:=⟨_,rfl⟩
 rw [← hr] at h2 ⊢
 obtain rfl:X=r+D*k:=by rw [Nat.mul_comm D k];omega
 rw [Nat.add_mul_div_left _ _ hD,Nat.div_eq_of_lt h2,Nat.add_mul_mod_self_left,Nat.mod_eq_of_lt h2]
 omega
theorem take_more {X k D:Nat}(h1:k*D≤X)(hD:0<D)(h2:D≤X - k*D):(k+1)*D≤X∧k+1≤X / D∧X - k*D - D=X - (k+1)*D:=by
 have e:(k+1)*D=k*D+D:=by rw [Nat.add_mul,Nat.one_mul]
 refine⟨by omega,(Nat.le_div_iff_mul_le hD).2 j0i3,by omega⟩
theorem cmpN_ge {N M:Nat} : (M≤N→0≤cmpN N M)∧(N<M→cmpN N M<0):=by
 unfold cmpN
 constructor
 ·intro h;rw [if_neg j0i3];split <;> omega
 ·intro h;rw [if_pos h];omega
def OutInv(w wr:World)(n t D:Nat)(f:Nat→Nat)(vq vr:Value):Prop :=
 Below w.heap.size w wr∧QD wr vq (n - t) (top f n t / D)∧IsDig wr vr (top f n t % D)
def RdivPost(w w':World)(e:Ending)(N M:Nat):Prop :=
 ∃vq vr,e = .returned (.tuple #[vq,vr])∧IsDig w' vq (N / M)∧IsDig w' vr (N % M)∧Below w.heap.size w w'
set_option maxHeartbeats 2000000 in
theorem rdiv_any(A:Option Addr)(n c:Nat)(f:Nat→Nat)(b:Value)(D kb:Nat)(w:World)(ha:Rd .i64 w A n f)(hn:n≤1000000)(hf : ∀j,j<n→f j<256)
 (hb:IsDig w b D) (hD:0<D) (hDk:D<256 ^ kb) (hkb:kb≤1000000) :
 Calls Tryz.prog 106 #[.slice A n c,b] w fun e w'=>RdivPost w w' e (num 256 f n) D:=by
 have HA:=Lib.hid ha
 have HB:=Lib.hid hb
 have HF:=Lib.hid hf
 have HDK:=Lib.hid hDk
 clear ha hb hf hDk
 go_enter Tryz.func106,Tryz.ntmps106
 go_wp2
 go_loopw [6,7,8] (fun v6 v7 v8 wr => ∃t:Nat,t≤n∧v8 = .int .i64 ((t:Int) - 1)∧OutInv w wr n t D f v6 v7) (fun _ _ v8 _=>(intOf v8+1).toNat)
 case atStart=>exact⟨n,Nat.le_refl _,rfl,Below.refl _ _,by rw [top_end,Nat.sub_self,Nat.zero_div];exact QD.nil _,by rw [top_end,Nat.zero_mod];exact IsDig.nil _⟩
 case round =>
  obtain⟨t,ht,rfl,hout⟩:=hrel
  by_cases h0:0<t
  ·obtain⟨i,rfl⟩ : ∃i,t=i+1:=⟨t - 1,by omega⟩
   rw [show((i+1:Nat):Int) - 1=(i:Int) from j0i3]
   have HO:=Lib.hid hout
   clear hout
   obtain⟨ad,rfl,hcell⟩:=(HA.out.below HO.out.1) i j0i3
   have hfi:=HF.out i j0i3
   obtain⟨RA,rm,rc,rf,rfl,r1,r2,r3,r4,r5,r6⟩:=HO.out.2.2
   have hrm:rm≤kb:=r5.len (B:=256) j0i3 (by rw [r6];exact Nat.lt_trans (Nat.mod_lt _ hD) HDK.out)
   have R3:=Lib.hid (r3.below (below_new wr (.cells #[.int .i64 (f i:Nat)] 3)))
   have R4:=Lib.hid r4
   have R6:=Lib.hid r6
   have R2:=Lib.hid r2
   clear r3 r4 r5 r6 r2
   go_wp2_with (at_builtin;refine wpList_app rfl (.tmp 21) (.tmp 22) 71 rfl .i64 3 Tryz.underlying71 8 i64_info j0i3 wr.heap.size _ 1 (fun _=>f i) rfl (own_one wr (f i)) RA rm rc rf rfl R3.out (fun h=>by have:=R2.out h;omega) j0i3 jupy ?_;intro v2 w2 hown2 hb2 hsz2)
   have hq:=qd_push hown2 hfi R4.out R6.out
   have HQ:=Lib.hid hq
   have C1:=Lib.hid (qd_cut hq j0i3)
   have HB2:=Lib.hid ((below_new wr _).trans hb2)
   clear hown2 hq hb2 hsz2 R3
   go_wp2_with fail
   refine C1.out.mono ?_
   rintro e w3 ⟨⟨v3,rfl,hd3⟩,rfl⟩
   have hXD:f i+256*(top f n (i+1) % D)<256*D:=by have:=Nat.mod_lt (top f n (i+1)) hD;omega
   have TS:Hid (top f n i / D=(f i+256*(top f n (i+1) % D)) / D+256*(top f n (i+1) / D)∧top f n i % D=(f i+256*(top f n (i+1) % D)) % D):=by
    show _∧_
    rw [top_step (show i<n by omega)]
    exact topd_div _ _ _ hD
   have HD3:=Lib.hid hd3
   have HQD:=Lib.hid (HO.out.2.1.below HB2.out)
   have HBW:=Lib.hid (below_trans HO.out.1 HB2.out)
   clear hd3 C1 HQ HB2 HO R2 R4 R6
   generalize f i+256*(top f n (i+1) % D)=X at *
   have hX1:X / D<256:=(Nat.div_lt_iff_lt_mul hD).2 hXD
   have hXk:Hid (X<256 ^ (kb+1)):=by
    show _<_
    have:=HDK.out
    rw [Nat.pow_succ]
    generalize 256 ^ kb=P at *
    omega
   have HBD:=Lib.hid (HB.out.below HBW.out)
   go_wp2
   go_loopw [7,9] (fun v7 v9 wi => ∃k:Nat,v9 = .int .i64 (k:Nat)∧k*D≤X∧IsDig wi v7 (X - k*D)∧Below w3.heap.size w3 wi) (fun _ v9 _=>X / D - (intOf v9).toNat)
   case atStart=>exact⟨0,rfl,by omega,by rw [Nat.zero_mul,Nat.sub_zero];exact HD3.out,Below.refl _ _⟩
   case round =>
    obtain⟨k,rfl,hk1,hk2,hk3⟩:=hrel
    have hkX:k≤X / D:=(Nat.le_div_iff_mul_le hD).2 hk1
    have HK1:=Lib.hid hk1
    have HK2:=Lib.hid hk2
    have HK3:=Lib.hid hk3
    have CM:=Lib.hid (dig_cmp (k:=kb+1) (m:=kb) hk2 (HBD.out.below hk3) (Nat.lt_of_le_of_lt (Nat.sub_le _ _) hXk.out) HDK.out j0i3 j0i3)
    clear hk1 hk2 hk3
    by_cases hge:D≤X - k*D
    ·have hr:=cmpN_ge.1 hge
     generalize cmpN (X - k*D) D=r at *
     obtain⟨m1,m2,m3⟩:=take_more HK1.out hD hge
     have M1:=Lib.hid m1
     have SB:=Lib.hid (dig_sub (k:=kb+1) HK2.out (HBD.out.below HK3.out) (Nat.lt_of_le_of_lt (Nat.sub_le _ _) hXk.out) j0i3 hge)
     rw [m3] at SB
     clear hge m1 m3
     go_wp2_with fail
     refine CM.out.mono ?_
     rintro e w4 ⟨rfl,rfl⟩
     go_wp2_with fail
     refine SB.out.mono ?_
     rintro e w5 ⟨v5,rfl,hd5,hb5⟩
     have HD5:=Lib.hid hd5
     have HB5:=Lib.hid (below_trans HK3.out hb5)
     clear hd5 hb5 SB CM
     go_wp2
     go_roundw
     case rel=>exact⟨k+1,by go_num,M1.out,HD5.out,HB5.out⟩
     case measure=>simp [intOf];omega
    ·have hr:=cmpN_ge.2 (by omega:X - k*D<D)
     generalize cmpN (X - k*D) D=r at *
     obtain⟨m1,m2⟩:=take_end HK1.out (by omega:X - k*D<D)
     have M2:=Lib.hid m2
     have M1:=Lib.hid m1
     have hk256:k<256 := j0i3
     obtain⟨QA,qc,qf,rfl,q1,q2,q3,q4,q5⟩:=HQD.out.below HK3.out
     clear m1 m2 hge
     go_wp2_with fail
     refine CM.out.mono ?_
     rintro e w4 ⟨rfl,rfl⟩
     have Q2:=Lib.hid q2
     have Q3:=Lib.hid (q3.below (below_new w4 (.cells #[.int .i64 (k:Nat)] 3)))
     have Q4:=Lib.hid q4
     have Q5:=Lib.hid q5
     clear q2 q3 q4 q5 CM
     go_wp2_with (at_builtin;refine wpList_app rfl (.tmp 35) (.tmp 36) 71 rfl .i64 3 Tryz.underlying71 8 i64_info j0i3 w4.heap.size _ 1 (fun _=>k) rfl (own_one w4 k) QA (n - (i+1)) qc qf rfl Q3.out (fun h=>by have:=Q2.out h;omega) j0i3 jupy ?_;intro v6 w5 hown2 hb2 hsz2)
     have HQ:=Lib.hid (qd_push hown2 hk256 Q4.out Q5.out)
     have HB4:=Lib.hid ((below_new w4 _).trans hb2)
     have HR:=Lib.hid (HK2.out.below HB4.out)
     have HBZ:=Lib.hid (below_trans (below_trans HBW.out HK3.out) HB4.out)
     clear hown2 hb2 hsz2 Q3
     go_wp2
     go_roundw
     case rel=>exact⟨i,by omega,by go_num,HBZ.out,by
      have:=HQ.out
      rw [M1.out,← TS.out.1,show 1+(n - (i+1))=n - i from j0i3] at this
      exact this,by
      have:=HR.out
      rw [M2.out,← TS.out.2] at this
      exact this⟩
     case measure=>simp [intOf]
  ·obtain rfl:t=0:=by omega
   have HO:=Lib.hid hout
   clear hout
   have hq:=HO.out.2.1
   rw [top_all] at hq
   have CC:=Lib.hid (qd_cut hq j0i3)
   have HR:=Lib.hid HO.out.2.2
   have HBW:=Lib.hid HO.out.1
   clear hq HO
   go_wp2_with fail
   refine CC.out.mono ?_
   rintro e w3 ⟨⟨v3,rfl,hd3⟩,rfl⟩
   have HD3:=Lib.hid hd3
   clear hd3 CC
   go_wp2
   go_ret2
   exact⟨_,_,rfl,HD3.out,by have:=HR.out;rw [top_all] at this;exact this,HBW.out⟩
theorem dig_quo {w:World} {v1 v2:Value} {N M k m:Nat}(h1:IsDig w v1 N)(h2:IsDig w v2 M)(hN:N<256 ^ k)(hM:M<256 ^ m)(hk:k≤1000000)(hm:m≤1000000)(h0:0<M) :
 Calls Tryz.prog 106 #[v1,v2] w fun e w'=>RdivPost w w' e N M:=by
 obtain⟨A,n,c,f,rfl,a2,_,a4,a5,a6,rfl⟩:=h1
 have hn:n≤k:=a6.len (B:=256) j0i3 hN
 exact rdiv_any A n c f v2 M m w a4 j0i3 a5 h2 h0 hM hm
end Go.Proofs.YtgilnmhejjpleaaGreat
namespace Go.Proofs.YtgilnmhejjpleaaGreat
open Go.RowKit
theorem isDig_len {w:World} {v:Value} {N:Nat}(h:IsDig w v N) : ∃A n c,v = .slice A n c∧(n=0↔N=0):=by
 obtain⟨A,n,c,f,rfl,a1,a2,a3,a4,a5,a6⟩:=h
 refine⟨A,n,c,rfl,fun h=>?_,fun h=>?_⟩
 ·subst h;rw [← a6];rfl
 ·rcases Nat.eq_zero_or_pos n with h0 | h0
  ·exact h0
  ·have:=a5.pos (B:=256) j0i3 h0;omega
theorem isDig_uniq {w:World} {v:Value} {N M:Nat}(h:IsDig w v N)(h':IsDig w v M):N=M:=by
 obtain⟨A,n,c,f,rfl,a1,a2,a3,a4,a5,rfl⟩:=h
 obtain⟨A',n',c',g,e,b1,b2,b3,b4,b5,rfl⟩:=h'
 injection e with e1 e2 e3
 subst e1 e2 e3
 refine num_congr n fun j hj=>?_
 obtain⟨ad,rfl,hc⟩:=a3 j hj
 have:=b3.at_ hj
 rw [hc] at this
 injection this with this
 injection this with _ this
 omega
open Classical in
noncomputable def valOf(w:World)(v:Value):Nat:=if h : ∃N,IsDig w v N then h.choose else 0
theorem valOf_eq {w:World} {v:Value} {N:Nat}(h:IsDig w v N):valOf w v=N:=by
 unfold valOf
 rw [dif_pos ⟨N,h⟩]
 exact isDig_uniq (Exists.choose_spec (p:=fun N=>IsDig w v N) ⟨N,h⟩) h
section
variable {k m:Nat} {w:World} {v1 v2:Value} {N M:Nat}
set_option maxHeartbeats 1000000 in
theorem rDiv(h1:Lim k w v1 N)(h2:Lim m w v2 M)(hk:k≤100000)(hm:m≤100000):Calls Tryz.prog 79 #[v1,v2] w fun e w'=>DivPost w w' e N M:=by
 have hN:=h1.lt
 have hM:=h2.lt
 rw [pow_limb] at hN hM
 have D1:=Lib.hid (fun wq (h:Lim k wq v1 N)=>lim_digits h j0i3)
 have D2:=Lib.hid (fun wq (h:Lim m wq v2 M)=>lim_digits h j0i3)
 have L1:=Lib.hid h1
 have L2:=Lib.hid h2
 have HN:=Lib.hid hN
 have HM:=Lib.hid hM
 clear h1 h2 hN hM
 go_enter Tryz.func79,Tryz.ntmps79
 go_wp2_with fail
 refine(D2.out _ L2.out).mono ?_
 rintro e w1 ⟨d1,rfl,hd1,hb1⟩
 obtain⟨A,n,c,rfl,hl⟩:=isDig_len hd1
 rcases Nat.eq_zero_or_pos M with h0 | h0
 ·obtain rfl:=hl.2 h0
  subst h0
  clear hd1 hl
  go_wp2
  go_ret3
  exact⟨_,_,rfl,by rw [Nat.div_zero];exact isNat_nil _,isNat_nil _,hb1⟩
 ·have hn0:n≠0:=fun h=>by have:=hl.1 h;omega
  have hg1:((n:Int) == 0)=false := jyif
  have HE:Hid (decide (0<M)=true):=decide_eq_true h0
  have H0:=Lib.hid h0
  have HB1:=Lib.hid hb1
  clear hd1 hl hn0 h0 hb1
  go_wp2_with fail
  refine(D1.out _ (L1.out.below HB1.out)).mono ?_
  rintro e w2 ⟨d2,rfl,hd2,hb2⟩
  have HB2:=Lib.hid (below_trans HB1.out hb2)
  have HD2:=Lib.hid hd2
  clear hb2 hd2
  go_wp2_with fail
  refine(D2.out _ (L2.out.below HB2.out)).mono ?_
  rintro e w3 ⟨d3,rfl,hd3,hb3⟩
  have HB3:=Lib.hid (below_trans HB2.out hb3)
  have HQ:=Lib.hid (dig_quo (HD2.out.below hb3) hd3 HN.out HM.out j0i3 j0i3 H0.out)
  clear hb3 hd3
  go_wp2_with fail
  refine HQ.out.mono ?_
  rintro e w4 ⟨vq,vr,rfl,hq,hr,hb4⟩
  have HB4:=Lib.hid (below_trans HB3.out hb4)
  have HR:=Lib.hid hr
  have LQ:=Lib.hid (hq.limbs (Nat.lt_of_le_of_lt (Nat.div_le_self _ _) HN.out) j0i3)
  clear hq hr hb4 HQ
  go_wp2_with fail
  refine LQ.out.mono ?_
  rintro e w5 ⟨lq,rfl,hq,hb5⟩
  have HB5:=Lib.hid (below_trans HB4.out hb5)
  have HQ:=Lib.hid hq
  have LR:=Lib.hid ((HR.out.below hb5).limbs (Nat.lt_of_le_of_lt (Nat.mod_le _ _) HN.out) j0i3)
  clear hq hb5 LQ
  go_wp2_with fail
  refine LR.out.mono ?_
  rintro e w6 ⟨lr,rfl,hr,hb6⟩
  have HB6:=Lib.hid (below_trans HB5.out hb6)
  have HQ6:=Lib.hid (HQ.out.below hb6)
  have HR6:=Lib.hid hr
  clear hr hb6 LR
  go_wp2
  go_ret3
  exact⟨_,_,by rw [HE.out];rfl,HQ6.out,by rw [if_neg (Nat.ne_of_gt H0.out)];exact HR6.out,HB6.out⟩
theorem gcd_turn(X Y:Nat):Nat.gcd Y (X % Y)=Nat.gcd X Y:=by
 rw [Nat.gcd_comm X Y,Nat.gcd_rec Y X,Nat.gcd_comm]
set_option maxHeartbeats 1000000 in
theorem rGcd(h1:Lim k w v1 N)(h2:Lim m w v2 M)(hk:k≤100000)(hm:m≤100000):Calls Tryz.prog 78 #[v1,v2] w fun e w'=>NatPost w w' e (Nat.gcd N M):=by
 have hN:=h1.lt
 have hM:=h2.lt
 rw [pow_limb] at hN hM
 have D1:=Lib.hid (fun wq (h:Lim k wq v1 N)=>lim_digits h j0i3)
 have D2:=Lib.hid (fun wq (h:Lim m wq v2 M)=>lim_digits h j0i3)
 have L1:=Lib.hid h1
 have L2:=Lib.hid h2
 have HN:Hid (N<256 ^ (4*(k+m))):=dlt_le hN j0i3
 have HM:Hid (M<256 ^ (4*(k+m))):=dlt_le hM j0i3
 clear h1 h2 hN hM
 obtain⟨K,hK⟩ : ∃K,K=4*(k+m):=⟨_,rfl⟩
 rw [← hK] at HN HM
 have hK2:K≤1000000 := j0i3
 clear hK
 go_enter Tryz.func78,Tryz.ntmps78
 go_wp2_with fail
 refine(D1.out _ L1.out).mono ?_
 rintro e w1 ⟨d1,rfl,hd1,hb1⟩
 have HB1:=Lib.hid hb1
 have HD1:=Lib.hid hd1
 clear hb1 hd1
 go_wp2_with fail
 refine(D2.out _ (L2.out.below HB1.out)).mono ?_
 rintro e w2 ⟨d2,rfl,hd2,hb2⟩
 have HB2:=Lib.hid (below_trans HB1.out hb2)
 have HX:=Lib.hid (HD1.out.below hb2)
 have HY:=Lib.hid hd2
 clear hb2 hd2 D1 D2
 go_wp2
 go_loopw [5,6] (fun v5 v6 wr => ∃X Y,IsDig wr v5 X∧IsDig wr v6 Y∧X<256 ^ K∧Y<256 ^ K∧Nat.gcd X Y=Nat.gcd N M∧Below w.heap.size w wr) (fun _ v6 wr=>valOf wr v6)
 case atStart=>exact⟨N,M,HX.out,HY.out,HN.out,HM.out,rfl,HB2.out⟩
 case round =>
  obtain⟨X,Y,x1,x2,x3,x4,x5,x6⟩:=hrel
  clear HX HY
  obtain⟨A,n,c,rfl,hl⟩:=isDig_len x2
  have hv:=Lib.hid (valOf_eq x2)
  have H3:=Lib.hid x3
  have H4:=Lib.hid x4
  have H5:=Lib.hid x5
  have H6:=Lib.hid x6
  by_cases h0:Y=0
  ·obtain rfl:=hl.2 h0
   subst h0
   have LX:=Lib.hid (x1.limbs H3.out j0i3)
   clear x1 x2 x3 x4 x5 x6 hl
   go_wp2_with fail
   refine LX.out.mono ?_
   rintro e w3 ⟨v3,rfl,h3,hb3⟩
   have HV:=Lib.hid h3
   have HB3:=Lib.hid (below_trans H6.out hb3)
   clear h3 hb3 LX
   go_wp2
   go_ret
   exact⟨_,rfl,by have:=HV.out;rwa [← H5.out,Nat.gcd_zero_right],HB3.out⟩
  ·have hn0:0<n:=by
    rcases Nat.eq_zero_or_pos n with h | h
    ·exact absurd (hl.1 h) h0
    ·exact h
   have HQ:=Lib.hid (dig_quo x1 x2 x3 x4 j0i3 j0i3 j0i3)
   have H2:=Lib.hid x2
   have H0:=Lib.hid h0
   clear x1 x2 x3 x4 x5 x6 hl h0
   go_wp2_with fail
   refine HQ.out.mono ?_
   rintro e w3 ⟨vq,vr,rfl,-,hr,hb3⟩
   have HR:=Lib.hid hr
   have HB3:=Lib.hid (below_trans H6.out hb3)
   have HY:=Lib.hid (H2.out.below hb3)
   clear hr hb3 HQ
   go_wp2
   go_roundw
   case rel=>exact⟨Y,X % Y,HY.out,HR.out,H4.out,Nat.lt_of_le_of_lt (Nat.mod_le _ _) H3.out,by rw [gcd_turn];exact H5.out,HB3.out⟩
   case measure =>
    rw [hv.out,valOf_eq HR.out]
    exact Nat.mod_lt _ (Nat.pos_of_ne_zero H0.out)
end
end Go.Proofs.YtgilnmhejjpleaaGreat
namespace Go.Proofs.YtgilnmhejjpleaaGreat
open Go.RowKit
set_option maxHeartbeats 1000000 in
theorem gcdWord_any(x y:Nat)(w:World)(hx:(x:Int)≤18446744073709551615)(hy:(y:Int)≤18446744073709551615) :
 Calls Tryz.prog 137 #[.int .u64 (x:Nat),.int .u64 (y:Nat)] w fun e w'=>e = .returned (.int .u64 (Nat.gcd x y:Nat))∧Below w.heap.size w w':=by
 go_enter Tryz.func137,Tryz.ntmps137
 go_wp2
 go_loopw [0,1] (fun v0 v1 wr => ∃X Y:Nat,v0 = .int .u64 (X:Nat)∧v1 = .int .u64 (Y:Nat)∧(X:Int)≤18446744073709551615∧(Y:Int)≤18446744073709551615∧Nat.gcd X Y=Nat.gcd x y∧Below w.heap.size w wr) (fun _ v1 _=>(intOf v1).toNat)
 case atStart=>exact⟨x,y,rfl,rfl,hx,hy,rfl,Below.refl _ _⟩
 case round =>
  obtain⟨X,Y,rfl,rfl,h1,h2,h3,hbl⟩:=hrel
  have H3:=Lib.hid h3
  clear h3
  by_cases h0:Y=0
  ·subst h0
   go_wp2
   go_ret
   exact⟨by rw [← H3.out,Nat.gcd_zero_right];rfl,hbl⟩
  ·have hg:((Y:Int) == 0)=false:=by rw [beq_eq_false_iff_ne];omega
   have hg2:((Y:Int) != 0)=true := jha1
   have hm:X % Y<Y:=Nat.mod_lt _ j0i3
   have hmi:((X:Int) % (Y:Int))=((X % Y:Nat):Int):=by rw [Int.natCast_emod]
   have HT:Hid (Nat.gcd Y (X % Y)=Nat.gcd x y):=by show _=_;rw [gcd_turn];exact H3.out
   have hmt:Int.tmod (X:Int) (Y:Int)=((X % Y:Nat):Int):=rfl
   have hw:IntKind.u64.wrap ((X % Y:Nat):Int)=((X % Y:Nat):Int):=IntWalk.u64_in _ j0i3
   generalize X % Y=r at *
   go_wp2
   go_quiet (fail)
   go_wp2
   go_roundw
   case rel=>exact⟨Y,r,rfl,(by first | rfl | go_num),h2,by omega,HT.out,Below.drewN_ hbl _⟩
   case measure=>simp [intOf];omega
end Go.Proofs.YtgilnmhejjpleaaGreat
namespace Go.Proofs.YtgilnmhejjpleaaGreat
open Go.RowKit
theorem Below.alloc_ {B:Nat} {a w:World}(h:Below B a w)(hB:B≤w.heap.size)(o:Obj):Below B a (w.alloc o):=h.alloc hB o
end Go.Proofs.YtgilnmhejjpleaaGreat
namespace Go.Proofs.YtgilnmhejjpleaaGreat
open Go.RowKit
def sg(b:Bool)(N:Nat):Int:=if b then -(N:Int) else (N:Int)
theorem sg_abs(b:Bool)(N:Nat):(sg b N).natAbs=N:=by unfold sg;cases b <;> simp
theorem sg_neg(b:Bool)(N:Nat):decide (sg b N<0)=(b && decide (0<N)):=by
 unfold sg
 cases b
 ·simp
 ·by_cases h:0<N <;> simp [h]
def LimI(k:Nat)(w:World)(v:Value)(Z:Int):Prop := ∃b m N,v = .agg #[.bool b,m]∧Lim k w m N∧Z=sg b N
def IsInt(w:World)(v:Value)(Z:Int):Prop := ∃m,v = .agg #[.bool (decide (Z<0)),m]∧IsNat w m Z.natAbs
theorem LimI.below {k:Nat} {w w':World} {v:Value} {Z:Int}(h:LimI k w v Z)(hb:Below w.heap.size w w'):LimI k w' v Z:=by
 obtain⟨b,m,N,h1,h2,h3⟩:=h
 exact⟨b,m,N,h1,h2.below hb,h3⟩
theorem IsInt.below {w w':World} {v:Value} {Z:Int}(h:IsInt w v Z)(hb:Below w.heap.size w w'):IsInt w' v Z:=by
 obtain⟨m,h1,h2⟩:=h
 exact⟨m,h1,h2.below hb⟩
theorem LimI.lt {k:Nat} {w:World} {v:Value} {Z:Int}(h:LimI k w v Z):Z.natAbs<4294967296 ^ k:=by
 obtain⟨b,m,N,h1,h2,rfl⟩:=h
 rw [sg_abs]
 exact h2.lt
theorem sg_of(Z:Int):sg (decide (Z<0)) Z.natAbs=Z:=by
 unfold sg
 by_cases h:Z<0
 ·rw [decide_eq_true h,if_pos rfl];omega
 ·rw [decide_eq_false h];simp;omega
theorem IsInt.lim {k:Nat} {w:World} {v:Value} {Z:Int}(h:IsInt w v Z)(hZ:Z.natAbs<4294967296 ^ k):LimI k w v Z:=by
 obtain⟨m,h1,h2⟩:=h
 exact⟨_,m,_,h1,h2.lim hZ,(sg_of Z).symm⟩
def IntPost(w w':World)(e:Ending)(Z:Int):Prop := ∃v,e = .returned v∧IsInt w' v Z∧Below w.heap.size w w'
theorem isInt_sg {w:World} {m:Value} {b:Bool} {N:Nat}(h:IsNat w m N):IsInt w (.agg #[.bool (b && decide (0<N)),m]) (sg b N) :=
 ⟨m,by rw [sg_neg],by rw [sg_abs];exact h⟩
theorem isNat_form {w:World} {v:Value} {N:Nat}(h:IsNat w v N) : ∃A n c,v = .slice A n c∧(0<n↔0<N)∧IsNat w (.slice A n c) N:=by
 obtain⟨A,n,c,f,rfl,a1,a2,a3,a4,a5⟩:=h
 refine⟨A,n,c,rfl,⟨fun h0=>?_,fun h0=>?_⟩,A,n,c,f,rfl,a1,a2,a3,a4,a5⟩
 ·have:=a4.pos (B:=4294967296) j0i3 h0;omega
 ·rcases Nat.eq_zero_or_pos n with h | h
  ·subst h;rw [← a5] at h0;simp [num] at h0
  ·exact h
set_option maxHeartbeats 1000000 in
theorem signed_any(b:Bool)(A:Option Addr)(n c N:Nat)(w:World)(h:IsNat w (.slice A n c) N)(hn:0<n↔0<N) :
 Calls Tryz.prog 101 #[.bool b,.slice A n c] w fun e w'=>IntPost w w' e (sg b N):=by
 have H:=Lib.hid h
 have HS:Hid (decide (0<n)=decide (0<N)):=by
  show _=_
  by_cases x:0<n
  ·rw [decide_eq_true x,decide_eq_true (hn.1 x)]
  ·rw [decide_eq_false x,decide_eq_false (by rw [← hn];exact x)]
 clear h hn
 cases b
 ·go_enter Tryz.func101,Tryz.ntmps101
  go_wp2
  exact bodyPost_ret (v := .agg #[.bool false,.slice A n c]) (by simp [results,Tryz.results101,go_sem]) rfl ⟨_,rfl,isInt_sg (b:=false) (H.out.below (below_new _ _)),below_new _ _⟩
 ·go_enter Tryz.func101,Tryz.ntmps101
  go_wp2
  refine bodyPost_ret (v := .agg #[.bool (decide (0<n)),.slice A n c]) (by simp [results,Tryz.results101,go_sem]) rfl ⟨_,rfl,?_,below_new _ _⟩
  have e:decide (0<n)=(true && decide (0<N)):=by rw [Bool.true_and,HS.out]
  rw [e]
  exact isInt_sg (b:=true) (H.out.below (below_new _ _))
theorem Lim.alloc_ {k:Nat} {w:World} {v:Value} {N:Nat}(h:Lim k w v N)(o:Obj):Lim k (w.alloc o) v N:=h.below (below_new w o)
theorem Lim.drew_ {k:Nat} {w:World} {v:Value} {N:Nat}(h:Lim k w v N):Lim k w.drew v N:=h
theorem lim_nil(w:World):Lim 0 w (.slice none 0 0) 0:=⟨none,0,0,fun _=>0,rfl,Nat.le_refl _,Rd.zero,fun j hj=>absurd hj j0i3,Nat.le_refl _,rfl⟩
theorem cmpN_zero(N:Nat):decide (0<cmpN N 0)=decide (0<N):=by
 unfold cmpN
 by_cases h:0<N
 ·rw [if_neg j0i3,if_neg j0i3,decide_eq_true h];rfl
 ·rw [if_neg j0i3,if_pos j0i3,decide_eq_false h];rfl
set_option maxHeartbeats 1000000 in
theorem isBelow_any(b:Bool)(A:Option Addr)(n c N k:Nat)(w:World)(h:Lim k w (.slice A n c) N)(hk:k≤1000000) :
 Calls Tryz.prog 116 #[.agg #[.bool b,.slice A n c]] w fun e w'=>e = .returned (.bool (decide (sg b N<0)))∧Below w.heap.size w w':=by
 have HSG:=Lib.hid (sg_neg b N)
 generalize decide (sg b N<0)=r at *
 cases b
 ·have hr:r=false:=by rw [HSG.out];rfl
  subst hr
  go_enter Tryz.func116,Tryz.ntmps116
  go_wp2
  go_ret
  exact⟨rfl,below_new _ _⟩
 ·have hr:r=decide (0<N):=by rw [HSG.out];rfl
  subst hr
  have CM:=Lib.hid (lim_cmp (h.alloc_ (.cells #[.bool true,.slice A n c] 34)) (lim_nil _) hk j0i3)
  have HC:=Lib.hid (cmpN_zero N)
  clear h HSG
  go_enter Tryz.func116,Tryz.ntmps116
  go_wp2_with fail
  refine CM.out.mono ?_
  rintro e w1 ⟨rfl,hb⟩
  have HB:=Lib.hid ((below_new w _).trans (hb.mono jupy))
  clear hb CM
  go_wp2
  go_ret
  exact⟨by rw [← HC.out];rfl,HB.out⟩
theorem bcell {W w1:World}(hb:Below W.heap.size W w1):(∀b o,b<W.heap.size→w1.cell? ⟨b,o,none⟩=W.cell? ⟨b,o,none⟩)∧(∀b o,b<W.heap.size→w1.frozen? ⟨b,o,none⟩=W.frozen? ⟨b,o,none⟩) :=
 ⟨fun b o h=>hb.cell (p:=⟨b,o,none⟩) h,fun b o h=>hb.frozen (p:=⟨b,o,none⟩) h⟩
theorem second_cell {w:World} {g:Nat} {x:Value}(h:w.cell? ⟨g,1,none⟩=some x)(v:Value):(w.setCell ⟨g,0,none⟩ v).cell? ⟨g,1,none⟩=some x:=by
 rw [World.cell?_setCell_other (w:=w) (v:=v) (a:=⟨g,0,none⟩) (b:=⟨g,1,none⟩) jupy]
 exact h
theorem Rd.apart {K:IntKind} {w:World} {A:Option Addr} {n:Nat} {f:Nat→Nat} {p:Addr} {x:Value}(h:Rd K w A n f)(hp:w.cell? p=some x)(hx : ∀z,x≠ .int K z)(y:Value):Rd K (w.setCell p y) A n f:=fun j hj=>by
 obtain⟨ad,e,hc⟩:=h j hj
 refine⟨ad,e,?_⟩
 rw [World.cell?_setCell_other (w:=w) (v:=y) (a:=p) (b:=ad.add j) (fun he=>by rw [← he,hp] at hc;injection hc with hc;exact hx _ hc)]
 exact hc
theorem IsNat.apart {w:World} {v:Value} {N:Nat} {p:Addr} {x:Value}(h:IsNat w v N)(hp:w.cell? p=some x)(hx : ∀z,x≠ .int .u32 z)(y:Value):IsNat (w.setCell p y) v N:=by
 obtain⟨A,n,c,f,h1,h2,h3,h4⟩:=h
 exact⟨A,n,c,f,h1,h2,h3.apart hp hx y,h4⟩
theorem IsNat.stored {w:World} {v:Value} {N:Nat} {g:Nat} {b0:Bool} {A0:Option Addr} {n0 c0:Nat}(h:IsNat w v N)(h0:w.cell? ⟨g,0,none⟩=some (.bool b0))(h1:w.cell? ⟨g,1,none⟩=some (.slice A0 n0 c0))(x y:Value) :
 IsNat ((w.setCell ⟨g,0,none⟩ x).setCell ⟨g,1,none⟩ y) v N :=
 (h.apart h0 (fun z e=>by cases e) x).apart (second_cell h1 x) (fun z e=>by cases e) y
theorem first_cell {w:World} {g:Nat} {x:Value}(h:w.cell? ⟨g,0,none⟩=some x)(v:Value):(w.setCell ⟨g,0,none⟩ v).cell? ⟨g,0,none⟩=some v:=World.cell?_setCell_same w ⟨g,0,none⟩ v h
theorem res_new(w:World)(g:Nat)(hg:g=w.heap.size)(x y:Value):(w.alloc (.cells #[x,y] 34)).cell? ⟨g,0,none⟩=some x∧(w.alloc (.cells #[x,y] 34)).cell? ⟨g,1,none⟩=some y:=by
 subst hg
 have h:=heap_alloc_new w (.cells #[x,y] 34)
 exact⟨by rw [cell_of_row _ _ 0 _ _ _ h];rfl,by rw [cell_of_row _ _ 1 _ _ _ h];rfl⟩
end Go.Proofs.YtgilnmhejjpleaaGreat
