/- Division, whose rest is memory of its own. -/
import Derived.Test.YtgilnmhejjpleaaGreatPNatD
import Derived.Test.YtgilnmhejjpleaaGreatPLt
import Derived.Test.YtgilnmhejjpleaaGreatPWa
namespace Go.Proofs.YtgilnmhejjpleaaGreat
open Go.RowKit
theorem jppf {P:Prop}(h:P:=by rw [← Int.natCast_mul, ← Int.natCast_add, Nat.div_add_mod']):P:=h
def HasNat(B:Nat)(w:World)(v:Value)(N:Nat):Prop :=
 ∃g n c sz f,v = .slice (some ⟨g,0,none⟩) n c∧B≤g∧n≤c∧n≤sz∧Row .u32 117 w g sz f∧(∀j,j<n→f j<4294967296)∧Trimmed f n∧num 4294967296 f n=N
theorem hasNat_row {w:World} {B g sz:Nat} {f:Nat→Nat} {N:Nat}(h:Row .u32 117 w g sz f)(hB:B≤g) {n c:Nat}(hn:n≤sz)(hc:n≤c)(hf : ∀j,j<n→f j<4294967296)(hN:num 4294967296 f n=N) :
 HasNat B w (.slice (some ⟨g,0,none⟩) (tlen f n) c) N :=
 ⟨_,_,_,_,f,rfl,hB,Nat.le_trans (tlen_le n) hc,Nat.le_trans (tlen_le n) hn,h,fun j hj=>hf j (Nat.lt_of_lt_of_le hj (tlen_le n)),tlen_trimmed n,by rw [num_tlen,hN]⟩
theorem HasNat.mono {B B':Nat} {w:World} {v:Value} {N:Nat}(h:HasNat B w v N)(hb:B'≤B):HasNat B' w v N:=by
 obtain⟨g,n,c,sz,f,h1,h2,h3⟩:=h
 exact⟨g,n,c,sz,f,h1,by omega,h3⟩
def LongOwn(w w':World)(e:Ending)(X Y:Nat):Prop :=
 ∃vq vr,e = .returned (.tuple #[vq,vr])∧HasNat w.heap.size w' vr (X % Y)∧Below w.heap.size w w'
def DivOwn(w w':World)(e:Ending)(x y:Nat):Prop :=
 ∃vq vr,e = .returned (.tuple #[vq,vr,.bool true])∧HasNat w.heap.size w' vr (x % y)∧Below w.heap.size w w'
theorem cut_own(x:Nat)(w:World)(hx:x<4294967296)(g:Nat)(hg:g=w.heap.size) :
 Calls Tryz.prog 121 #[.slice (some ⟨g,0,none⟩) 1 1] (w.alloc (.cells #[.int .u32 (x:Nat)] 117)) fun e w' => ∃v,e = .returned v∧HasNat w.heap.size w' v x∧Below w.heap.size w w':=by
 subst hg
 have hrow:Row .u32 117 (w.alloc (.cells #[.int .u32 (x:Nat)] 117)) w.heap.size 1 (fun _=>x):=row_one w x
 refine(cut_any _ 1 1 _ _ (hrow.rd0 (Nat.le_refl _)) (Nat.le_refl _) j0i3).mono ?_
 rintro e w' ⟨rfl,rfl⟩
 exact⟨_,rfl,hasNat_row hrow (Nat.le_refl _) (Nat.le_refl _) (Nat.le_refl _) (fun _ _=>hx) (by simp [num]),below_new _ _⟩
set_option maxHeartbeats 2000000 in
theorem divLong_own(A:Option Addr)(n c:Nat)(f:Nat→Nat)(B:Option Addr)(k d:Nat)(h:Nat→Nat)(w:World)(ha:Rd .u32 w A n f)(hn:n≤8796093022207)(hf : ∀j,j<n→f j<4294967296)
 (hb:Rd .u32 w B (k+1) h) (hk:1≤k) (hkn:k+1≤n) (hh : ∀j,j<k+1→h j<4294967296) (ht:h k≠0) :
 Calls Tryz.prog 146 #[.slice A n c,.slice B (k+1:Nat) d] w fun e w'=>LongOwn w w' e (num 4294967296 f n) (num 4294967296 h (k+1)):=by
 obtain⟨bd,rfl,_⟩:=hb 0 j0i3
 have hc0:=hb.at_ (j:=k) j0i3
 have HL:=Lib.hid (fun w=>lead_any (h k) w (hh k j0i3) j0i3)
 have HA:=Lib.hid ha
 have HB:=Lib.hid hb
 have HF:=Lib.hid hf
 have HH:=Lib.hid hh
 clear ha hb hf hh
 go_enter Tryz.func146,Tryz.ntmps146
 go_wp2_with fail
 refine(HL.out _).mono ?_
 rintro e w' ⟨⟨s,rfl,hs,n1,n2⟩,rfl⟩
 have N1:=Lib.hid n1
 have N2:=Lib.hid n2
 clear n1 n2 hc0
 have U1:=Lib.hid (shiftUp_any (some bd) (k+1) d s h w' HB.out hs j0i3 HH.out)
 go_wp2_with fail
 refine U1.out.mono ?_
 rintro e w1 ⟨Fd,rfl,hrd,hbd,hfd,hnd⟩
 have NT:=Lib.hid (norm_top hs HH.out N1.out N2.out hfd hnd)
 have HFD:=Lib.hid (fun j (hj:j<k+1)=>hfd j j0i3)
 have HD:=Lib.hid (hrd.rd0 (n:=k+1) j0i3)
 have HA1:=Lib.hid (HA.out.below hbd)
 have HB1:=Lib.hid hbd
 have hg1:=hrd.lt
 clear hfd hnd hrd hbd HB U1
 have U2:=Lib.hid (shiftUp_any A n c s f w1 HA1.out hs j0i3 HF.out)
 go_wp2_with fail
 refine U2.out.mono ?_
 rintro e w2 ⟨Fr,rfl,hrr,hbr,hfr,hnr⟩
 obtain⟨t0,ht0⟩ : ∃t0,t0+k=n:=⟨n - k,by omega⟩
 have ST:=Lib.hid (long_start hs HF.out hfr hnr NT.out.2.2 ht0)
 have HFR:=Lib.hid hfr
 have HNR:=Lib.hid hnr
 have HR2:=Lib.hid hrr
 have HD2:=Lib.hid (HD.out.below hbr)
 have HB2:=Lib.hid (below_trans HB1.out hbr)
 have hg2:=hrr.lt
 have hs1:=hbr.size
 have hs0:=HB1.out.size
 clear hfr hnr hrr hbr U2 HD HB1 HA1
 have hsub:(n:Int) - ((k+1:Nat):Int)+1=(t0:Int) := j0i3
 have hsub2:(n:Int) - ((k:Int)+1)+1=(t0:Int) := j0i3
 generalize hG1:w'.heap.size=g1 at *
 generalize hG2:w1.heap.size=g2 at *
 go_wp2_with (at_make;refine wpList_make_row rfl _ _ 32 rfl .u32 117 Tryz.underlying32 4 u32_info j0i3 .i64 .i64 _ _ t0 rfl rfl j0i3 j0i3 j0i3 ?_;intro w3 hrow3 hb3 hs3)
 have HR3:=Lib.hid hrow3
 have M0:=Lib.hid (show LongMem w' w3 g1 g2 w2.heap.size (k+1) n t0 Fd Fr (fun _=>0) from
  ⟨HR2.out.keep hb3,hrow3,HD2.out.below hb3,by rw [hG1];exact HB2.out.trans (hb3.mono j0i3),by omega,by omega,by omega,by omega,by omega⟩)
 have hDL:=num_lt (B:=4294967296) j0i3 (k+1) HFD.out
 rw [NT.out.1] at hDL
 have hD0:0<2 ^ s*num 4294967296 h (k+1):=by
  have:=NT.out.2.2
  have hp:0<4294967296 ^ k:=Nat.pow_pos j0i3
  omega
 have L0:=Lib.hid (show LongNum (k+1) n t0 (t0 - 0) (2 ^ s*num 4294967296 h (k+1)) (2 ^ s*num 4294967296 f n) Fr (fun _=>0) from
  ⟨HFR.out,fun j a b=>by omega,fun j _=>by show(0:Nat)<4294967296;omega,ST.out,by
   rw [Nat.sub_zero,Nat.sub_self,show t0+(k+1)=n+1 from by omega,HNR.out];simp [num]⟩)
 have HDL:=Lib.hid hDL
 have HD0:=Lib.hid hD0
 have NT1:=Lib.hid NT.out.1
 have NT2:=Lib.hid NT.out.2.1
 obtain⟨g3,hG3⟩ : ∃g3,g3=w2.heap.size:=⟨_,rfl⟩
 rw [← hG3] at M0 HR3 ⊢
 clear hDL hD0 hG3 hb3 hs3 hrow3 HR2 HD2 HB2 HFR HNR ST NT hs1 hs0 hg1 hg2 HR3
 generalize hDe:2 ^ s*num 4294967296 h (k+1)=D at *
 generalize hRe:2 ^ s*num 4294967296 f n=R at *
 have HDe:=Lib.hid hDe
 have HRe:=Lib.hid hRe
 clear hDe hRe hG1 hG2
 go_loopw [36] (fun v36 wr => ∃i F Q,i≤t0∧v36 = .int .i64 (i:Nat)∧LongMem w' wr g1 g2 g3 (k+1) n t0 Fd F Q∧LongNum (k+1) n t0 (t0 - i) D R F Q) (fun v36 _=>t0 - (intOf v36).toNat)
 case atStart=>exact⟨0,Fr,_,Nat.zero_le _,rfl,M0.out,L0.out⟩
 case round =>
  obtain⟨i,F,Q,hi,rfl,hmem,hnum⟩:=hrel
  clear M0 L0
  have HM:=Lib.hid hmem
  clear hmem
  by_cases hlt:i<t0
  ·obtain⟨j,hj⟩ : ∃j,j+1+i=t0:=⟨t0 - 1 - i,by omega⟩
   rw [show t0 - i=j+1 from j0i3] at hnum
   have hj1:(t0:Int) - 1 - (i:Int)=(j:Int) := j0i3
   have DS:=Lib.hid (divStep_any g2 j (k+1) (n+1 - j) (n+1) (some ⟨g1,0,none⟩) (k+1+1) F Fd wr HM.out.1 j0i3 j0i3 j0i3 j0i3 j0i3 HM.out.2.2.1
    (fun ad e=>by injection e with e;subst e;exact HM.out.2.2.2.2.2.2.2.1) (fun x hx=>hnum.1 _ j0i3) HFD.out (by simpa using NT2.out) (by rw [NT1.out];exact long_seg hnum j0i3))
   have HN:=Lib.hid hnum
   clear hnum
   go_wp2_with fail
   rw [show j+(k+1)+1 - j=k+1+1 from j0i3]
   refine DS.out.mono ?_
   rintro e w4 ⟨Fp,rfl,p1,p2,p3,p4,p5⟩
   rw [NT1.out] at p5 ⊢
   have HM2:=Lib.hid (HM.out.step p1 p2)
   have HN2:=Lib.hid (long_step HN.out j0i3 j0i3 (Nat.le_of_lt HDL.out) HD0.out p3 p4 p5)
   have hcell:=HM2.out.2.1.cell (j:=j) j0i3
   have hfz:=HM2.out.2.1.frozen j
   clear p1 p2 p3 p4 p5 HM HN DS
   generalize num 4294967296 (fun i=>F (j+i)) (k+1+1) / D=q at *
   have HM3:=Lib.hid (HM2.out.store j q)
   clear HM2
   go_wp2
   go_roundw
   case rel=>exact⟨i+1,Fp,_,by omega,by go_num,HM3.out,by rw [show t0 - (i+1)=j from j0i3];exact HN2.out⟩
   case measure=>simp [intOf];omega
  ·obtain rfl:i=t0:=by omega
   rw [Nat.sub_self] at hnum
   have LE:=Lib.hid (unshift (s:=s) (X:=num 4294967296 f n) (Y:=num 4294967296 h (k+1)) ji7r)
   have HQ:=Lib.hid hnum.2.2.1
   have HFF:=Lib.hid hnum.1
   have SD:=Lib.hid (shiftDown_any g2 (n+1) (n+1) s F wr HM.out.1 hs j0i3 HFF.out)
   clear hnum
   go_wp2_with fail
   refine SD.out.mono ?_
   rintro e w5 ⟨F5,rfl,d1,d2,d3,d4⟩
   have hM:=HM.out.step d1 d2
   have n1:num 4294967296 F5 (n+1)=num 4294967296 f n % num 4294967296 h (k+1):=by
    rw [num_congr _ d3,num_sd s hs (n+1) F HFF.out];exact LE.out.2
   have l1 : ∀j,j<n+1→F5 j<4294967296:=fun j hj=>by rw [d3 j hj];exact Nat.mod_lt _ j0i3
   have I1:=Lib.hid (isNat_row (c:=i) hM.2.1 (Nat.le_refl _) (Nat.le_refl _) HQ.out LE.out.1)
   have I2:=Lib.hid (hasNat_row (c:=n+1) hM.1 hM.2.2.2.2.1 (Nat.le_refl _) (Nat.le_refl _) l1 n1)
   have I3:=Lib.hid hM.2.2.2.1
   have C1:=Lib.hid (cut_any _ i i Q w5 (hM.2.1.rd0 (Nat.le_refl _)) (Nat.le_refl _) j0i3)
   have C2:=Lib.hid (cut_any _ (n+1) (n+1) F5 w5 (hM.1.rd0 (Nat.le_refl _)) (Nat.le_refl _) j0i3)
   clear hM n1 l1 d1 d2 d3 d4 SD HM LE HQ HFF
   go_wp2_with fail
   refine C1.out.mono ?_
   rintro e w6 ⟨rfl,rfl⟩
   go_wp2_with fail
   refine C2.out.mono ?_
   rintro e w6 ⟨rfl,rfl⟩
   go_wp2
   go_ret2
   exact⟨_,_,rfl,I2.out,I3.out⟩
set_option maxHeartbeats 1000000 in
theorem div_long_own(A:Option Addr)(n c:Nat)(f:Nat→Nat)(B:Option Addr)(m d:Nat)(h:Nat→Nat)(w:World)(ha:Rd .u32 w A n f)(hc:n≤c)(hn:n≤8796093022207)(hf : ∀j,j<n→f j<4294967296)
 (hb:Rd .u32 w B m h) (hd:m≤d) (hm:m≤8796093022207) (hh : ∀j,j<m→h j<4294967296) (h1:2≤tlen h m) (hge:tlen h m≤tlen f n) (h2:2<tlen f n) :
 Calls Tryz.prog 139 #[.slice A n c,.slice B m d] w fun e w'=>DivOwn w w' e (num 4294967296 f n) (num 4294967296 h m):=by
 have hpn:=tlen_le (f:=f) n
 have hsm:=tlen_le (f:=h) m
 have C1:=fun w' hr'=>cut_any A n c f w' hr' hc j0i3
 have C2:=fun w' hr'=>cut_any B m d h w' hr' hd j0i3
 have hy0:=(tlen_trimmed (f:=h) m).pos (B:=4294967296) j0i3 j0i3
 have HN:=num_tlen (B:=4294967296) (f:=f) n
 have HM:=num_tlen (B:=4294967296) (f:=h) m
 rw [HM] at hy0
 obtain⟨k,hk⟩ : ∃k,tlen h m=k+1:=⟨tlen h m - 1,by omega⟩
 have htop:h k≠0:=by
  rcases tlen_trimmed (f:=h) m with h0 | h0
  ·omega
  ·rwa [hk] at h0
 have ha':=ha.less hpn
 have hb':=hb.less hsm
 have hf':=tlen_lt_dig hf
 have hh':=tlen_lt_dig hh
 rw [hk] at C2 hb' hh' HM hge hsm
 have DL:=Lib.hid (divLong_own A (tlen f n) c f B k d h w ha' j0i3 hf' hb' j0i3 hge hh' htop)
 rw [HN,HM] at DL
 have HE:Hid (decide (0<num 4294967296 h m)=true):=decide_eq_true hy0
 have HY:=Lib.hid hy0
 have D1:=Lib.hid C1
 have D2:=Lib.hid C2
 clear C1 C2 hy0 HN HM ha' hb' hf' hh' htop hf hh
 generalize tlen f n=p at *
 have hk1:1≤k := j0i3
 clear hk h1
 go_enter Tryz.func139,Tryz.ntmps139
 go_wp2_with fail
 refine(D1.out _ ha).mono ?_
 rintro e w' ⟨rfl,rfl⟩
 go_wp2_with fail
 refine(D2.out _ hb).mono ?_
 rintro e w' ⟨rfl,rfl⟩
 clear D1 D2 ha hb
 have hg1:(((k+1:Nat):Int) == 0)=false := jyif
 have hg2:(((k+1:Nat):Int) == 1)=false := jyif
 have hg3:(((k:Int)+1) == 0)=false := jyif
 have hg4:(((k:Int)+1) == 1)=false := jyif
 go_wp2_with fail
 refine DL.out.mono ?_
 rintro e w1 ⟨vq,vr,rfl,q2,q3⟩
 have Q2:=Lib.hid q2
 have Q3:=Lib.hid q3
 clear q2 q3 DL
 go_wp2
 go_ret3
 exact⟨_,_,rfl,Q2.out,Q3.out⟩
set_option maxHeartbeats 1000000 in
theorem div_one_own(A:Option Addr)(n c:Nat)(f:Nat→Nat)(B:Option Addr)(m d:Nat)(h:Nat→Nat)(w:World)(ha:Rd .u32 w A n f)(hc:n≤c)(hn:n≤8796093022208)(hf : ∀j,j<n→f j<4294967296)
 (hb:Rd .u32 w B m h) (hd:m≤d) (hm:m≤8796093022208) (hh : ∀j,j<m→h j<4294967296) (h1:tlen h m=1) (h2:2<tlen f n) :
 Calls Tryz.prog 139 #[.slice A n c,.slice B m d] w fun e w'=>DivOwn w w' e (num 4294967296 f n) (num 4294967296 h m):=by
 have C1:=fun w' hr'=>cut_any A n c f w' hr' hc j0i3
 have C2:=fun w' hr'=>cut_any B m d h w' hr' hd j0i3
 rw [h1] at C2
 have hpn:=tlen_le (f:=f) n
 have hsm:=tlen_le (f:=h) m
 have T:=fun hr'=>trim_any A (tlen f n) c f w hr' j0i3 j0i3
 have ht:tlen f (tlen f n)=tlen f n:=tlen_eq (Nat.le_refl _) (fun j a b=>by omega) (tlen_trimmed n)
 unfold TrimPost at T
 rw [ht] at T
 have hy0:=(tlen_trimmed (f:=h) m).pos (B:=4294967296) j0i3 j0i3
 have hy1:num 4294967296 h m=h 0:=by
  rw [← num_tlen,h1];simp [num]
 rw [num_tlen] at hy0
 rw [hy1] at hy0 ⊢
 have hy:=hh 0 j0i3
 obtain⟨bd,rfl,hcell⟩:=hb 0 j0i3
 have hcell0:w.cell? bd=some (.int .u32 (h 0:Nat)):=by simpa [Addr.add] using hcell
 have ha':=ha.less hpn
 have HF:=Lib.hid (tlen_lt_dig hf)
 have HE:Hid (decide (0<h 0)=true):=decide_eq_true j0i3
 have HN:=Lib.hid (num_tlen (B:=4294967296) (f:=f) n)
 have D1:=Lib.hid C1
 have D2:=Lib.hid C2
 have DT:=Lib.hid T
 clear C1 C2 T ht hf hh hy1 h1 hcell
 generalize tlen f n=p at *
 generalize h 0=y at *
 go_enter Tryz.func139,Tryz.ntmps139
 go_wp2_with fail
 refine(D1.out _ ha).mono ?_
 rintro e w' ⟨rfl,rfl⟩
 go_wp2_with fail
 refine(D2.out _ hb).mono ?_
 rintro e w' ⟨rfl,rfl⟩
 go_wp2_with fail
 refine(DT.out ha').mono ?_
 rintro e w1 ⟨rfl,f2,hrow,hf2,hbl,hs⟩
 have hc1:w1.cell? bd=some (.int .u32 (y:Nat)):=(hbl.cell (p:=bd) (block_lt_of_cell hcell0)).trans hcell0
 have HF2:=Lib.hid hf2
 have DS:=Lib.hid (divShort_any w.heap.size 0 p p p y f2 w1 hrow j0i3 hy0 hy (fun j hj=>by rw [Nat.zero_add,HF2.out j hj];exact HF.out j hj) j0i3)
 clear hf2 hcell0 D1 D2 DT ha ha' hb
 go_wp2_with fail
 refine DS.out.mono ?_
 rintro e w2 ⟨rest,f3,rfl,hinv⟩
 obtain⟨i1,i2,i3,i4,i5,i6⟩:=hinv
 simp only [Nat.sub_self,Nat.add_zero,Nat.zero_add,Nat.zero_le,true_and,forall_const] at i4 i5 i6
 rw [num_congr (f:=f2) (f':=f) p HF2.out,HN.out] at i6
 obtain⟨e1,e2⟩:=div_mod_of i6 i1
 have q1:IsNat w2 (.slice (some ⟨w.heap.size,0,none⟩) (tlen f3 p) p) (num 4294967296 f n / y):=isNat_row i2 (Nat.le_refl _) (Nat.le_refl _) i5 e1.symm
 have hb2:Below w.heap.size w w2:=i3.below hbl hbl.size (Nat.le_refl _)
 have q3:=i2.rd0 (Nat.le_refl p)
 have E2:=Lib.hid e2
 clear i2 i3 i4 i5 i6 e1 e2
 go_wp2_with fail
 refine(cut_any _ p p _ _ q3 (Nat.le_refl _) j0i3).mono ?_
 rintro e w' ⟨rfl,rfl⟩
 go_wp2_with fail
 refine(cut_own rest w2 j0i3 _ rfl).mono ?_
 rintro e w3 ⟨v,rfl,hv,hb3⟩
 go_wp2
 go_ret3
 exact⟨_,v,rfl,by rw [E2.out];exact hv.mono hb2.size,below_trans hb2 hb3⟩
theorem div_own(A:Option Addr)(n c:Nat)(f:Nat→Nat)(B:Option Addr)(m d:Nat)(h:Nat→Nat)(w:World)(ha:Rd .u32 w A n f)(hc:n≤c)(hn:n≤8796093022207)(hf : ∀j,j<n→f j<4294967296)
 (hb:Rd .u32 w B m h) (hd:m≤d) (hm:m≤8796093022207) (hh : ∀j,j<m→h j<4294967296) (h0:0<tlen h m) (h1:tlen h m≤tlen f n) (h2:2<tlen f n) :
 Calls Tryz.prog 139 #[.slice A n c,.slice B m d] w fun e w'=>DivOwn w w' e (num 4294967296 f n) (num 4294967296 h m):=by
 by_cases h3:tlen h m=1
 ·exact div_one_own A n c f B m d h w ha hc j0i3 hf hb hd j0i3 hh h3 h2
 exact div_long_own A n c f B m d h w ha hc hn hf hb hd hm hh j0i3 h1 h2
end Go.Proofs.YtgilnmhejjpleaaGreat
namespace Go.Proofs.YtgilnmhejjpleaaGreat
open Go.RowKit
def Duo(B:Nat)(w:World)(va vb:Value)(X Y:Nat):Prop :=
 ∃ga na ca sa fa gb nb cb sb fb,va = .slice (some ⟨ga,0,none⟩) na ca∧vb = .slice (some ⟨gb,0,none⟩) nb cb∧B≤ga∧B≤gb∧ga≠gb∧na≤ca∧nb≤cb∧na≤sa∧nb≤sb∧Row .u32 117 w ga sa fa∧Row .u32 117 w gb sb fb∧
  (∀j,j<na→fa j<4294967296)∧(∀j,j<nb→fb j<4294967296)∧Trimmed fa na∧Trimmed fb nb∧num 4294967296 fa na=X∧num 4294967296 fb nb=Y
theorem Duo.isNat {B:Nat} {w:World} {va vb:Value} {X Y:Nat}(h:Duo B w va vb X Y):IsNat w va X∧IsNat w vb Y:=by
 obtain⟨ga,na,ca,sa,fa,gb,nb,cb,sb,fb,rfl,rfl,h1,h2,h3,h4,h5,h6,h7,h8,h9,h10,h11,h12,h13,h14,h15⟩:=h
 exact⟨⟨_,_,_,fa,rfl,h4,h8.rd0 h6,h10,h12,h14⟩,⟨_,_,_,fb,rfl,h5,h9.rd0 h7,h11,h13,h15⟩⟩
theorem Duo.below {B:Nat} {w w':World} {va vb:Value} {X Y:Nat}(h:Duo B w va vb X Y)(hb:Below w.heap.size w w'):Duo B w' va vb X Y:=by
 obtain⟨ga,na,ca,sa,fa,gb,nb,cb,sb,fb,h0,h0',h1,h2,h3,h4,h5,h6,h7,h8,h9,h10⟩:=h
 exact⟨ga,na,ca,sa,fa,gb,nb,cb,sb,fb,h0,h0',h1,h2,h3,h4,h5,h6,h7,h8.keep hb,h9.keep hb,h10⟩
theorem Duo.swap {B:Nat} {w:World} {va vb:Value} {X Y:Nat}(h:Duo B w va vb X Y):Duo B w vb va Y X:=by
 obtain⟨ga,na,ca,sa,fa,gb,nb,cb,sb,fb,h0,h0',h1,h2,h3,h4,h5,h6,h7,h8,h9,h10,h11,h12,h13,h14,h15⟩:=h
 exact⟨gb,nb,cb,sb,fb,ga,na,ca,sa,fa,h0',h0,h2,h1,Ne.symm h3,h5,h4,h7,h6,h9,h8,h11,h10,h13,h12,h15,h14⟩
def NearPost(B:Nat)(w w':World)(e:Ending)(N M:Nat):Prop :=
 ∃va vb X Y,e = .returned (.tuple #[va,vb])∧Duo B w' va vb X Y∧Y≤X∧Y<M∧X≤N∧Nat.gcd X Y=Nat.gcd N M∧Below B w w'
theorem steps_truly {s P Q R T x y:Int} {N M D:Nat}(h:FInv s (N / D:Nat) (M / D:Nat) x y P Q R T)(hD:0<D)(hQ:Q≠0) :
 ∃X Y:Nat,s*P*(N:Int) + -(s*Q)*(M:Int)=(X:Int)∧ -(s*R)*(N:Int)+s*T*(M:Int)=(Y:Int)∧Y<X∧X≤M∧Nat.gcd X Y=Nat.gcd N M:=by
 obtain⟨hl,h62,hQT,hT31,hc⟩:=h
 have hc':P≤Q∧1≤R∧1≤Q∧T≤y∧T+Q≤x - y:=by
  rcases hc with h | h
  ·exact absurd h.1 hQ
  ·exact h
 obtain⟨a,b,ha,hb,hb0,hba,hA,hB,hle⟩:=hl.truly (D:=(D:Int)) (a0:=((N % D:Nat):Int)) (b0:=((M % D:Nat):Int)) hc'.1 hc'.2.1 j0i3 ⟨by omega,by have:=Nat.mod_lt N hD;omega⟩ ⟨by omega,by have:=Nat.mod_lt M hD;omega⟩ hc'.2.2.2.1 hc'.2.2.2.2
 have eN:((N / D:Nat):Int)*(D:Int)+((N % D:Nat):Int)=(N:Int) := jppf
 have eM:((M / D:Nat):Int)*(D:Int)+((M % D:Nat):Int)=(M:Int) := jppf
 rw [eN,eM] at ha hb
 rw [eN] at hA
 rw [eM] at hB hle
 obtain⟨X,rfl⟩ : ∃X:Nat,a=(X:Int):=⟨a.toNat,by omega⟩
 obtain⟨Y,rfl⟩ : ∃Y:Nat,b=(Y:Int):=⟨b.toNat,by omega⟩
 have hg:=gcd_same ha hb hA hB
 refine⟨X,Y,by rw [ha];grind,by rw [hb];grind,by omega,by omega,?_⟩
 simpa [Int.gcd_natCast_natCast] using hg
theorem fac_of {s P Q:Int}(hs:s=1∨s = -1)(hP:0≤P)(hP1:P<2147483648)(hQ:0≤Q)(hQ1:Q<2147483648):Fac (s*P) (-(s*Q))∧Fac (-(s*P)) (s*Q):=by
 unfold Fac
 rcases hs with rfl | rfl <;> omega
set_option maxRecDepth 100000 in
set_option maxHeartbeats 4000000 in
theorem nearer_any(B ga sa n ca gb sb m cb:Nat)(fa fb:Nat→Nat)(w:World)(ra:Row .u32 117 w ga sa fa)(rb:Row .u32 117 w gb sb fb)(hna:n+1≤sa)(hmb:m≤sb)(hca:n+1≤ca)(hcb:m≤cb)(hab:ga≠gb)(hBa:B≤ga)(hBb:B≤gb)
 (hfa : ∀j,j<n+1→fa j<4294967296) (hfb : ∀j,j<m→fb j<4294967296) (ta:Trimmed fa (n+1)) (tb:Trimmed fb m) (hn:2≤n) (hn2:n≤10000000) (hm:0<m) (hle:num 4294967296 fb m≤num 4294967296 fa (n+1)) :
 Calls Tryz.prog 135 #[.slice (some ⟨ga,0,none⟩) (n+1) ca,.slice (some ⟨gb,0,none⟩) m cb] w fun e w'=>NearPost B w w' e (num 4294967296 fa (n+1)) (num 4294967296 fb m):=by
 have la:=ra.lt
 have lb:=rb.lt
 have htop:fa n≠0:=by
  rcases ta with h | h
  ·omega
  ·exact h
 have hmn:m≤n+1:=tb.len (B:=4294967296) j0i3 (Nat.lt_of_le_of_lt hle (num_lt j0i3 _ hfa))
 have HFO:=Lib.hid (foresee_any (some ⟨ga,0,none⟩) n ca fa (some ⟨gb,0,none⟩) m cb fb w (ra.rd0 hna) (rb.rd0 hmb) hfa hfb hn j0i3 htop hle)
 have RA:=Lib.hid ra
 have RB:=Lib.hid rb
 have HFA:=Lib.hid hfa
 have HFB:=Lib.hid hfb
 have TA:=Lib.hid ta
 have TB:=Lib.hid tb
 have HLE:=Lib.hid hle
 have ela:Hid (tlen fa (n+1)=n+1):=tlen_eq (Nat.le_refl _) (fun j a b=>by omega) ta
 have elb:Hid (tlen fb m=m):=tlen_eq (Nat.le_refl _) (fun j a b=>by omega) tb
 clear ra rb hfa hfb ta tb hle htop
 go_enter Tryz.func135,Tryz.ntmps135
 go_wp2_with fail
 refine HFO.out.mono ?_
 rintro e w1 ⟨D,hD,a,b,c,d,rfl,hb1,s,P,Q,R,T,x,y,hinv,ea,eb,ec,ed⟩
 have RA2:Hid (∀o,Row .u32 117 (w1.alloc o) ga sa fa):=fun o=>(RA.out.keep hb1).keep (below_new _ _)
 have RB2:Hid (∀o,Row .u32 117 (w1.alloc o) gb sb fb):=fun o=>(RB.out.keep hb1).keep (below_new _ _)
 have HB2:Hid (∀o,Below B w (w1.alloc o)):=fun o=>((hb1.mono (show B≤w.heap.size by omega)).alloc (by have:=hb1.size;omega) o)
 have hs1:=hb1.size
 have HINV:=Lib.hid hinv
 have EA:=Lib.hid ea
 have EB:=Lib.hid eb
 have EC:=Lib.hid ec
 have ED:=Lib.hid ed
 have HDp:=Lib.hid hD
 clear hb1 HFO hinv ea eb ec ed hD RA RB
 obtain⟨w2,hw2⟩ : ∃W,W=w1.alloc (.cells #[.int .i64 a,.int .i64 b,.int .i64 c,.int .i64 d] 149):=⟨_,rfl⟩
 have K6:=Lib.hid (show Blk w2 w1.heap.size 149 #[.int .i64 a,.int .i64 b,.int .i64 c,.int .i64 d] from by rw [hw2];exact Blk.new _ _ rfl _ _)
 have RA3:=Lib.hid (show Row .u32 117 w2 ga sa fa from by rw [hw2];exact RA2.out _)
 have RB3:=Lib.hid (show Row .u32 117 w2 gb sb fb from by rw [hw2];exact RB2.out _)
 have HB3:=Lib.hid (show Below B w w2 from by rw [hw2];exact HB2.out _)
 have hs2:w1.heap.size<w2.heap.size:=by rw [hw2];simp
 have HW2:=Lib.hid hw2.symm
 clear hw2
 by_cases hb0:b=0
 ·subst hb0
  have HD:=Lib.hid (div_own (some ⟨ga,0,none⟩) (n+1) ca fa (some ⟨gb,0,none⟩) m cb fb w2 (RA3.out.rd0 hna) hca j0i3 HFA.out (RB3.out.rd0 hmb) hcb j0i3 HFB.out (by rw [elb.out];exact hm) (by rw [ela.out,elb.out];exact hmn) (by rw [ela.out];omega))
  go_wp2_with fail
  rw [HW2.out]
  refine HD.out.mono ?_
  rintro e w3 ⟨vq,vr,rfl,hr,hb3⟩
  have hM0:0<num 4294967296 fb m:=TB.out.pos j0i3 hm
  have HR:=Lib.hid hr
  have HB4:=Lib.hid (HB3.out.trans (hb3.mono j0i3))
  have RB4:=Lib.hid (RB3.out.keep hb3)
  clear hb3 hr HD
  obtain⟨M,hMe⟩ : ∃M,M=num 4294967296 fb m:=⟨_,rfl⟩
  have HM:=Lib.hid hMe
  clear hM0 hMe
  go_wp2
  go_ret2
  obtain⟨g,k,c2,sz,f,rfl,r1,r2,r3,r4,r5,r6,r7⟩:=HR.out
  exact⟨_,_,_,_,rfl,⟨gb,m,cb,sb,fb,g,k,c2,sz,f,rfl,rfl,hBb,by omega,by omega,hcb,r2,hmb,r3,RB4.out,r4,HFB.out,r5,TB.out,r6,rfl,r7⟩,
   Nat.le_of_lt (Nat.mod_lt _ (TB.out.pos j0i3 hm)),Nat.mod_lt _ (TB.out.pos j0i3 hm),HLE.out,gcd_turn _ _,HB4.out⟩
 ·have hQ:Q≠0:=fun h=>hb0 (by rw [EB.out,h];simp)
  have hg:(b == 0)=false:=by rw [beq_eq_false_iff_ne];exact hb0
  obtain⟨X,Y,t1,t2,t3,t4,t5⟩:=steps_truly HINV.out HDp.out hQ
  obtain⟨hl,h62,hQT,hT31,hc⟩:=HINV.out
  have hs:=hl.sgn
  obtain⟨hP0,hQ0,hR0,hT1,-,-,-,-,hRT,hPQ,-,-,-⟩:=hl
  have hP31:P<2147483648:=by
   rcases hc with h | h
   ·exact absurd h.1 hQ
   ·omega
  have f1:Fac a b:=by rw [EA.out,EB.out];exact(fac_of hs hP0 hP31 hQ0 j0i3).1
  have f2:Fac c d:=by rw [EC.out,ED.out];exact(fac_of hs hR0 j0i3 j0i3 hT31).2
  rw [← EA.out,← EB.out] at t1
  rw [← EC.out,← ED.out] at t2
  have lM:num 4294967296 fb m<4294967296 ^ m:=num_lt j0i3 _ HFB.out
  have lX:X<4294967296 ^ (n+1):=Nat.lt_of_le_of_lt t4 (Nat.lt_of_lt_of_le lM (Nat.pow_le_pow_right j0i3 hmn))
  have HTK:=Lib.hid (take_any B ga sa (n+1) ca gb sb m cb a b c d fa fb w2 RA3.out RB3.out hna hmb hmn hab hBa hBb HFA.out HFB.out f1 f2 j0i3 t1 t2 lX j0i3)
  have H3:=Lib.hid t3
  have H4:=Lib.hid t4
  have H5:=Lib.hid t5
  clear t1 t2 t3 t4 t5 hc hs hP0 hQ0 hR0 hT1 hRT hPQ hP31 f1 f2 lM lX h62 hQT hT31 hQ RA2 RB2 HB2
  obtain⟨p0,p1,p2,p3⟩:=K6.out.cells4
  go_wp2_with fail
  rw [HW2.out]
  refine HTK.out.mono ?_
  rintro e w3 ⟨Fa,Fb,rfl,q1,q2,q3,q4,q5,q6,q7⟩
  have C1:=Lib.hid (cut_any (some ⟨ga,0,none⟩) (n+1) ca Fa w3 (q1.rd0 hna) hca j0i3)
  have C2:=Lib.hid (cut_any (some ⟨gb,0,none⟩) m cb Fb w3 (q2.rd0 hmb) hcb j0i3)
  have HPO:Hid (NearPost B w w3 (.returned (.tuple #[.slice (some ⟨ga,0,none⟩) (tlen Fa (n+1)) ca,.slice (some ⟨gb,0,none⟩) (tlen Fb m) cb])) (num 4294967296 fa (n+1)) (num 4294967296 fb m)) :=
   ⟨_,_,X,Y,rfl,⟨ga,_,ca,sa,Fa,gb,_,cb,sb,Fb,rfl,rfl,hBa,hBb,hab,Nat.le_trans (tlen_le _) hca,Nat.le_trans (tlen_le _) hcb,Nat.le_trans (tlen_le _) hna,Nat.le_trans (tlen_le _) hmb,q1,q2,tlen_lt_dig q4,tlen_lt_dig q5,tlen_trimmed _,tlen_trimmed _,by rw [num_tlen,q6],by rw [num_tlen,q7]⟩,
    Nat.le_of_lt H3.out,Nat.lt_of_lt_of_le H3.out H4.out,Nat.le_trans H4.out HLE.out,H5.out,HB3.out.trans (q3.mono (Nat.le_refl _))⟩
  clear q1 q2 q3 q4 q5 q6 q7 HTK
  go_wp2_with fail
  refine C1.out.mono ?_
  rintro e w4 ⟨rfl,rfl⟩
  go_wp2_with fail
  refine C2.out.mono ?_
  rintro e w4 ⟨rfl,rfl⟩
  go_wp2
  go_ret2
  exact HPO.out
theorem IsNat.uniq {w:World} {v:Value} {N M:Nat}(h:IsNat w v N)(h':IsNat w v M):N=M:=by
 obtain⟨A,n,c,f,rfl,h2,h3,h4,h5,rfl⟩:=h
 obtain⟨A',n',c',f',e,k2,k3,k4,k5,rfl⟩:=h'
 injection e with e1 e2 e3
 subst e1 e2
 refine num_congr _ fun j hj=>?_
 obtain⟨ad,e,hc⟩:=h3 j hj
 obtain⟨ad',e',hc'⟩:=k3 j hj
 rw [e] at e'
 injection e' with e'
 subst e'
 rw [hc] at hc'
 injection hc' with hc'
 injection hc' with _ hc'
 omega
open Classical in
noncomputable def natVal(w:World)(v:Value):Nat:=if h : ∃N,IsNat w v N then h.choose else 0
theorem natVal_eq {w:World} {v:Value} {N:Nat}(h:IsNat w v N):natVal w v=N:=by
 unfold natVal
 have hx : ∃N,IsNat w v N:=⟨N,h⟩
 rw [dif_pos hx]
 exact hx.choose_spec.uniq h
def GInv(w wr:World)(v0 v1:Value)(N M K:Nat):Prop :=
 ∃X Y,Duo w.heap.size wr v0 v1 X Y∧Y≤X∧X<4294967296 ^ K∧Nat.gcd X Y=Nat.gcd N M∧Below w.heap.size w wr
set_option maxRecDepth 100000 in
set_option maxHeartbeats 4000000 in
theorem gcd_any(A:Option Addr)(n c:Nat)(f:Nat→Nat)(B:Option Addr)(m d:Nat)(h:Nat→Nat)(w:World)(ha:Rd .u32 w A n f)(hc:n≤c)(hn:n≤400000)(hf : ∀j,j<n→f j<4294967296)
 (hb:Rd .u32 w B m h) (hd:m≤d) (hm:m≤400000) (hh : ∀j,j<m→h j<4294967296) :
 Calls Tryz.prog 122 #[.slice A n c,.slice B m d] w fun e w'=>NatPost w w' e (Nat.gcd (num 4294967296 f n) (num 4294967296 h m)):=by
 have T1:=Lib.hid (trim_any A n c f w ha hc j0i3)
 have T2:=Lib.hid (fun w' hb'=>trim_any B m d h w' hb' hd j0i3)
 have HB:=Lib.hid hb
 have t1:=tlen_le (f:=f) n
 have t2:=tlen_le (f:=h) m
 have hN0:=num_tlen (B:=4294967296) (f:=f) n
 have hM0:=num_tlen (B:=4294967296) (f:=h) m
 generalize num 4294967296 f n=N at *
 generalize num 4294967296 h m=M at *
 have HN:=Lib.hid hN0
 have HM:=Lib.hid hM0
 clear hN0 hM0
 have HF:=Lib.hid (tlen_lt_dig hf)
 have HH:=Lib.hid (tlen_lt_dig hh)
 have TF:=Lib.hid (tlen_trimmed (f:=f) n)
 have TH:=Lib.hid (tlen_trimmed (f:=h) m)
 clear ha hb hf hh
 go_enter Tryz.func122,Tryz.ntmps122
 go_wp2_with fail
 refine T1.out.mono ?_
 rintro e w1 ⟨rfl,f1,hr1,hf1,hb1,hz1⟩
 have R1:=Lib.hid hr1
 have F1:=Lib.hid hf1
 have B1:=Lib.hid hb1
 have T2':=Lib.hid (T2.out w1 (HB.out.below hb1))
 clear hr1 hf1 hb1 T1 T2
 go_wp2_with fail
 refine T2'.out.mono ?_
 rintro e w2 ⟨rfl,f2,hr2,hf2,hb2,hz2⟩
 have R2:=Lib.hid hr2
 have F2:=Lib.hid hf2
 have B2:=Lib.hid (below_trans B1.out hb2)
 have R1':=Lib.hid (R1.out.keep hb2)
 clear hr2 hf2 hb2 T2' R1
 generalize tlen f n=p at *
 generalize tlen h m=q at *
 obtain⟨K,hK⟩ : ∃K,K=p+q:=⟨_,rfl⟩
 have TW:Hid (Duo w.heap.size w2 (.slice (some ⟨w.heap.size,0,none⟩) p p) (.slice (some ⟨w1.heap.size,0,none⟩) q q) N M):=by
  refine⟨_,p,p,p,f1,_,q,q,q,f2,rfl,rfl,by omega,by omega,by omega,by omega,by omega,by omega,by omega,R1'.out,R2.out,fun j hj=>by rw [F1.out j hj];exact HF.out j hj,fun j hj=>by rw [F2.out j hj];exact HH.out j hj,?_,?_,by rw [num_congr _ F1.out,HN.out],by rw [num_congr _ F2.out,HM.out]⟩
  ·rcases TF.out with h | h
   ·exact .inl h
   ·by_cases h0:p=0
    ·exact .inl h0
    ·exact .inr (by rw [F1.out _ j0i3];exact h)
  ·rcases TH.out with h | h
   ·exact .inl h
   ·by_cases h0:q=0
    ·exact .inl h0
    ·exact .inr (by rw [F2.out _ j0i3];exact h)
 have lN:N<4294967296 ^ K:=by rw [← HN.out];exact Nat.lt_of_lt_of_le (num_lt j0i3 _ HF.out) (Nat.pow_le_pow_right j0i3 j0i3)
 have lM:M<4294967296 ^ K:=by rw [← HM.out];exact Nat.lt_of_lt_of_le (num_lt j0i3 _ HH.out) (Nat.pow_le_pow_right j0i3 j0i3)
 clear R1' R2 F1 F2 HF HH TF TH HN HM HB
 have LN:=Lib.hid lN
 have LM:=Lib.hid lM
 clear lN lM
 have hK2:K≤800000 := j0i3
 clear hK hz1 hz2
 have I1:=Lib.hid (TW.out.isNat.1.lim LN.out)
 have I2:=Lib.hid (TW.out.isNat.2.lim LM.out)
 obtain⟨r,hr⟩ : ∃r,cmpN N M=r:=⟨_,rfl⟩
 have CM:=Lib.hid (lim_cmp_is r hr I1.out I2.out j0i3 j0i3)
 have hr2:(r<0→N<M)∧(¬r<0→M≤N):=by
  rcases Nat.lt_trichotomy N M with h | h | h
  ·rw [cmpN_lt h] at hr;omega
  ·subst h;rw [cmpN_eq] at hr;omega
  ·rw [cmpN_gt h] at hr;omega
 have HR2:=Lib.hid hr2
 clear hr hr2
 go_wp2_with fail
 refine CM.out.mono ?_
 rintro e w3 ⟨rfl,hb3⟩
 have G1:Hid (r<0→GInv w w3 (.slice (some ⟨w1.heap.size,0,none⟩) q q) (.slice (some ⟨w.heap.size,0,none⟩) p p) N M K):=fun h=>⟨M,N,(TW.out.below hb3).swap,by have:=HR2.out.1 h;omega,LM.out,Nat.gcd_comm _ _,below_trans B2.out hb3⟩
 have G2:Hid (¬r<0→GInv w w3 (.slice (some ⟨w.heap.size,0,none⟩) p p) (.slice (some ⟨w1.heap.size,0,none⟩) q q) N M K):=fun h=>⟨N,M,TW.out.below hb3,HR2.out.2 j0i3,LN.out,rfl,below_trans B2.out hb3⟩
 clear CM hb3 I1 I2 TW B1 B2 HR2
 by_cases hr:r<0
 all_goals
  go_wp2
  go_loopw [0,1] (fun v0 v1 wr=>GInv w wr v0 v1 N M K) (fun _ v1 wr=>natVal wr v1)
  case atStart=>first | exact G1.out hr | exact G2.out hr
  case round =>
   obtain⟨X,Y,htw,hYX,hXK,hg,hbl⟩:=hrel
   clear G1 G2 hr
   have hi:=htw.isNat
   have HV:=Lib.hid (natVal_eq hi.2)
   have HI1:=Lib.hid hi.1
   have HI2:=Lib.hid hi.2
   obtain⟨ga,na,ca,sa,fa,gb,nb,cb,sb,fb,rfl,rfl,h1,h2,h3,h4,h5,h6,h7,h8,h9,h10,h11,h12,h13,h14,h15⟩:=htw
   have HG:=Lib.hid hg
   have HBL:=Lib.hid hbl
   have hnb:0<nb→0<Y:=fun h=>by rw [← h15];exact h13.pos j0i3 h
   have hnb':nb=0→Y=0:=fun h=>by rw [← h15,h];rfl
   have hna:na≤K:=h12.len (B:=4294967296) j0i3 (by rw [h14];exact hXK)
   have hba:nb≤na:=h13.len (B:=4294967296) j0i3 (by rw [h15];exact Nat.lt_of_le_of_lt hYX (by rw [← h14];exact num_lt j0i3 _ h10))
   have DZ:Hid (nb=0→NatPost w wr (.returned (.slice (some ⟨ga,0,none⟩) na ca)) (Nat.gcd N M)):=fun h=>by
    have e:=HG.out
    rw [hnb' h,Nat.gcd_zero_right] at e
    exact⟨_,rfl,by rw [← e];exact HI1.out,HBL.out⟩
   have DR:Hid (2<na→0<nb→Calls Tryz.prog 135 #[.slice (some ⟨ga,0,none⟩) na ca,.slice (some ⟨gb,0,none⟩) nb cb] wr fun e w'=>NearPost w.heap.size wr w' e X Y):=fun ha hb=>by
    obtain⟨na',rfl⟩ : ∃k,na=k+1:=⟨na - 1,by omega⟩
    rw [← h14,← h15]
    exact nearer_any w.heap.size ga sa na' ca gb sb nb cb fa fb wr h8 h9 h6 h7 h4 h5 h3 h1 h2 h10 h11 h12 h13 j0i3 j0i3 hb (by rw [h14,h15];exact hYX)
   have DW:Hid (na≤2→nb≤2→(X:Int)≤18446744073709551615∧(Y:Int)≤18446744073709551615∧Calls Tryz.prog 138 #[.slice (some ⟨ga,0,none⟩) na ca] wr (fun e w'=>e = .returned (.int .u64 (X:Nat))∧w'=wr)∧Calls Tryz.prog 138 #[.slice (some ⟨gb,0,none⟩) nb cb] wr (fun e w'=>e = .returned (.int .u64 (Y:Nat))∧w'=wr)):=fun ha hb=>by
    rw [← h14,← h15]
    exact⟨num_lt_two ha h10,num_lt_two hb h11,word_any _ na ca fa wr (h8.rd0 h6) h10 ha,word_any _ nb cb fb wr (h9.rd0 h7) h11 hb⟩
   have HXK:=Lib.hid hXK
   clear hi h1 h2 h3 h4 h5 h6 h7 h8 h9 h10 h11 h12 h13 h14 h15 hg hbl hYX hXK
   by_cases hb0:nb=0
   ·have DZ':=Lib.hid (DZ.out hb0)
    clear DZ DR DW
    subst hb0
    by_cases ha2:2<na
    all_goals
     go_wp2
    all_goals
     go_ret
     exact DZ'.out
   ·have hb1:0<nb:=by omega
    have hgb:((nb:Int) == 0)=false := jyif
    by_cases ha2:2<na
    ·have DN:=Lib.hid (DR.out ha2 hb1)
     have hlY:=Lib.hid (hnb hb1)
     clear DR DZ DW hb0 hnb hnb'
     go_wp2_with fail
     refine DN.out.mono ?_
     rintro e w4 ⟨va,vb,X',Y',rfl,n1,n2,n3,n4,n5,n6⟩
     have N1:=Lib.hid (show GInv w w4 va vb N M K from⟨X',Y',n1,n2,Nat.lt_of_le_of_lt n4 HXK.out,by rw [n5];exact HG.out,HBL.out.trans n6⟩)
     have N2:Hid (natVal w4 vb<natVal wr (.slice (some ⟨gb,0,none⟩) nb cb)):=by
      show _<_
      rw [HV.out,natVal_eq n1.isNat.2];exact n3
     clear n1 n2 n3 n4 n5 n6 DN
     go_wp2
     go_roundw
     case rel=>exact N1.out
     case measure=>exact N2.out
    ·have hna2:na≤2:=by omega
     obtain⟨x1,x2,W1,W2⟩:=DW.out j0i3 j0i3
     have W1':=Lib.hid W1
     have W2':=Lib.hid W2
     have GW:=Lib.hid (fun w'=>gcdWord_any X Y w' x1 x2)
     have hgX:(Nat.gcd X Y:Int)≤18446744073709551615:=by
      have:Nat.gcd X Y≤Y:=Nat.gcd_le_right _ (hnb hb1)
      omega
     have OW:=Lib.hid (fun w'=>ofWord_any (Nat.gcd X Y) w' hgX)
     clear DR DZ DW W1 W2 hnb hnb' x1 x2 hgX
     go_wp2_with fail
     refine W1'.out.mono ?_
     rintro e w4 ⟨rfl,rfl⟩
     go_wp2_with fail
     refine W2'.out.mono ?_
     rintro e w4 ⟨rfl,rfl⟩
     generalize Nat.gcd X Y=g at *
     go_wp2_with fail
     refine(GW.out _).mono ?_
     rintro e w5 ⟨rfl,hb5⟩
     have HB5:=Lib.hid (HBL.out.trans (hb5.mono HBL.out.size))
     clear hb5
     go_wp2_with fail
     refine(OW.out _).mono ?_
     rintro e w6 ⟨v,rfl,hv,hb6⟩
     have HB6:=Lib.hid (HB5.out.trans (hb6.mono HB5.out.size))
     have HV6:=Lib.hid (show IsNat w6 v (Nat.gcd N M) from by rw [← HG.out];exact hv)
     clear hb6 hv
     go_wp2
     go_ret
     exact⟨v,rfl,HV6.out,HB6.out⟩
theorem lim_gcd {k m N M:Nat} {w:World} {v1 v2:Value}(h1:Lim k w v1 N)(h2:Lim m w v2 M)(hk:k≤400000)(hm:m≤400000):Calls Tryz.prog 122 #[v1,v2] w fun e w'=>NatPost w w' e (Nat.gcd N M):=by
 obtain⟨A,n,c,f,rfl,a1,a2,a3,a4,rfl⟩:=h1
 obtain⟨B,m,d,h,rfl,b1,b2,b3,b4,rfl⟩:=h2
 exact gcd_any A n c f B m d h w a2 a1 j0i3 a3 b2 b1 j0i3 b3
end Go.Proofs.YtgilnmhejjpleaaGreat
