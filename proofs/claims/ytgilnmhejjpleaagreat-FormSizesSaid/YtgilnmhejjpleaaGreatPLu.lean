/- Division, whose rest is memory of its own. -/
import Derived.Test.YtgilnmhejjpleaaGreatPNatD
namespace Go.Proofs.YtgilnmhejjpleaaGreat
open Go.RowKit
def HasNat(B:Nat)(w:World)(v:Value)(N:Nat):Prop :=
 ∃g n c sz f,v = .slice (some ⟨g,0,none⟩) n c∧B≤g∧n≤c∧n≤sz∧Row .u32 117 w g sz f∧(∀j,j<n→f j<4294967296)∧Trimmed f n∧num 4294967296 f n=N
theorem hasNat_row {w:World} {B g sz:Nat} {f:Nat→Nat} {N:Nat}(h:Row .u32 117 w g sz f)(hB:B≤g) {n c:Nat}(hn:n≤sz)(hc:n≤c)(hf : ∀j,j<n→f j<4294967296)(hN:num 4294967296 f n=N) :
 HasNat B w (.slice (some ⟨g,0,none⟩) (tlen f n) c) N :=
 ⟨_,_,_,_,f,rfl,hB,Nat.le_trans (tlen_le n) hc,Nat.le_trans (tlen_le n) hn,h,fun j hj=>hf j (Nat.lt_of_lt_of_le hj (tlen_le n)),tlen_trimmed n,by rw [num_tlen,hN]⟩
theorem HasNat.mono {B B':Nat} {w:World} {v:Value} {N:Nat}(h:HasNat B w v N)(hb:B'≤B):HasNat B' w v N:=by
 obtain⟨g,n,c,sz,f,h1,h2,h3⟩:=h
 exact⟨g,n,c,sz,f,h1,by omega,h3⟩
def LongOwn(w w':World)(e:Ending)(X Y:Nat):Prop :=
 ∃vq vr,e = .returned (.tuple #[vq,vr])∧HasNat w.heap.size w' vr (X % Y)∧Below w.heap.size w w'
def DivOwn(w w':World)(e:Ending)(x y:Nat):Prop :=
 ∃vq vr,e = .returned (.tuple #[vq,vr,.bool true])∧HasNat w.heap.size w' vr (x % y)∧Below w.heap.size w w'
theorem cut_own(x:Nat)(w:World)(hx:x<4294967296)(g:Nat)(hg:g=w.heap.size) :
 Calls Tryz.prog 121 #[.slice (some ⟨g,0,none⟩) 1 1] (w.alloc (.cells #[.int .u32 (x:Nat)] 117)) fun e w' => ∃v,e = .returned v∧HasNat w.heap.size w' v x∧Below w.heap.size w w':=by
 subst hg
 have hrow:Row .u32 117 (w.alloc (.cells #[.int .u32 (x:Nat)] 117)) w.heap.size 1 (fun _=>x):=row_one w x
 refine(cut_any _ 1 1 _ _ (hrow.rd0 (Nat.le_refl _)) (Nat.le_refl _) j0a).mono ?_
 rintro e w' ⟨rfl,rfl⟩
 exact⟨_,rfl,hasNat_row hrow (Nat.le_refl _) (Nat.le_refl _) (Nat.le_refl _) (fun _ _=>hx) (by simp [num]),below_new _ _⟩
set_option maxHeartbeats 2000000 in
theorem divLong_own(A:Option Addr)(n c:Nat)(f:Nat→Nat)(B:Option Addr)(k d:Nat)(h:Nat→Nat)(w:World)(ha:Rd .u32 w A n f)(hn:n≤8796093022207)(hf : ∀j,j<n→f j<4294967296)
 (hb:Rd .u32 w B (k+1) h) (hk:1≤k) (hkn:k+1≤n) (hh : ∀j,j<k+1→h j<4294967296) (ht:h k≠0) :
 Calls Tryz.prog 146 #[.slice A n c,.slice B (k+1:Nat) d] w fun e w'=>LongOwn w w' e (num 4294967296 f n) (num 4294967296 h (k+1)):=by
 obtain⟨bd,rfl,_⟩:=hb 0 j0a
 have hc0:=hb.at_ (j:=k) j0a
 have HL:=Lib.hid (fun w=>lead_any (h k) w (hh k j0a) j0a)
 have HA:=Lib.hid ha
 have HB:=Lib.hid hb
 have HF:=Lib.hid hf
 have HH:=Lib.hid hh
 clear ha hb hf hh
 go_enter Tryz.func146,Tryz.ntmps146
 go_wp2_with fail
 refine(HL.out _).mono ?_
 rintro e w' ⟨⟨s,rfl,hs,n1,n2⟩,rfl⟩
 have N1:=Lib.hid n1
 have N2:=Lib.hid n2
 clear n1 n2 hc0
 have U1:=Lib.hid (shiftUp_any (some bd) (k+1) d s h w' HB.out hs j0a HH.out)
 go_wp2_with fail
 refine U1.out.mono ?_
 rintro e w1 ⟨Fd,rfl,hrd,hbd,hfd,hnd⟩
 have NT:=Lib.hid (norm_top hs HH.out N1.out N2.out hfd hnd)
 have HFD:=Lib.hid (fun j (hj:j<k+1)=>hfd j j0a)
 have HD:=Lib.hid (hrd.rd0 (n:=k+1) j0a)
 have HA1:=Lib.hid (HA.out.below hbd)
 have HB1:=Lib.hid hbd
 have hg1:=hrd.lt
 clear hfd hnd hrd hbd HB U1
 have U2:=Lib.hid (shiftUp_any A n c s f w1 HA1.out hs j0a HF.out)
 go_wp2_with fail
 refine U2.out.mono ?_
 rintro e w2 ⟨Fr,rfl,hrr,hbr,hfr,hnr⟩
 obtain⟨t0,ht0⟩ : ∃t0,t0+k=n:=⟨n - k,by omega⟩
 have ST:=Lib.hid (long_start hs HF.out hfr hnr NT.out.2.2 ht0)
 have HFR:=Lib.hid hfr
 have HNR:=Lib.hid hnr
 have HR2:=Lib.hid hrr
 have HD2:=Lib.hid (HD.out.below hbr)
 have HB2:=Lib.hid (below_trans HB1.out hbr)
 have hg2:=hrr.lt
 have hs1:=hbr.size
 have hs0:=HB1.out.size
 clear hfr hnr hrr hbr U2 HD HB1 HA1
 have hsub:(n:Int) - ((k+1:Nat):Int)+1=(t0:Int) := j0a
 have hsub2:(n:Int) - ((k:Int)+1)+1=(t0:Int) := j0a
 generalize hG1:w'.heap.size=g1 at *
 generalize hG2:w1.heap.size=g2 at *
 go_wp2_with (at_make;refine wpList_make_row rfl _ _ 32 rfl .u32 117 Tryz.underlying32 4 u32_info j0a .i64 .i64 _ _ t0 rfl rfl j0a j0a j0a ?_;intro w3 hrow3 hb3 hs3)
 have HR3:=Lib.hid hrow3
 have M0:=Lib.hid (show LongMem w' w3 g1 g2 w2.heap.size (k+1) n t0 Fd Fr (fun _=>0) from
  ⟨HR2.out.keep hb3,hrow3,HD2.out.below hb3,by rw [hG1];exact HB2.out.trans (hb3.mono j0a),by omega,by omega,by omega,by omega,by omega⟩)
 have hDL:=num_lt (B:=4294967296) j0a (k+1) HFD.out
 rw [NT.out.1] at hDL
 have hD0:0<2 ^ s*num 4294967296 h (k+1):=by
  have:=NT.out.2.2
  have hp:0<4294967296 ^ k:=Nat.pow_pos j0a
  omega
 have L0:=Lib.hid (show LongNum (k+1) n t0 (t0 - 0) (2 ^ s*num 4294967296 h (k+1)) (2 ^ s*num 4294967296 f n) Fr (fun _=>0) from
  ⟨HFR.out,fun j a b=>by omega,fun j _=>by show(0:Nat)<4294967296;omega,ST.out,by
   rw [Nat.sub_zero,Nat.sub_self,show t0+(k+1)=n+1 from by omega,HNR.out];simp [num]⟩)
 have HDL:=Lib.hid hDL
 have HD0:=Lib.hid hD0
 have NT1:=Lib.hid NT.out.1
 have NT2:=Lib.hid NT.out.2.1
 obtain⟨g3,hG3⟩ : ∃g3,g3=w2.heap.size:=⟨_,rfl⟩
 rw [← hG3] at M0 HR3 ⊢
 clear hDL hD0 hG3 hb3 hs3 hrow3 HR2 HD2 HB2 HFR HNR ST NT hs1 hs0 hg1 hg2 HR3
 generalize hDe:2 ^ s*num 4294967296 h (k+1)=D at *
 generalize hRe:2 ^ s*num 4294967296 f n=R at *
 have HDe:=Lib.hid hDe
 have HRe:=Lib.hid hRe
 clear hDe hRe hG1 hG2
 go_loopw [36] (fun v36 wr => ∃i F Q,i≤t0∧v36 = .int .i64 (i:Nat)∧LongMem w' wr g1 g2 g3 (k+1) n t0 Fd F Q∧LongNum (k+1) n t0 (t0 - i) D R F Q) (fun v36 _=>t0 - (intOf v36).toNat)
 case atStart=>exact⟨0,Fr,_,Nat.zero_le _,rfl,M0.out,L0.out⟩
 case round =>
  obtain⟨i,F,Q,hi,rfl,hmem,hnum⟩:=hrel
  clear M0 L0
  have HM:=Lib.hid hmem
  clear hmem
  by_cases hlt:i<t0
  ·obtain⟨j,hj⟩ : ∃j,j+1+i=t0:=⟨t0 - 1 - i,by omega⟩
   rw [show t0 - i=j+1 from j0a] at hnum
   have hj1:(t0:Int) - 1 - (i:Int)=(j:Int) := j0a
   have DS:=Lib.hid (divStep_any g2 j (k+1) (n+1 - j) (n+1) (some ⟨g1,0,none⟩) (k+1+1) F Fd wr HM.out.1 j0a j0a j0a j0a j0a HM.out.2.2.1
    (fun ad e=>by injection e with e;subst e;exact HM.out.2.2.2.2.2.2.2.1) (fun x hx=>hnum.1 _ j0a) HFD.out (by simpa using NT2.out) (by rw [NT1.out];exact long_seg hnum j0a))
   have HN:=Lib.hid hnum
   clear hnum
   go_wp2_with fail
   rw [show j+(k+1)+1 - j=k+1+1 from j0a]
   refine DS.out.mono ?_
   rintro e w4 ⟨Fp,rfl,p1,p2,p3,p4,p5⟩
   rw [NT1.out] at p5 ⊢
   have HM2:=Lib.hid (HM.out.step p1 p2)
   have HN2:=Lib.hid (long_step HN.out j0a j0a (Nat.le_of_lt HDL.out) HD0.out p3 p4 p5)
   have hcell:=HM2.out.2.1.cell (j:=j) j0a
   have hfz:=HM2.out.2.1.frozen j
   clear p1 p2 p3 p4 p5 HM HN DS
   generalize num 4294967296 (fun i=>F (j+i)) (k+1+1) / D=q at *
   have HM3:=Lib.hid (HM2.out.store j q)
   clear HM2
   go_wp2
   go_roundw
   case rel=>exact⟨i+1,Fp,_,by omega,by go_num,HM3.out,by rw [show t0 - (i+1)=j from j0a];exact HN2.out⟩
   case measure=>simp [intOf];omega
  ·obtain rfl:i=t0:=by omega
   rw [Nat.sub_self] at hnum
   have LE:=Lib.hid (unshift (s:=s) (X:=num 4294967296 f n) (Y:=num 4294967296 h (k+1)) (by rw [HDe.out,HRe.out];exact long_end hnum j0a))
   have HQ:=Lib.hid hnum.2.2.1
   have HFF:=Lib.hid hnum.1
   have SD:=Lib.hid (shiftDown_any g2 (n+1) (n+1) s F wr HM.out.1 hs j0a HFF.out)
   clear hnum
   go_wp2_with fail
   refine SD.out.mono ?_
   rintro e w5 ⟨F5,rfl,d1,d2,d3,d4⟩
   have hM:=HM.out.step d1 d2
   have n1:num 4294967296 F5 (n+1)=num 4294967296 f n % num 4294967296 h (k+1):=by
    rw [num_congr _ d3,num_sd s hs (n+1) F HFF.out];exact LE.out.2
   have l1 : ∀j,j<n+1→F5 j<4294967296:=fun j hj=>by rw [d3 j hj];exact Nat.mod_lt _ j0a
   have I1:=Lib.hid (isNat_row (c:=i) hM.2.1 (Nat.le_refl _) (Nat.le_refl _) HQ.out LE.out.1)
   have I2:=Lib.hid (hasNat_row (c:=n+1) hM.1 hM.2.2.2.2.1 (Nat.le_refl _) (Nat.le_refl _) l1 n1)
   have I3:=Lib.hid hM.2.2.2.1
   have C1:=Lib.hid (cut_any _ i i Q w5 (hM.2.1.rd0 (Nat.le_refl _)) (Nat.le_refl _) j0a)
   have C2:=Lib.hid (cut_any _ (n+1) (n+1) F5 w5 (hM.1.rd0 (Nat.le_refl _)) (Nat.le_refl _) j0a)
   clear hM n1 l1 d1 d2 d3 d4 SD HM LE HQ HFF
   go_wp2_with fail
   refine C1.out.mono ?_
   rintro e w6 ⟨rfl,rfl⟩
   go_wp2_with fail
   refine C2.out.mono ?_
   rintro e w6 ⟨rfl,rfl⟩
   go_wp2
   go_ret2
   exact⟨_,_,rfl,I2.out,I3.out⟩
set_option maxHeartbeats 1000000 in
theorem div_long_own(A:Option Addr)(n c:Nat)(f:Nat→Nat)(B:Option Addr)(m d:Nat)(h:Nat→Nat)(w:World)(ha:Rd .u32 w A n f)(hc:n≤c)(hn:n≤8796093022207)(hf : ∀j,j<n→f j<4294967296)
 (hb:Rd .u32 w B m h) (hd:m≤d) (hm:m≤8796093022207) (hh : ∀j,j<m→h j<4294967296) (h1:2≤tlen h m) (hge:tlen h m≤tlen f n) (h2:2<tlen f n) :
 Calls Tryz.prog 139 #[.slice A n c,.slice B m d] w fun e w'=>DivOwn w w' e (num 4294967296 f n) (num 4294967296 h m):=by
 have hpn:=tlen_le (f:=f) n
 have hsm:=tlen_le (f:=h) m
 have C1:=fun w' hr'=>cut_any A n c f w' hr' hc j0a
 have C2:=fun w' hr'=>cut_any B m d h w' hr' hd j0a
 have hy0:=(tlen_trimmed (f:=h) m).pos (B:=4294967296) j0a j0a
 have HN:=num_tlen (B:=4294967296) (f:=f) n
 have HM:=num_tlen (B:=4294967296) (f:=h) m
 rw [HM] at hy0
 obtain⟨k,hk⟩ : ∃k,tlen h m=k+1:=⟨tlen h m - 1,by omega⟩
 have htop:h k≠0:=by
  rcases tlen_trimmed (f:=h) m with h0 | h0
  ·omega
  ·rwa [hk] at h0
 have ha':=ha.less hpn
 have hb':=hb.less hsm
 have hf':=tlen_lt_dig hf
 have hh':=tlen_lt_dig hh
 rw [hk] at C2 hb' hh' HM hge hsm
 have DL:=Lib.hid (divLong_own A (tlen f n) c f B k d h w ha' j0a hf' hb' j0a hge hh' htop)
 rw [HN,HM] at DL
 have HE:Hid (decide (0<num 4294967296 h m)=true):=decide_eq_true hy0
 have HY:=Lib.hid hy0
 have D1:=Lib.hid C1
 have D2:=Lib.hid C2
 clear C1 C2 hy0 HN HM ha' hb' hf' hh' htop hf hh
 generalize tlen f n=p at *
 have hk1:1≤k := j0a
 clear hk h1
 go_enter Tryz.func139,Tryz.ntmps139
 go_wp2_with fail
 refine(D1.out _ ha).mono ?_
 rintro e w' ⟨rfl,rfl⟩
 go_wp2_with fail
 refine(D2.out _ hb).mono ?_
 rintro e w' ⟨rfl,rfl⟩
 clear D1 D2 ha hb
 have hg1:(((k+1:Nat):Int) == 0)=false := j0p
 have hg2:(((k+1:Nat):Int) == 1)=false := j0p
 have hg3:(((k:Int)+1) == 0)=false := j0p
 have hg4:(((k:Int)+1) == 1)=false := j0p
 go_wp2_with fail
 refine DL.out.mono ?_
 rintro e w1 ⟨vq,vr,rfl,q2,q3⟩
 have Q2:=Lib.hid q2
 have Q3:=Lib.hid q3
 clear q2 q3 DL
 go_wp2
 go_ret3
 exact⟨_,_,rfl,Q2.out,Q3.out⟩
set_option maxHeartbeats 1000000 in
theorem div_one_own(A:Option Addr)(n c:Nat)(f:Nat→Nat)(B:Option Addr)(m d:Nat)(h:Nat→Nat)(w:World)(ha:Rd .u32 w A n f)(hc:n≤c)(hn:n≤8796093022208)(hf : ∀j,j<n→f j<4294967296)
 (hb:Rd .u32 w B m h) (hd:m≤d) (hm:m≤8796093022208) (hh : ∀j,j<m→h j<4294967296) (h1:tlen h m=1) (h2:2<tlen f n) :
 Calls Tryz.prog 139 #[.slice A n c,.slice B m d] w fun e w'=>DivOwn w w' e (num 4294967296 f n) (num 4294967296 h m):=by
 have C1:=fun w' hr'=>cut_any A n c f w' hr' hc j0a
 have C2:=fun w' hr'=>cut_any B m d h w' hr' hd j0a
 rw [h1] at C2
 have hpn:=tlen_le (f:=f) n
 have hsm:=tlen_le (f:=h) m
 have T:=fun hr'=>trim_any A (tlen f n) c f w hr' j0a j0a
 have ht:tlen f (tlen f n)=tlen f n:=tlen_eq (Nat.le_refl _) (fun j a b=>by omega) (tlen_trimmed n)
 unfold TrimPost at T
 rw [ht] at T
 have hy0:=(tlen_trimmed (f:=h) m).pos (B:=4294967296) j0a j0a
 have hy1:num 4294967296 h m=h 0:=by
  rw [← num_tlen,h1];simp [num]
 rw [num_tlen] at hy0
 rw [hy1] at hy0 ⊢
 have hy:=hh 0 j0a
 obtain⟨bd,rfl,hcell⟩:=hb 0 j0a
 have hcell0:w.cell? bd=some (.int .u32 (h 0:Nat)):=by simpa [Addr.add] using hcell
 have ha':=ha.less hpn
 have HF:=Lib.hid (tlen_lt_dig hf)
 have HE:Hid (decide (0<h 0)=true):=decide_eq_true j0a
 have HN:=Lib.hid (num_tlen (B:=4294967296) (f:=f) n)
 have D1:=Lib.hid C1
 have D2:=Lib.hid C2
 have DT:=Lib.hid T
 clear C1 C2 T ht hf hh hy1 h1 hcell
 generalize tlen f n=p at *
 generalize h 0=y at *
 go_enter Tryz.func139,Tryz.ntmps139
 go_wp2_with fail
 refine(D1.out _ ha).mono ?_
 rintro e w' ⟨rfl,rfl⟩
 go_wp2_with fail
 refine(D2.out _ hb).mono ?_
 rintro e w' ⟨rfl,rfl⟩
 go_wp2_with fail
 refine(DT.out ha').mono ?_
 rintro e w1 ⟨rfl,f2,hrow,hf2,hbl,hs⟩
 have hc1:w1.cell? bd=some (.int .u32 (y:Nat)):=(hbl.cell (p:=bd) (block_lt_of_cell hcell0)).trans hcell0
 have HF2:=Lib.hid hf2
 have DS:=Lib.hid (divShort_any w.heap.size 0 p p p y f2 w1 hrow j0a hy0 hy (fun j hj=>by rw [Nat.zero_add,HF2.out j hj];exact HF.out j hj) j0a)
 clear hf2 hcell0 D1 D2 DT ha ha' hb
 go_wp2_with fail
 refine DS.out.mono ?_
 rintro e w2 ⟨rest,f3,rfl,hinv⟩
 obtain⟨i1,i2,i3,i4,i5,i6⟩:=hinv
 simp only [Nat.sub_self,Nat.add_zero,Nat.zero_add,Nat.zero_le,true_and,forall_const] at i4 i5 i6
 rw [num_congr (f:=f2) (f':=f) p HF2.out,HN.out] at i6
 obtain⟨e1,e2⟩:=div_mod_of i6 i1
 have q1:IsNat w2 (.slice (some ⟨w.heap.size,0,none⟩) (tlen f3 p) p) (num 4294967296 f n / y):=isNat_row i2 (Nat.le_refl _) (Nat.le_refl _) i5 e1.symm
 have hb2:Below w.heap.size w w2:=i3.below hbl hbl.size (Nat.le_refl _)
 have q3:=i2.rd0 (Nat.le_refl p)
 have E2:=Lib.hid e2
 clear i2 i3 i4 i5 i6 e1 e2
 go_wp2_with fail
 refine(cut_any _ p p _ _ q3 (Nat.le_refl _) j0a).mono ?_
 rintro e w' ⟨rfl,rfl⟩
 go_wp2_with fail
 refine(cut_own rest w2 j0a _ rfl).mono ?_
 rintro e w3 ⟨v,rfl,hv,hb3⟩
 go_wp2
 go_ret3
 exact⟨_,v,rfl,by rw [E2.out];exact hv.mono hb2.size,below_trans hb2 hb3⟩
theorem div_own(A:Option Addr)(n c:Nat)(f:Nat→Nat)(B:Option Addr)(m d:Nat)(h:Nat→Nat)(w:World)(ha:Rd .u32 w A n f)(hc:n≤c)(hn:n≤8796093022207)(hf : ∀j,j<n→f j<4294967296)
 (hb:Rd .u32 w B m h) (hd:m≤d) (hm:m≤8796093022207) (hh : ∀j,j<m→h j<4294967296) (h0:0<tlen h m) (h1:tlen h m≤tlen f n) (h2:2<tlen f n) :
 Calls Tryz.prog 139 #[.slice A n c,.slice B m d] w fun e w'=>DivOwn w w' e (num 4294967296 f n) (num 4294967296 h m):=by
 by_cases h3:tlen h m=1
 ·exact div_one_own A n c f B m d h w ha hc j0a hf hb hd j0a hh h3 h2
 exact div_long_own A n c f B m d h w ha hc hn hf hb hd hm hh j0a h1 h2
end Go.Proofs.YtgilnmhejjpleaaGreat
