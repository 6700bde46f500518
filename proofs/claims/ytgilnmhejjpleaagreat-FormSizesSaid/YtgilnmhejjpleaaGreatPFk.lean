/- Contracts: Back where a problem may not be; the document's Same of standard forms. -/
import Derived.Test.YtgilnmhejjpleaaGreatPFu
namespace Go.Proofs.YtgilnmhejjpleaaGreat
open Go.RowKit
set_option linter.unusedSimpArgs false
set_option linter.unusedVariables false
attribute [local go_sem ↓] Go.wp_at_zero Go.wp_at_succ
set_option maxRecDepth 100000 in
set_option maxHeartbeats 1000000 in
theorem rsame11 {k l M N:Nat} {w:World} {va vb:Value} {A A':Nat→Nat→Rat} {B B' C C':Nat→Rat}(ha:StdQ true k w va M N A B C)(hb:StdQ true l w vb M N A' B' C')(hA : ∀i,i<M→∀j,j<N→A i j=A' i j)(hB : ∀i,i<M→B i=B' i)(hC : ∀j,j<N→C j=C' j)(hk:k≤100000) :
 Calls Tryz.prog 13 #[va,vb] w fun e w'=>e = .returned (.bool true)∧Below w.heap.size w w':=by
 obtain⟨v1,v2,v3,rfl,a1,a2,a3⟩:=ha
 obtain⟨u1,u2,u3,rfl,b1,b2,b3⟩:=hb
 obtain⟨Aa,ca,rfl,_,_⟩:=a1.len
 obtain⟨Ab,cb,rfl,_,_⟩:=a2.len
 obtain⟨Ac,cc,rfl,_,_⟩:=a3.len
 obtain⟨Aa',ca',rfl,_,_⟩:=b1.len
 obtain⟨Ab',cb',rfl,_,_⟩:=b2.len
 obtain⟨Ac',cc',rfl,_,_⟩:=b3.len
 have a_0:=Lib.hid a1
 have b_0:=Lib.hid a2
 have c_0:=Lib.hid a3
 have d_0:=Lib.hid b1
 have e_0:=Lib.hid b2
 have f_0:=Lib.hid b3
 have HA:=Lib.hid hA
 have HB:=Lib.hid hB
 have HC:=Lib.hid hC
 clear a1 a2 a3 b1 b2 b3 hA hB hC
 go_enter Tryz.func13,Tryz.ntmps13
 go_wp2_with fail
 refine Calls.mono (rtables ((a_0.out.alloc_ _).alloc_ _) ((d_0.out.alloc_ _).alloc_ _) (fun i hi=>rfl) HA.out hk) ?_
 rintro e w1 ⟨rfl,hb⟩
 have hB:=bun (bun (hb))
 have b_1:=Lib.hid (b_0.out.below hB)
 have c_1:=Lib.hid (c_0.out.below hB)
 have e_1:=Lib.hid (e_0.out.below hB)
 have f_1:=Lib.hid (f_0.out.below hB)
 have Kx_1:=Lib.hid (show Blk w1 (w.heap.size) 31 #[.slice Aa M ca,.slice Ab M cb,.slice Ac N cc] from((Blk.new _ _ j0b _ _).alloc_ _).below hb)
 have Kz_1:=Lib.hid (show Blk w1 (w.heap.size+1) 31 #[.slice Aa' M ca',.slice Ab' M cb',.slice Ac' N cc'] from(Blk.new _ _ j0b _ _).below hb)
 have HB_1:=Lib.hid (hB)
 have hs_1:w.heap.size≤w1.heap.size:=HB_1.out.size
 have hz_1:w.heap.size+2≤w1.heap.size := j0d
 clear hB hb a_0 b_0 c_0 d_0 e_0 f_0
 obtain⟨p10,p11,p12,l1⟩:=Kx_1.out.use3
 obtain⟨p20,p21,p22,l2⟩:=Kz_1.out.use3
 go_wp2_with fail
 refine Calls.mono (rsame b_1.out e_1.out HB.out hk) ?_
 rintro e w2 ⟨rfl,hb⟩
 have hB:=hb
 have c_2:=Lib.hid (c_1.out.below hB)
 have f_2:=Lib.hid (f_1.out.below hB)
 have Kx_2:=Lib.hid (Kx_1.out.below hB)
 have Kz_2:=Lib.hid (Kz_1.out.below hB)
 have HB_2:=Lib.hid (below_trans HB_1.out hB)
 have hs_2:w.heap.size≤w2.heap.size:=HB_2.out.size
 have hz_2:w1.heap.size+0≤w2.heap.size := j0d
 clear hB hb b_1 c_1 e_1 f_1 Kx_1 Kz_1 HB_1 p10 p11 p12 l1 p20 p21 p22 l2
 obtain⟨p30,p31,p32,l3⟩:=Kx_2.out.use3
 obtain⟨p40,p41,p42,l4⟩:=Kz_2.out.use3
 go_wp2_with fail
 refine Calls.mono (rsame c_2.out f_2.out HC.out hk) ?_
 rintro e w3 ⟨rfl,hb⟩
 have hB:=hb
 have c_3:=Lib.hid (c_2.out.below hB)
 have f_3:=Lib.hid (f_2.out.below hB)
 have Kx_3:=Lib.hid (Kx_2.out.below hB)
 have Kz_3:=Lib.hid (Kz_2.out.below hB)
 have HB_3:=Lib.hid (below_trans HB_2.out hB)
 have hs_3:w.heap.size≤w3.heap.size:=HB_3.out.size
 have hz_3:w2.heap.size+0≤w3.heap.size := j0d
 clear hB hb c_2 f_2 Kx_2 Kz_2 HB_2 p30 p31 p32 l3 p40 p41 p42 l4
 obtain⟨p50,p51,p52,l5⟩:=Kx_3.out.use3
 obtain⟨p60,p61,p62,l6⟩:=Kz_3.out.use3
 go_wp2
 go_ret
 exact⟨rfl,HB_3.out⟩
end Go.Proofs.YtgilnmhejjpleaaGreat
namespace Go.Proofs.YtgilnmhejjpleaaGreat
open Go.RowKit
attribute [local go_sem ↓] Go.wp_at_zero Go.wp_at_succ
set_option linter.unusedVariables false
set_option linter.unusedSimpArgs false
theorem heldM_get(p:LpX) {i:Nat} : ∀n,i<n→(heldM p n)[i]? = some (heldR p i)
 | 0,h=>absurd h j0a
 |n+1,h=>by
  rw [heldM]
  by_cases e:i<n
  ·rw [List.getElem?_append_left (by rw [heldM_len];exact e)]
   exact heldM_get p n e
  ·obtain rfl:i=n:=by omega
   rw [List.getElem?_append_right (by rw [heldM_len];omega),heldM_len,Nat.sub_self]
   rfl
theorem heldE_get(p:LpX) {j:Nat}(ho:p.op j=false) : ∀n,j<n→(heldE p n)[cntF p.op j]? = some (p.hi.q j - p.lo.q j)
 | 0,h=>absurd h j0a
 |n+1,h=>by
  rw [heldE]
  by_cases e:j<n
  ·rw [List.getElem?_append_left (by rw [heldE_len];exact cntF_lt _ e ho)]
   exact heldE_get p ho n e
  ·obtain rfl:j=n:=by omega
   rw [List.getElem?_append_right (by rw [heldE_len];omega),heldE_len,Nat.sub_self,ho]
   rfl
theorem heldF_m(p:LpX) {i:Nat}(h:i<p.m):heldF p i=heldR p i:=by
 unfold heldF heldL
 rw [List.getElem?_append_left (by rw [heldM_len];exact h),heldM_get p _ h]
 rfl
theorem heldF_e(p:LpX) {j:Nat}(h:j<p.no)(ho:p.op j=false):heldF p (p.m+cntF p.op j)=p.hi.q j - p.lo.q j:=by
 unfold heldF heldL
 rw [List.getElem?_append_right (by rw [heldM_len];omega),heldM_len,Nat.add_sub_cancel_left,heldE_get p ho _ h]
 rfl
set_option maxRecDepth 100000 in
set_option maxHeartbeats 8000000 in
theorem pheld {k:Nat} {w:World} {v:Value} {p:LpX}(h:LpQ k w v p)(hm:MayX p)(hk:k≤300)(h1:1≤k) :
 Calls Tryz.prog 35 #[v] w fun e w' => ∃v X,e = .returned v∧OwnR w' w.heap.size v (rowsC p) X∧(∀i,i<rowsC p→EQ true (49*k+26) w' (X i).val (heldF p i))∧Below w.heap.size w w':=by
 obtain⟨Ac,cc,Ar,cr,Al,cl,Ah,ch,Ao,co,rfl,hqc,hqr,hql,hqh,hqo,g1,g2,g3,g4,g5⟩:=h.form
 clear h
 have HNO:Hid (p.no=p.cost.n):=hm.1.2.2.1
 have HLO:Hid (p.lo.n=p.cost.n):=hm.1.2.2.2.1
 have HHI:Hid (p.hi.n=p.cost.n):=hm.1.2.2.2.2.1
 have hn24:p.cost.n≤24:=hm.1.2.1
 have hm24:p.m≤24:=hm.1.2.2.2.2.2
 have HRC:=Lib.hid (fun i (hi:i<p.m)=>(hm.2.2.1 i hi).1)
 clear hm
 have HKB:Hid (∀i,i<p.m→∀q,q≤p.cost.n→BQ (1+24*(k+k+1)) (dotF (p.row i).coef.q p.lo.q q)):=by
  intro i hi
  obtain⟨_,_,_,_,_,_,_,hRw⟩:=hqr.at_ hi
  have hc:=HRC.out i hi
  have hl:=HLO.out
  have:=row_dot hRw.2.2.1.rowQ hql.rowQ j0a h1 h1 j0a
  rw [hc] at this
  exact this
 have l_0:=Lib.hid hql
 have u_0:=Lib.hid hqh
 have r_0:=Lib.hid hqr
 have o_0:=Lib.hid hqo
 clear hqc hqr hql hqh hqo
 go_enter Tryz.func35,Tryz.ntmps35
 go_wp2
 have HB_1:=Lib.hid (show Below w.heap.size w (w.alloc (.cells #[.slice Ac p.cost.n cc,.slice Ar p.m cr,.slice Al p.lo.n cl,.slice Ah p.hi.n ch,.slice Ao p.no co] 26)) from below_new _ _)
 have Kp_1:=Lib.hid (show Blk (w.alloc (.cells #[.slice Ac p.cost.n cc,.slice Ar p.m cr,.slice Al p.lo.n cl,.slice Ah p.hi.n ch,.slice Ao p.no co] 26)) w.heap.size 26 #[.slice Ac p.cost.n cc,.slice Ar p.m cr,.slice Al p.lo.n cl,.slice Ah p.hi.n ch,.slice Ao p.no co] from Blk.new _ _ rfl _ _)
 generalize w.alloc (.cells #[.slice Ac p.cost.n cc,.slice Ar p.m cr,.slice Al p.lo.n cl,.slice Ah p.hi.n ch,.slice Ao p.no co] 26)=w1 at *
 go_loopw [3,13] (fun v3 v13 wr => ∃ (i:Nat) (X:Nat→RatD),v13 = .int .i64 (i:Nat)∧i≤p.m∧OwnR wr w.heap.size v3 i X∧(∀q,q<i→EQ true (49*k+26) wr (X q).val (heldF p q))∧Below w.heap.size w wr∧Blk wr w.heap.size 26 #[.slice Ac p.cost.n cc,.slice Ar p.m cr,.slice Al p.lo.n cl,.slice Ah p.hi.n ch,.slice Ao p.no co]) (fun _ v13 _=>p.m - (intOf v13).toNat)
 case atStart=>exact⟨0,fun _=>ratZ,rfl,Nat.zero_le _,OwnR.nil,fun q hq=>absurd hq j0a,HB_1.out,Kp_1.out⟩
 case round =>
  clear HB_1 Kp_1
  obtain⟨i,X,rfl,hi,how,hX,hbw,hkp⟩:=hrel
  have HO:=Lib.hid how
  have HX:=Lib.hid hX
  have HB:=Lib.hid hbw
  have KP:=Lib.hid hkp
  clear how hX hbw hkp
  obtain⟨k0,k1,k2,k3,k4,kl⟩:=KP.out.use5
  by_cases hlt:i<p.m
  ·have hi0:(0:Int)≤(i:Int):=by omega
   have hik:(i:Int)<(p.m:Int) := j0a
   obtain⟨ad,c1,⟨xA0,xn0,xc0,xs,⟨b9,A9,n9,c9,d9,B9,m9,k9⟩⟩,e1,_,_,⟨x0,x1,x2,x3,x4,x5,x6⟩,hRw⟩:=(r_0.out.below HB.out).at_ hlt
   simp only [Value.slice.injEq] at e1
   obtain⟨rfl,_,rfl⟩:=e1
   have HC:Hid (RowQ false k wr (.slice xA0 xn0 xc0) p.cost.n (p.row i).coef.q):=by
    have:=hRw.2.2.1.rowQ
    rw [HRC.out i hlt] at this
    exact this
   have HL:Hid (RowQ false k wr (.slice Al p.lo.n cl) p.cost.n p.lo.q):=by
    have:=(l_0.out.below HB.out).rowQ
    rw [HLO.out] at this ⊢
    exact this
   have HH:=Lib.hid (show LimQ k wr (.agg #[.bool b9,.slice A9 n9 c9,.bool d9,.slice B9 m9 k9]) (p.row i).h from⟨_,_,hRw.2.2.2,rfl⟩)
   have HK:=Lib.hid (HKB.out i hlt)
   clear hRw
   go_wp2_with fail
   refine Calls.mono (ldot (HC.out.alloc_ _) (HL.out.alloc_ _) j0a j0a h1 h1 HK.out j0a j0a) ?_
   rintro e w5 ⟨v,rfl,h,hb⟩
   obtain⟨b5,A5,n5,c5,d5,B5,m5,k5,rfl,-,-,-,-,-⟩:=h.form
   have HD:=Lib.hid (h.limQ (HK.out _ (Nat.le_refl _)))
   have hb':=bun hb
   have K6:=Lib.hid (show Blk w5 wr.heap.size 60 #[.slice xA0 xn0 xc0,.int .i64 xs,.bool b9,.slice A9 n9 c9,.bool d9,.slice B9 m9 k9] from(Blk.new _ _ rfl _ _).below hb)
   have KP5:=Lib.hid (KP.out.below hb')
   have HO5:=Lib.hid (HO.out.below hb')
   have HX5:=Lib.hid (fun q (hq:q<i)=>(HX.out q hq).below hb')
   have HB5:=Lib.hid (below_trans HB.out hb')
   have HH5:=Lib.hid (HH.out.below hb')
   clear h hb hb' HC HL HH HO HX HB KP k0 k1 k2 k3 k4 kl x0 x1 x2 x3 x4 x5 x6
   obtain⟨k0,k1,k2,k3,k4,kl⟩:=KP5.out.use5
   obtain⟨y0,y1,y2,y3,y4,y5,yl⟩:=K6.out.use6
   go_wp2_with fail
   refine Calls.mono (q_sub (HH5.out.alloc_ _) (HD.out.alloc_ _) j0a j0a h1 j0a) ?_
   rintro e w7 ⟨v,rfl,h,hb⟩
   obtain⟨b7,A7,n7,c7,d7,B7,m7,k7,rfl,-,-,-,-,-⟩:=h.form
   have hb':=bun hb
   have HE7:=Lib.hid (EQ.of (p:=true) h (BQ.sub (HH5.out.bq h1) (HK.out _ (Nat.le_refl _)) (show k+(1+24*(k+k+1))+1≤49*k+26 by omega)))
   have KP7:=Lib.hid (KP5.out.below hb')
   have HO7:=Lib.hid (HO5.out.below hb')
   have HX7:=Lib.hid (fun q (hq:q<i)=>(HX5.out q hq).below hb')
   have HB7:=Lib.hid (below_trans HB5.out hb')
   clear h hb hb' HD KP5 HO5 HX5 HB5 HH5 K6 k0 k1 k2 k3 k4 kl y0 y1 y2 y3 y4 y5 yl HK
   go_wp2_with (at_builtin;refine wpList_append_rats rfl rfl (.tmp 25) (.tmp 30) rfl (base:=w.heap.size) (n:=i) (m:=1) (c:=1) (X:=X) (Y:=fun _=>⟨b7,A7,n7,c7,d7,B7,m7,k7⟩) rfl (OwnR.alloc_ HO7.out _) rfl (rowAt_one w7 _ rfl ⟨b7,A7,n7,c7,d7,B7,m7,k7⟩) (fun e=>by cases e) j0a (by have:=HB7.out.size;simp;omega) ?_;intro v8 w8 ho hf)
   have HINV:Hid (OwnR w8 w.heap.size v8 (i+1) (appR X i (fun _=>⟨b7,A7,n7,c7,d7,B7,m7,k7⟩))∧(∀q,q<i+1→EQ true (49*k+26) w8 (appR X i (fun _=>⟨b7,A7,n7,c7,d7,B7,m7,k7⟩) q).val (heldF p q))∧Below w.heap.size w w8∧Blk w8 w.heap.size 26 #[.slice Ac p.cost.n cc,.slice (some ad) p.m cr,.slice Al p.lo.n cl,.slice Ah p.hi.n ch,.slice Ao p.no co]):=⟨ho,fun q hq=>by
    by_cases hqi:q<i
    ·rw [appR_lt _ _ _ hqi];exact((HX7.out q hqi).alloc_ _).kp hf.keep
    ·obtain rfl:q=i:=by omega
     rw [appR_at,heldF_m p hlt]
     exact(HE7.out.alloc_ _).kp hf.keep,(below_trans HB7.out (below_new _ _)).trans hf.below,Blk.fz (KP7.out.alloc_ _) hf j0e⟩
   clear ho hf HE7 KP7 HO7 HX7 HB7
   go_wp2
   go_roundw
   case rel=>exact⟨i+1,_,by go_num,by omega,HINV.out⟩
   case measure=>simp [intOf];omega
  ·obtain rfl:i=p.m:=by omega
   have HS0:Hid (OwnR wr w.heap.size u3 (p.m+cntF p.op 0) X):=HO.out
   clear hi hlt HO
   obtain⟨wo,rfl⟩ : ∃x,x=wr:=⟨_,rfl⟩
   go_wp2
   go_loopw [3,36] (fun v3 v36 wr => ∃ (j:Nat) (X:Nat→RatD),v36 = .int .i64 (j:Nat)∧j≤p.no∧OwnR wr w.heap.size v3 (p.m+cntF p.op j) X∧(∀q,q<p.m+cntF p.op j→EQ true (49*k+26) wr (X q).val (heldF p q))∧Below w.heap.size w wr∧Blk wr w.heap.size 26 #[.slice Ac p.cost.n cc,.slice Ar p.m cr,.slice Al p.lo.n cl,.slice Ah p.hi.n ch,.slice Ao p.no co]) (fun _ v36 _=>p.no - (intOf v36).toNat)
   case atStart=>exact⟨0,X,rfl,Nat.zero_le _,HS0.out,HX.out,HB.out,KP.out⟩
   case round =>
    clear HS0 HX HB KP k0 k1 k2 k3 k4 kl
    obtain⟨j,X,rfl,hj,how,hX,hbw,hkp⟩:=hrel
    have HO:=Lib.hid how
    have HX:=Lib.hid hX
    have HB:=Lib.hid hbw
    have KP:=Lib.hid hkp
    clear how hX hbw hkp
    obtain⟨k0,k1,k2,k3,k4,kl⟩:=KP.out.use5
    by_cases hlt:j<p.no
    ·have hj0:(0:Int)≤(j:Int):=by omega
     have hjk:(j:Int)<(p.no:Int) := j0a
     obtain⟨od,c0,e1,_,_,hob,hoc⟩:=(o_0.out.below HB.out).at_ hlt
     simp only [Value.slice.injEq] at e1
     obtain⟨rfl,_,rfl⟩:=e1
     cases hop:p.op j
     ·rw [hop] at hoc
      have HOP:=Lib.hid hop
      clear hop
      have hjn:j<p.cost.n:=by have:=HNO.out;omega
      obtain⟨ld,c1,⟨b5,A5,n5,c5,d5,B5,m5,k5⟩,e1,_,_,hatl,hEl⟩:=l_0.out.at_ (show j<p.lo.n by rw [HLO.out];exact hjn)
      simp only [Value.slice.injEq] at e1
      obtain⟨rfl,_,rfl⟩:=e1
      obtain⟨hd,c2,⟨b6,A6,n6,c6,d6,B6,m6,k6⟩,e1,_,_,hath,hEh⟩:=u_0.out.at_ (show j<p.hi.n by rw [HHI.out];exact hjn)
      simp only [Value.slice.injEq] at e1
      obtain⟨rfl,_,rfl⟩:=e1
      have hjl:(j:Int)<(p.lo.n:Int):=by rw [HLO.out];omega
      have hjh:(j:Int)<(p.hi.n:Int):=by rw [HHI.out];omega
      have HAL:=Lib.hid hatl
      have HAH:=Lib.hid hath
      obtain⟨x0,x1,x2,x3,x4⟩:=hatl.below HB.out
      obtain⟨y0,y1,y2,y3,y4⟩:=hath.below HB.out
      have HEL:=Lib.hid (show LimQ k wr (.agg #[.bool b5,.slice A5 n5 c5,.bool d5,.slice B5 m5 k5]) (p.lo.q j) from⟨_,_,hEl.below HB.out,rfl⟩)
      have HEH:=Lib.hid (show LimQ k wr (.agg #[.bool b6,.slice A6 n6 c6,.bool d6,.slice B6 m6 k6]) (p.hi.q j) from⟨_,_,hEh.below HB.out,rfl⟩)
      have HCE:=Lib.hid (heldF_e p hlt HOP.out)
      have HCN:Hid (cntF p.op (j+1)=cntF p.op j+1):=by show cntF p.op (j+1)=_;simp [cntF,HOP.out]
      have hcl:=cntF_le p.op j
      obtain⟨z,hz⟩ : ∃z,z=p.m+cntF p.op j:=⟨_,rfl⟩
      rw [← hz] at HO HX HCE
      have HZ:=Lib.hid hz
      have hzb:z≤1000:=by have:=HNO.out;omega
      clear hEl hEh hz hcl hatl hath
      have tok0:True:=trivial
      have tok1:True:=trivial
      go_wp2
      go_region_held3 (fun w'=>w'.cell? ⟨w.heap.size,2,none⟩=some (.slice (some ld) p.lo.n cl)∧w'.cell? ⟨w.heap.size,3,none⟩=some (.slice (some hd) p.hi.n ch)∧w'.cell? (ld.add (j*4))=some (.bool b5)∧w'.cell? ⟨(ld.add (j*4)).block,(ld.add (j*4)).off+1,none⟩=some (.slice A5 n5 c5)∧w'.cell? ⟨(ld.add (j*4)).block,(ld.add (j*4)).off+2,none⟩=some (.bool d5)∧w'.cell? ⟨(ld.add (j*4)).block,(ld.add (j*4)).off+3,none⟩=some (.slice B5 m5 k5)∧w'.cell? (hd.add (j*4))=some (.bool b6)∧w'.cell? ⟨(hd.add (j*4)).block,(hd.add (j*4)).off+1,none⟩=some (.slice A6 n6 c6)∧w'.cell? ⟨(hd.add (j*4)).block,(hd.add (j*4)).off+2,none⟩=some (.bool d6)∧w'.cell? ⟨(hd.add (j*4)).block,(hd.add (j*4)).off+3,none⟩=some (.slice B6 m6 k6)) (first | (refine⟨?_,?_,?_,?_,?_,?_,?_,?_,?_,?_⟩ <;> (first | with_reducible assumption | ((with_reducible refine Eq.trans (cell_drew _ _) ?_);with_reducible assumption) | go_keep)) | go_keep)
       (first
        |(go_at_call 67;have _t:=tok0;clear _t tok0;((with_reducible refine Calls.mono (q_sub HEH.out.drew_ HEL.out.drew_ j0a j0a h1 h1) ?_));rintro e w7 ⟨v,rfl,h,hb⟩;obtain⟨b7,A7,n7,c7,d7,B7,m7,k7,rfl,-,-,-,-,-⟩:=h.form;have hBw:=(show Below wr.heap.size wr w7 from j0g);have HE7:=Lib.hid (EQ.of (p:=true) h (BQ.sub (HEH.out.bq h1) (HEL.out.bq h1) (show k+k+1≤49*k+26 by omega)));have KP7:=Lib.hid (KP.out.below hBw);have HO7:=Lib.hid (HO.out.below hBw);have HX7:=Lib.hid (fun q (hq:q<z)=>(HX.out q hq).below hBw);have HB7:=Lib.hid (below_trans HB.out hBw);obtain⟨q0,q1,q2,q3,q4,ql⟩:=KP7.out.use5;obtain⟨z0,z1,z2,z3,z4⟩:=HAL.out.below HB7.out;obtain⟨f0,f1,f2,f3,f4⟩:=HAH.out.below HB7.out;clear h hb hBw HEL HEH KP HO HX HB k0 k1 k2 k3 k4 kl x0 x1 x2 x3 x4 y0 y1 y2 y3 y4)
        |(have _t:=tok1;refine step_append_rats rfl rfl (.tmp 43) (.tmp 55) rfl (base:=w.heap.size) (n:=z) (m:=1) (c:=1) (X:=X) (Y:=fun _=>⟨b7,A7,n7,c7,d7,B7,m7,k7⟩) rfl (OwnR.alloc_ HO7.out _) rfl (rowAt_one w7 _ rfl ⟨b7,A7,n7,c7,d7,B7,m7,k7⟩) (fun e=>by cases e) j0a (by have:=HB7.out.size;simp;omega) ?_;intro v8 w8 ho hf;clear _t tok1;have KP8:=Lib.hid (Blk.fz (KP7.out.alloc_ _) hf j0e);obtain⟨s0,s1,s2,s3,s4,sl⟩:=KP8.out.use5;have HHW:=Lib.hid (show Below w.heap.size w w8 from(below_trans HB7.out (below_new _ _)).trans hf.below);have HO8:=Lib.hid ho;have HX8:=Lib.hid (show ∀q,q<z+1→EQ true (49*k+26) w8 (appR X z (fun _=>⟨b7,A7,n7,c7,d7,B7,m7,k7⟩) q).val (heldF p q) from fun q hq=>Decidable.byCases (fun hqi:q<z=>(by rw [appR_lt _ _ _ hqi];exact((HX7.out q hqi).alloc_ _).kp hf.keep)) (fun hqi : ¬q<z=>(by obtain rfl:z=q := j0a;rw [appR_at,HCE.out];exact(HE7.out.alloc_ _).kp hf.keep)));obtain⟨z0',z1',z2',z3',z4'⟩:=HAL.out.below HHW.out;obtain⟨f0',f1',f2',f3',f4'⟩:=HAH.out.below HHW.out;clear ho hf HE7 KP7 HO7 HX7 HB7 q0 q1 q2 q3 q4 ql z0 z1 z2 z3 z4 f0 f1 f2 f3 f4))
      have HO9:Hid (OwnR w8 w.heap.size v8 (p.m+cntF p.op (j+1)) (appR X z (fun _=>⟨b7,A7,n7,c7,d7,B7,m7,k7⟩))):=by rw [HCN.out,← Nat.add_assoc,← HZ.out];exact HO8.out
      have HX9:Hid (∀q,q<p.m+cntF p.op (j+1)→EQ true (49*k+26) w8 (appR X z (fun _=>⟨b7,A7,n7,c7,d7,B7,m7,k7⟩) q).val (heldF p q)):=by rw [HCN.out,← Nat.add_assoc,← HZ.out];exact HX8.out
      clear HO8 HX8 s0 s1 s2 s3 s4 sl z0' z1' z2' z3' z4' f0' f1' f2' f3' f4'
      go_wp2
      go_roundw
      case rel=>exact⟨j+1,_,by go_num,by omega,HO9.out,HX9.out,HHW.out,KP8.out⟩
      case measure=>simp [intOf];omega
     ·rw [hop] at hoc
      have HCN:Hid (cntF p.op (j+1)=cntF p.op j):=by show cntF p.op (j+1)=_;simp [cntF,hop]
      have HO2:Hid (OwnR wr w.heap.size u3 (p.m+cntF p.op (j+1)) X):=by rw [HCN.out];exact HO.out
      have HX2:Hid (∀q,q<p.m+cntF p.op (j+1)→EQ true (49*k+26) wr (X q).val (heldF p q)):=by rw [HCN.out];exact HX.out
      clear hop HCN
      go_wp2
      go_roundw
      case rel=>exact⟨j+1,X,by go_num,by omega,HO2.out,HX2.out,HB.out,KP.out⟩
      case measure=>simp [intOf];omega
    ·obtain rfl:j=p.no:=by omega
     go_wp2
     go_ret
     exact⟨_,X,rfl,HO.out,HX.out,HB.out⟩
end Go.Proofs.YtgilnmhejjpleaaGreat
