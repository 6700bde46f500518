/- Contract of prob: what is held against the rows. -/
import Derived.Test.YtgilnmhejjpleaaGreatPFw
namespace Go.Proofs.YtgilnmhejjpleaaGreat
open Go.RowKit
attribute [local go_sem ↓] Go.wp_at_zero Go.wp_at_succ
set_option linter.unusedVariables false
set_option linter.unusedSimpArgs false
theorem heldM_get(p:LpX) {i:Nat} : ∀n,i<n→(heldM p n)[i]? = some (heldR p i)
 | 0,h=>absurd h j0i3
 |n+1,h=>by
  rw [heldM]
  by_cases e:i<n
  ·rw [List.getElem?_append_left (by rw [heldM_len];exact e)]
   exact heldM_get p n e
  ·obtain rfl:i=n:=by omega
   rw [List.getElem?_append_right (by rw [heldM_len];omega),heldM_len,Nat.sub_self]
   rfl
theorem heldE_get(p:LpX) {j:Nat}(ho:p.op j=false) : ∀n,j<n→(heldE p n)[cntF p.op j]? = some (p.hi.q j - p.lo.q j)
 | 0,h=>absurd h j0i3
 |n+1,h=>by
  rw [heldE]
  by_cases e:j<n
  ·rw [List.getElem?_append_left (by rw [heldE_len];exact cntF_lt _ e ho)]
   exact heldE_get p ho n e
  ·obtain rfl:j=n:=by omega
   rw [List.getElem?_append_right (by rw [heldE_len];omega),heldE_len,Nat.sub_self,ho]
   rfl
theorem heldF_m(p:LpX) {i:Nat}(h:i<p.m):heldF p i=heldR p i:=by
 unfold heldF heldL
 rw [List.getElem?_append_left (by rw [heldM_len];exact h),heldM_get p _ h]
 rfl
theorem heldF_e(p:LpX) {j:Nat}(h:j<p.no)(ho:p.op j=false):heldF p (p.m+cntF p.op j)=p.hi.q j - p.lo.q j:=by
 unfold heldF heldL
 rw [List.getElem?_append_right (by rw [heldM_len];omega),heldM_len,Nat.add_sub_cancel_left,heldE_get p ho _ h]
 rfl
set_option maxRecDepth 100000 in
set_option maxHeartbeats 8000000 in
theorem pheld {k:Nat} {w:World} {v:Value} {p:LpX}(h:LpQ k w v p)(hm:MayX p)(hk:k≤300)(h1:1≤k) :
 Calls Tryz.prog 35 #[v] w fun e w' => ∃v X,e = .returned v∧OwnR w' w.heap.size v (rowsC p) X∧(∀i,i<rowsC p→EQ true (49*k+26) w' (X i).val (heldF p i))∧Below w.heap.size w w':=by
 obtain⟨Ac,cc,Ar,cr,Al,cl,Ah,ch,Ao,co,rfl,hqc,hqr,hql,hqh,hqo,g1,g2,g3,g4,g5⟩:=h.form
 clear h
 have HNO:Hid (p.no=p.cost.n):=hm.1.2.2.1
 have HLO:Hid (p.lo.n=p.cost.n):=hm.1.2.2.2.1
 have HHI:Hid (p.hi.n=p.cost.n):=hm.1.2.2.2.2.1
 have hn24:p.cost.n≤24:=hm.1.2.1
 have hm24:p.m≤24:=hm.1.2.2.2.2.2
 have HRC:=Lib.hid (fun i (hi:i<p.m)=>(hm.2.2.1 i hi).1)
 clear hm
 have HKB:Hid (∀i,i<p.m→∀q,q≤p.cost.n→BQ (1+24*(k+k+1)) (dotF (p.row i).coef.q p.lo.q q)):=by
  intro i hi
  obtain⟨_,_,_,_,_,_,_,hRw⟩:=hqr.at_ hi
  have hc:=HRC.out i hi
  have hl:=HLO.out
  have:=row_dot hRw.2.2.1.rowQ hql.rowQ j0i3 h1 h1 j0i3
  rw [hc] at this
  exact this
 have l_0:=Lib.hid hql
 have u_0:=Lib.hid hqh
 have r_0:=Lib.hid hqr
 have o_0:=Lib.hid hqo
 clear hqc hqr hql hqh hqo
 go_enter Tryz.func35,Tryz.ntmps35
 go_wp2
 have HB_1:=Lib.hid (show Below w.heap.size w (w.alloc (.cells #[.slice Ac p.cost.n cc,.slice Ar p.m cr,.slice Al p.lo.n cl,.slice Ah p.hi.n ch,.slice Ao p.no co] 26)) from below_new _ _)
 have Kp_1:=Lib.hid (show Blk (w.alloc (.cells #[.slice Ac p.cost.n cc,.slice Ar p.m cr,.slice Al p.lo.n cl,.slice Ah p.hi.n ch,.slice Ao p.no co] 26)) w.heap.size 26 #[.slice Ac p.cost.n cc,.slice Ar p.m cr,.slice Al p.lo.n cl,.slice Ah p.hi.n ch,.slice Ao p.no co] from Blk.new _ _ rfl _ _)
 generalize w.alloc (.cells #[.slice Ac p.cost.n cc,.slice Ar p.m cr,.slice Al p.lo.n cl,.slice Ah p.hi.n ch,.slice Ao p.no co] 26)=w1 at *
 go_loopw [3,13] (fun v3 v13 wr => ∃ (i:Nat) (X:Nat→RatD),v13 = .int .i64 (i:Nat)∧i≤p.m∧OwnR wr w.heap.size v3 i X∧(∀q,q<i→EQ true (49*k+26) wr (X q).val (heldF p q))∧Below w.heap.size w wr∧Blk wr w.heap.size 26 #[.slice Ac p.cost.n cc,.slice Ar p.m cr,.slice Al p.lo.n cl,.slice Ah p.hi.n ch,.slice Ao p.no co]) (fun _ v13 _=>p.m - (intOf v13).toNat)
 case atStart=>exact⟨0,fun _=>ratZ,rfl,Nat.zero_le _,OwnR.nil,fun q hq=>absurd hq j0i3,HB_1.out,Kp_1.out⟩
 case round =>
  clear HB_1 Kp_1
  obtain⟨i,X,rfl,hi,how,hX,hbw,hkp⟩:=hrel
  have HO:=Lib.hid how
  have HX:=Lib.hid hX
  have HB:=Lib.hid hbw
  have KP:=Lib.hid hkp
  clear how hX hbw hkp
  obtain⟨k0,k1,k2,k3,k4,kl⟩:=KP.out.use5
  by_cases hlt:i<p.m
  ·have hi0:(0:Int)≤(i:Int):=by omega
   have hik:(i:Int)<(p.m:Int) := j0i3
   obtain⟨ad,c1,⟨xA0,xn0,xc0,xs,⟨b9,A9,n9,c9,d9,B9,m9,k9⟩⟩,e1,_,_,⟨x0,x1,x2,x3,x4,x5,x6⟩,hRw⟩:=(r_0.out.below HB.out).at_ hlt
   simp only [Value.slice.injEq] at e1
   obtain⟨rfl,_,rfl⟩:=e1
   have HC:Hid (RowQ false k wr (.slice xA0 xn0 xc0) p.cost.n (p.row i).coef.q):=by
    have:=hRw.2.2.1.rowQ
    rw [HRC.out i hlt] at this
    exact this
   have HL:Hid (RowQ false k wr (.slice Al p.lo.n cl) p.cost.n p.lo.q):=by
    have:=(l_0.out.below HB.out).rowQ
    rw [HLO.out] at this ⊢
    exact this
   have HH:=Lib.hid (show LimQ k wr (.agg #[.bool b9,.slice A9 n9 c9,.bool d9,.slice B9 m9 k9]) (p.row i).h from⟨_,_,hRw.2.2.2,rfl⟩)
   have HK:=Lib.hid (HKB.out i hlt)
   clear hRw
   go_wp2_with fail
   refine Calls.mono (ldot (HC.out.alloc_ _) (HL.out.alloc_ _) j0i3 j0i3 h1 h1 HK.out j0i3 j0i3) ?_
   rintro e w5 ⟨v,rfl,h,hb⟩
   obtain⟨b5,A5,n5,c5,d5,B5,m5,k5,rfl,-,-,-,-,-⟩:=h.form
   have HD:=Lib.hid (h.limQ (HK.out _ (Nat.le_refl _)))
   have hb':=bun hb
   have K6:=Lib.hid (show Blk w5 wr.heap.size 60 #[.slice xA0 xn0 xc0,.int .i64 xs,.bool b9,.slice A9 n9 c9,.bool d9,.slice B9 m9 k9] from(Blk.new _ _ rfl _ _).below hb)
   have KP5:=Lib.hid (KP.out.below hb')
   have HO5:=Lib.hid (HO.out.below hb')
   have HX5:=Lib.hid (fun q (hq:q<i)=>(HX.out q hq).below hb')
   have HB5:=Lib.hid (below_trans HB.out hb')
   have HH5:=Lib.hid (HH.out.below hb')
   clear h hb hb' HC HL HH HO HX HB KP k0 k1 k2 k3 k4 kl x0 x1 x2 x3 x4 x5 x6
   obtain⟨k0,k1,k2,k3,k4,kl⟩:=KP5.out.use5
   obtain⟨y0,y1,y2,y3,y4,y5,yl⟩:=K6.out.use6
   go_wp2_with fail
   refine Calls.mono (q_sub (HH5.out.alloc_ _) (HD.out.alloc_ _) j0i3 j0i3 h1 j0i3) ?_
   rintro e w7 ⟨v,rfl,h,hb⟩
   obtain⟨b7,A7,n7,c7,d7,B7,m7,k7,rfl,-,-,-,-,-⟩:=h.form
   have hb':=bun hb
   have HE7:=Lib.hid (EQ.of (p:=true) h (BQ.sub (HH5.out.bq h1) (HK.out _ (Nat.le_refl _)) (show k+(1+24*(k+k+1))+1≤49*k+26 by omega)))
   have KP7:=Lib.hid (KP5.out.below hb')
   have HO7:=Lib.hid (HO5.out.below hb')
   have HX7:=Lib.hid (fun q (hq:q<i)=>(HX5.out q hq).below hb')
   have HB7:=Lib.hid (below_trans HB5.out hb')
   clear h hb hb' HD KP5 HO5 HX5 HB5 HH5 K6 k0 k1 k2 k3 k4 kl y0 y1 y2 y3 y4 y5 yl HK
   go_wp2_with (at_builtin;refine wpList_append_rats rfl rfl (.tmp 25) (.tmp 30) rfl (base:=w.heap.size) (n:=i) (m:=1) (c:=1) (X:=X) (Y:=fun _=>⟨b7,A7,n7,c7,d7,B7,m7,k7⟩) rfl (OwnR.alloc_ HO7.out _) rfl (rowAt_one w7 _ rfl ⟨b7,A7,n7,c7,d7,B7,m7,k7⟩) (fun e=>by cases e) j0i3 (by have:=HB7.out.size;simp;omega) ?_;intro v8 w8 ho hf)
   have HINV:Hid (OwnR w8 w.heap.size v8 (i+1) (appR X i (fun _=>⟨b7,A7,n7,c7,d7,B7,m7,k7⟩))∧(∀q,q<i+1→EQ true (49*k+26) w8 (appR X i (fun _=>⟨b7,A7,n7,c7,d7,B7,m7,k7⟩) q).val (heldF p q))∧Below w.heap.size w w8∧Blk w8 w.heap.size 26 #[.slice Ac p.cost.n cc,.slice (some ad) p.m cr,.slice Al p.lo.n cl,.slice Ah p.hi.n ch,.slice Ao p.no co]):=⟨ho,fun q hq=>by
    by_cases hqi:q<i
    ·rw [appR_lt _ _ _ hqi];exact((HX7.out q hqi).alloc_ _).kp hf.keep
    ·obtain rfl:q=i:=by omega
     rw [appR_at,heldF_m p hlt]
     exact(HE7.out.alloc_ _).kp hf.keep,(below_trans HB7.out (below_new _ _)).trans hf.below,Blk.fz (KP7.out.alloc_ _) hf jpu1⟩
   clear ho hf HE7 KP7 HO7 HX7 HB7
   go_wp2
   go_roundw
   case rel=>exact⟨i+1,_,by go_num,by omega,HINV.out⟩
   case measure=>simp [intOf];omega
  ·obtain rfl:i=p.m:=by omega
   have HS0:Hid (OwnR wr w.heap.size u3 (p.m+cntF p.op 0) X):=HO.out
   clear hi hlt HO
   obtain⟨wo,rfl⟩ : ∃x,x=wr:=⟨_,rfl⟩
   go_wp2
   go_loopw [3,36] (fun v3 v36 wr => ∃ (j:Nat) (X:Nat→RatD),v36 = .int .i64 (j:Nat)∧j≤p.no∧OwnR wr w.heap.size v3 (p.m+cntF p.op j) X∧(∀q,q<p.m+cntF p.op j→EQ true (49*k+26) wr (X q).val (heldF p q))∧Below w.heap.size w wr∧Blk wr w.heap.size 26 #[.slice Ac p.cost.n cc,.slice Ar p.m cr,.slice Al p.lo.n cl,.slice Ah p.hi.n ch,.slice Ao p.no co]) (fun _ v36 _=>p.no - (intOf v36).toNat)
   case atStart=>exact⟨0,X,rfl,Nat.zero_le _,HS0.out,HX.out,HB.out,KP.out⟩
   case round =>
    clear HS0 HX HB KP k0 k1 k2 k3 k4 kl
    obtain⟨j,X,rfl,hj,how,hX,hbw,hkp⟩:=hrel
    have HO:=Lib.hid how
    have HX:=Lib.hid hX
    have HB:=Lib.hid hbw
    have KP:=Lib.hid hkp
    clear how hX hbw hkp
    obtain⟨k0,k1,k2,k3,k4,kl⟩:=KP.out.use5
    by_cases hlt:j<p.no
    ·have hj0:(0:Int)≤(j:Int):=by omega
     have hjk:(j:Int)<(p.no:Int) := j0i3
     obtain⟨od,c0,e1,_,_,hob,hoc⟩:=(o_0.out.below HB.out).at_ hlt
     simp only [Value.slice.injEq] at e1
     obtain⟨rfl,_,rfl⟩:=e1
     cases hop:p.op j
     ·rw [hop] at hoc
      have HOP:=Lib.hid hop
      clear hop
      have hjn:j<p.cost.n:=by have:=HNO.out;omega
      obtain⟨ld,c1,⟨b5,A5,n5,c5,d5,B5,m5,k5⟩,e1,_,_,hatl,hEl⟩:=l_0.out.at_ (show j<p.lo.n by rw [HLO.out];exact hjn)
      simp only [Value.slice.injEq] at e1
      obtain⟨rfl,_,rfl⟩:=e1
      obtain⟨hd,c2,⟨b6,A6,n6,c6,d6,B6,m6,k6⟩,e1,_,_,hath,hEh⟩:=u_0.out.at_ (show j<p.hi.n by rw [HHI.out];exact hjn)
      simp only [Value.slice.injEq] at e1
      obtain⟨rfl,_,rfl⟩:=e1
      have hjl:(j:Int)<(p.lo.n:Int):=by rw [HLO.out];omega
      have hjh:(j:Int)<(p.hi.n:Int):=by rw [HHI.out];omega
      have HAL:=Lib.hid hatl
      have HAH:=Lib.hid hath
      obtain⟨x0,x1,x2,x3,x4⟩:=hatl.below HB.out
      obtain⟨y0,y1,y2,y3,y4⟩:=hath.below HB.out
      have HEL:=Lib.hid (show LimQ k wr (.agg #[.bool b5,.slice A5 n5 c5,.bool d5,.slice B5 m5 k5]) (p.lo.q j) from⟨_,_,hEl.below HB.out,rfl⟩)
      have HEH:=Lib.hid (show LimQ k wr (.agg #[.bool b6,.slice A6 n6 c6,.bool d6,.slice B6 m6 k6]) (p.hi.q j) from⟨_,_,hEh.below HB.out,rfl⟩)
      have HCE:=Lib.hid (heldF_e p hlt HOP.out)
      have HCN:Hid (cntF p.op (j+1)=cntF p.op j+1):=by show cntF p.op (j+1)=_;simp [cntF,HOP.out]
      have hcl:=cntF_le p.op j
      obtain⟨z,hz⟩ : ∃z,z=p.m+cntF p.op j:=⟨_,rfl⟩
      rw [← hz] at HO HX HCE
      have HZ:=Lib.hid hz
      have hzb:z≤1000:=by have:=HNO.out;omega
      clear hEl hEh hz hcl hatl hath
      have tok0:True:=trivial
      have tok1:True:=trivial
      go_wp2
      go_region_held3 (fun w'=>w'.cell? ⟨w.heap.size,2,none⟩=some (.slice (some ld) p.lo.n cl)∧w'.cell? ⟨w.heap.size,3,none⟩=some (.slice (some hd) p.hi.n ch)∧w'.cell? (ld.add (j*4))=some (.bool b5)∧w'.cell? ⟨(ld.add (j*4)).block,(ld.add (j*4)).off+1,none⟩=some (.slice A5 n5 c5)∧w'.cell? ⟨(ld.add (j*4)).block,(ld.add (j*4)).off+2,none⟩=some (.bool d5)∧w'.cell? ⟨(ld.add (j*4)).block,(ld.add (j*4)).off+3,none⟩=some (.slice B5 m5 k5)∧w'.cell? (hd.add (j*4))=some (.bool b6)∧w'.cell? ⟨(hd.add (j*4)).block,(hd.add (j*4)).off+1,none⟩=some (.slice A6 n6 c6)∧w'.cell? ⟨(hd.add (j*4)).block,(hd.add (j*4)).off+2,none⟩=some (.bool d6)∧w'.cell? ⟨(hd.add (j*4)).block,(hd.add (j*4)).off+3,none⟩=some (.slice B6 m6 k6)) (first | (refine⟨?_,?_,?_,?_,?_,?_,?_,?_,?_,?_⟩ <;> (first | with_reducible assumption | ((with_reducible refine Eq.trans (cell_drew _ _) ?_);with_reducible assumption) | go_keep)) | go_keep)
       (first
        |(go_at_call 67;have _t:=tok0;clear _t tok0;((with_reducible refine Calls.mono (q_sub HEH.out.drew_ HEL.out.drew_ j0i3 j0i3 h1 h1) ?_));rintro e w7 ⟨v,rfl,h,hb⟩;obtain⟨b7,A7,n7,c7,d7,B7,m7,k7,rfl,-,-,-,-,-⟩:=h.form;have hBw:=(show Below wr.heap.size wr w7 from jhql);have HE7:=Lib.hid (EQ.of (p:=true) h (BQ.sub (HEH.out.bq h1) (HEL.out.bq h1) (show k+k+1≤49*k+26 by omega)));have KP7:=Lib.hid (KP.out.below hBw);have HO7:=Lib.hid (HO.out.below hBw);have HX7:=Lib.hid (fun q (hq:q<z)=>(HX.out q hq).below hBw);have HB7:=Lib.hid (below_trans HB.out hBw);obtain⟨q0,q1,q2,q3,q4,ql⟩:=KP7.out.use5;obtain⟨z0,z1,z2,z3,z4⟩:=HAL.out.below HB7.out;obtain⟨f0,f1,f2,f3,f4⟩:=HAH.out.below HB7.out;clear h hb hBw HEL HEH KP HO HX HB k0 k1 k2 k3 k4 kl x0 x1 x2 x3 x4 y0 y1 y2 y3 y4)
        |(have _t:=tok1;refine step_append_rats rfl rfl (.tmp 43) (.tmp 55) rfl (base:=w.heap.size) (n:=z) (m:=1) (c:=1) (X:=X) (Y:=fun _=>⟨b7,A7,n7,c7,d7,B7,m7,k7⟩) rfl (OwnR.alloc_ HO7.out _) rfl (rowAt_one w7 _ rfl ⟨b7,A7,n7,c7,d7,B7,m7,k7⟩) (fun e=>by cases e) j0i3 (by have:=HB7.out.size;simp;omega) ?_;intro v8 w8 ho hf;clear _t tok1;have KP8:=Lib.hid (Blk.fz (KP7.out.alloc_ _) hf jpu1);obtain⟨s0,s1,s2,s3,s4,sl⟩:=KP8.out.use5;have HHW:=Lib.hid (show Below w.heap.size w w8 from(below_trans HB7.out (below_new _ _)).trans hf.below);have HO8:=Lib.hid ho;have HX8:=Lib.hid (show ∀q,q<z+1→EQ true (49*k+26) w8 (appR X z (fun _=>⟨b7,A7,n7,c7,d7,B7,m7,k7⟩) q).val (heldF p q) from fun q hq=>Decidable.byCases (fun hqi:q<z=>(by rw [appR_lt _ _ _ hqi];exact((HX7.out q hqi).alloc_ _).kp hf.keep)) (fun hqi : ¬q<z=>(by obtain rfl:z=q := j0i3;rw [appR_at,HCE.out];exact(HE7.out.alloc_ _).kp hf.keep)));obtain⟨z0',z1',z2',z3',z4'⟩:=HAL.out.below HHW.out;obtain⟨f0',f1',f2',f3',f4'⟩:=HAH.out.below HHW.out;clear ho hf HE7 KP7 HO7 HX7 HB7 q0 q1 q2 q3 q4 ql z0 z1 z2 z3 z4 f0 f1 f2 f3 f4))
      have HO9:Hid (OwnR w8 w.heap.size v8 (p.m+cntF p.op (j+1)) (appR X z (fun _=>⟨b7,A7,n7,c7,d7,B7,m7,k7⟩))):=by rw [HCN.out,← Nat.add_assoc,← HZ.out];exact HO8.out
      have HX9:Hid (∀q,q<p.m+cntF p.op (j+1)→EQ true (49*k+26) w8 (appR X z (fun _=>⟨b7,A7,n7,c7,d7,B7,m7,k7⟩) q).val (heldF p q)):=by rw [HCN.out,← Nat.add_assoc,← HZ.out];exact HX8.out
      clear HO8 HX8 s0 s1 s2 s3 s4 sl z0' z1' z2' z3' z4' f0' f1' f2' f3' f4'
      go_wp2
      go_roundw
      case rel=>exact⟨j+1,_,by go_num,by omega,HO9.out,HX9.out,HHW.out,KP8.out⟩
      case measure=>simp [intOf];omega
     ·rw [hop] at hoc
      have HCN:Hid (cntF p.op (j+1)=cntF p.op j):=by show cntF p.op (j+1)=_;simp [cntF,hop]
      have HO2:Hid (OwnR wr w.heap.size u3 (p.m+cntF p.op (j+1)) X):=by rw [HCN.out];exact HO.out
      have HX2:Hid (∀q,q<p.m+cntF p.op (j+1)→EQ true (49*k+26) wr (X q).val (heldF p q)):=by rw [HCN.out];exact HX.out
      clear hop HCN
      go_wp2
      go_roundw
      case rel=>exact⟨j+1,X,by go_num,by omega,HO2.out,HX2.out,HB.out,KP.out⟩
      case measure=>simp [intOf];omega
    ·obtain rfl:j=p.no:=by omega
     go_wp2
     go_ret
     exact⟨_,X,rfl,HO.out,HX.out,HB.out⟩
end Go.Proofs.YtgilnmhejjpleaaGreat
namespace Go.Proofs.YtgilnmhejjpleaaGreat
open Go.RowKit
set_option linter.unusedSimpArgs false
set_option linter.unusedVariables false
set_option maxRecDepth 100000
structure StdO (K:Nat) (w:World) (base:Nat) (va vb vc:Value) (M:Nat) (Ln:Nat→Nat) (N:Nat) (r:Nat→Value) (XA:Nat→Nat→RatD) (XB XC:Nat→RatD) (A:Nat→Nat→Rat) (B C:Nat→Rat):Prop where
 tab:OwnT w base va M r
 rows : ∀i,i<M→OwnR w base (r i) (Ln i) (XA i)
 rowE : ∀i,i<M→∀j,j<Ln i→EQ true K w (XA i j).val (A i j)
 rb:OwnR w base vb M XB
 rbE : ∀i,i<M→EQ true K w (XB i).val (B i)
 rc:OwnR w base vc N XC
 rcE : ∀j,j<N→EQ true K w (XC j).val (C j)
 apR : ∀i j,i<M→j<M→i≠j→Apart (r i) (r j)
 apB : ∀i,i<M→Apart (r i) vb
 apC : ∀i,i<M→Apart (r i) vc
 apBC:Apart vb vc
section
variable {K M N base:Nat} {w w' w1:World} {va vb vc v':Value} {Ln:Nat→Nat} {r:Nat→Value} {XA:Nat→Nat→RatD} {XB XC X':Nat→RatD} {A:Nat→Nat→Rat} {B C f':Nat→Rat}
theorem StdO.below(h:StdO K w base va vb vc M Ln N r XA XB XC A B C)(hb:Below w.heap.size w w'):StdO K w' base va vb vc M Ln N r XA XB XC A B C :=
 ⟨h.tab.below hb,fun i hi=>(h.rows i hi).below hb,fun i hi j hj=>(h.rowE i hi j hj).below hb,h.rb.below hb,fun i hi=>(h.rbE i hi).below hb,h.rc.below hb,fun j hj=>(h.rcE j hj).below hb,h.apR,h.apB,h.apC,h.apBC⟩
theorem OwnR.inside(h:OwnR w base v' N X') : ∀g,v'.ownBlock=some g→g<w.heap.size:=fun g e=>(OwnN.inside h e).2
theorem StdO.appC(h:StdO K w base va vb vc M Ln N r XA XB XC A B C)(hg:Grew w w' vc v')(hf:Fz base 36 w w') {N':Nat}(ho:OwnR w' base v' N' X')(hE : ∀j,j<N'→EQ true K w' (X' j).val (f' j)) :
 StdO K w' base va vb v' M Ln N' r XA XB X' A B f' :=
 ⟨OwnN.fz h.tab hf jpu1,fun i hi=>OwnN.grew (h.rows i hi) hg (h.apC i hi).symm,fun i hi j hj=>(h.rowE i hi j hj).kp hf.keep,OwnN.grew h.rb hg h.apBC.symm,fun i hi=>(h.rbE i hi).kp hf.keep,ho,hE,
  h.apR,h.apB,fun i hi=>((h.apC i hi).symm.grew hg (h.rows i hi).inside).symm,(h.apBC.symm.grew hg h.rb.inside).symm⟩
theorem StdO.appA {ga ca i n':Nat}(h:StdO K w base (.slice (some ⟨ga,0,none⟩) M ca) vb vc M Ln N r XA XB XC A B C)(hi:i<M)(hg:Grew w w1 (r i) v')(hf:Fz base 36 w w1)(ho:OwnR w1 base v' n' X')(hE : ∀j,j<n'→EQ true K w1 (X' j).val (f' j))(hv:Nu v')(hw:w'=w1.setCell ⟨ga,i,none⟩ v') :
 StdO K w' base (.slice (some ⟨ga,0,none⟩) M ca) vb vc M (updR Ln i n') N (updR r i v') (updR XA i X') XB XC (updR A i f') B C∧Below base w w':=by
 have ht:OwnT w1 base (.slice (some ⟨ga,0,none⟩) M ca) M r:=OwnN.fz h.tab hf jpu1
 obtain⟨s1,s2,s3⟩:=OwnT.set1 ht hi hv hw
 have frz : ∀ {v:Value} {n:Nat} {X:Nat→RatD},OwnR w1 base v n X→OwnR w' base v n X:=fun h=>OwnN.fz h s2 jpu1
 have hap : ∀j,j<M→j≠i→Apart v' (r j):=fun j hj hne=>(h.apR i j hi hj (fun e=>hne e.symm)).grew hg (h.rows j hj).inside
 refine⟨⟨s1,fun j hj=>?_,fun j hj q hq=>?_,frz (OwnN.grew h.rb hg (h.apB i hi)),fun j hj=>((h.rbE j hj).kp hf.keep).kp s2.keep,frz (OwnN.grew h.rc hg (h.apC i hi)),fun j hj=>((h.rcE j hj).kp hf.keep).kp s2.keep,fun a b ha hb hab=>?_,fun j hj=>?_,fun j hj=>?_,h.apBC⟩,hf.below.trans s2.below⟩
 ·by_cases e:j=i
  ·subst e;rw [updR_at,updR_at,updR_at];exact frz ho
  ·rw [updR_ne _ _ e,updR_ne _ _ e,updR_ne _ _ e];exact frz (OwnN.grew (h.rows j hj) hg (h.apR i j hi hj (fun e'=>e e'.symm)))
 ·by_cases e:j=i
  ·subst e;rw [updR_at] at hq;rw [updR_at,updR_at];exact(hE q hq).kp s2.keep
  ·rw [updR_ne _ _ e] at hq;rw [updR_ne _ _ e,updR_ne _ _ e];exact((h.rowE j hj q hq).kp hf.keep).kp s2.keep
 ·by_cases ea:a=i
  ·subst ea
   rw [updR_at,updR_ne _ _ (fun e=>hab e.symm)]
   exact hap b hb (fun e=>hab e.symm)
  ·by_cases eb:b=i
   ·subst eb
    rw [updR_at,updR_ne _ _ ea]
    exact(hap a ha ea).symm
   ·rw [updR_ne _ _ ea,updR_ne _ _ eb];exact h.apR a b ha hb hab
 ·by_cases e:j=i
  ·subst e;rw [updR_at];exact(h.apB j hi).grew hg h.rb.inside
  ·rw [updR_ne _ _ e];exact h.apB j hj
 ·by_cases e:j=i
  ·subst e;rw [updR_at];exact(h.apC j hi).grew hg h.rc.inside
  ·rw [updR_ne _ _ e];exact h.apC j hj
theorem grew_set4 {g a b c d n m:Nat} {x0 x1 x2 x3:Value}(hw:w'=(((w.setCell ⟨g,a,none⟩ x0).setCell ⟨g,b,none⟩ x1).setCell ⟨g,c,none⟩ x2).setCell ⟨g,d,none⟩ x3):Grew w w' (.slice (some ⟨g,0,none⟩) n m) (.slice (some ⟨g,0,none⟩) n m):=by
 subst hw
 refine⟨⟨rfl,rfl,rfl,by simp [World.setCell],fun k hk hne=>?_⟩,.inl rfl⟩
 have hk':k≠g:=fun e=>hne (by rw [e];rfl)
 exact(heap_setCell_other _ ⟨g,d,none⟩ k x3 hk').trans ((heap_setCell_other _ ⟨g,c,none⟩ k x2 hk').trans ((heap_setCell_other _ ⟨g,b,none⟩ k x1 hk').trans (heap_setCell_other _ ⟨g,a,none⟩ k x0 hk')))
theorem StdO.setB {gb cb i:Nat}(h:StdO K w base va (.slice (some ⟨gb,0,none⟩) M cb) vc M Ln N r XA XB XC A B C)(hi:i<M)(x:RatD) {q:Rat}(hE:EQ true K w x.val q)(hw:w'=(((w.setCell ⟨gb,i*4,none⟩ (.bool x.b)).setCell ⟨gb,i*4+1,none⟩ (.slice x.A x.n x.c)).setCell ⟨gb,i*4+2,none⟩ (.bool x.b')).setCell ⟨gb,i*4+3,none⟩ (.slice x.A' x.n' x.c')) :
 StdO K w' base va (.slice (some ⟨gb,0,none⟩) M cb) vc M Ln N r XA (updR XB i x) XC A (updR B i q) C∧Fz base 36 w w':=by
 obtain⟨s1,s2,s3⟩:=OwnR.set4 h.rb hi x hw
 have hg:=grew_set4 (w:=w) (n:=M) (m:=cb) hw
 refine⟨⟨OwnN.fz h.tab s2 jpu1,fun j hj=>OwnN.grew (h.rows j hj) hg (h.apB j hj).symm,fun j hj l hl=>(h.rowE j hj l hl).kp s2.keep,s1,fun j hj=>?_,OwnN.grew h.rc hg h.apBC,fun j hj=>(h.rcE j hj).kp s2.keep,h.apR,h.apB,h.apC,h.apBC⟩,s2⟩
 by_cases e:j=i
 ·subst e;rw [updR_at,updR_at];exact hE.kp s2.keep
 ·rw [updR_ne _ _ e,updR_ne _ _ e];exact(h.rbE j hj).kp s2.keep
theorem StdO.setA {gr cr i l:Nat}(h:StdO K w base va vb vc M Ln N r XA XB XC A B C)(hi:i<M)(hr:r i = .slice (some ⟨gr,0,none⟩) (Ln i) cr)(hl:l<Ln i)(x:RatD) {q:Rat}(hE:EQ true K w x.val q)(hw:w'=(((w.setCell ⟨gr,l*4,none⟩ (.bool x.b)).setCell ⟨gr,l*4+1,none⟩ (.slice x.A x.n x.c)).setCell ⟨gr,l*4+2,none⟩ (.bool x.b')).setCell ⟨gr,l*4+3,none⟩ (.slice x.A' x.n' x.c')) :
 StdO K w' base va vb vc M Ln N r (updR XA i (updR (XA i) l x)) XB XC (updR A i (updR (A i) l q)) B C∧Fz base 36 w w':=by
 have ho:=h.rows i hi
 rw [hr] at ho
 obtain⟨s1,s2,s3⟩:=OwnR.set4 ho hl x hw
 have hg:=grew_set4 (w:=w) (n:=Ln i) (m:=cr) hw
 rw [← hr] at hg s1
 refine⟨⟨OwnN.fz h.tab s2 jpu1,fun j hj=>?_,fun j hj m hm=>?_,OwnN.grew h.rb hg (h.apB i hi),fun j hj=>(h.rbE j hj).kp s2.keep,OwnN.grew h.rc hg (h.apC i hi),fun j hj=>(h.rcE j hj).kp s2.keep,h.apR,h.apB,h.apC,h.apBC⟩,s2⟩
 ·by_cases e:j=i
  ·subst e;rw [updR_at];exact s1
  ·rw [updR_ne _ _ e];exact OwnN.grew (h.rows j hj) hg (h.apR i j hi hj (fun e'=>e e'.symm))
 ·by_cases e:j=i
  ·subst e
   rw [updR_at,updR_at]
   by_cases e2:m=l
   ·subst e2;rw [updR_at,updR_at];exact hE.kp s2.keep
   ·rw [updR_ne _ _ e2,updR_ne _ _ e2];exact(h.rowE j hj m hm).kp s2.keep
  ·rw [updR_ne _ _ e,updR_ne _ _ e];exact(h.rowE j hj m hm).kp s2.keep
theorem StdO.congr {A':Nat→Nat→Rat} {B' C':Nat→Rat}(h:StdO K w base va vb vc M Ln N r XA XB XC A B C)(hA : ∀i,i<M→∀j,j<Ln i→A i j=A' i j)(hB : ∀i,i<M→B i=B' i)(hC : ∀j,j<N→C j=C' j):StdO K w base va vb vc M Ln N r XA XB XC A' B' C' :=
 ⟨h.tab,h.rows,fun i hi j hj=>hA i hi j hj▸h.rowE i hi j hj,h.rb,fun i hi=>hB i hi▸h.rbE i hi,h.rc,fun j hj=>hC j hj▸h.rcE j hj,h.apR,h.apB,h.apC,h.apBC⟩
theorem StdO.congrL {Ln':Nat→Nat}(h:StdO K w base va vb vc M Ln N r XA XB XC A B C)(hL : ∀i,i<M→Ln i=Ln' i):StdO K w base va vb vc M Ln' N r XA XB XC A B C :=
 ⟨h.tab,fun i hi=>hL i hi▸h.rows i hi,fun i hi j hj=>h.rowE i hi j (by rw [hL i hi];exact hj),h.rb,h.rbE,h.rc,h.rcE,h.apR,h.apB,h.apC,h.apBC⟩
theorem StdO.stdQ(h:StdO K w base va vb vc M (fun _=>N) N r XA XB XC A B C)(hM:M≤1000000)(hN:N≤1000000):StdQ true K w (.agg #[va,vb,vc]) M N A B C :=
 ⟨va,vb,vc,rfl,h.tab.tabQ hM fun i hi=>(h.rows i hi).rowT hN (h.rowE i hi),(h.rb.rowT hM h.rbE).rowQ,(h.rc.rowT hN h.rcE).rowQ⟩
theorem StdO.alloc_(h:StdO K w base va vb vc M Ln N r XA XB XC A B C)(o:Obj):StdO K (w.alloc o) base va vb vc M Ln N r XA XB XC A B C:=h.below (below_new w o)
end
def sgnQ(b:Rat):Rat:=if b<0 then -1 else 1
theorem sgnQ_neg {b:Rat}(h:b<0)(x:Rat):sgnQ b*x = -x:=by unfold sgnQ;rw [if_pos h,Rat.neg_mul,Rat.one_mul]
theorem sgnQ_pos {b:Rat}(h : ¬b<0)(x:Rat):sgnQ b*x=x:=by unfold sgnQ;rw [if_neg h,Rat.one_mul]
end Go.Proofs.YtgilnmhejjpleaaGreat
