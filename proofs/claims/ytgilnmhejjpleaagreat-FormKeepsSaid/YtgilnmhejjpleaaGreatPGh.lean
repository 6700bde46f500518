/- FormKeeps. -/
import Derived.Test.YtgilnmhejjpleaaGreatPGd
import Derived.Test.YtgilnmhejjpleaaGreatPGe
import Derived.Test.YtgilnmhejjpleaaGreatPGf
namespace Go.Proofs.YtgilnmhejjpleaaGreat
open Go.RowKit
attribute [local go_sem ↓] Go.wp_at_zero Go.wp_at_succ
set_option linter.unusedVariables false
set_option linter.unusedSimpArgs false
theorem jdrv {P:Prop}(h:P:=by (try dsimp only); first | exact cells29 H16.out H18.out H6.out | exact cells29 (w := World.drew _) H16.out H18.out H6.out):P:=h
theorem jma3 {P:Prop}(h:P:=by first | exact cells16 H12.out HKS.out HRB.out | exact cells16 (w := World.drew _) H12.out HKS.out HRB.out):P:=h
theorem jsat {P:Prop}(h:P:=by first | exact (HAY.out.below HB.out).2 | exact (HAY.out.below HB.out.drew).2):P:=h
theorem jw3m {P:Prop}(h:P:=by (try dsimp only); first | exact cells16 H12.out HKS.out HRB.out | exact cells16 (w := World.drew _) H12.out HKS.out HRB.out):P:=h
theorem jzpw {P:Prop}(h:P:=by (try dsimp only); first | exact (HAY.out.below HB.out).2 | exact (HAY.out.below HB.out.drew).2):P:=h
theorem j14l {P:Prop}(h:P:=by have hh := HFIT.out.2 h.2; cases HI.out.2 ⟨hh.1, fun q hq => hh.2 q j0i3⟩):P:=h
theorem row_dot72 {p q:Bool} {k l n:Nat} {w w':World} {v v':Value} {f g:Nat→Rat}(ha:RowQ p k w v n f)(hb:RowQ q l w' v' n g) {K:Nat}(h1:1≤k)(h2:1≤l)(hn:n≤72)(hK:1+72*(k+l+1)≤K) : ∀i,i≤n→BQ K (dotF f g i):=fun i hi=>dotF_bq i (fun q hq=>ha.bq h1 j0i3) (fun q hq=>hb.bq h2 j0i3) (by have:=Nat.mul_le_mul_right (k+l+1) (show i≤72 by omega);omega)
theorem pback_is {pl:Bool} {k l ny:Nat} {w:World} {v vy:Value} {p:LpX} {y:Nat→Rat}(h:LpQ k w v p)(hy:RowQ pl l w vy ny y)(hm:MayX p)(hn:ny=(colL p).length)(hk:k≤300)(h1:1≤k)(hl:l≤300)(h2:1≤l) :
 Calls Tryz.prog 20 #[v,vy] w fun e w' => ∃vx,e = .returned (.tuple #[vx,.int .i64 0])∧RowT true (k+l+1) w' vx p.cost.n (fun j=>p.lo.q j+y j)∧Below w.heap.size w w':=by
 refine(pback h hy hm hk h1 hl h2).mono ?_
 rintro e w' ⟨vx,h | h,hb⟩
 ·exact⟨vx,h.2.1,h.2.2,hb⟩
 ·exact absurd hn h.1
theorem yV_get {p:LpX} {x:Nat→Rat} {j:Nat} : ∀n,j<n→(yV p x n)[j]?.getD 0=x j - p.lo.q j
 | 0,h=>absurd h (Nat.not_lt_zero j)
 |n+1,h=>by
  rw [yV]
  by_cases e:j<n
  ·rw [List.getElem?_append_left (by rw [yV_len];exact e)]
   exact yV_get n e
  ·obtain rfl:j=n:=by omega
   rw [List.getElem?_append_right (by rw [yV_len];exact Nat.le_refl _),yV_len,Nat.sub_self]
   rfl
theorem yL_get {p:LpX} {x:Nat→Rat} {j:Nat}(h:j<p.no):(yL p x)[j]?.getD 0=x j - p.lo.q j:=by
 rw [yL,List.append_assoc,List.getElem?_append_left (by rw [yV_len];exact h)]
 exact yV_get p.no h
theorem cells16 {w:World} {g g':Nat} {a:Addr} {x:RatD} {V0 V1 V2 V3 S0 S1 S2:Value}(h1:Blk w g 36 #[V0,V1,V2,V3])(h2:Blk w g' 31 #[S0,S1,S2])(h3:RatAt w a x) :
 w.cell? ⟨g,0,none⟩=some V0∧w.cell? ⟨g,1,none⟩=some V1∧w.cell? ⟨g,2,none⟩=some V2∧w.cell? ⟨g,3,none⟩=some V3∧w.cell? ⟨g',0,none⟩=some S0∧w.cell? ⟨g',1,none⟩=some S1∧w.cell? ⟨g',2,none⟩=some S2∧w.cell? a=some (.bool x.b)∧w.cell? ⟨a.block,a.off+1,none⟩=some (.slice x.A x.n x.c)∧w.cell? ⟨a.block,a.off+2,none⟩=some (.bool x.b')∧w.cell? ⟨a.block,a.off+3,none⟩=some (.slice x.A' x.n' x.c'):=by
 obtain⟨q0,q1,q2,q3,_⟩:=h1.use4
 obtain⟨s0,s1,s2,_⟩:=h2.use3
 exact⟨q0,q1,q2,q3,s0,s1,s2,h3.2⟩
theorem cells27 {w:World} {a b:Addr} {x y:RatD}(h1:RatAt w a x)(h2:RatAt w b y) :
 w.cell? a=some (.bool x.b)∧w.cell? ⟨a.block,a.off+1,none⟩=some (.slice x.A x.n x.c)∧w.cell? ⟨a.block,a.off+2,none⟩=some (.bool x.b')∧w.cell? ⟨a.block,a.off+3,none⟩=some (.slice x.A' x.n' x.c')∧w.cell? b=some (.bool y.b)∧w.cell? ⟨b.block,b.off+1,none⟩=some (.slice y.A y.n y.c)∧w.cell? ⟨b.block,b.off+2,none⟩=some (.bool y.b')∧w.cell? ⟨b.block,b.off+3,none⟩=some (.slice y.A' y.n' y.c'):=⟨h1.2.1,h1.2.2.1,h1.2.2.2.1,h1.2.2.2.2,h2.2⟩
theorem cells29 {w:World} {g g' g'':Nat} {V0 V1 V2 V3 U0 U1 U2 U3 T0 T1 T2 T3:Value}(h1:Blk w g 36 #[V0,V1,V2,V3])(h2:Blk w g' 36 #[U0,U1,U2,U3])(h3:Blk w g'' 36 #[T0,T1,T2,T3]) :
 w.cell? ⟨g,0,none⟩=some V0∧w.cell? ⟨g,1,none⟩=some V1∧w.cell? ⟨g,2,none⟩=some V2∧w.cell? ⟨g,3,none⟩=some V3∧w.cell? ⟨g',0,none⟩=some U0∧w.cell? ⟨g',1,none⟩=some U1∧w.cell? ⟨g',2,none⟩=some U2∧w.cell? ⟨g',3,none⟩=some U3∧w.cell? ⟨g'',0,none⟩=some T0∧w.cell? ⟨g'',1,none⟩=some T1∧w.cell? ⟨g'',2,none⟩=some T2∧w.cell? ⟨g'',3,none⟩=some T3:=by
 obtain⟨q0,q1,q2,q3,_⟩:=h1.use4
 obtain⟨s0,s1,s2,s3,_⟩:=h2.use4
 obtain⟨t0,t1,t2,t3,_⟩:=h3.use4
 exact⟨q0,q1,q2,q3,s0,s1,s2,s3,t0,t1,t2,t3⟩
set_option maxRecDepth 100000 in
set_option maxHeartbeats 8000000 in
theorem form_keeps {w:World} {v:Value} {D:LpY}(h:LpC w v D)(Ax:Option Addr)(cx nx:Nat)(X:Nat→RatD)(x:Nat→Rat)(hx:RowR w (.slice Ax nx cx) nx X x) :
 Calls Tryz.prog 5 #[v,.slice Ax nx cx] w fun e w'=>e = .returned (.bool true)∧Below w.heap.size w w':=by
 obtain⟨vc,vr,vl,vh,vo,rfl,hc,hr,hl,hh,ho⟩:=h
 obtain⟨Ac,cc,rfl,_,nc0,_⟩:=id hc
 obtain⟨Ar,cr,rfl,_,nm0,hr1,hr2⟩:=id hr
 obtain⟨Al,cl,rfl,_,nl0,_⟩:=id hl
 obtain⟨Ah,ch,rfl,_,nh0,_⟩:=id hh
 obtain⟨Ao,co,rfl,_,no0,ho1⟩:=id ho
 have c_0:=Lib.hid (show LpC w (.agg #[.slice Ac D.cost.n cc,.slice Ar D.m cr,.slice Al D.lo.n cl,.slice Ah D.hi.n ch,.slice Ao D.no co]) D from⟨_,_,_,_,_,rfl,hc,hr,hl,hh,ho⟩)
 clear hc hr hl hh ho hr1 hr2 ho1
 have x_0:=Lib.hid hx
 clear hx
 go_enter Tryz.func5,Tryz.ntmps5
 go_wp2_with fail
 generalize hW:w.alloc (.cells #[.slice Ac D.cost.n cc,.slice Ar D.m cr,.slice Al D.lo.n cl,.slice Ah D.hi.n ch,.slice Ao D.no co] 26)=w1
 have hz_1:=Lib.hid (show w1.heap.size=w.heap.size+1 from j59e)
 have c_1:=Lib.hid (hW▸c_0.out.alloc_ _)
 have x_1:=Lib.hid (hW▸x_0.out.alloc_ _)
 have kp_1:Hid (Blk w1 w.heap.size 26 #[.slice Ac D.cost.n cc,.slice Ar D.m cr,.slice Al D.lo.n cl,.slice Ah D.hi.n ch,.slice Ao D.no co]) := jytn
 have HB_1:=Lib.hid (show Below w.heap.size w w1 from hW▸halloc (Below.refl _ _))
 clear hW c_0 x_0
 refine Calls.mono (awake11 _) ?_
 rintro e w2 ⟨rfl,hb⟩
 have hBw:=(show Below w1.heap.size w1 w2 from jc22)
 have c_2:=Lib.hid (c_1.out.below hBw)
 have x_2:=Lib.hid (x_1.out.below hBw)
 have kp_2:=Lib.hid (kp_1.out.below hBw)
 have HB_2:=Lib.hid (below_trans HB_1.out hBw)
 clear hBw hb c_1 x_1 kp_1 HB_1
 obtain⟨u0,u1,u2,u3,u4,ul⟩:=kp_2.out.use5
 go_wp2_with fail
 refine Calls.mono (rfew11 (N:=4) c_2.out j0i3) ?_
 rintro e w3 ⟨⟨b,rfl,hf⟩,hb⟩
 have hBw:=(show Below w2.heap.size w2 w3 from jc22)
 have c_3:=Lib.hid (c_2.out.below hBw)
 have x_3:=Lib.hid (x_2.out.below hBw)
 have kp_3:=Lib.hid (kp_2.out.below hBw)
 have HB_3:=Lib.hid (below_trans HB_2.out hBw)
 clear hBw hb c_2 x_2 kp_2 HB_2
 clear u0 u1 u2 u3 u4 ul
 cases b
 ·clear hf
  go_wp2
  go_ret
  exact⟨rfl,HB_3.out⟩
 have HF:=Lib.hid (hf rfl)
 clear hf
 have lp_3:=Lib.hid (c_3.out.few HF.out j0i3)
 obtain⟨u0,u1,u2,u3,u4,ul⟩:=kp_3.out.use5
 go_wp2_with fail
 refine Calls.mono (rfew (N:=4) x_3.out j0i3) ?_
 rintro e wq ⟨⟨b,rfl,hf⟩,hw⟩
 have hw':=hw.symm
 subst hw'
 clear hw
 cases b
 ·clear hf
  go_wp2
  go_ret
  exact⟨rfl,HB_3.out⟩
 have HF2:=Lib.hid (hf.1 rfl)
 clear hf
 have xq_3:=Lib.hid (x_3.out.few HF2.out j0i3)
 clear x_3
 go_wp2_with fail
 refine Calls.mono (rMay lp_3.out j0i3 j0i3) ?_
 rintro e w4 ⟨rfl,hb⟩
 have hBw:=(show Below w3.heap.size w3 w4 from jc22)
 have c_4:=Lib.hid (c_3.out.below hBw)
 have kp_4:=Lib.hid (kp_3.out.below hBw)
 have lp_4:=Lib.hid (lp_3.out.below hBw)
 have xq_4:=Lib.hid (xq_3.out.below hBw)
 have HB_4:=Lib.hid (below_trans HB_3.out hBw)
 clear hBw hb c_3 kp_3 lp_3 xq_3 HB_3
 clear u0 u1 u2 u3 u4 ul
 obtain⟨u0,u1,u2,u3,u4,ul⟩:=kp_4.out.use5
 by_cases hm : ¬MayX D.lp
 ·have HMB:=Lib.hid (mayB_false.2 hm)
  rw [HMB.out]
  go_wp2
  go_ret
  exact⟨rfl,HB_4.out⟩
 have hm:=Classical.not_not.1 hm
 have HM:=Lib.hid hm
 clear hm
 rw [mayB_true.2 HM.out]
 by_cases hn:nx≠D.cost.n
 ·have n1:((nx:Int)=(D.cost.n:Int))=False:=eq_false j0i3
  have b1:((nx:Int) == (D.cost.n:Int))=false := jyif
  go_wp2
  go_ret
  exact⟨rfl,HB_4.out⟩
 have n1:((nx:Int)=(D.cost.n:Int))=True:=eq_true j0i3
 have b1:((nx:Int) == (D.cost.n:Int))=true:=by rw [beq_iff_eq];omega
 have hnx:nx=D.cost.n := j0i3
 have HN:=Lib.hid hnx
 clear hn hnx
 have hnx:=HN.out
 subst hnx
 clear HN n1 b1
 go_wp2_with fail
 refine Calls.mono (pstd lp_4.out HM.out j0i3 j0i3) ?_
 rintro e w5 ⟨vs,vr,rfl,⟨va,vb,vc,rfl,hA,hB2,hC⟩,hR,hb⟩
 obtain⟨hM48,hN72⟩:=few_std lp_4.out HM.out
 obtain⟨M,hM⟩ : ∃M,M=rowsC D.lp:=⟨_,rfl⟩
 obtain⟨N,hN⟩ : ∃N,N=(colL D.lp).length:=⟨_,rfl⟩
 rw [← hM] at hA hB2 hM48
 rw [← hN] at hA hC hN72
 obtain⟨b5,A5,n5,c5,d5,B5,m5,k5,rfl,-,-,-,-,-⟩:=id hR.form
 obtain⟨SA,SAc,rfl,_,_⟩:=hA.len
 obtain⟨SB,SBc,rfl,_,_⟩:=hB2.len
 obtain⟨SC,SCc,rfl,_,_⟩:=hC.len
 have hBw:=(show Below w4.heap.size w4 w5 from jc22)
 have c_5:=Lib.hid (c_4.out.below hBw)
 have kp_5:=Lib.hid (kp_4.out.below hBw)
 have lp_5:=Lib.hid (lp_4.out.below hBw)
 have xq_5:=Lib.hid (xq_4.out.below hBw)
 have sa_5:=Lib.hid (hA)
 have sb_5:=Lib.hid (hB2)
 have sc_5:=Lib.hid (hC)
 have rr_5:=Lib.hid (hR)
 have HB_5:=Lib.hid (below_trans HB_4.out hBw)
 clear hBw hb c_4 kp_4 lp_4 xq_4 HB_4
 clear hA hB2 hC hR u0 u1 u2 u3 u4 ul
 have HMM:=Lib.hid hM
 have HNN:=Lib.hid hN
 clear hM hN
 obtain⟨u0,u1,u2,u3,u4,ul⟩:=kp_5.out.use5
 go_upto_region 6 with fail
 generalize hW:w5.alloc (.cells #[.slice SA M SAc,.slice SB M SBc,.slice SC N SCc] 31)=w6
 have hz_6:=Lib.hid (show w6.heap.size=w5.heap.size+1 from j59e)
 have c_6:=Lib.hid (hW▸c_5.out.alloc_ _)
 have kp_6:=Lib.hid (hW▸kp_5.out.alloc_ _)
 have lp_6:=Lib.hid (hW▸lp_5.out.alloc_ _)
 have xq_6:=Lib.hid (hW▸xq_5.out.alloc_ _)
 have sa_6:=Lib.hid (hW▸sa_5.out.alloc_ _)
 have sb_6:=Lib.hid (hW▸sb_5.out.alloc_ _)
 have sc_6:=Lib.hid (hW▸sc_5.out.alloc_ _)
 have rr_6:=Lib.hid (hW▸rr_5.out.alloc_ _)
 have ks_6:Hid (Blk w6 w5.heap.size 31 #[.slice SA M SAc,.slice SB M SBc,.slice SC N SCc]) := jytn
 have HB_6:=Lib.hid (show Below w.heap.size w w6 from hW▸halloc HB_5.out)
 clear hW c_5 kp_5 lp_5 xq_5 sa_5 sb_5 sc_5 rr_5 HB_5
 generalize hW:w6.alloc (.cells #[.bool b5,.slice A5 n5 c5,.bool d5,.slice B5 m5 k5] 36)=w7
 have hz_7:=Lib.hid (show w7.heap.size=w6.heap.size+1 from j59e)
 have c_7:=Lib.hid (hW▸c_6.out.alloc_ _)
 have kp_7:=Lib.hid (hW▸kp_6.out.alloc_ _)
 have lp_7:=Lib.hid (hW▸lp_6.out.alloc_ _)
 have xq_7:=Lib.hid (hW▸xq_6.out.alloc_ _)
 have sa_7:=Lib.hid (hW▸sa_6.out.alloc_ _)
 have sb_7:=Lib.hid (hW▸sb_6.out.alloc_ _)
 have sc_7:=Lib.hid (hW▸sc_6.out.alloc_ _)
 have rr_7:=Lib.hid (hW▸rr_6.out.alloc_ _)
 have ks_7:=Lib.hid (hW▸ks_6.out.alloc_ _)
 have k6_7:Hid (Blk w7 (w5.heap.size+1) 36 #[.bool b5,.slice A5 n5 c5,.bool d5,.slice B5 m5 k5]):=by rw [← hW];exact Blk.new _ _ (by have:=hz_6.out;omega) _ _
 have HB_7:=Lib.hid (show Below w.heap.size w w7 from hW▸halloc HB_6.out)
 clear hW c_6 kp_6 lp_6 xq_6 sa_6 sb_6 sc_6 rr_6 ks_6 HB_6
 clear u0 u1 u2 u3 u4 ul
 obtain⟨u0,u1,u2,u3,u4,ul⟩:=kp_7.out.use5
 go_wp2_with fail
 refine Calls.mono (slacks_ lp_7.out xq_7.out HM.out rfl) ?_
 rintro e w8 ⟨v,rfl,h,hb⟩
 obtain⟨yF,hyF⟩ : ∃f:Nat→Rat,f=fun k=>(yL D.lp x)[k]?.getD 0:=⟨_,rfl⟩
 rw [← HNN.out,← hyF] at h
 obtain⟨Y,cY,rfl,hcY,_⟩:=h.rowQ.len
 have HYF:=Lib.hid hyF
 have hBw:=(show Below w7.heap.size w7 w8 from jc22)
 have c_8:=Lib.hid (c_7.out.below hBw)
 have kp_8:=Lib.hid (kp_7.out.below hBw)
 have lp_8:=Lib.hid (lp_7.out.below hBw)
 have xq_8:=Lib.hid (xq_7.out.below hBw)
 have sa_8:=Lib.hid (sa_7.out.below hBw)
 have sb_8:=Lib.hid (sb_7.out.below hBw)
 have sc_8:=Lib.hid (sc_7.out.below hBw)
 have rr_8:=Lib.hid (rr_7.out.below hBw)
 have ks_8:=Lib.hid (ks_7.out.below hBw)
 have k6_8:=Lib.hid (k6_7.out.below hBw)
 have yq_8:=Lib.hid (h.rowQ)
 have HB_8:=Lib.hid (below_trans HB_7.out hBw)
 clear hBw hb c_7 kp_7 lp_7 xq_7 sa_7 sb_7 sc_7 rr_7 ks_7 k6_7 HB_7
 clear h hyF u0 u1 u2 u3 u4 ul
 have HFIT:Hid (((∀k,k<N→0≤yF k)∧∀i,i<M→dotF (stdA D.lp i) yF N=stdB D.lp i)↔FulX D.lp D.cost.n x):=by
  show _↔_
  rw [HMM.out,HNN.out,HYF.out]
  exact fits_iff HM.out
 obtain⟨x0,x1,x2,xl⟩:=ks_8.out.use3
 go_wp2
 have HB:=Lib.hid (Below.refl w8.heap.size w8)
 clear x0 x1 x2 xl
 go_loopw [9,10] (fun v9 v10 wr => ∃ (k:Nat) (b:Bool),v9 = .bool b∧v10 = .int .i64 (k:Nat)∧k≤N∧(b=true↔∀q,q<k→0≤yF q)∧Below w8.heap.size w8 wr) (fun _ v10 _=>N - (intOf v10).toNat)
 case atStart=>exact⟨0,true,rfl,rfl,Nat.zero_le _,⟨fun _ q hq=>absurd hq j0i3,fun _=>rfl⟩,HB.out⟩
 case round =>
  clear HB
  obtain⟨k,b,rfl,rfl,hk,hinv,hbw⟩:=hrel
  have HB:=Lib.hid hbw
  have HI:=Lib.hid hinv
  clear hinv hbw
  by_cases hlt:k<N
  ·have hj0:(0:Int)≤(k:Int):=by omega
   have hjk:(k:Int)<(N:Int) := j0i3
   obtain⟨yd,c1,⟨b7,A7,n7,c7,d7,B7,m7,k7⟩,e1,_,_,haty,hEy⟩:=yq_8.out.at_ hlt
   simp only [Value.slice.injEq] at e1
   obtain⟨rfl,_,rfl⟩:=e1
   have HAY:=Lib.hid haty
   have HEY:=Lib.hid hEy.2
   obtain⟨y0,y1,y2,y3,y4⟩:=haty.below HB.out
   clear haty hEy
   cases b
   ·go_wp2
    refine wp_region_held_drew (S:=(fun w'=>w'.cell? (yd.add (k*4))=some (.bool b7)∧w'.cell? ⟨(yd.add (k*4)).block,(yd.add (k*4)).off+1,none⟩=some (.slice A7 n7 c7)∧w'.cell? ⟨(yd.add (k*4)).block,(yd.add (k*4)).off+2,none⟩=some (.bool d7)∧w'.cell? ⟨(yd.add (k*4)).block,(yd.add (k*4)).off+3,none⟩=some (.slice B7 m7 k7))) jo0f jsat (fun hHeld=>?_)
    refine jtk 0 ?_
    refine jtk 1 ?_
    refine jsk 2 ?_
    refine jsk 3 ?_
    refine jsk 4 ?_
    refine jsk 5 ?_
    refine jsk 6 ?_
    refine jsk 7 ?_
    refine jsk 8 ?_
    refine jtk 9 ?_
    refine jtk 10 ?_
    refine wpAnyH_done jo0f ?_ _
    go_wp2
    go_roundw
    case rel=>exact⟨k+1,false,by trivial,by go_num,by omega,⟨fun h => j40t,fun h=>HI.out.2 fun q hq=>h q j0i3⟩,HB.out.drew⟩
    case measure=>simp [intOf];omega
   ·rcases cmpQ_cases (yF k) 0 with ⟨h2,h3⟩ | ⟨h2,h3⟩ | ⟨h2,h3⟩
    ·have H3:=Lib.hid h3
     have HQ:=Lib.hid h2
     clear h2 h3
     go_wp2
     refine wp_region_held_drew (S:=(fun w'=>w'.cell? (yd.add (k*4))=some (.bool b7)∧w'.cell? ⟨(yd.add (k*4)).block,(yd.add (k*4)).off+1,none⟩=some (.slice A7 n7 c7)∧w'.cell? ⟨(yd.add (k*4)).block,(yd.add (k*4)).off+2,none⟩=some (.bool d7)∧w'.cell? ⟨(yd.add (k*4)).block,(yd.add (k*4)).off+3,none⟩=some (.slice B7 m7 k7))) jo0f jsat (fun hHeld=>?_)
     refine jtk 0 ?_
     refine jtk 1 ?_
     refine jtk 2 ?_
     refine jtk 3 ?_
     refine jtk 4 ?_
     refine jtk 5 ?_
     refine jrd 6 fun Kz hKz=>?_
     go_simp
     refine Calls.mono (of11_is law_d0 _ j0i3 j0i3) ?_;rintro e w11 ⟨v,rfl,h,hb⟩;have hBw:=(show Below wr.heap.size wr w11 from jc22);have HB:=Lib.hid (below_trans HB.out hBw);have HZ:=Lib.hid (h.limQ bq0);clear h hb hBw
     refine hKz.out _ _ jzpw (fun hHeld=>?_)
     clear hKz Kz
     refine jsp ?_
     refine jrd 7 fun Kz hKz=>?_
     go_simp
     refine Calls.mono (rcmp_is (-1) H3.out (HEY.out.below HB.out) HZ.out j0i3 j0i3 j0i3 j0i3) ?_;rintro e w12 ⟨rfl,hb⟩;have hBw:=(show Below w11.heap.size w11 w12 from jc22);have HB:=Lib.hid (below_trans HB.out hBw);clear hb hBw
     refine hKz.out _ _ jzpw (fun hHeld=>?_)
     clear hKz Kz
     refine jsp ?_
     refine jtk 8 ?_
     refine jtk 9 ?_
     refine jtk 10 ?_
     refine wpAnyH_done jo0f ?_ _
     go_wp2
     go_roundw
     case rel=>exact⟨k+1,false,by trivial,by go_num,by omega,⟨fun h => j40t,fun h=>absurd (h k j0i3) (Rat.not_le.2 HQ.out)⟩,HB.out⟩
     case measure=>simp [intOf];omega
    ·have H3:=Lib.hid h3
     have HQ:=Lib.hid (show 0≤yF k from jrot)
     clear h2 h3
     go_wp2
     refine wp_region_held_drew (S:=(fun w'=>w'.cell? (yd.add (k*4))=some (.bool b7)∧w'.cell? ⟨(yd.add (k*4)).block,(yd.add (k*4)).off+1,none⟩=some (.slice A7 n7 c7)∧w'.cell? ⟨(yd.add (k*4)).block,(yd.add (k*4)).off+2,none⟩=some (.bool d7)∧w'.cell? ⟨(yd.add (k*4)).block,(yd.add (k*4)).off+3,none⟩=some (.slice B7 m7 k7))) jo0f jsat (fun hHeld=>?_)
     refine jtk 0 ?_
     refine jtk 1 ?_
     refine jtk 2 ?_
     refine jtk 3 ?_
     refine jtk 4 ?_
     refine jtk 5 ?_
     refine jrd 6 fun Kz hKz=>?_
     go_simp
     refine Calls.mono (of11_is law_d0 _ j0i3 j0i3) ?_;rintro e w11 ⟨v,rfl,h,hb⟩;have hBw:=(show Below wr.heap.size wr w11 from jc22);have HB:=Lib.hid (below_trans HB.out hBw);have HZ:=Lib.hid (h.limQ bq0);clear h hb hBw
     refine hKz.out _ _ jzpw (fun hHeld=>?_)
     clear hKz Kz
     refine jsp ?_
     refine jrd 7 fun Kz hKz=>?_
     go_simp
     refine Calls.mono (rcmp_is 0 H3.out (HEY.out.below HB.out) HZ.out j0i3 j0i3 j0i3 j0i3) ?_;rintro e w12 ⟨rfl,hb⟩;have hBw:=(show Below w11.heap.size w11 w12 from jc22);have HB:=Lib.hid (below_trans HB.out hBw);clear hb hBw
     refine hKz.out _ _ jzpw (fun hHeld=>?_)
     clear hKz Kz
     refine jsp ?_
     refine jtk 8 ?_
     refine jtk 9 ?_
     refine jtk 10 ?_
     refine wpAnyH_done jo0f ?_ _
     go_wp2
     go_roundw
     case rel=>exact⟨k+1,true,by trivial,by go_num,by omega,⟨fun _ q hq=>(by
      by_cases hqk:q=k
      ·subst hqk;exact HQ.out
      ·exact HI.out.1 (by trivial) q j0i3),fun _=>rfl⟩,HB.out⟩
     case measure=>simp [intOf];omega
    ·have H3:=Lib.hid h3
     have HQ:=Lib.hid (Rat.le_of_lt h2)
     clear h2 h3
     go_wp2
     refine wp_region_held_drew (S:=(fun w'=>w'.cell? (yd.add (k*4))=some (.bool b7)∧w'.cell? ⟨(yd.add (k*4)).block,(yd.add (k*4)).off+1,none⟩=some (.slice A7 n7 c7)∧w'.cell? ⟨(yd.add (k*4)).block,(yd.add (k*4)).off+2,none⟩=some (.bool d7)∧w'.cell? ⟨(yd.add (k*4)).block,(yd.add (k*4)).off+3,none⟩=some (.slice B7 m7 k7))) jo0f jsat (fun hHeld=>?_)
     refine jtk 0 ?_
     refine jtk 1 ?_
     refine jtk 2 ?_
     refine jtk 3 ?_
     refine jtk 4 ?_
     refine jtk 5 ?_
     refine jrd 6 fun Kz hKz=>?_
     go_simp
     refine Calls.mono (of11_is law_d0 _ j0i3 j0i3) ?_;rintro e w11 ⟨v,rfl,h,hb⟩;have hBw:=(show Below wr.heap.size wr w11 from jc22);have HB:=Lib.hid (below_trans HB.out hBw);have HZ:=Lib.hid (h.limQ bq0);clear h hb hBw
     refine hKz.out _ _ jzpw (fun hHeld=>?_)
     clear hKz Kz
     refine jsp ?_
     refine jrd 7 fun Kz hKz=>?_
     go_simp
     refine Calls.mono (rcmp_is 1 H3.out (HEY.out.below HB.out) HZ.out j0i3 j0i3 j0i3 j0i3) ?_;rintro e w12 ⟨rfl,hb⟩;have hBw:=(show Below w11.heap.size w11 w12 from jc22);have HB:=Lib.hid (below_trans HB.out hBw);clear hb hBw
     refine hKz.out _ _ jzpw (fun hHeld=>?_)
     clear hKz Kz
     refine jsp ?_
     refine jtk 8 ?_
     refine jtk 9 ?_
     refine jtk 10 ?_
     refine wpAnyH_done jo0f ?_ _
     go_wp2
     go_roundw
     case rel=>exact⟨k+1,true,by trivial,by go_num,by omega,⟨fun _ q hq=>(by
      by_cases hqk:q=k
      ·subst hqk;exact HQ.out
      ·exact HI.out.1 (by trivial) q j0i3),fun _=>rfl⟩,HB.out⟩
     case measure=>simp [intOf];omega
  ·obtain rfl:N=k:=by omega
   go_wp2
   go_loopw [9,11] (fun v9 v11 wr => ∃ (i:Nat) (b:Bool),v9 = .bool b∧v11 = .int .i64 (i:Nat)∧i≤M∧(b=true↔(∀q,q<N→0≤yF q)∧∀q,q<i→dotF (stdA D.lp q) yF N=stdB D.lp q)∧Below w8.heap.size w8 wr) (fun _ v11 _=>M - (intOf v11).toNat)
   case atStart=>exact⟨0,_,rfl,rfl,Nat.zero_le _,⟨fun h=>⟨HI.out.1 h,fun q hq=>absurd hq j0i3⟩,fun h=>HI.out.2 h.1⟩,HB.out⟩
   case round =>
    clear HB HI
    obtain⟨i,b,rfl,rfl,hi,hinv,hbw⟩:=hrel
    have HB:=Lib.hid hbw
    have HI:=Lib.hid hinv
    clear hinv hbw
    have HKS:=Lib.hid (ks_8.out.below HB.out)
    obtain⟨x0,x1,x2,xl⟩:=HKS.out.use3
    cases b
    ·by_cases hlt:i<M
     ·have hjk:(i:Int)<(M:Int):=by omega
      have hF:fulB D.lp D.cost.n x=false:=fulB_false.2 fun h => j14l
      have HKP:=Lib.hid (kp_8.out.below HB.out)
      obtain⟨u0,u1,u2,u3,u4,ul⟩:=HKP.out.use5
      go_wp2_with fail
      refine Calls.mono (pful_is hF (lp_8.out.below HB.out) (xq_8.out.below HB.out) j0i3 j0i3 j0i3 j0i3) ?_
      rintro e w12 ⟨rfl,hb⟩
      go_wp2
      go_ret
      exact⟨rfl,below_trans HB_8.out (below_trans HB.out hb)⟩
     ·obtain rfl:M=i:=by omega
      have hF:fulB D.lp D.cost.n x=false:=fulB_false.2 fun h => j14l
      have HKP:=Lib.hid (kp_8.out.below HB.out)
      obtain⟨u0,u1,u2,u3,u4,ul⟩:=HKP.out.use5
      go_wp2_with fail
      refine Calls.mono (pful_is hF (lp_8.out.below HB.out) (xq_8.out.below HB.out) j0i3 j0i3 j0i3 j0i3) ?_
      rintro e w12 ⟨rfl,hb⟩
      go_wp2
      go_ret
      exact⟨rfl,below_trans HB_8.out (below_trans HB.out hb)⟩
    ·by_cases hlt:i<M
     ·have hj0:(0:Int)≤(i:Int):=by omega
      have hjk:(i:Int)<(M:Int) := j0i3
      obtain⟨ad,c1,A',c',e1,_,hab,hac,_,_,hrow⟩:=sa_8.out.at_ hlt
      simp only [Value.slice.injEq] at e1
      obtain⟨rfl,_,rfl⟩:=e1
      obtain⟨bd,c1,⟨b8,A8,n8,c8,d8,B8,m8,k8⟩,e1,_,_,hatb,hEb⟩:=sb_8.out.at_ hlt
      simp only [Value.slice.injEq] at e1
      obtain⟨rfl,_,rfl⟩:=e1
      have HROW:=Lib.hid hrow
      have HRB:=Lib.hid hatb
      have HEB:=Lib.hid hEb.2
      have hac':=(HB.out.cell (p:=ad.add i) (by rw [add_block];exact hab)).trans hac
      clear hrow hatb hEb hac
      go_wp2_with fail
      refine Calls.mono (rdot (K:=10873) (HROW.out.below HB.out) (yq_8.out.below HB.out) j0i3 j0i3 j0i3 j0i3 (row_dot72 HROW.out yq_8.out j0i3 j0i3 hN72 j0i3) j0i3 j0i3) ?_
      rintro e w11 ⟨v,rfl,h,hb⟩
      obtain⟨b11,A11,n11,c11,d11,B11,m11,k11,rfl,-,-,-,-,-⟩:=id h.form
      have HKS:=Lib.hid (HKS.out.below hb)
      have HB:=Lib.hid (below_trans HB.out hb)
      have HD:=Lib.hid (h.limQ (k:=10873) (row_dot72 HROW.out yq_8.out j0i3 j0i3 hN72 j0i3 N (Nat.le_refl _)))
      clear h hb hac' x0 x1 x2 xl
      obtain⟨x0,x1,x2,xl⟩:=HKS.out.use3
      go_upto_region 16 with fail
      generalize hW:w11.alloc (.cells #[.bool b11,.slice A11 n11 c11,.bool d11,.slice B11 m11 k11] 36)=w12
      have H12:=Lib.hid (show Blk w12 w11.heap.size 36 #[.bool b11,.slice A11 n11 c11,.bool d11,.slice B11 m11 k11] from hW▸Blk.new _ _ rfl _ _)
      have hBw:=(show Below w11.heap.size w11 w12 from hW▸below_new _ _)
      have HKS:=Lib.hid (HKS.out.below hBw)
      have HB:=Lib.hid (below_trans HB.out hBw)
      have HD:=Lib.hid (HD.out.below hBw)
      have HRB:=Lib.hid (HRB.out.below HB.out)
      have HEB:=Lib.hid (HEB.out.below HB.out)
      clear hW hBw x0 x1 x2 xl
      obtain⟨x0,x1,x2,xl⟩:=HKS.out.use3
      obtain⟨y0,y1,y2,y3,y4⟩:=HRB.out
      rcases cmpQ_cases (dotF (stdA D.lp i) yF N) (stdB D.lp i) with ⟨h2,h3⟩ | ⟨h2,h3⟩ | ⟨h2,h3⟩
      ·have H3:=Lib.hid h3
       have HQ:=Lib.hid h2
       clear h2 h3
       go_wp2
       refine wp_region_held_drew (S:=(fun w'=>w'.cell? ⟨w11.heap.size,0,none⟩=some (.bool b11)∧w'.cell? ⟨w11.heap.size,1,none⟩=some (.slice A11 n11 c11)∧w'.cell? ⟨w11.heap.size,2,none⟩=some (.bool d11)∧w'.cell? ⟨w11.heap.size,3,none⟩=some (.slice B11 m11 k11)∧w'.cell? ⟨w5.heap.size,0,none⟩=some (.slice (some ad) M SAc)∧w'.cell? ⟨w5.heap.size,1,none⟩=some (.slice (some bd) M SBc)∧w'.cell? ⟨w5.heap.size,2,none⟩=some (.slice SC N SCc)∧w'.cell? (bd.add (i*4))=some (.bool b8)∧w'.cell? ⟨(bd.add (i*4)).block,(bd.add (i*4)).off+1,none⟩=some (.slice A8 n8 c8)∧w'.cell? ⟨(bd.add (i*4)).block,(bd.add (i*4)).off+2,none⟩=some (.bool d8)∧w'.cell? ⟨(bd.add (i*4)).block,(bd.add (i*4)).off+3,none⟩=some (.slice B8 m8 k8))) jo0f jma3 (fun hHeld=>?_)
       refine jtk 0 ?_
       refine jtk 1 ?_
       refine jtk 2 ?_
       refine jtk 3 ?_
       refine jtk 4 ?_
       refine jtk 5 ?_
       refine jrd 6 fun Kz hKz=>?_
       go_simp
       refine Calls.mono (rcmp_is (-1) H3.out HD.out.drew_ HEB.out.drew_ j0i3 j0i3 j0i3 j0i3) ?_;rintro e w13 ⟨rfl,hb⟩;have hBw:=(show Below w12.heap.size w12 w13 from jc22);have HB:=Lib.hid (below_trans HB.out hBw);have H12:=Lib.hid (H12.out.below hBw);have HKS:=Lib.hid (HKS.out.below hBw);have HRB:=Lib.hid (HRB.out.below hBw);clear hb hBw
       refine hKz.out _ _ jw3m (fun hHeld=>?_)
       clear hKz Kz
       refine jsp ?_
       refine jtk 7 ?_
       refine jtk 8 ?_
       refine wpAnyH_done jo0f ?_ _
       go_wp2
       go_roundw
       case rel=>exact⟨i+1,false,by trivial,by go_num,by omega,⟨fun h => j40t,fun h=>absurd (h.2 i j0i3) (Rat.ne_of_lt HQ.out)⟩,HB.out⟩
       case measure=>simp [intOf];omega
      ·have H3:=Lib.hid h3
       have HQ:=Lib.hid h2
       clear h2 h3
       go_wp2
       refine wp_region_held_drew (S:=(fun w'=>w'.cell? ⟨w11.heap.size,0,none⟩=some (.bool b11)∧w'.cell? ⟨w11.heap.size,1,none⟩=some (.slice A11 n11 c11)∧w'.cell? ⟨w11.heap.size,2,none⟩=some (.bool d11)∧w'.cell? ⟨w11.heap.size,3,none⟩=some (.slice B11 m11 k11)∧w'.cell? ⟨w5.heap.size,0,none⟩=some (.slice (some ad) M SAc)∧w'.cell? ⟨w5.heap.size,1,none⟩=some (.slice (some bd) M SBc)∧w'.cell? ⟨w5.heap.size,2,none⟩=some (.slice SC N SCc)∧w'.cell? (bd.add (i*4))=some (.bool b8)∧w'.cell? ⟨(bd.add (i*4)).block,(bd.add (i*4)).off+1,none⟩=some (.slice A8 n8 c8)∧w'.cell? ⟨(bd.add (i*4)).block,(bd.add (i*4)).off+2,none⟩=some (.bool d8)∧w'.cell? ⟨(bd.add (i*4)).block,(bd.add (i*4)).off+3,none⟩=some (.slice B8 m8 k8))) jo0f jma3 (fun hHeld=>?_)
       refine jtk 0 ?_
       refine jtk 1 ?_
       refine jtk 2 ?_
       refine jtk 3 ?_
       refine jtk 4 ?_
       refine jtk 5 ?_
       refine jrd 6 fun Kz hKz=>?_
       go_simp
       refine Calls.mono (rcmp_is 0 H3.out HD.out.drew_ HEB.out.drew_ j0i3 j0i3 j0i3 j0i3) ?_;rintro e w13 ⟨rfl,hb⟩;have hBw:=(show Below w12.heap.size w12 w13 from jc22);have HB:=Lib.hid (below_trans HB.out hBw);have H12:=Lib.hid (H12.out.below hBw);have HKS:=Lib.hid (HKS.out.below hBw);have HRB:=Lib.hid (HRB.out.below hBw);clear hb hBw
       refine hKz.out _ _ jw3m (fun hHeld=>?_)
       clear hKz Kz
       refine jsp ?_
       refine jtk 7 ?_
       refine jtk 8 ?_
       refine wpAnyH_done jo0f ?_ _
       go_wp2
       go_roundw
       case rel=>exact⟨i+1,true,by trivial,by go_num,by omega,⟨fun _=>⟨(HI.out.1 (by trivial)).1,fun q hq=>by
        by_cases hqi:q=i
        ·subst hqi;exact HQ.out
        ·exact(HI.out.1 (by trivial)).2 q j0i3⟩,fun _=>rfl⟩,HB.out⟩
       case measure=>simp [intOf];omega
      ·have H3:=Lib.hid h3
       have HQ:=Lib.hid h2
       clear h2 h3
       go_wp2
       refine wp_region_held_drew (S:=(fun w'=>w'.cell? ⟨w11.heap.size,0,none⟩=some (.bool b11)∧w'.cell? ⟨w11.heap.size,1,none⟩=some (.slice A11 n11 c11)∧w'.cell? ⟨w11.heap.size,2,none⟩=some (.bool d11)∧w'.cell? ⟨w11.heap.size,3,none⟩=some (.slice B11 m11 k11)∧w'.cell? ⟨w5.heap.size,0,none⟩=some (.slice (some ad) M SAc)∧w'.cell? ⟨w5.heap.size,1,none⟩=some (.slice (some bd) M SBc)∧w'.cell? ⟨w5.heap.size,2,none⟩=some (.slice SC N SCc)∧w'.cell? (bd.add (i*4))=some (.bool b8)∧w'.cell? ⟨(bd.add (i*4)).block,(bd.add (i*4)).off+1,none⟩=some (.slice A8 n8 c8)∧w'.cell? ⟨(bd.add (i*4)).block,(bd.add (i*4)).off+2,none⟩=some (.bool d8)∧w'.cell? ⟨(bd.add (i*4)).block,(bd.add (i*4)).off+3,none⟩=some (.slice B8 m8 k8))) jo0f jma3 (fun hHeld=>?_)
       refine jtk 0 ?_
       refine jtk 1 ?_
       refine jtk 2 ?_
       refine jtk 3 ?_
       refine jtk 4 ?_
       refine jtk 5 ?_
       refine jrd 6 fun Kz hKz=>?_
       go_simp
       refine Calls.mono (rcmp_is 1 H3.out HD.out.drew_ HEB.out.drew_ j0i3 j0i3 j0i3 j0i3) ?_;rintro e w13 ⟨rfl,hb⟩;have hBw:=(show Below w12.heap.size w12 w13 from jc22);have HB:=Lib.hid (below_trans HB.out hBw);have H12:=Lib.hid (H12.out.below hBw);have HKS:=Lib.hid (HKS.out.below hBw);have HRB:=Lib.hid (HRB.out.below hBw);clear hb hBw
       refine hKz.out _ _ jw3m (fun hHeld=>?_)
       clear hKz Kz
       refine jsp ?_
       refine jtk 7 ?_
       refine jtk 8 ?_
       refine wpAnyH_done jo0f ?_ _
       go_wp2
       go_roundw
       case rel=>exact⟨i+1,false,by trivial,by go_num,by omega,⟨fun h => j40t,fun h=>absurd (h.2 i j0i3) (Rat.ne_of_gt HQ.out)⟩,HB.out⟩
       case measure=>simp [intOf];omega
     ·obtain rfl:M=i:=by omega
      clear HKS
      have hF:fulB D.lp D.cost.n x=true:=fulB_true.2 ⟨HM.out,HFIT.out.1 (HI.out.1 (by trivial))⟩
      obtain⟨w20,rfl⟩ : ∃z,z=wr:=⟨_,rfl⟩
      have kp_20:=Lib.hid (kp_8.out.below HB.out)
      have ks_20:=Lib.hid (ks_8.out.below HB.out)
      have lp_20:=Lib.hid (lp_8.out.below HB.out)
      have xq_20:=Lib.hid (xq_8.out.below HB.out)
      have sc_20:=Lib.hid (sc_8.out.below HB.out)
      have k6_20:=Lib.hid (k6_8.out.below HB.out)
      have yq_20:=Lib.hid (yq_8.out.below HB.out)
      have rr_20:=Lib.hid (rr_8.out.below HB.out)
      have HB_20:=Lib.hid (below_trans HB_8.out HB.out)
      clear HB HI x0 x1 x2 xl
      obtain⟨u0,u1,u2,u3,u4,ul⟩:=kp_20.out.use5
      obtain⟨x0,x1,x2,xl⟩:=ks_20.out.use3
      go_wp2_with fail
      refine Calls.mono (pful_is hF lp_20.out xq_20.out j0i3 j0i3 j0i3 j0i3) ?_
      rintro e w21 ⟨rfl,hb⟩
      have hBw:=(show Below w20.heap.size w20 w21 from jc22)
      have kp_21:=Lib.hid (kp_20.out.below hBw)
      have ks_21:=Lib.hid (ks_20.out.below hBw)
      have lp_21:=Lib.hid (lp_20.out.below hBw)
      have xq_21:=Lib.hid (xq_20.out.below hBw)
      have sc_21:=Lib.hid (sc_20.out.below hBw)
      have k6_21:=Lib.hid (k6_20.out.below hBw)
      have yq_21:=Lib.hid (yq_20.out.below hBw)
      have rr_21:=Lib.hid (rr_20.out.below hBw)
      have HB_21:=Lib.hid (below_trans HB_20.out hBw)
      clear hBw hb kp_20 ks_20 lp_20 xq_20 sc_20 k6_20 yq_20 rr_20 HB_20
      clear u0 u1 u2 u3 u4 ul x0 x1 x2 xl
      obtain⟨u0,u1,u2,u3,u4,ul⟩:=kp_21.out.use5
      go_wp2_with fail
      refine Calls.mono (pback_is lp_21.out yq_21.out HM.out HNN.out j0i3 j0i3 j0i3 j0i3) ?_
      rintro e w22 ⟨vb,rfl,h,hb⟩
      have h:=(show RowT true 77 w22 vb D.cost.n (fun j=>D.lp.lo.q j+yF j) from h)
      obtain⟨Ab,cb,rfl,_,_⟩:=h.rowQ.len
      have hBw:=(show Below w21.heap.size w21 w22 from jc22)
      have kp_22:=Lib.hid (kp_21.out.below hBw)
      have ks_22:=Lib.hid (ks_21.out.below hBw)
      have lp_22:=Lib.hid (lp_21.out.below hBw)
      have xq_22:=Lib.hid (xq_21.out.below hBw)
      have sc_22:=Lib.hid (sc_21.out.below hBw)
      have k6_22:=Lib.hid (k6_21.out.below hBw)
      have yq_22:=Lib.hid (yq_21.out.below hBw)
      have rr_22:=Lib.hid (rr_21.out.below hBw)
      have bq_22:=Lib.hid (h.rowQ)
      have HB_22:=Lib.hid (below_trans HB_21.out hBw)
      clear hBw hb kp_21 ks_21 lp_21 xq_21 sc_21 k6_21 yq_21 rr_21 HB_21
      clear h u0 u1 u2 u3 u4 ul
      obtain⟨u0,u1,u2,u3,u4,ul⟩:=kp_22.out.use5
      go_wp2_with fail
      refine Calls.mono (pcost_c lp_22.out xq_22.out j0i3 j0i3 j0i3 j0i3 HM.out rfl) ?_
      rintro e w23 ⟨v,rfl,h,hb⟩
      obtain⟨b23,A23,n23,c23,d23,B23,m23,k23,rfl,-,-,-,-,-⟩:=id h.form
      have hBw:=(show Below w22.heap.size w22 w23 from jc22)
      have kp_23:=Lib.hid (kp_22.out.below hBw)
      have ks_23:=Lib.hid (ks_22.out.below hBw)
      have lp_23:=Lib.hid (lp_22.out.below hBw)
      have xq_23:=Lib.hid (xq_22.out.below hBw)
      have sc_23:=Lib.hid (sc_22.out.below hBw)
      have k6_23:=Lib.hid (k6_22.out.below hBw)
      have yq_23:=Lib.hid (yq_22.out.below hBw)
      have rr_23:=Lib.hid (rr_22.out.below hBw)
      have bq_23:=Lib.hid (bq_22.out.below hBw)
      have cc_23:=Lib.hid (h)
      have HB_23:=Lib.hid (below_trans HB_22.out hBw)
      clear hBw hb kp_22 ks_22 lp_22 xq_22 sc_22 k6_22 yq_22 rr_22 bq_22 HB_22
      clear h u0 u1 u2 u3 u4 ul
      obtain⟨x0,x1,x2,xl⟩:=ks_23.out.use3
      go_wp2_with fail
      generalize hW:w23.alloc (.cells #[.bool b23,.slice A23 n23 c23,.bool d23,.slice B23 m23 k23] 36)=w24
      have hz_24:=Lib.hid (show w24.heap.size=w23.heap.size+1 from j59e)
      have kp_24:=Lib.hid (hW▸kp_23.out.alloc_ _)
      have ks_24:=Lib.hid (hW▸ks_23.out.alloc_ _)
      have lp_24:=Lib.hid (hW▸lp_23.out.alloc_ _)
      have xq_24:=Lib.hid (hW▸xq_23.out.alloc_ _)
      have sc_24:=Lib.hid (hW▸sc_23.out.alloc_ _)
      have k6_24:=Lib.hid (hW▸k6_23.out.alloc_ _)
      have yq_24:=Lib.hid (hW▸yq_23.out.alloc_ _)
      have rr_24:=Lib.hid (hW▸rr_23.out.alloc_ _)
      have bq_24:=Lib.hid (hW▸bq_23.out.alloc_ _)
      have cc_24:=Lib.hid (hW▸cc_23.out.alloc_ _)
      have k16_24:Hid (Blk w24 w23.heap.size 36 #[.bool b23,.slice A23 n23 c23,.bool d23,.slice B23 m23 k23]) := jytn
      have HB_24:=Lib.hid (show Below w.heap.size w w24 from hW▸halloc HB_23.out)
      clear hW kp_23 ks_23 lp_23 xq_23 sc_23 k6_23 yq_23 rr_23 bq_23 cc_23 HB_23
      refine Calls.mono (rdot (K:=10873) sc_24.out yq_24.out j0i3 j0i3 j0i3 j0i3 (row_dot72 sc_24.out yq_24.out j0i3 j0i3 hN72 j0i3) j0i3 j0i3) ?_
      rintro e w25 ⟨v,rfl,h,hb⟩
      obtain⟨b25,A25,n25,c25,d25,B25,m25,k25,rfl,-,-,-,-,-⟩:=id h.form
      have hBw:=(show Below w24.heap.size w24 w25 from jc22)
      have kp_25:=Lib.hid (kp_24.out.below hBw)
      have ks_25:=Lib.hid (ks_24.out.below hBw)
      have lp_25:=Lib.hid (lp_24.out.below hBw)
      have xq_25:=Lib.hid (xq_24.out.below hBw)
      have sc_25:=Lib.hid (sc_24.out.below hBw)
      have k6_25:=Lib.hid (k6_24.out.below hBw)
      have yq_25:=Lib.hid (yq_24.out.below hBw)
      have rr_25:=Lib.hid (rr_24.out.below hBw)
      have bq_25:=Lib.hid (bq_24.out.below hBw)
      have cc_25:=Lib.hid (cc_24.out.below hBw)
      have k16_25:=Lib.hid (k16_24.out.below hBw)
      have dd_25:=Lib.hid (h)
      have HB_25:=Lib.hid (below_trans HB_24.out hBw)
      clear hBw hb kp_24 ks_24 lp_24 xq_24 sc_24 k6_24 yq_24 rr_24 bq_24 cc_24 k16_24 HB_24
      clear h
      clear x0 x1 x2 xl
      go_upto_region 24 with fail
      generalize hW:w25.alloc (.cells #[.bool b25,.slice A25 n25 c25,.bool d25,.slice B25 m25 k25] 36)=w26
      have hz_26:=Lib.hid (show w26.heap.size=w25.heap.size+1 from j59e)
      have kp_26:=Lib.hid (hW▸kp_25.out.alloc_ _)
      have ks_26:=Lib.hid (hW▸ks_25.out.alloc_ _)
      have lp_26:=Lib.hid (hW▸lp_25.out.alloc_ _)
      have xq_26:=Lib.hid (hW▸xq_25.out.alloc_ _)
      have sc_26:=Lib.hid (hW▸sc_25.out.alloc_ _)
      have k6_26:=Lib.hid (hW▸k6_25.out.alloc_ _)
      have yq_26:=Lib.hid (hW▸yq_25.out.alloc_ _)
      have rr_26:=Lib.hid (hW▸rr_25.out.alloc_ _)
      have bq_26:=Lib.hid (hW▸bq_25.out.alloc_ _)
      have cc_26:=Lib.hid (hW▸cc_25.out.alloc_ _)
      have k16_26:=Lib.hid (hW▸k16_25.out.alloc_ _)
      have dd_26:=Lib.hid (hW▸dd_25.out.alloc_ _)
      have k18_26:Hid (Blk w26 w25.heap.size 36 #[.bool b25,.slice A25 n25 c25,.bool d25,.slice B25 m25 k25]) := jytn
      have HB_26:=Lib.hid (show Below w.heap.size w w26 from hW▸halloc HB_25.out)
      clear hW kp_25 ks_25 lp_25 xq_25 sc_25 k6_25 yq_25 rr_25 bq_25 cc_25 k16_25 dd_25 HB_25
      have HXY:Hid (∀j,j<D.cost.n→D.lp.lo.q j+yF j=x j):=fun j hj=>by
       have e:yF j=x j - D.lp.lo.q j:=by rw [HYF.out];exact yL_get (by rw [HM.out.1.2.2.1];exact hj)
       rw [e]
       grind
      have HCS:Hid (dotF (stdC D.lp) yF N+dotF D.lp.cost.q D.lp.lo.q D.lp.cost.n=dotF D.lp.cost.q x D.cost.n):=by
       show _=_
       rw [HNN.out,HYF.out]
       exact cost_std HM.out
      have HQ0:Hid (BQ 73 (dotF D.lp.cost.q x D.cost.n)):=row_dot lp_26.out.rows.1.rowQ xq_26.out (Nat.le_refl D.cost.n) j0i3 j0i3 HM.out.1.2.1 D.cost.n (Nat.le_refl _)
      have HQ1:Hid (BQ 73 (dotF D.lp.cost.q D.lp.lo.q D.lp.cost.n)):=row_dot lp_26.out.rows.1.rowQ lp_26.out.rows.2.2.1.rowQ (Nat.le_of_eq HM.out.1.2.2.2.1.symm) j0i3 j0i3 HM.out.1.2.1 D.lp.cost.n (Nat.le_refl _)
      have HDD:=Lib.hid (dd_26.out.limQ (k:=10873) (row_dot72 sc_26.out yq_26.out j0i3 j0i3 hN72 j0i3 N (Nat.le_refl _)))
      have HRR:=Lib.hid (rr_26.out.limQ HQ1.out)
      have HCC:=Lib.hid (cc_26.out.limQ HQ0.out)
      go_wp2
      go_loopw [20] (fun v20 wr => ∃ (j:Nat),v20 = .int .i64 (j:Nat)∧j≤D.cost.n∧Below w26.heap.size w26 wr) (fun v20 _=>D.cost.n - (intOf v20).toNat)
      case atStart=>exact⟨0,rfl,Nat.zero_le _,Below.refl _ _⟩
      case round =>
       obtain⟨j,rfl,hj,hbw⟩:=hrel
       have HB:=Lib.hid hbw
       clear hbw
       by_cases hlt:j<D.cost.n
       ·have hj0:(0:Int)≤(j:Int):=by omega
        have hjk:(j:Int)<(D.cost.n:Int) := j0i3
        obtain⟨bd,c1,⟨b8,A8,n8,c8,d8,B8,m8,k8⟩,e1,_,_,hatb,hEb⟩:=bq_26.out.at_ hlt
        simp only [Value.slice.injEq] at e1
        obtain⟨rfl,_,rfl⟩:=e1
        obtain⟨xd,c1,⟨b9,A9,n9,c9,d9,B9,m9,k9⟩,e1,_,_,hatx,hEx⟩:=xq_26.out.at_ hlt
        simp only [Value.slice.injEq] at e1
        obtain⟨rfl,_,rfl⟩:=e1
        have HAY:=Lib.hid hatb
        have HAX:=Lib.hid hatx
        have HEY:=Lib.hid hEb.2
        have HEX:=Lib.hid hEx.2
        have HC:=Lib.hid (show cmpQ (D.lp.lo.q j+yF j) (x j)=0 from by rw [HXY.out j hlt];exact cmpQ_self _)
        obtain⟨y0,y1,y2,y3,y4⟩:=hatb.below HB.out
        obtain⟨z0,z1,z2,z3,z4⟩:=hatx.below HB.out
        clear hatb hatx hEb hEx
        go_wp2
        refine wp_region_held_drew (S:=(fun w'=>w'.cell? (bd.add (j*4))=some (.bool b8)∧w'.cell? ⟨(bd.add (j*4)).block,(bd.add (j*4)).off+1,none⟩=some (.slice A8 n8 c8)∧w'.cell? ⟨(bd.add (j*4)).block,(bd.add (j*4)).off+2,none⟩=some (.bool d8)∧w'.cell? ⟨(bd.add (j*4)).block,(bd.add (j*4)).off+3,none⟩=some (.slice B8 m8 k8)∧w'.cell? (xd.add (j*4))=some (.bool b9)∧w'.cell? ⟨(xd.add (j*4)).block,(xd.add (j*4)).off+1,none⟩=some (.slice A9 n9 c9)∧w'.cell? ⟨(xd.add (j*4)).block,(xd.add (j*4)).off+2,none⟩=some (.bool d9)∧w'.cell? ⟨(xd.add (j*4)).block,(xd.add (j*4)).off+3,none⟩=some (.slice B9 m9 k9))) jo0f (by first | exact cells27 (HAY.out.below HB.out) (HAX.out.below HB.out) | exact cells27 (HAY.out.below HB.out.drew) (HAX.out.below HB.out.drew)) (fun hHeld=>?_)
        refine jtk 0 ?_
        refine jtk 1 ?_
        refine jtk 2 ?_
        refine jtk 3 ?_
        refine jtk 4 ?_
        refine jtk 5 ?_
        refine jtk 6 ?_
        refine jtk 7 ?_
        refine jrd 8 fun Kz hKz=>?_
        go_simp
        refine Calls.mono (rcmp_is 0 HC.out (HEY.out.below HB.out).drew_ (HEX.out.below HB.out).drew_ j0i3 j0i3 j0i3 j0i3) ?_;rintro e w31 ⟨rfl,hb⟩;have hBw:=(show Below wr.heap.size wr w31 from jc22);have HB:=Lib.hid (below_trans HB.out hBw);clear hb hBw
        refine hKz.out _ _ (by (try dsimp only);first | exact cells27 (HAY.out.below HB.out) (HAX.out.below HB.out) | exact cells27 (HAY.out.below HB.out.drew) (HAX.out.below HB.out.drew)) (fun hHeld=>?_)
        clear hKz Kz
        refine jsp ?_
        refine jtk 9 ?_
        refine wpAnyH_done jo0f ?_ _
        go_wp2
        go_roundw
        case rel=>exact⟨j+1,by go_num,by omega,HB.out⟩
        case measure=>simp [intOf];omega
       ·obtain rfl:j=D.cost.n:=by omega
        have H16:=Lib.hid (k16_26.out.below HB.out)
        have H18:=Lib.hid (k18_26.out.below HB.out)
        have H6:=Lib.hid (k6_26.out.below HB.out)
        have HD:=Lib.hid (HDD.out.below HB.out)
        have HR:=Lib.hid (HRR.out.below HB.out)
        have HC:=Lib.hid (HCC.out.below HB.out)
        go_wp2
        refine wp_region_held_drew (S:=(fun w'=>w'.cell? ⟨w23.heap.size,0,none⟩=some (.bool b23)∧w'.cell? ⟨w23.heap.size,1,none⟩=some (.slice A23 n23 c23)∧w'.cell? ⟨w23.heap.size,2,none⟩=some (.bool d23)∧w'.cell? ⟨w23.heap.size,3,none⟩=some (.slice B23 m23 k23)∧w'.cell? ⟨w25.heap.size,0,none⟩=some (.bool b25)∧w'.cell? ⟨w25.heap.size,1,none⟩=some (.slice A25 n25 c25)∧w'.cell? ⟨w25.heap.size,2,none⟩=some (.bool d25)∧w'.cell? ⟨w25.heap.size,3,none⟩=some (.slice B25 m25 k25)∧w'.cell? ⟨w5.heap.size+1,0,none⟩=some (.bool b5)∧w'.cell? ⟨w5.heap.size+1,1,none⟩=some (.slice A5 n5 c5)∧w'.cell? ⟨w5.heap.size+1,2,none⟩=some (.bool d5)∧w'.cell? ⟨w5.heap.size+1,3,none⟩=some (.slice B5 m5 k5))) jo0f (by first | exact cells29 H16.out H18.out H6.out | exact cells29 (w:=World.drew _) H16.out H18.out H6.out) (fun hHeld=>?_)
        refine jtk 0 ?_
        refine jtk 1 ?_
        refine jtk 2 ?_
        refine jtk 3 ?_
        refine jtk 4 ?_
        refine jtk 5 ?_
        refine jtk 6 ?_
        refine jtk 7 ?_
        refine jtk 8 ?_
        refine jtk 9 ?_
        refine jtk 10 ?_
        refine jtk 11 ?_
        refine jtk 12 ?_
        refine jrd 13 fun Kz hKz=>?_
        go_simp
        refine Calls.mono (radd_q (k:=10873) (l:=73) HD.out.drew_ HR.out.drew_ j0i3 j0i3 j0i3 j0i3) ?_;rintro e w31 ⟨v,rfl,h,hb⟩;have hBw:=(show Below wr.heap.size wr w31 from jc22);have HB:=Lib.hid (below_trans HB.out hBw);have HS:=Lib.hid ((show IsRat w31 v (dotF D.lp.cost.q x D.cost.n) from HCS.out▸h).limQ HQ0.out);have HC:=Lib.hid (HC.out.below hBw);have H16:=Lib.hid (H16.out.below hBw);have H18:=Lib.hid (H18.out.below hBw);have H6:=Lib.hid (H6.out.below hBw);clear h hb hBw
        refine hKz.out _ _ jdrv (fun hHeld=>?_)
        clear hKz Kz
        refine jsp ?_
        refine jrd 14 fun Kz hKz=>?_
        go_simp
        refine Calls.mono (rcmp_is 0 (cmpQ_self _) HC.out HS.out j0i3 j0i3 j0i3 j0i3) ?_;rintro e w32 ⟨rfl,hb⟩;have hBw:=(show Below w31.heap.size w31 w32 from jc22);have HB:=Lib.hid (below_trans HB.out hBw);have H16:=Lib.hid (H16.out.below hBw);have H18:=Lib.hid (H18.out.below hBw);have H6:=Lib.hid (H6.out.below hBw);clear hb hBw
        refine hKz.out _ _ jdrv (fun hHeld=>?_)
        clear hKz Kz
        refine jsp ?_
        refine jtk 15 ?_
        refine jtk 16 ?_
        refine jtk 17 ?_
        refine wpAnyH_done jo0f ?_ _
        go_wp2
        go_ret
        exact⟨rfl,below_trans HB_26.out HB.out⟩
end Go.Proofs.YtgilnmhejjpleaaGreat
