/- Contracts of prob: Fulfils, Cost, Right. -/
import Derived.Test.YtgilnmhejjpleaaGreatPMin
import Derived.Test.YtgilnmhejjpleaaGreatPFf
namespace Go.Proofs.YtgilnmhejjpleaaGreat
open Go.RowKit
attribute [local go_sem ↓] Go.wp_at_zero Go.wp_at_succ
set_option linter.unusedVariables false
set_option linter.unusedSimpArgs false
theorem jlfv {P:Prop}(h:P:=by rw [add_block]; exact hob4):P:=h
theorem jrzy {P:Prop}(h:P:=by rw [add_block]; exact HOC.out.1):P:=h
def FulX(p:LpX)(n:Nat)(x:Nat→Rat):Prop:=n=p.cost.n∧(∀j,j<n→p.lo.q j≤x j∧(p.op j=false→x j≤p.hi.q j))∧∀i,i<p.m→HoldX (p.row i) n x
open Classical in
noncomputable def fulB(p:LpX)(n:Nat)(x:Nat→Rat):Bool:=decide (MayX p∧FulX p n x)
theorem fulB_true {p:LpX} {n:Nat} {x:Nat→Rat} : fulB p n x=true↔MayX p∧FulX p n x:=by simp [fulB]
theorem fulB_false {p:LpX} {n:Nat} {x:Nat→Rat} : fulB p n x=false↔¬ (MayX p∧FulX p n x):=by simp [fulB]
theorem holdB_true {r:RwX} {n:Nat} {x:Nat→Rat} : holdB r n x=true↔HoldX r n x:=by simp [holdB]
theorem row_dot {p q:Bool} {k l n m:Nat} {w w':World} {v v':Value} {f g:Nat→Rat}(ha:RowQ p k w v n f)(hb:RowQ q l w' v' m g)(hm:n≤m)(h1:1≤k)(h2:1≤l)(hn:n≤24) : ∀i,i≤n→BQ (1+24*(k+l+1)) (dotF f g i):=fun i hi=>dotF_bq i (fun q hq=>ha.bq h1 j0i3) (fun q hq=>hb.bq h2 j0i3) (by have:=Nat.mul_le_mul_right (k+l+1) (show i≤24 by omega);omega)
set_option maxRecDepth 100000 in
set_option maxHeartbeats 1000000 in
theorem pful_a {pl:Bool} {k l nx:Nat} {w:World} {v vx:Value} {p:LpX} {x:Nat→Rat}(h:LpQ k w v p)(hx:RowQ pl l w vx nx x)(hk:k≤300)(h1:1≤k)(hl:l≤300)(h2:1≤l)(hm : ¬MayX p) :
 Calls Tryz.prog 25 #[v,vx] w fun e w'=>e = .returned (.bool false)∧Below w.heap.size w w':=by
 have HM:=Lib.hid (mayB_false.2 hm)
 clear hm
 obtain⟨Ac,cc,Ar,cr,Al,cl,Ah,ch,Ao,co,rfl,hqc,hqr,hql,hqh,hqo,g1,g2,g3,g4,g5⟩:=h.form
 clear h
 obtain⟨Ax,cx,rfl,hcx,gx⟩:=hx.len
 have p_0:=Lib.hid (show LpQ k w (.agg #[.slice Ac p.cost.n cc,.slice Ar p.m cr,.slice Al p.lo.n cl,.slice Ah p.hi.n ch,.slice Ao p.no co]) p from⟨_,_,_,_,_,rfl,hqc,hqr,hql,hqh,hqo⟩)
 have x_0:=Lib.hid hx
 clear hqc hqr hql hqh hqo hx
 go_enter Tryz.func25,Tryz.ntmps25
 go_wp2_with fail
 refine Calls.mono (pMay_is (r:=false) HM.out ((p_0.out.alloc_ _).alloc_ _) j0i3 h1) ?_
 rintro e w1 ⟨rfl,hb⟩
 have hB:=bun (bun (hb))
 have p_1:=Lib.hid (p_0.out.below hB)
 have x_1:=Lib.hid (x_0.out.below hB)
 have Kp_1:=Lib.hid (show Blk w1 (w.heap.size) 26 #[.slice Ac p.cost.n cc,.slice Ar p.m cr,.slice Al p.lo.n cl,.slice Ah p.hi.n ch,.slice Ao p.no co] from((Blk.new _ _ jupy _ _).alloc_ _).below hb)
 have Kx_1:=Lib.hid (show Blk w1 (w.heap.size+1) 22 #[.slice Ax nx cx] from(Blk.new _ _ jupy _ _).below hb)
 have HB_1:=Lib.hid (hB)
 have hs_1:w.heap.size≤w1.heap.size:=HB_1.out.size
 have hz_1:w.heap.size+2≤w1.heap.size := jrv7
 clear hB hb p_0 x_0
 obtain⟨p10,p11,p12,p13,p14,l1⟩:=Kp_1.out.use5
 obtain⟨p20,l2⟩:=Kx_1.out.use1
 go_wp2
 go_ret
 exact⟨rfl,HB_1.out⟩
set_option maxRecDepth 100000 in
set_option maxHeartbeats 1000000 in
theorem pful_b {pl:Bool} {k l nx:Nat} {w:World} {v vx:Value} {p:LpX} {x:Nat→Rat}(h:LpQ k w v p)(hx:RowQ pl l w vx nx x)(hk:k≤300)(h1:1≤k)(hl:l≤300)(h2:1≤l)(hm:MayX p)(hn:nx≠p.cost.n) :
 Calls Tryz.prog 25 #[v,vx] w fun e w'=>e = .returned (.bool false)∧Below w.heap.size w w':=by
 have HM:=Lib.hid (mayB_true.2 hm)
 have hn':((nx:Nat):Int)≠((p.cost.n:Nat):Int) := j0i3
 clear hm
 obtain⟨Ac,cc,Ar,cr,Al,cl,Ah,ch,Ao,co,rfl,hqc,hqr,hql,hqh,hqo,g1,g2,g3,g4,g5⟩:=h.form
 clear h
 obtain⟨Ax,cx,rfl,hcx,gx⟩:=hx.len
 have p_0:=Lib.hid (show LpQ k w (.agg #[.slice Ac p.cost.n cc,.slice Ar p.m cr,.slice Al p.lo.n cl,.slice Ah p.hi.n ch,.slice Ao p.no co]) p from⟨_,_,_,_,_,rfl,hqc,hqr,hql,hqh,hqo⟩)
 have x_0:=Lib.hid hx
 clear hqc hqr hql hqh hqo hx
 go_enter Tryz.func25,Tryz.ntmps25
 go_wp2_with fail
 refine Calls.mono (pMay_is (r:=true) HM.out ((p_0.out.alloc_ _).alloc_ _) j0i3 h1) ?_
 rintro e w1 ⟨rfl,hb⟩
 have hB:=bun (bun (hb))
 have p_1:=Lib.hid (p_0.out.below hB)
 have x_1:=Lib.hid (x_0.out.below hB)
 have Kp_1:=Lib.hid (show Blk w1 (w.heap.size) 26 #[.slice Ac p.cost.n cc,.slice Ar p.m cr,.slice Al p.lo.n cl,.slice Ah p.hi.n ch,.slice Ao p.no co] from((Blk.new _ _ jupy _ _).alloc_ _).below hb)
 have Kx_1:=Lib.hid (show Blk w1 (w.heap.size+1) 22 #[.slice Ax nx cx] from(Blk.new _ _ jupy _ _).below hb)
 have HB_1:=Lib.hid (hB)
 have hs_1:w.heap.size≤w1.heap.size:=HB_1.out.size
 have hz_1:w.heap.size+2≤w1.heap.size := jrv7
 clear hB hb p_0 x_0
 obtain⟨p10,p11,p12,p13,p14,l1⟩:=Kp_1.out.use5
 obtain⟨p20,l2⟩:=Kx_1.out.use1
 go_wp2
 go_ret
 exact⟨rfl,HB_1.out⟩
set_option maxRecDepth 100000 in
set_option maxHeartbeats 8000000 in
theorem pful_c {pl:Bool} {k l nx:Nat} {w:World} {v vx:Value} {p:LpX} {x:Nat→Rat}(h:LpQ k w v p)(hx:RowQ pl l w vx nx x)(hk:k≤300)(h1:1≤k)(hl:l≤300)(h2:1≤l)(hm:MayX p)(hn:nx=p.cost.n) :
 Calls Tryz.prog 25 #[v,vx] w fun e w'=>e = .returned (.bool (fulB p nx x))∧Below w.heap.size w w':=by
 have HM:=Lib.hid (mayB_true.2 hm)
 have HMX:=Lib.hid hm
 subst hn
 have HNO:Hid (p.no=p.cost.n):=hm.1.2.2.1
 have HLO:Hid (p.lo.n=p.cost.n):=hm.1.2.2.2.1
 have HHI:Hid (p.hi.n=p.cost.n):=hm.1.2.2.2.2.1
 have hn24:p.cost.n≤24:=hm.1.2.1
 have HRC:=Lib.hid (fun i (hi:i<p.m)=>(hm.2.2.1 i hi).1)
 clear hm
 obtain⟨Ac,cc,Ar,cr,Al,cl,Ah,ch,Ao,co,rfl,hqc,hqr,hql,hqh,hqo,g1,g2,g3,g4,g5⟩:=h.form
 clear h
 obtain⟨Ax,cx,rfl,hcx,gx⟩:=hx.len
 have p_0:=Lib.hid (show LpQ k w (.agg #[.slice Ac p.cost.n cc,.slice Ar p.m cr,.slice Al p.lo.n cl,.slice Ah p.hi.n ch,.slice Ao p.no co]) p from⟨_,_,_,_,_,rfl,hqc,hqr,hql,hqh,hqo⟩)
 have x_0:=Lib.hid hx
 have HKB:Hid (∀i,i<p.m→∀q,q≤p.cost.n→BQ (1+24*(k+l+1)) (dotF (p.row i).coef.q x q)):=by
  intro i hi
  obtain⟨_,_,_,_,_,_,_,hRw⟩:=hqr.at_ hi
  have hc:=HRC.out i hi
  have:=row_dot hRw.2.2.1.rowQ hx j0i3 h1 h2 j0i3
  rw [hc] at this
  exact this
 clear hqc hqr hql hqh hqo hx
 go_enter Tryz.func25,Tryz.ntmps25
 go_wp2_with fail
 refine Calls.mono (pMay_is (r:=true) HM.out ((p_0.out.alloc_ _).alloc_ _) j0i3 h1) ?_
 rintro e w1 ⟨rfl,hb⟩
 have hB:=bun (bun (hb))
 have p_1:=Lib.hid (p_0.out.below hB)
 have x_1:=Lib.hid (x_0.out.below hB)
 have Kp_1:=Lib.hid (show Blk w1 (w.heap.size) 26 #[.slice Ac p.cost.n cc,.slice Ar p.m cr,.slice Al p.lo.n cl,.slice Ah p.hi.n ch,.slice Ao p.no co] from((Blk.new _ _ jupy _ _).alloc_ _).below hb)
 have Kx_1:=Lib.hid (show Blk w1 (w.heap.size+1) 22 #[.slice Ax p.cost.n cx] from(Blk.new _ _ jupy _ _).below hb)
 have HB_1:=Lib.hid (hB)
 have hs_1:w.heap.size≤w1.heap.size:=HB_1.out.size
 have hz_1:w.heap.size+2≤w1.heap.size := jrv7
 clear hB hb p_0 x_0
 obtain⟨p10,p11,p12,p13,p14,l1⟩:=Kp_1.out.use5
 obtain⟨p20,l2⟩:=Kx_1.out.use1
 go_wp2
 go_loopw [20] (fun v20 wr => ∃ (j:Nat),v20 = .int .i64 (j:Nat)∧j≤p.cost.n∧Below w1.heap.size w1 wr∧∀q,q<j→p.lo.q q≤x q∧(p.op q=false→x q≤p.hi.q q)) (fun v20 _=>p.cost.n - (intOf v20).toNat)
 case atStart=>exact⟨0,rfl,Nat.zero_le _,Below.refl _ _,fun q hq=>absurd hq j0i3⟩
 case round =>
  clear p10 p11 p12 p13 p14 l1 p20 l2
  obtain⟨j,rfl,hj,hbw,hinv⟩:=hrel
  have HB1:=Lib.hid hbw
  have HI:=Lib.hid hinv
  clear hinv hbw
  have HBw:=Lib.hid (below_trans HB_1.out HB1.out)
  have Kp_2:=Lib.hid (Kp_1.out.below HB1.out)
  have Kx_2:=Lib.hid (Kx_1.out.below HB1.out)
  have p_2:=Lib.hid (p_1.out.below HB1.out)
  have x_2:=Lib.hid (x_1.out.below HB1.out)
  obtain⟨k0,k1,k2,k3,k4,kl⟩:=Kp_2.out.use5
  obtain⟨m0,ml⟩:=Kx_2.out.use1
  by_cases hlt:j<p.cost.n
  ·have hj0:(0:Int)≤(j:Int):=by omega
   have hjk:(j:Int)<(p.cost.n:Int) := j0i3
   obtain⟨xd,c0,⟨b7,A7,n7,c7,d7,B7,m7,k7⟩,e1,_,_,⟨a0,a1,a2,a3,a4⟩,hEx⟩:=x_2.out.at_ hlt
   simp only [Value.slice.injEq] at e1
   obtain⟨rfl,_,rfl⟩:=e1
   have hEx:=hEx.2
   go_wp2
   obtain⟨w3,hW⟩ : ∃W,W=wr.alloc (.cells #[.bool b7,.slice A7 n7 c7,.bool d7,.slice B7 m7 k7] 36):=⟨_,rfl⟩
   rw [← hW]
   have hbw3:Below wr.heap.size wr w3:=hW▸below_new _ _
   have K3:=Lib.hid (show Blk w3 wr.heap.size 36 #[.bool b7,.slice A7 n7 c7,.bool d7,.slice B7 m7 k7] from hW▸Blk.new _ _ rfl _ _)
   have KP3:=Lib.hid (Kp_2.out.below hbw3)
   have HB3:=Lib.hid (below_trans HBw.out hbw3)
   have HB13:=Lib.hid (below_trans HB1.out hbw3)
   have HX3:=Lib.hid (hEx.below hbw3)
   obtain⟨vc',vr',vl',vh',vo',e0,_,_,hql,hqh,hqo⟩:=p_2.out.below hbw3
   simp only [Value.agg.injEq,Array.mk.injEq,List.cons.injEq,and_true] at e0
   obtain⟨rfl,rfl,rfl,rfl,rfl⟩:=e0
   clear hW hbw3 k0 k1 k2 k3 k4 kl m0 ml a0 a1 a2 a3 a4 hEx p_2 x_2 Kx_2 Kp_2
   obtain⟨k0,k1,k2,k3,k4,kl⟩:=KP3.out.use5
   obtain⟨a0,a1,a2,a3,al⟩:=K3.out.use4
   obtain⟨od,c0',e1,_,_,hob,hoc⟩:=hqo.at_ (show j<p.no by rw [HNO.out];exact hlt)
   simp only [Value.slice.injEq] at e1
   obtain⟨rfl,_,rfl⟩:=e1
   obtain⟨ld,c1,⟨b5,A5,n5,c5,d5,B5,m5,k5⟩,e1,_,_,hatl,hEl⟩:=hql.at_ (show j<p.lo.n by rw [HLO.out];exact hlt)
   simp only [Value.slice.injEq] at e1
   obtain⟨rfl,_,rfl⟩:=e1
   obtain⟨hd,c2,⟨b6,A6,n6,c6,d6,B6,m6,k6⟩,e1,_,_,hath,hEh⟩:=hqh.at_ (show j<p.hi.n by rw [HHI.out];exact hlt)
   simp only [Value.slice.injEq] at e1
   obtain⟨rfl,_,rfl⟩:=e1
   have hjl:(j:Int)<(p.lo.n:Int) := j3af
   have hjh:(j:Int)<(p.hi.n:Int) := jrze
   have hjo:(j:Int)<(p.no:Int):=by rw [HNO.out];exact hjk
   have HAL:=Lib.hid hatl
   have HAH:=Lib.hid hath
   have HOC:=Lib.hid (show od.block<w3.heap.size∧w3.cell? (od.add j)=some (.bool (p.op j)) from⟨hob,hoc⟩)
   obtain⟨x0,x1,x2,x3,x4⟩:=hatl
   obtain⟨y0,y1,y2,y3,y4⟩:=hath
   have HEL:=Lib.hid (show LimQ k w3 (.agg #[.bool b5,.slice A5 n5 c5,.bool d5,.slice B5 m5 k5]) (p.lo.q j) from⟨_,_,hEl,rfl⟩)
   have HEH:=Lib.hid (show LimQ k w3 (.agg #[.bool b6,.slice A6 n6 c6,.bool d6,.slice B6 m6 k6]) (p.hi.q j) from⟨_,_,hEh,rfl⟩)
   clear hEl hEh hob
   rcases cmpQ_cases (x j) (p.lo.q j) with ⟨f2,f3⟩ | ⟨f2,f3⟩ | ⟨f2,f3⟩
   ·have F3:=Lib.hid f3
    have HN:Hid (fulB p p.cost.n x=false):=fulB_false.2 fun h=>absurd (h.2.2.1 j hlt).1 (Rat.not_le.2 f2)
    clear f2 f3
    refine wp_region_held_drew (S:=(fun w'=>w'.cell? ⟨wr.heap.size,0,none⟩=some (.bool b7)∧w'.cell? ⟨wr.heap.size,1,none⟩=some (.slice A7 n7 c7)∧w'.cell? ⟨wr.heap.size,2,none⟩=some (.bool d7)∧w'.cell? ⟨wr.heap.size,3,none⟩=some (.slice B7 m7 k7)∧w'.cell? ⟨w.heap.size,2,none⟩=some (.slice (some ld) p.lo.n cl)∧w'.cell? ⟨w.heap.size,3,none⟩=some (.slice (some hd) p.hi.n ch)∧w'.cell? ⟨w.heap.size,4,none⟩=some (.slice (some od) p.no co)∧w'.cell? (ld.add (j*4))=some (.bool b5)∧w'.cell? ⟨(ld.add (j*4)).block,(ld.add (j*4)).off+1,none⟩=some (.slice A5 n5 c5)∧w'.cell? ⟨(ld.add (j*4)).block,(ld.add (j*4)).off+2,none⟩=some (.bool d5)∧w'.cell? ⟨(ld.add (j*4)).block,(ld.add (j*4)).off+3,none⟩=some (.slice B5 m5 k5)∧w'.cell? (hd.add (j*4))=some (.bool b6)∧w'.cell? ⟨(hd.add (j*4)).block,(hd.add (j*4)).off+1,none⟩=some (.slice A6 n6 c6)∧w'.cell? ⟨(hd.add (j*4)).block,(hd.add (j*4)).off+2,none⟩=some (.bool d6)∧w'.cell? ⟨(hd.add (j*4)).block,(hd.add (j*4)).off+3,none⟩=some (.slice B6 m6 k6)∧w'.cell? (od.add j)=some (.bool (p.op j)))) jo0f ?_ (fun hHeld=>?_)
    ·(first | (refine⟨?_,?_,?_,?_,?_,?_,?_,?_,?_,?_,?_,?_,?_,?_,?_,?_⟩ <;> (first | with_reducible assumption | ((with_reducible refine Eq.trans (cell_drew _ _) ?_);with_reducible assumption) | go_keep)) | go_keep)
    refine jtk 0 ?_
    refine jtk 1 ?_
    refine jtk 2 ?_
    refine jtk 3 ?_
    refine jtk 4 ?_
    refine jtk 5 ?_
    refine jrd 6 fun Kz hKz=>?_
    go_simp
    ((with_reducible refine Calls.mono (qcmp_is (-1) F3.out HX3.out.drew_ HEL.out.drew_ j0i3 j0i3 h2 h1) ?_));rintro e w4 ⟨rfl,hb⟩;have hBw:=(show Below w3.heap.size w3 w4 from jc22);have HB4:=Lib.hid (below_trans HB3.out hBw);have HB14:=Lib.hid (below_trans HB13.out hBw);have KP4:=Lib.hid (KP3.out.below hBw);have K4:=Lib.hid (K3.out.below hBw);obtain⟨k04,k14,k24,k34,k44,kl4⟩:=KP4.out.use5;obtain⟨a04,a14,a24,a34,al4⟩:=K4.out.use4;have HAL4:=Lib.hid (HAL.out.below hBw);have HAH4:=Lib.hid (HAH.out.below hBw);obtain⟨x04,x14,x24,x34,x44⟩:=HAL4.out;obtain⟨y04,y14,y24,y34,y44⟩:=HAH4.out;have hob4:=Nat.lt_of_lt_of_le HOC.out.1 hBw.size;have hoc4:=(hBw.cell (p:=od.add j) jrzy).trans hoc;have HX4:=Lib.hid (HX3.out.below hBw);have HEH4:=Lib.hid (HEH.out.below hBw);clear hBw hb KP3 K3 HAL HAH k0 k1 k2 k3 k4 kl a0 a1 a2 a3 al x0 x1 x2 x3 x4 y0 y1 y2 y3 y4 hoc HB3 HB13 HX3 HEL HEH
    refine hKz.out _ _ jq0d (fun hHeld=>?_)
    clear hKz Kz
    refine jsp ?_
    refine jtk 7 ?_
    refine jtk 8 ?_
    refine jsk 9 ?_
    refine jsk 10 ?_
    refine jsk 11 ?_
    refine jsk 12 ?_
    refine jsk 13 ?_
    refine jsk 14 ?_
    refine jsk 15 ?_
    refine jsk 16 ?_
    refine jsk 17 ?_
    refine jsk 18 ?_
    refine jsk 19 ?_
    refine jsk 20 ?_
    refine jsk 21 ?_
    refine jsk 22 ?_
    refine jsk 23 ?_
    refine jsk 24 ?_
    refine jtk 25 ?_
    refine wpAnyH_done jo0f ?_ _
    go_wp2
    go_ret
    exact⟨by rw [HN.out];rfl,HB4.out⟩
   ·have F3:=Lib.hid f3
    have HL:=Lib.hid (show p.lo.q j≤x j from by rw [f2];exact Rat.le_refl)
    clear f2 f3
    cases hop:p.op j
    ·rw [hop] at hoc
     have HOP:=Lib.hid hop
     clear hop
     rcases cmpQ_cases (x j) (p.hi.q j) with ⟨u2,u3⟩ | ⟨u2,u3⟩ | ⟨u2,u3⟩
     ·have HQ:=Lib.hid (show p.lo.q j≤x j∧(p.op j=false→x j≤p.hi.q j) from⟨HL.out,fun _=>Rat.le_of_lt u2⟩)
      have U3:=Lib.hid u3
      clear u2 u3
      refine wp_region_held_drew (S:=(fun w'=>w'.cell? ⟨wr.heap.size,0,none⟩=some (.bool b7)∧w'.cell? ⟨wr.heap.size,1,none⟩=some (.slice A7 n7 c7)∧w'.cell? ⟨wr.heap.size,2,none⟩=some (.bool d7)∧w'.cell? ⟨wr.heap.size,3,none⟩=some (.slice B7 m7 k7)∧w'.cell? ⟨w.heap.size,2,none⟩=some (.slice (some ld) p.lo.n cl)∧w'.cell? ⟨w.heap.size,3,none⟩=some (.slice (some hd) p.hi.n ch)∧w'.cell? ⟨w.heap.size,4,none⟩=some (.slice (some od) p.no co)∧w'.cell? (ld.add (j*4))=some (.bool b5)∧w'.cell? ⟨(ld.add (j*4)).block,(ld.add (j*4)).off+1,none⟩=some (.slice A5 n5 c5)∧w'.cell? ⟨(ld.add (j*4)).block,(ld.add (j*4)).off+2,none⟩=some (.bool d5)∧w'.cell? ⟨(ld.add (j*4)).block,(ld.add (j*4)).off+3,none⟩=some (.slice B5 m5 k5)∧w'.cell? (hd.add (j*4))=some (.bool b6)∧w'.cell? ⟨(hd.add (j*4)).block,(hd.add (j*4)).off+1,none⟩=some (.slice A6 n6 c6)∧w'.cell? ⟨(hd.add (j*4)).block,(hd.add (j*4)).off+2,none⟩=some (.bool d6)∧w'.cell? ⟨(hd.add (j*4)).block,(hd.add (j*4)).off+3,none⟩=some (.slice B6 m6 k6)∧w'.cell? (od.add j)=some (.bool false))) jo0f ?_ (fun hHeld=>?_)
      ·(first | (refine⟨?_,?_,?_,?_,?_,?_,?_,?_,?_,?_,?_,?_,?_,?_,?_,?_⟩ <;> (first | with_reducible assumption | ((with_reducible refine Eq.trans (cell_drew _ _) ?_);with_reducible assumption) | go_keep)) | go_keep)
      refine jtk 0 ?_
      refine jtk 1 ?_
      refine jtk 2 ?_
      refine jtk 3 ?_
      refine jtk 4 ?_
      refine jtk 5 ?_
      refine jrd 6 fun Kz hKz=>?_
      go_simp
      ((with_reducible refine Calls.mono (qcmp_is 0 F3.out HX3.out.drew_ HEL.out.drew_ j0i3 j0i3 h2 h1) ?_));rintro e w4 ⟨rfl,hb⟩;have hBw:=(show Below w3.heap.size w3 w4 from jc22);have HB4:=Lib.hid (below_trans HB3.out hBw);have HB14:=Lib.hid (below_trans HB13.out hBw);have KP4:=Lib.hid (KP3.out.below hBw);have K4:=Lib.hid (K3.out.below hBw);obtain⟨k04,k14,k24,k34,k44,kl4⟩:=KP4.out.use5;obtain⟨a04,a14,a24,a34,al4⟩:=K4.out.use4;have HAL4:=Lib.hid (HAL.out.below hBw);have HAH4:=Lib.hid (HAH.out.below hBw);obtain⟨x04,x14,x24,x34,x44⟩:=HAL4.out;obtain⟨y04,y14,y24,y34,y44⟩:=HAH4.out;have hob4:=Nat.lt_of_lt_of_le HOC.out.1 hBw.size;have hoc4:=(hBw.cell (p:=od.add j) jrzy).trans hoc;have HX4:=Lib.hid (HX3.out.below hBw);have HEH4:=Lib.hid (HEH.out.below hBw);clear hBw hb KP3 K3 HAL HAH k0 k1 k2 k3 k4 kl a0 a1 a2 a3 al x0 x1 x2 x3 x4 y0 y1 y2 y3 y4 hoc HB3 HB13 HX3 HEL HEH
      refine hKz.out _ _ jq0d (fun hHeld=>?_)
      clear hKz Kz
      refine jsp ?_
      refine jtk 7 ?_
      refine jtk 8 ?_
      refine jtk 9 ?_
      refine jtk 10 ?_
      refine jtk 11 ?_
      refine jtk 12 ?_
      refine jtk 13 ?_
      refine jtk 14 ?_
      refine jtk 15 ?_
      refine jtk 16 ?_
      refine jtk 17 ?_
      refine jtk 18 ?_
      refine jtk 19 ?_
      refine jtk 20 ?_
      refine jtk 21 ?_
      refine jrd 22 fun Kz hKz=>?_
      go_simp
      ((with_reducible refine Calls.mono (qcmp_is (-1) U3.out HX4.out HEH4.out j0i3 j0i3 h2 h1) ?_));rintro e w5 ⟨rfl,hb⟩;have hBw:=(show Below w4.heap.size w4 w5 from jc22);have HB5:=Lib.hid (below_trans HB4.out hBw);have HB15:=Lib.hid (below_trans HB14.out hBw);have KP5:=Lib.hid (KP4.out.below hBw);have K5:=Lib.hid (K4.out.below hBw);obtain⟨k05,k15,k25,k35,k45,kl5⟩:=KP5.out.use5;obtain⟨a05,a15,a25,a35,al5⟩:=K5.out.use4;have HAL5:=Lib.hid (HAL4.out.below hBw);have HAH5:=Lib.hid (HAH4.out.below hBw);obtain⟨x05,x15,x25,x35,x45⟩:=HAL5.out;obtain⟨y05,y15,y25,y35,y45⟩:=HAH5.out;have hob5:=Nat.lt_of_lt_of_le hob4 hBw.size;have hoc5:=(hBw.cell (p:=od.add j) jlfv).trans hoc4;clear hBw hb KP4 K4 HAL4 HAH4 k04 k14 k24 k34 k44 kl4 a04 a14 a24 a34 al4 x04 x14 x24 x34 x44 y04 y14 y24 y34 y44 hoc4 HB4 HB14 HX4 HEH4
      refine hKz.out _ _ jq0d (fun hHeld=>?_)
      clear hKz Kz
      refine jsp ?_
      refine jtk 23 ?_
      refine jtk 24 ?_
      refine jtk 25 ?_
      refine wpAnyH_done jo0f ?_ _
      go_wp2
      go_roundw
      case rel=>exact⟨j+1,by go_num,by omega,HB15.out,fun q hq=>by
       by_cases hqj:q=j
       ·subst hqj;exact HQ.out
       ·exact HI.out q j0i3⟩
      case measure=>simp [intOf];omega
     ·have HQ:=Lib.hid (show p.lo.q j≤x j∧(p.op j=false→x j≤p.hi.q j) from⟨HL.out,fun _=>by rw [u2];exact Rat.le_refl⟩)
      have U3:=Lib.hid u3
      clear u2 u3
      refine wp_region_held_drew (S:=(fun w'=>w'.cell? ⟨wr.heap.size,0,none⟩=some (.bool b7)∧w'.cell? ⟨wr.heap.size,1,none⟩=some (.slice A7 n7 c7)∧w'.cell? ⟨wr.heap.size,2,none⟩=some (.bool d7)∧w'.cell? ⟨wr.heap.size,3,none⟩=some (.slice B7 m7 k7)∧w'.cell? ⟨w.heap.size,2,none⟩=some (.slice (some ld) p.lo.n cl)∧w'.cell? ⟨w.heap.size,3,none⟩=some (.slice (some hd) p.hi.n ch)∧w'.cell? ⟨w.heap.size,4,none⟩=some (.slice (some od) p.no co)∧w'.cell? (ld.add (j*4))=some (.bool b5)∧w'.cell? ⟨(ld.add (j*4)).block,(ld.add (j*4)).off+1,none⟩=some (.slice A5 n5 c5)∧w'.cell? ⟨(ld.add (j*4)).block,(ld.add (j*4)).off+2,none⟩=some (.bool d5)∧w'.cell? ⟨(ld.add (j*4)).block,(ld.add (j*4)).off+3,none⟩=some (.slice B5 m5 k5)∧w'.cell? (hd.add (j*4))=some (.bool b6)∧w'.cell? ⟨(hd.add (j*4)).block,(hd.add (j*4)).off+1,none⟩=some (.slice A6 n6 c6)∧w'.cell? ⟨(hd.add (j*4)).block,(hd.add (j*4)).off+2,none⟩=some (.bool d6)∧w'.cell? ⟨(hd.add (j*4)).block,(hd.add (j*4)).off+3,none⟩=some (.slice B6 m6 k6)∧w'.cell? (od.add j)=some (.bool false))) jo0f ?_ (fun hHeld=>?_)
      ·(first | (refine⟨?_,?_,?_,?_,?_,?_,?_,?_,?_,?_,?_,?_,?_,?_,?_,?_⟩ <;> (first | with_reducible assumption | ((with_reducible refine Eq.trans (cell_drew _ _) ?_);with_reducible assumption) | go_keep)) | go_keep)
      refine jtk 0 ?_
      refine jtk 1 ?_
      refine jtk 2 ?_
      refine jtk 3 ?_
      refine jtk 4 ?_
      refine jtk 5 ?_
      refine jrd 6 fun Kz hKz=>?_
      go_simp
      ((with_reducible refine Calls.mono (qcmp_is 0 F3.out HX3.out.drew_ HEL.out.drew_ j0i3 j0i3 h2 h1) ?_));rintro e w4 ⟨rfl,hb⟩;have hBw:=(show Below w3.heap.size w3 w4 from jc22);have HB4:=Lib.hid (below_trans HB3.out hBw);have HB14:=Lib.hid (below_trans HB13.out hBw);have KP4:=Lib.hid (KP3.out.below hBw);have K4:=Lib.hid (K3.out.below hBw);obtain⟨k04,k14,k24,k34,k44,kl4⟩:=KP4.out.use5;obtain⟨a04,a14,a24,a34,al4⟩:=K4.out.use4;have HAL4:=Lib.hid (HAL.out.below hBw);have HAH4:=Lib.hid (HAH.out.below hBw);obtain⟨x04,x14,x24,x34,x44⟩:=HAL4.out;obtain⟨y04,y14,y24,y34,y44⟩:=HAH4.out;have hob4:=Nat.lt_of_lt_of_le HOC.out.1 hBw.size;have hoc4:=(hBw.cell (p:=od.add j) jrzy).trans hoc;have HX4:=Lib.hid (HX3.out.below hBw);have HEH4:=Lib.hid (HEH.out.below hBw);clear hBw hb KP3 K3 HAL HAH k0 k1 k2 k3 k4 kl a0 a1 a2 a3 al x0 x1 x2 x3 x4 y0 y1 y2 y3 y4 hoc HB3 HB13 HX3 HEL HEH
      refine hKz.out _ _ jq0d (fun hHeld=>?_)
      clear hKz Kz
      refine jsp ?_
      refine jtk 7 ?_
      refine jtk 8 ?_
      refine jtk 9 ?_
      refine jtk 10 ?_
      refine jtk 11 ?_
      refine jtk 12 ?_
      refine jtk 13 ?_
      refine jtk 14 ?_
      refine jtk 15 ?_
      refine jtk 16 ?_
      refine jtk 17 ?_
      refine jtk 18 ?_
      refine jtk 19 ?_
      refine jtk 20 ?_
      refine jtk 21 ?_
      refine jrd 22 fun Kz hKz=>?_
      go_simp
      ((with_reducible refine Calls.mono (qcmp_is 0 U3.out HX4.out HEH4.out j0i3 j0i3 h2 h1) ?_));rintro e w5 ⟨rfl,hb⟩;have hBw:=(show Below w4.heap.size w4 w5 from jc22);have HB5:=Lib.hid (below_trans HB4.out hBw);have HB15:=Lib.hid (below_trans HB14.out hBw);have KP5:=Lib.hid (KP4.out.below hBw);have K5:=Lib.hid (K4.out.below hBw);obtain⟨k05,k15,k25,k35,k45,kl5⟩:=KP5.out.use5;obtain⟨a05,a15,a25,a35,al5⟩:=K5.out.use4;have HAL5:=Lib.hid (HAL4.out.below hBw);have HAH5:=Lib.hid (HAH4.out.below hBw);obtain⟨x05,x15,x25,x35,x45⟩:=HAL5.out;obtain⟨y05,y15,y25,y35,y45⟩:=HAH5.out;have hob5:=Nat.lt_of_lt_of_le hob4 hBw.size;have hoc5:=(hBw.cell (p:=od.add j) jlfv).trans hoc4;clear hBw hb KP4 K4 HAL4 HAH4 k04 k14 k24 k34 k44 kl4 a04 a14 a24 a34 al4 x04 x14 x24 x34 x44 y04 y14 y24 y34 y44 hoc4 HB4 HB14 HX4 HEH4
      refine hKz.out _ _ jq0d (fun hHeld=>?_)
      clear hKz Kz
      refine jsp ?_
      refine jtk 23 ?_
      refine jtk 24 ?_
      refine jtk 25 ?_
      refine wpAnyH_done jo0f ?_ _
      go_wp2
      go_roundw
      case rel=>exact⟨j+1,by go_num,by omega,HB15.out,fun q hq=>by
       by_cases hqj:q=j
       ·subst hqj;exact HQ.out
       ·exact HI.out q j0i3⟩
      case measure=>simp [intOf];omega
     ·have HN:Hid (fulB p p.cost.n x=false):=fulB_false.2 fun h=>absurd ((h.2.2.1 j hlt).2 HOP.out) (Rat.not_le.2 u2)
      have U3:=Lib.hid u3
      clear u2 u3
      refine wp_region_held_drew (S:=(fun w'=>w'.cell? ⟨wr.heap.size,0,none⟩=some (.bool b7)∧w'.cell? ⟨wr.heap.size,1,none⟩=some (.slice A7 n7 c7)∧w'.cell? ⟨wr.heap.size,2,none⟩=some (.bool d7)∧w'.cell? ⟨wr.heap.size,3,none⟩=some (.slice B7 m7 k7)∧w'.cell? ⟨w.heap.size,2,none⟩=some (.slice (some ld) p.lo.n cl)∧w'.cell? ⟨w.heap.size,3,none⟩=some (.slice (some hd) p.hi.n ch)∧w'.cell? ⟨w.heap.size,4,none⟩=some (.slice (some od) p.no co)∧w'.cell? (ld.add (j*4))=some (.bool b5)∧w'.cell? ⟨(ld.add (j*4)).block,(ld.add (j*4)).off+1,none⟩=some (.slice A5 n5 c5)∧w'.cell? ⟨(ld.add (j*4)).block,(ld.add (j*4)).off+2,none⟩=some (.bool d5)∧w'.cell? ⟨(ld.add (j*4)).block,(ld.add (j*4)).off+3,none⟩=some (.slice B5 m5 k5)∧w'.cell? (hd.add (j*4))=some (.bool b6)∧w'.cell? ⟨(hd.add (j*4)).block,(hd.add (j*4)).off+1,none⟩=some (.slice A6 n6 c6)∧w'.cell? ⟨(hd.add (j*4)).block,(hd.add (j*4)).off+2,none⟩=some (.bool d6)∧w'.cell? ⟨(hd.add (j*4)).block,(hd.add (j*4)).off+3,none⟩=some (.slice B6 m6 k6)∧w'.cell? (od.add j)=some (.bool false))) jo0f ?_ (fun hHeld=>?_)
      ·(first | (refine⟨?_,?_,?_,?_,?_,?_,?_,?_,?_,?_,?_,?_,?_,?_,?_,?_⟩ <;> (first | with_reducible assumption | ((with_reducible refine Eq.trans (cell_drew _ _) ?_);with_reducible assumption) | go_keep)) | go_keep)
      refine jtk 0 ?_
      refine jtk 1 ?_
      refine jtk 2 ?_
      refine jtk 3 ?_
      refine jtk 4 ?_
      refine jtk 5 ?_
      refine jrd 6 fun Kz hKz=>?_
      go_simp
      ((with_reducible refine Calls.mono (qcmp_is 0 F3.out HX3.out.drew_ HEL.out.drew_ j0i3 j0i3 h2 h1) ?_));rintro e w4 ⟨rfl,hb⟩;have hBw:=(show Below w3.heap.size w3 w4 from jc22);have HB4:=Lib.hid (below_trans HB3.out hBw);have HB14:=Lib.hid (below_trans HB13.out hBw);have KP4:=Lib.hid (KP3.out.below hBw);have K4:=Lib.hid (K3.out.below hBw);obtain⟨k04,k14,k24,k34,k44,kl4⟩:=KP4.out.use5;obtain⟨a04,a14,a24,a34,al4⟩:=K4.out.use4;have HAL4:=Lib.hid (HAL.out.below hBw);have HAH4:=Lib.hid (HAH.out.below hBw);obtain⟨x04,x14,x24,x34,x44⟩:=HAL4.out;obtain⟨y04,y14,y24,y34,y44⟩:=HAH4.out;have hob4:=Nat.lt_of_lt_of_le HOC.out.1 hBw.size;have hoc4:=(hBw.cell (p:=od.add j) jrzy).trans hoc;have HX4:=Lib.hid (HX3.out.below hBw);have HEH4:=Lib.hid (HEH.out.below hBw);clear hBw hb KP3 K3 HAL HAH k0 k1 k2 k3 k4 kl a0 a1 a2 a3 al x0 x1 x2 x3 x4 y0 y1 y2 y3 y4 hoc HB3 HB13 HX3 HEL HEH
      refine hKz.out _ _ jq0d (fun hHeld=>?_)
      clear hKz Kz
      refine jsp ?_
      refine jtk 7 ?_
      refine jtk 8 ?_
      refine jtk 9 ?_
      refine jtk 10 ?_
      refine jtk 11 ?_
      refine jtk 12 ?_
      refine jtk 13 ?_
      refine jtk 14 ?_
      refine jtk 15 ?_
      refine jtk 16 ?_
      refine jtk 17 ?_
      refine jtk 18 ?_
      refine jtk 19 ?_
      refine jtk 20 ?_
      refine jtk 21 ?_
      refine jrd 22 fun Kz hKz=>?_
      go_simp
      ((with_reducible refine Calls.mono (qcmp_is 1 U3.out HX4.out HEH4.out j0i3 j0i3 h2 h1) ?_));rintro e w5 ⟨rfl,hb⟩;have hBw:=(show Below w4.heap.size w4 w5 from jc22);have HB5:=Lib.hid (below_trans HB4.out hBw);have HB15:=Lib.hid (below_trans HB14.out hBw);have KP5:=Lib.hid (KP4.out.below hBw);have K5:=Lib.hid (K4.out.below hBw);obtain⟨k05,k15,k25,k35,k45,kl5⟩:=KP5.out.use5;obtain⟨a05,a15,a25,a35,al5⟩:=K5.out.use4;have HAL5:=Lib.hid (HAL4.out.below hBw);have HAH5:=Lib.hid (HAH4.out.below hBw);obtain⟨x05,x15,x25,x35,x45⟩:=HAL5.out;obtain⟨y05,y15,y25,y35,y45⟩:=HAH5.out;have hob5:=Nat.lt_of_lt_of_le hob4 hBw.size;have hoc5:=(hBw.cell (p:=od.add j) jlfv).trans hoc4;clear hBw hb KP4 K4 HAL4 HAH4 k04 k14 k24 k34 k44 kl4 a04 a14 a24 a34 al4 x04 x14 x24 x34 x44 y04 y14 y24 y34 y44 hoc4 HB4 HB14 HX4 HEH4
      refine hKz.out _ _ jq0d (fun hHeld=>?_)
      clear hKz Kz
      refine jsp ?_
      refine jtk 23 ?_
      refine jtk 24 ?_
      refine jtk 25 ?_
      refine wpAnyH_done jo0f ?_ _
      go_wp2
      go_ret
      exact⟨by rw [HN.out];rfl,HB5.out⟩
    ·rw [hop] at hoc
     have HOP:=Lib.hid hop
     clear hop
     have HQ:=Lib.hid (show p.lo.q j≤x j∧(p.op j=false→x j≤p.hi.q j) from⟨HL.out,fun h=>by rw [HOP.out] at h;cases h⟩)
     refine wp_region_held_drew (S:=(fun w'=>w'.cell? ⟨wr.heap.size,0,none⟩=some (.bool b7)∧w'.cell? ⟨wr.heap.size,1,none⟩=some (.slice A7 n7 c7)∧w'.cell? ⟨wr.heap.size,2,none⟩=some (.bool d7)∧w'.cell? ⟨wr.heap.size,3,none⟩=some (.slice B7 m7 k7)∧w'.cell? ⟨w.heap.size,2,none⟩=some (.slice (some ld) p.lo.n cl)∧w'.cell? ⟨w.heap.size,3,none⟩=some (.slice (some hd) p.hi.n ch)∧w'.cell? ⟨w.heap.size,4,none⟩=some (.slice (some od) p.no co)∧w'.cell? (ld.add (j*4))=some (.bool b5)∧w'.cell? ⟨(ld.add (j*4)).block,(ld.add (j*4)).off+1,none⟩=some (.slice A5 n5 c5)∧w'.cell? ⟨(ld.add (j*4)).block,(ld.add (j*4)).off+2,none⟩=some (.bool d5)∧w'.cell? ⟨(ld.add (j*4)).block,(ld.add (j*4)).off+3,none⟩=some (.slice B5 m5 k5)∧w'.cell? (hd.add (j*4))=some (.bool b6)∧w'.cell? ⟨(hd.add (j*4)).block,(hd.add (j*4)).off+1,none⟩=some (.slice A6 n6 c6)∧w'.cell? ⟨(hd.add (j*4)).block,(hd.add (j*4)).off+2,none⟩=some (.bool d6)∧w'.cell? ⟨(hd.add (j*4)).block,(hd.add (j*4)).off+3,none⟩=some (.slice B6 m6 k6)∧w'.cell? (od.add j)=some (.bool true))) jo0f ?_ (fun hHeld=>?_)
     ·(first | (refine⟨?_,?_,?_,?_,?_,?_,?_,?_,?_,?_,?_,?_,?_,?_,?_,?_⟩ <;> (first | with_reducible assumption | ((with_reducible refine Eq.trans (cell_drew _ _) ?_);with_reducible assumption) | go_keep)) | go_keep)
     refine jtk 0 ?_
     refine jtk 1 ?_
     refine jtk 2 ?_
     refine jtk 3 ?_
     refine jtk 4 ?_
     refine jtk 5 ?_
     refine jrd 6 fun Kz hKz=>?_
     go_simp
     ((with_reducible refine Calls.mono (qcmp_is 0 F3.out HX3.out.drew_ HEL.out.drew_ j0i3 j0i3 h2 h1) ?_));rintro e w4 ⟨rfl,hb⟩;have hBw:=(show Below w3.heap.size w3 w4 from jc22);have HB4:=Lib.hid (below_trans HB3.out hBw);have HB14:=Lib.hid (below_trans HB13.out hBw);have KP4:=Lib.hid (KP3.out.below hBw);have K4:=Lib.hid (K3.out.below hBw);obtain⟨k04,k14,k24,k34,k44,kl4⟩:=KP4.out.use5;obtain⟨a04,a14,a24,a34,al4⟩:=K4.out.use4;have HAL4:=Lib.hid (HAL.out.below hBw);have HAH4:=Lib.hid (HAH.out.below hBw);obtain⟨x04,x14,x24,x34,x44⟩:=HAL4.out;obtain⟨y04,y14,y24,y34,y44⟩:=HAH4.out;have hob4:=Nat.lt_of_lt_of_le HOC.out.1 hBw.size;have hoc4:=(hBw.cell (p:=od.add j) jrzy).trans hoc;have HX4:=Lib.hid (HX3.out.below hBw);have HEH4:=Lib.hid (HEH.out.below hBw);clear hBw hb KP3 K3 HAL HAH k0 k1 k2 k3 k4 kl a0 a1 a2 a3 al x0 x1 x2 x3 x4 y0 y1 y2 y3 y4 hoc HB3 HB13 HX3 HEL HEH
     refine hKz.out _ _ jq0d (fun hHeld=>?_)
     clear hKz Kz
     refine jsp ?_
     refine jtk 7 ?_
     refine jtk 8 ?_
     refine jtk 9 ?_
     refine jtk 10 ?_
     refine jtk 11 ?_
     refine jtk 12 ?_
     refine jtk 13 ?_
     refine jtk 14 ?_
     refine jtk 15 ?_
     refine jsk 16 ?_
     refine jsk 17 ?_
     refine jsk 18 ?_
     refine jsk 19 ?_
     refine jsk 20 ?_
     refine jsk 21 ?_
     refine jsk 22 ?_
     refine jsk 23 ?_
     refine jtk 24 ?_
     refine jtk 25 ?_
     refine wpAnyH_done jo0f ?_ _
     go_wp2
     go_roundw
     case rel=>exact⟨j+1,by go_num,by omega,HB14.out,fun q hq=>by
      by_cases hqj:q=j
      ·subst hqj;exact HQ.out
      ·exact HI.out q j0i3⟩
     case measure=>simp [intOf];omega
   ·have F3:=Lib.hid f3
    have HL:=Lib.hid (show p.lo.q j≤x j from Rat.le_of_lt f2)
    clear f2 f3
    cases hop:p.op j
    ·rw [hop] at hoc
     have HOP:=Lib.hid hop
     clear hop
     rcases cmpQ_cases (x j) (p.hi.q j) with ⟨u2,u3⟩ | ⟨u2,u3⟩ | ⟨u2,u3⟩
     ·have HQ:=Lib.hid (show p.lo.q j≤x j∧(p.op j=false→x j≤p.hi.q j) from⟨HL.out,fun _=>Rat.le_of_lt u2⟩)
      have U3:=Lib.hid u3
      clear u2 u3
      refine wp_region_held_drew (S:=(fun w'=>w'.cell? ⟨wr.heap.size,0,none⟩=some (.bool b7)∧w'.cell? ⟨wr.heap.size,1,none⟩=some (.slice A7 n7 c7)∧w'.cell? ⟨wr.heap.size,2,none⟩=some (.bool d7)∧w'.cell? ⟨wr.heap.size,3,none⟩=some (.slice B7 m7 k7)∧w'.cell? ⟨w.heap.size,2,none⟩=some (.slice (some ld) p.lo.n cl)∧w'.cell? ⟨w.heap.size,3,none⟩=some (.slice (some hd) p.hi.n ch)∧w'.cell? ⟨w.heap.size,4,none⟩=some (.slice (some od) p.no co)∧w'.cell? (ld.add (j*4))=some (.bool b5)∧w'.cell? ⟨(ld.add (j*4)).block,(ld.add (j*4)).off+1,none⟩=some (.slice A5 n5 c5)∧w'.cell? ⟨(ld.add (j*4)).block,(ld.add (j*4)).off+2,none⟩=some (.bool d5)∧w'.cell? ⟨(ld.add (j*4)).block,(ld.add (j*4)).off+3,none⟩=some (.slice B5 m5 k5)∧w'.cell? (hd.add (j*4))=some (.bool b6)∧w'.cell? ⟨(hd.add (j*4)).block,(hd.add (j*4)).off+1,none⟩=some (.slice A6 n6 c6)∧w'.cell? ⟨(hd.add (j*4)).block,(hd.add (j*4)).off+2,none⟩=some (.bool d6)∧w'.cell? ⟨(hd.add (j*4)).block,(hd.add (j*4)).off+3,none⟩=some (.slice B6 m6 k6)∧w'.cell? (od.add j)=some (.bool false))) jo0f ?_ (fun hHeld=>?_)
      ·(first | (refine⟨?_,?_,?_,?_,?_,?_,?_,?_,?_,?_,?_,?_,?_,?_,?_,?_⟩ <;> (first | with_reducible assumption | ((with_reducible refine Eq.trans (cell_drew _ _) ?_);with_reducible assumption) | go_keep)) | go_keep)
      refine jtk 0 ?_
      refine jtk 1 ?_
      refine jtk 2 ?_
      refine jtk 3 ?_
      refine jtk 4 ?_
      refine jtk 5 ?_
      refine jrd 6 fun Kz hKz=>?_
      go_simp
      ((with_reducible refine Calls.mono (qcmp_is 1 F3.out HX3.out.drew_ HEL.out.drew_ j0i3 j0i3 h2 h1) ?_));rintro e w4 ⟨rfl,hb⟩;have hBw:=(show Below w3.heap.size w3 w4 from jc22);have HB4:=Lib.hid (below_trans HB3.out hBw);have HB14:=Lib.hid (below_trans HB13.out hBw);have KP4:=Lib.hid (KP3.out.below hBw);have K4:=Lib.hid (K3.out.below hBw);obtain⟨k04,k14,k24,k34,k44,kl4⟩:=KP4.out.use5;obtain⟨a04,a14,a24,a34,al4⟩:=K4.out.use4;have HAL4:=Lib.hid (HAL.out.below hBw);have HAH4:=Lib.hid (HAH.out.below hBw);obtain⟨x04,x14,x24,x34,x44⟩:=HAL4.out;obtain⟨y04,y14,y24,y34,y44⟩:=HAH4.out;have hob4:=Nat.lt_of_lt_of_le HOC.out.1 hBw.size;have hoc4:=(hBw.cell (p:=od.add j) jrzy).trans hoc;have HX4:=Lib.hid (HX3.out.below hBw);have HEH4:=Lib.hid (HEH.out.below hBw);clear hBw hb KP3 K3 HAL HAH k0 k1 k2 k3 k4 kl a0 a1 a2 a3 al x0 x1 x2 x3 x4 y0 y1 y2 y3 y4 hoc HB3 HB13 HX3 HEL HEH
      refine hKz.out _ _ jq0d (fun hHeld=>?_)
      clear hKz Kz
      refine jsp ?_
      refine jtk 7 ?_
      refine jtk 8 ?_
      refine jtk 9 ?_
      refine jtk 10 ?_
      refine jtk 11 ?_
      refine jtk 12 ?_
      refine jtk 13 ?_
      refine jtk 14 ?_
      refine jtk 15 ?_
      refine jtk 16 ?_
      refine jtk 17 ?_
      refine jtk 18 ?_
      refine jtk 19 ?_
      refine jtk 20 ?_
      refine jtk 21 ?_
      refine jrd 22 fun Kz hKz=>?_
      go_simp
      ((with_reducible refine Calls.mono (qcmp_is (-1) U3.out HX4.out HEH4.out j0i3 j0i3 h2 h1) ?_));rintro e w5 ⟨rfl,hb⟩;have hBw:=(show Below w4.heap.size w4 w5 from jc22);have HB5:=Lib.hid (below_trans HB4.out hBw);have HB15:=Lib.hid (below_trans HB14.out hBw);have KP5:=Lib.hid (KP4.out.below hBw);have K5:=Lib.hid (K4.out.below hBw);obtain⟨k05,k15,k25,k35,k45,kl5⟩:=KP5.out.use5;obtain⟨a05,a15,a25,a35,al5⟩:=K5.out.use4;have HAL5:=Lib.hid (HAL4.out.below hBw);have HAH5:=Lib.hid (HAH4.out.below hBw);obtain⟨x05,x15,x25,x35,x45⟩:=HAL5.out;obtain⟨y05,y15,y25,y35,y45⟩:=HAH5.out;have hob5:=Nat.lt_of_lt_of_le hob4 hBw.size;have hoc5:=(hBw.cell (p:=od.add j) jlfv).trans hoc4;clear hBw hb KP4 K4 HAL4 HAH4 k04 k14 k24 k34 k44 kl4 a04 a14 a24 a34 al4 x04 x14 x24 x34 x44 y04 y14 y24 y34 y44 hoc4 HB4 HB14 HX4 HEH4
      refine hKz.out _ _ jq0d (fun hHeld=>?_)
      clear hKz Kz
      refine jsp ?_
      refine jtk 23 ?_
      refine jtk 24 ?_
      refine jtk 25 ?_
      refine wpAnyH_done jo0f ?_ _
      go_wp2
      go_roundw
      case rel=>exact⟨j+1,by go_num,by omega,HB15.out,fun q hq=>by
       by_cases hqj:q=j
       ·subst hqj;exact HQ.out
       ·exact HI.out q j0i3⟩
      case measure=>simp [intOf];omega
     ·have HQ:=Lib.hid (show p.lo.q j≤x j∧(p.op j=false→x j≤p.hi.q j) from⟨HL.out,fun _=>by rw [u2];exact Rat.le_refl⟩)
      have U3:=Lib.hid u3
      clear u2 u3
      refine wp_region_held_drew (S:=(fun w'=>w'.cell? ⟨wr.heap.size,0,none⟩=some (.bool b7)∧w'.cell? ⟨wr.heap.size,1,none⟩=some (.slice A7 n7 c7)∧w'.cell? ⟨wr.heap.size,2,none⟩=some (.bool d7)∧w'.cell? ⟨wr.heap.size,3,none⟩=some (.slice B7 m7 k7)∧w'.cell? ⟨w.heap.size,2,none⟩=some (.slice (some ld) p.lo.n cl)∧w'.cell? ⟨w.heap.size,3,none⟩=some (.slice (some hd) p.hi.n ch)∧w'.cell? ⟨w.heap.size,4,none⟩=some (.slice (some od) p.no co)∧w'.cell? (ld.add (j*4))=some (.bool b5)∧w'.cell? ⟨(ld.add (j*4)).block,(ld.add (j*4)).off+1,none⟩=some (.slice A5 n5 c5)∧w'.cell? ⟨(ld.add (j*4)).block,(ld.add (j*4)).off+2,none⟩=some (.bool d5)∧w'.cell? ⟨(ld.add (j*4)).block,(ld.add (j*4)).off+3,none⟩=some (.slice B5 m5 k5)∧w'.cell? (hd.add (j*4))=some (.bool b6)∧w'.cell? ⟨(hd.add (j*4)).block,(hd.add (j*4)).off+1,none⟩=some (.slice A6 n6 c6)∧w'.cell? ⟨(hd.add (j*4)).block,(hd.add (j*4)).off+2,none⟩=some (.bool d6)∧w'.cell? ⟨(hd.add (j*4)).block,(hd.add (j*4)).off+3,none⟩=some (.slice B6 m6 k6)∧w'.cell? (od.add j)=some (.bool false))) jo0f ?_ (fun hHeld=>?_)
      ·(first | (refine⟨?_,?_,?_,?_,?_,?_,?_,?_,?_,?_,?_,?_,?_,?_,?_,?_⟩ <;> (first | with_reducible assumption | ((with_reducible refine Eq.trans (cell_drew _ _) ?_);with_reducible assumption) | go_keep)) | go_keep)
      refine jtk 0 ?_
      refine jtk 1 ?_
      refine jtk 2 ?_
      refine jtk 3 ?_
      refine jtk 4 ?_
      refine jtk 5 ?_
      refine jrd 6 fun Kz hKz=>?_
      go_simp
      ((with_reducible refine Calls.mono (qcmp_is 1 F3.out HX3.out.drew_ HEL.out.drew_ j0i3 j0i3 h2 h1) ?_));rintro e w4 ⟨rfl,hb⟩;have hBw:=(show Below w3.heap.size w3 w4 from jc22);have HB4:=Lib.hid (below_trans HB3.out hBw);have HB14:=Lib.hid (below_trans HB13.out hBw);have KP4:=Lib.hid (KP3.out.below hBw);have K4:=Lib.hid (K3.out.below hBw);obtain⟨k04,k14,k24,k34,k44,kl4⟩:=KP4.out.use5;obtain⟨a04,a14,a24,a34,al4⟩:=K4.out.use4;have HAL4:=Lib.hid (HAL.out.below hBw);have HAH4:=Lib.hid (HAH.out.below hBw);obtain⟨x04,x14,x24,x34,x44⟩:=HAL4.out;obtain⟨y04,y14,y24,y34,y44⟩:=HAH4.out;have hob4:=Nat.lt_of_lt_of_le HOC.out.1 hBw.size;have hoc4:=(hBw.cell (p:=od.add j) jrzy).trans hoc;have HX4:=Lib.hid (HX3.out.below hBw);have HEH4:=Lib.hid (HEH.out.below hBw);clear hBw hb KP3 K3 HAL HAH k0 k1 k2 k3 k4 kl a0 a1 a2 a3 al x0 x1 x2 x3 x4 y0 y1 y2 y3 y4 hoc HB3 HB13 HX3 HEL HEH
      refine hKz.out _ _ jq0d (fun hHeld=>?_)
      clear hKz Kz
      refine jsp ?_
      refine jtk 7 ?_
      refine jtk 8 ?_
      refine jtk 9 ?_
      refine jtk 10 ?_
      refine jtk 11 ?_
      refine jtk 12 ?_
      refine jtk 13 ?_
      refine jtk 14 ?_
      refine jtk 15 ?_
      refine jtk 16 ?_
      refine jtk 17 ?_
      refine jtk 18 ?_
      refine jtk 19 ?_
      refine jtk 20 ?_
      refine jtk 21 ?_
      refine jrd 22 fun Kz hKz=>?_
      go_simp
      ((with_reducible refine Calls.mono (qcmp_is 0 U3.out HX4.out HEH4.out j0i3 j0i3 h2 h1) ?_));rintro e w5 ⟨rfl,hb⟩;have hBw:=(show Below w4.heap.size w4 w5 from jc22);have HB5:=Lib.hid (below_trans HB4.out hBw);have HB15:=Lib.hid (below_trans HB14.out hBw);have KP5:=Lib.hid (KP4.out.below hBw);have K5:=Lib.hid (K4.out.below hBw);obtain⟨k05,k15,k25,k35,k45,kl5⟩:=KP5.out.use5;obtain⟨a05,a15,a25,a35,al5⟩:=K5.out.use4;have HAL5:=Lib.hid (HAL4.out.below hBw);have HAH5:=Lib.hid (HAH4.out.below hBw);obtain⟨x05,x15,x25,x35,x45⟩:=HAL5.out;obtain⟨y05,y15,y25,y35,y45⟩:=HAH5.out;have hob5:=Nat.lt_of_lt_of_le hob4 hBw.size;have hoc5:=(hBw.cell (p:=od.add j) jlfv).trans hoc4;clear hBw hb KP4 K4 HAL4 HAH4 k04 k14 k24 k34 k44 kl4 a04 a14 a24 a34 al4 x04 x14 x24 x34 x44 y04 y14 y24 y34 y44 hoc4 HB4 HB14 HX4 HEH4
      refine hKz.out _ _ jq0d (fun hHeld=>?_)
      clear hKz Kz
      refine jsp ?_
      refine jtk 23 ?_
      refine jtk 24 ?_
      refine jtk 25 ?_
      refine wpAnyH_done jo0f ?_ _
      go_wp2
      go_roundw
      case rel=>exact⟨j+1,by go_num,by omega,HB15.out,fun q hq=>by
       by_cases hqj:q=j
       ·subst hqj;exact HQ.out
       ·exact HI.out q j0i3⟩
      case measure=>simp [intOf];omega
     ·have HN:Hid (fulB p p.cost.n x=false):=fulB_false.2 fun h=>absurd ((h.2.2.1 j hlt).2 HOP.out) (Rat.not_le.2 u2)
      have U3:=Lib.hid u3
      clear u2 u3
      refine wp_region_held_drew (S:=(fun w'=>w'.cell? ⟨wr.heap.size,0,none⟩=some (.bool b7)∧w'.cell? ⟨wr.heap.size,1,none⟩=some (.slice A7 n7 c7)∧w'.cell? ⟨wr.heap.size,2,none⟩=some (.bool d7)∧w'.cell? ⟨wr.heap.size,3,none⟩=some (.slice B7 m7 k7)∧w'.cell? ⟨w.heap.size,2,none⟩=some (.slice (some ld) p.lo.n cl)∧w'.cell? ⟨w.heap.size,3,none⟩=some (.slice (some hd) p.hi.n ch)∧w'.cell? ⟨w.heap.size,4,none⟩=some (.slice (some od) p.no co)∧w'.cell? (ld.add (j*4))=some (.bool b5)∧w'.cell? ⟨(ld.add (j*4)).block,(ld.add (j*4)).off+1,none⟩=some (.slice A5 n5 c5)∧w'.cell? ⟨(ld.add (j*4)).block,(ld.add (j*4)).off+2,none⟩=some (.bool d5)∧w'.cell? ⟨(ld.add (j*4)).block,(ld.add (j*4)).off+3,none⟩=some (.slice B5 m5 k5)∧w'.cell? (hd.add (j*4))=some (.bool b6)∧w'.cell? ⟨(hd.add (j*4)).block,(hd.add (j*4)).off+1,none⟩=some (.slice A6 n6 c6)∧w'.cell? ⟨(hd.add (j*4)).block,(hd.add (j*4)).off+2,none⟩=some (.bool d6)∧w'.cell? ⟨(hd.add (j*4)).block,(hd.add (j*4)).off+3,none⟩=some (.slice B6 m6 k6)∧w'.cell? (od.add j)=some (.bool false))) jo0f ?_ (fun hHeld=>?_)
      ·(first | (refine⟨?_,?_,?_,?_,?_,?_,?_,?_,?_,?_,?_,?_,?_,?_,?_,?_⟩ <;> (first | with_reducible assumption | ((with_reducible refine Eq.trans (cell_drew _ _) ?_);with_reducible assumption) | go_keep)) | go_keep)
      refine jtk 0 ?_
      refine jtk 1 ?_
      refine jtk 2 ?_
      refine jtk 3 ?_
      refine jtk 4 ?_
      refine jtk 5 ?_
      refine jrd 6 fun Kz hKz=>?_
      go_simp
      ((with_reducible refine Calls.mono (qcmp_is 1 F3.out HX3.out.drew_ HEL.out.drew_ j0i3 j0i3 h2 h1) ?_));rintro e w4 ⟨rfl,hb⟩;have hBw:=(show Below w3.heap.size w3 w4 from jc22);have HB4:=Lib.hid (below_trans HB3.out hBw);have HB14:=Lib.hid (below_trans HB13.out hBw);have KP4:=Lib.hid (KP3.out.below hBw);have K4:=Lib.hid (K3.out.below hBw);obtain⟨k04,k14,k24,k34,k44,kl4⟩:=KP4.out.use5;obtain⟨a04,a14,a24,a34,al4⟩:=K4.out.use4;have HAL4:=Lib.hid (HAL.out.below hBw);have HAH4:=Lib.hid (HAH.out.below hBw);obtain⟨x04,x14,x24,x34,x44⟩:=HAL4.out;obtain⟨y04,y14,y24,y34,y44⟩:=HAH4.out;have hob4:=Nat.lt_of_lt_of_le HOC.out.1 hBw.size;have hoc4:=(hBw.cell (p:=od.add j) jrzy).trans hoc;have HX4:=Lib.hid (HX3.out.below hBw);have HEH4:=Lib.hid (HEH.out.below hBw);clear hBw hb KP3 K3 HAL HAH k0 k1 k2 k3 k4 kl a0 a1 a2 a3 al x0 x1 x2 x3 x4 y0 y1 y2 y3 y4 hoc HB3 HB13 HX3 HEL HEH
      refine hKz.out _ _ jq0d (fun hHeld=>?_)
      clear hKz Kz
      refine jsp ?_
      refine jtk 7 ?_
      refine jtk 8 ?_
      refine jtk 9 ?_
      refine jtk 10 ?_
      refine jtk 11 ?_
      refine jtk 12 ?_
      refine jtk 13 ?_
      refine jtk 14 ?_
      refine jtk 15 ?_
      refine jtk 16 ?_
      refine jtk 17 ?_
      refine jtk 18 ?_
      refine jtk 19 ?_
      refine jtk 20 ?_
      refine jtk 21 ?_
      refine jrd 22 fun Kz hKz=>?_
      go_simp
      ((with_reducible refine Calls.mono (qcmp_is 1 U3.out HX4.out HEH4.out j0i3 j0i3 h2 h1) ?_));rintro e w5 ⟨rfl,hb⟩;have hBw:=(show Below w4.heap.size w4 w5 from jc22);have HB5:=Lib.hid (below_trans HB4.out hBw);have HB15:=Lib.hid (below_trans HB14.out hBw);have KP5:=Lib.hid (KP4.out.below hBw);have K5:=Lib.hid (K4.out.below hBw);obtain⟨k05,k15,k25,k35,k45,kl5⟩:=KP5.out.use5;obtain⟨a05,a15,a25,a35,al5⟩:=K5.out.use4;have HAL5:=Lib.hid (HAL4.out.below hBw);have HAH5:=Lib.hid (HAH4.out.below hBw);obtain⟨x05,x15,x25,x35,x45⟩:=HAL5.out;obtain⟨y05,y15,y25,y35,y45⟩:=HAH5.out;have hob5:=Nat.lt_of_lt_of_le hob4 hBw.size;have hoc5:=(hBw.cell (p:=od.add j) jlfv).trans hoc4;clear hBw hb KP4 K4 HAL4 HAH4 k04 k14 k24 k34 k44 kl4 a04 a14 a24 a34 al4 x04 x14 x24 x34 x44 y04 y14 y24 y34 y44 hoc4 HB4 HB14 HX4 HEH4
      refine hKz.out _ _ jq0d (fun hHeld=>?_)
      clear hKz Kz
      refine jsp ?_
      refine jtk 23 ?_
      refine jtk 24 ?_
      refine jtk 25 ?_
      refine wpAnyH_done jo0f ?_ _
      go_wp2
      go_ret
      exact⟨by rw [HN.out];rfl,HB5.out⟩
    ·rw [hop] at hoc
     have HOP:=Lib.hid hop
     clear hop
     have HQ:=Lib.hid (show p.lo.q j≤x j∧(p.op j=false→x j≤p.hi.q j) from⟨HL.out,fun h=>by rw [HOP.out] at h;cases h⟩)
     refine wp_region_held_drew (S:=(fun w'=>w'.cell? ⟨wr.heap.size,0,none⟩=some (.bool b7)∧w'.cell? ⟨wr.heap.size,1,none⟩=some (.slice A7 n7 c7)∧w'.cell? ⟨wr.heap.size,2,none⟩=some (.bool d7)∧w'.cell? ⟨wr.heap.size,3,none⟩=some (.slice B7 m7 k7)∧w'.cell? ⟨w.heap.size,2,none⟩=some (.slice (some ld) p.lo.n cl)∧w'.cell? ⟨w.heap.size,3,none⟩=some (.slice (some hd) p.hi.n ch)∧w'.cell? ⟨w.heap.size,4,none⟩=some (.slice (some od) p.no co)∧w'.cell? (ld.add (j*4))=some (.bool b5)∧w'.cell? ⟨(ld.add (j*4)).block,(ld.add (j*4)).off+1,none⟩=some (.slice A5 n5 c5)∧w'.cell? ⟨(ld.add (j*4)).block,(ld.add (j*4)).off+2,none⟩=some (.bool d5)∧w'.cell? ⟨(ld.add (j*4)).block,(ld.add (j*4)).off+3,none⟩=some (.slice B5 m5 k5)∧w'.cell? (hd.add (j*4))=some (.bool b6)∧w'.cell? ⟨(hd.add (j*4)).block,(hd.add (j*4)).off+1,none⟩=some (.slice A6 n6 c6)∧w'.cell? ⟨(hd.add (j*4)).block,(hd.add (j*4)).off+2,none⟩=some (.bool d6)∧w'.cell? ⟨(hd.add (j*4)).block,(hd.add (j*4)).off+3,none⟩=some (.slice B6 m6 k6)∧w'.cell? (od.add j)=some (.bool true))) jo0f ?_ (fun hHeld=>?_)
     ·(first | (refine⟨?_,?_,?_,?_,?_,?_,?_,?_,?_,?_,?_,?_,?_,?_,?_,?_⟩ <;> (first | with_reducible assumption | ((with_reducible refine Eq.trans (cell_drew _ _) ?_);with_reducible assumption) | go_keep)) | go_keep)
     refine jtk 0 ?_
     refine jtk 1 ?_
     refine jtk 2 ?_
     refine jtk 3 ?_
     refine jtk 4 ?_
     refine jtk 5 ?_
     refine jrd 6 fun Kz hKz=>?_
     go_simp
     ((with_reducible refine Calls.mono (qcmp_is 1 F3.out HX3.out.drew_ HEL.out.drew_ j0i3 j0i3 h2 h1) ?_));rintro e w4 ⟨rfl,hb⟩;have hBw:=(show Below w3.heap.size w3 w4 from jc22);have HB4:=Lib.hid (below_trans HB3.out hBw);have HB14:=Lib.hid (below_trans HB13.out hBw);have KP4:=Lib.hid (KP3.out.below hBw);have K4:=Lib.hid (K3.out.below hBw);obtain⟨k04,k14,k24,k34,k44,kl4⟩:=KP4.out.use5;obtain⟨a04,a14,a24,a34,al4⟩:=K4.out.use4;have HAL4:=Lib.hid (HAL.out.below hBw);have HAH4:=Lib.hid (HAH.out.below hBw);obtain⟨x04,x14,x24,x34,x44⟩:=HAL4.out;obtain⟨y04,y14,y24,y34,y44⟩:=HAH4.out;have hob4:=Nat.lt_of_lt_of_le HOC.out.1 hBw.size;have hoc4:=(hBw.cell (p:=od.add j) jrzy).trans hoc;have HX4:=Lib.hid (HX3.out.below hBw);have HEH4:=Lib.hid (HEH.out.below hBw);clear hBw hb KP3 K3 HAL HAH k0 k1 k2 k3 k4 kl a0 a1 a2 a3 al x0 x1 x2 x3 x4 y0 y1 y2 y3 y4 hoc HB3 HB13 HX3 HEL HEH
     refine hKz.out _ _ jq0d (fun hHeld=>?_)
     clear hKz Kz
     refine jsp ?_
     refine jtk 7 ?_
     refine jtk 8 ?_
     refine jtk 9 ?_
     refine jtk 10 ?_
     refine jtk 11 ?_
     refine jtk 12 ?_
     refine jtk 13 ?_
     refine jtk 14 ?_
     refine jtk 15 ?_
     refine jsk 16 ?_
     refine jsk 17 ?_
     refine jsk 18 ?_
     refine jsk 19 ?_
     refine jsk 20 ?_
     refine jsk 21 ?_
     refine jsk 22 ?_
     refine jsk 23 ?_
     refine jtk 24 ?_
     refine jtk 25 ?_
     refine wpAnyH_done jo0f ?_ _
     go_wp2
     go_roundw
     case rel=>exact⟨j+1,by go_num,by omega,HB14.out,fun q hq=>by
      by_cases hqj:q=j
      ·subst hqj;exact HQ.out
      ·exact HI.out q j0i3⟩
     case measure=>simp [intOf];omega
  ·have hjn:j=p.cost.n:=by omega
   subst hjn
   have HQR:Hid (RwsN k wr (.slice Ar p.m cr) p.m p.row):=by
    obtain⟨_,_,_,_,_,e0,_,hqr,_,_,_⟩:=p_2.out
    simp only [Value.agg.injEq,Array.mk.injEq,List.cons.injEq,and_true] at e0
    obtain⟨_,rfl,_⟩:=e0
    exact hqr
   go_wp2_with fail
   refine Calls.mono (contains_row (P:=fun i => !holdB (p.row i) p.cost.n x) (fun args u=>by simp [go_sem]) (fun i w' x6 hi hb' hr'=>pful1 hr' (x_2.out.below hb') (Kx_2.out.below hb') (HRC.out i hi) j0i3 j0i3 h1 h2 (HKB.out i hi) j0i3 j0i3) HQR.out) ?_
   rintro e w4 ⟨rfl,hb4⟩
   have HB4:=Lib.hid (below_trans HBw.out hb4)
   have HA:Hid (fulB p p.cost.n x = !(anyB p.m fun i => !holdB (p.row i) p.cost.n x)):=by
    show fulB p p.cost.n x=_
    cases ha:anyB p.m fun i => !holdB (p.row i) p.cost.n x
    ·have:=anyB_false.1 ha
     exact fulB_true.2 ⟨HMX.out,rfl,HI.out,fun i hi=>holdB_true.1 (by have:=this i hi;simpa using this)⟩
    ·obtain⟨i,hi,h3⟩:=anyB_true.1 ha
     exact fulB_false.2 fun h=>by
      have:=holdB_true.2 (h.2.2.2 i hi)
      rw [this] at h3
      cases h3
   clear hb4
   go_wp2
   go_ret
   exact⟨by rw [HA.out];rfl,HB4.out⟩
theorem pful {pl:Bool} {k l nx:Nat} {w:World} {v vx:Value} {p:LpX} {x:Nat→Rat}(h:LpQ k w v p)(hx:RowQ pl l w vx nx x)(hk:k≤300)(h1:1≤k)(hl:l≤300)(h2:1≤l) :
 Calls Tryz.prog 25 #[v,vx] w fun e w'=>e = .returned (.bool (fulB p nx x))∧Below w.heap.size w w':=by
 by_cases hm:MayX p
 ·by_cases hn:nx=p.cost.n
  ·exact pful_c h hx hk h1 hl h2 hm hn
  ·rw [fulB_false.2 fun h=>hn h.2.1];exact pful_b h hx hk h1 hl h2 hm hn
 ·rw [fulB_false.2 fun h=>hm h.1];exact pful_a h hx hk h1 hl h2 hm
theorem pful_is {pl r:Bool} {k l nx:Nat} {w:World} {v vx:Value} {p:LpX} {x:Nat→Rat}(hr:fulB p nx x=r)(h:LpQ k w v p)(hx:RowQ pl l w vx nx x)(hk:k≤300)(h1:1≤k)(hl:l≤300)(h2:1≤l) :
 Calls Tryz.prog 25 #[v,vx] w fun e w'=>e = .returned (.bool r)∧Below w.heap.size w w':=hr▸pful h hx hk h1 hl h2
end Go.Proofs.YtgilnmhejjpleaaGreat
