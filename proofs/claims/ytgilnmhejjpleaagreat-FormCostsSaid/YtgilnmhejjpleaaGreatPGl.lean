/- FormCosts. -/
import Derived.Test.YtgilnmhejjpleaaGreatPGe
import Derived.Test.YtgilnmhejjpleaaGreatPGa
namespace Go.Proofs.YtgilnmhejjpleaaGreat
open Go.RowKit
attribute [local go_sem ↓] Go.wp_at_zero Go.wp_at_succ
set_option linter.unusedVariables false
set_option linter.unusedSimpArgs false
theorem jvto {P:Prop}(h:P:=by (try dsimp only); exact HK.out.cells):P:=h
def LpX.bare(p:LpX):LpX := { p with m:=0 }
theorem bare_may {p:LpX}(h:MayX p):MayX p.bare:=⟨⟨h.1.1,h.1.2.1,h.1.2.2.1,h.1.2.2.2.1,h.1.2.2.2.2.1,Nat.zero_le _⟩,h.2.1,fun i hi=>absurd hi (Nat.not_lt_zero i),h.2.2.2⟩
theorem bare_lo {p:LpX}(h:MayX p):fulB p.bare p.lo.n p.lo.q=true:=by
 have h1:=h.1
 exact fulB_true.2 ⟨bare_may h,h1.2.2.2.1,fun j hj=>⟨Rat.le_refl,fun ho=>h.2.2.2 j j0i3 ho⟩,fun i hi=>absurd hi (Nat.not_lt_zero i)⟩
theorem bare_hi {p:LpX}(h:MayX p)(hf:fulB p.bare p.hi.n p.hi.q=false) : ∃j,j<p.no∧p.op j=true:=by
 have h1:=h.1
 by_cases hc : ∃j,j<p.no∧p.op j=true
 ·exact hc
 ·refine absurd ⟨bare_may h,h1.2.2.2.2.1,fun j hj=>?_,fun i hi=>absurd hi (Nat.not_lt_zero i)⟩ (fulB_false.1 hf)
  have hj':j<p.no := j0i3
  have ho:p.op j=false:=by
   cases e:p.op j
   ·rfl
   ·exact absurd ⟨j,hj',e⟩ hc
  exact⟨h.2.2.2 j hj' ho,fun _=>Rat.le_refl⟩
theorem LpQ.bare_ {k:Nat} {w:World} {Ac:Option Addr} {cc:Nat} {vr vl vh vo:Value} {p:LpX}(h:LpQ k w (.agg #[.slice Ac p.cost.n cc,vr,vl,vh,vo]) p):LpQ k w (.agg #[.slice Ac p.cost.n cc,.slice none 0 0,vl,vh,vo]) p.bare:=by
 obtain⟨vc',vr',vl',vh',vo',e,h1,h2,h3,h4,h5⟩:=h
 obtain⟨rfl,rfl,rfl,rfl,rfl⟩ : .slice Ac p.cost.n cc=vc'∧vr=vr'∧vl=vl'∧vh=vh'∧vo=vo':=by simpa using e
 exact⟨_,_,_,_,_,rfl,h1,⟨none,0,fun _=>⟨none,0,0,0,⟨false,none,0,0,false,none,0,0⟩⟩,rfl,⟨Nat.le_refl _,fun _=>rfl⟩,Nat.zero_le _,fun i hi=>absurd hi (Nat.not_lt_zero i),fun i hi=>absurd hi (Nat.not_lt_zero i)⟩,h3,h4,h5⟩
theorem LpQ.rows {k:Nat} {w:World} {a b c d e:Value} {p:LpX}(h:LpQ k w (.agg #[a,b,c,d,e]) p):RowN k w a p.cost∧RwsN k w b p.m p.row∧RowN k w c p.lo∧RowN k w d p.hi∧BoolsN w e p.no p.op:=by
 obtain⟨vc,vr,vl,vh,vo,he,h⟩:=h
 obtain⟨rfl,rfl,rfl,rfl,rfl⟩:a=vc∧b=vr∧c=vl∧d=vh∧e=vo:=by simpa using he
 exact h
def Four(w:World)(a b c d:Nat)(A B C D:Array Value):Prop:=Blk w a 26 A∧Blk w b 36 B∧Blk w c 36 C∧Blk w d 26 D
theorem Four.below {w w':World} {a b c d:Nat} {A B C D:Array Value}(h:Four w a b c d A B C D)(hb:Below w.heap.size w w'):Four w' a b c d A B C D:=⟨h.1.below hb,h.2.1.below hb,h.2.2.1.below hb,h.2.2.2.below hb⟩
theorem Four.cells {w:World} {a b c d:Nat} {A0 A1 A2 A3 A4 B0 B1 B2 B3 C0 C1 C2 C3 D0 D1 D2 D3 D4:Value}(h:Four w a b c d #[A0,A1,A2,A3,A4] #[B0,B1,B2,B3] #[C0,C1,C2,C3] #[D0,D1,D2,D3,D4]) :
 w.cell? ⟨a,0,none⟩=some A0∧w.cell? ⟨a,1,none⟩=some A1∧w.cell? ⟨a,2,none⟩=some A2∧w.cell? ⟨a,3,none⟩=some A3∧w.cell? ⟨a,4,none⟩=some A4∧w.cell? ⟨b,0,none⟩=some B0∧w.cell? ⟨b,1,none⟩=some B1∧w.cell? ⟨b,2,none⟩=some B2∧w.cell? ⟨b,3,none⟩=some B3∧w.cell? ⟨c,0,none⟩=some C0∧w.cell? ⟨c,1,none⟩=some C1∧w.cell? ⟨c,2,none⟩=some C2∧w.cell? ⟨c,3,none⟩=some C3∧w.cell? ⟨d,0,none⟩=some D0∧w.cell? ⟨d,1,none⟩=some D1∧w.cell? ⟨d,2,none⟩=some D2∧w.cell? ⟨d,3,none⟩=some D3∧w.cell? ⟨d,4,none⟩=some D4 :=
 ⟨h.1.cell 0,h.1.cell 1,h.1.cell 2,h.1.cell 3,h.1.cell 4,h.2.1.cell 0,h.2.1.cell 1,h.2.1.cell 2,h.2.1.cell 3,h.2.2.1.cell 0,h.2.2.1.cell 1,h.2.2.1.cell 2,h.2.2.1.cell 3,h.2.2.2.cell 0,h.2.2.2.cell 1,h.2.2.2.cell 2,h.2.2.2.cell 3,h.2.2.2.cell 4⟩
theorem dotF_two(f g:Nat→Rat) : ∀n,dotF f (fun i=>g i+1*g i) n=dotF f g n+dotF f g n
 | 0=>(Rat.add_zero 0).symm
 |n+1=>by
  simp only [dotF,dotF_two f g n]
  grind
set_option maxRecDepth 100000 in
set_option maxHeartbeats 2000000 in
theorem any_open {k:Nat} {w:World} {v:Value} {p:LpX}(h:LpQ k w v p) :
 Calls Tryz.prog 33 #[v] w fun e w'=>YesPost w w' e (∃j,j<p.no∧p.op j=true):=by
 obtain⟨Ac,cc,Ar,cr,Al,cl,Ah,ch,Ao,co,rfl,hqc,hqr,hql,hqh,hqo,g1,g2,g3,g4,g5⟩:=h.form
 clear h
 have HOq:=Lib.hid hqo
 clear hqc hqr hql hqh hqo
 go_enter Tryz.func33,Tryz.ntmps33
 go_wp2
 generalize hW:w.alloc (.cells #[.slice Ac p.cost.n cc,.slice Ar p.m cr,.slice Al p.lo.n cl,.slice Ah p.hi.n ch,.slice Ao p.no co] 26)=w1
 have KP:=Lib.hid (show Blk w1 w.heap.size 26 #[.slice Ac p.cost.n cc,.slice Ar p.m cr,.slice Al p.lo.n cl,.slice Ah p.hi.n ch,.slice Ao p.no co] from hW▸Blk.new _ _ rfl _ _)
 have HB:=Lib.hid (show Below w.heap.size w w1 from hW▸below_new _ _)
 clear hW
 obtain⟨k0,k1,k2,k3,k4,kl⟩:=KP.out.use5
 go_loopw [3] (fun v3 wr => ∃ (j:Nat),v3 = .int .i64 (j:Nat)∧j≤p.no∧wr=w1∧∀q,q<j→p.op q=false) (fun v3 _=>p.no - (intOf v3).toNat)
 case atStart=>exact⟨0,rfl,Nat.zero_le _,rfl,fun q hq=>absurd hq j0i3⟩
 case round =>
  obtain⟨j,rfl,hj,hwr,hinv⟩:=hrel
  have hwr':=hwr.symm
  subst hwr'
  clear hwr
  have HI:=Lib.hid hinv
  clear hinv
  by_cases hlt:j<p.no
  ·have hj0:(0:Int)≤(j:Int):=by omega
   have hjk:(j:Int)<(p.no:Int) := j0i3
   obtain⟨od,c0,e1,_,_,hob,hoc⟩:=(HOq.out.below HB.out).at_ hlt
   simp only [Value.slice.injEq] at e1
   obtain⟨rfl,_,rfl⟩:=e1
   cases hop:p.op j
   ·rw [hop] at hoc
    have HOP:=Lib.hid hop
    clear hop
    go_wp2
    go_roundw
    case rel=>exact⟨j+1,by go_num,by omega,by trivial,fun q hq=>by
     by_cases hqj:q=j
     ·subst hqj;exact HOP.out
     ·exact HI.out q j0i3⟩
    case measure=>simp [intOf];omega
   ·rw [hop] at hoc
    have HOP:=Lib.hid hop
    clear hop
    go_wp2
    go_ret
    exact⟨⟨_,rfl,fun _=>⟨j,hlt,HOP.out⟩,fun _=>rfl⟩,HB.out⟩
  ·obtain rfl:j=p.no:=by omega
   go_wp2
   go_ret
   exact⟨⟨_,rfl,fun h => j40t,fun ⟨q,hq,ho⟩=>by rw [HI.out q hq] at ho;cases ho⟩,HB.out⟩
theorem any_open_is {k:Nat} {w:World} {v:Value} {p:LpX}(hr : ∃j,j<p.no∧p.op j=true)(h:LpQ k w v p) :
 Calls Tryz.prog 33 #[v] w fun e w'=>e = .returned (.bool true)∧Below w.heap.size w w':=(any_open h).mono fun e w' ⟨⟨b,e1,h1⟩,h2⟩=>⟨by rw [e1,h1.2 hr],h2⟩
set_option maxRecDepth 100000 in
set_option maxHeartbeats 8000000 in
theorem form_costs {w:World} {v:Value} {D:LpY}(h:LpC w v D)(Ax:Option Addr)(cx nx:Nat)(X:Nat→RatD)(x:Nat→Rat)(hx:RowR w (.slice Ax nx cx) nx X x) :
 Calls Tryz.prog 6 #[v,.slice Ax nx cx] w fun e w'=>e = .returned (.bool true)∧Below w.heap.size w w':=by
 obtain⟨vc,vr,vl,vh,vo,rfl,hc,hr,hl,hh,ho⟩:=h
 obtain⟨Ac,cc,rfl,_,nc0,_⟩:=id hc
 obtain⟨Ar,cr,rfl,_,nm0,hr1,hr2⟩:=id hr
 obtain⟨Al,cl,rfl,_,nl0,_⟩:=id hl
 obtain⟨Ah,ch,rfl,_,nh0,_⟩:=id hh
 obtain⟨Ao,co,rfl,_,no0,ho1⟩:=id ho
 have c_0:=Lib.hid (show LpC w (.agg #[.slice Ac D.cost.n cc,.slice Ar D.m cr,.slice Al D.lo.n cl,.slice Ah D.hi.n ch,.slice Ao D.no co]) D from⟨_,_,_,_,_,rfl,hc,hr,hl,hh,ho⟩)
 clear hc hr hl hh ho hr1 hr2 ho1
 have x_0:=Lib.hid hx
 clear hx
 go_enter Tryz.func6,Tryz.ntmps6
 go_wp2_with fail
 generalize hW:w.alloc (.cells #[.slice Ac D.cost.n cc,.slice Ar D.m cr,.slice Al D.lo.n cl,.slice Ah D.hi.n ch,.slice Ao D.no co] 26)=w1
 have hz_1:=Lib.hid (show w1.heap.size=w.heap.size+1 from j59e)
 have c_1:=Lib.hid (hW▸c_0.out.alloc_ _)
 have x_1:=Lib.hid (hW▸x_0.out.alloc_ _)
 have kp_1:Hid (Blk w1 w.heap.size 26 #[.slice Ac D.cost.n cc,.slice Ar D.m cr,.slice Al D.lo.n cl,.slice Ah D.hi.n ch,.slice Ao D.no co]) := jytn
 have HB_1:=Lib.hid (show Below w.heap.size w w1 from hW▸halloc (Below.refl _ _))
 clear hW c_0 x_0
 refine Calls.mono (awake11 _) ?_
 rintro e w2 ⟨rfl,hb⟩
 have hBw:=(show Below w1.heap.size w1 w2 from jhql)
 have c_2:=Lib.hid (c_1.out.below hBw)
 have x_2:=Lib.hid (x_1.out.below hBw)
 have kp_2:=Lib.hid (kp_1.out.below hBw)
 have HB_2:=Lib.hid (below_trans HB_1.out hBw)
 clear hBw hb c_1 x_1 kp_1 HB_1
 obtain⟨u0,u1,u2,u3,u4,ul⟩:=kp_2.out.use5
 go_wp2_with fail
 refine Calls.mono (rfew11 (N:=4) c_2.out j0i3) ?_
 rintro e w3 ⟨⟨b,rfl,hf⟩,hb⟩
 have hBw:=(show Below w2.heap.size w2 w3 from jhql)
 have c_3:=Lib.hid (c_2.out.below hBw)
 have x_3:=Lib.hid (x_2.out.below hBw)
 have kp_3:=Lib.hid (kp_2.out.below hBw)
 have HB_3:=Lib.hid (below_trans HB_2.out hBw)
 clear hBw hb c_2 x_2 kp_2 HB_2
 clear u0 u1 u2 u3 u4 ul
 cases b
 ·clear hf
  go_wp2
  go_ret
  exact⟨rfl,HB_3.out⟩
 have HF:=Lib.hid (hf rfl)
 clear hf
 have lp_3:=Lib.hid (c_3.out.few HF.out j0i3)
 obtain⟨u0,u1,u2,u3,u4,ul⟩:=kp_3.out.use5
 go_wp2_with fail
 refine Calls.mono (rfew (N:=4) x_3.out j0i3) ?_
 rintro e wq ⟨⟨b,rfl,hf⟩,hw⟩
 have hw':=hw.symm
 subst hw'
 clear hw
 cases b
 ·clear hf
  go_wp2
  go_ret
  exact⟨rfl,HB_3.out⟩
 have HF2:=Lib.hid (hf.1 rfl)
 clear hf
 have xq_3:=Lib.hid (x_3.out.few HF2.out j0i3)
 clear x_3
 go_wp2_with fail
 refine Calls.mono (rMay lp_3.out j0i3 j0i3) ?_
 rintro e w4 ⟨rfl,hb⟩
 have hBw:=(show Below w3.heap.size w3 w4 from jhql)
 have c_4:=Lib.hid (c_3.out.below hBw)
 have kp_4:=Lib.hid (kp_3.out.below hBw)
 have lp_4:=Lib.hid (lp_3.out.below hBw)
 have xq_4:=Lib.hid (xq_3.out.below hBw)
 have HB_4:=Lib.hid (below_trans HB_3.out hBw)
 clear hBw hb c_3 kp_3 lp_3 xq_3 HB_3
 clear u0 u1 u2 u3 u4 ul
 obtain⟨u0,u1,u2,u3,u4,ul⟩:=kp_4.out.use5
 by_cases hm : ¬MayX D.lp
 ·have HMB:=Lib.hid (mayB_false.2 hm)
  rw [HMB.out]
  go_wp2
  go_ret
  exact⟨rfl,HB_4.out⟩
 have hm:=Classical.not_not.1 hm
 have HM:=Lib.hid hm
 clear hm
 rw [mayB_true.2 HM.out]
 by_cases hn:nx≠D.cost.n
 ·have n1:((nx:Int)=(D.cost.n:Int))=False:=eq_false j0i3
  have b1:((nx:Int) == (D.cost.n:Int))=false := jyif
  go_wp2
  go_ret
  exact⟨rfl,HB_4.out⟩
 have n1:((nx:Int)=(D.cost.n:Int))=True:=eq_true j0i3
 have b1:((nx:Int) == (D.cost.n:Int))=true:=by rw [beq_iff_eq];omega
 have hnx:nx=D.cost.n := j0i3
 have HN:=Lib.hid hnx
 clear hn hnx
 go_wp2_with fail
 refine Calls.mono (of11_is law_d1 _ j0i3 j0i3) ?_
 rintro e w5 ⟨v,rfl,h,hb⟩
 obtain⟨b5,A5,n5,c5,d5,B5,m5,k5,rfl,-,-,-,-,-⟩:=id h.form
 have hBw:=(show Below w4.heap.size w4 w5 from jhql)
 have c_5:=Lib.hid (c_4.out.below hBw)
 have kp_5:=Lib.hid (kp_4.out.below hBw)
 have lp_5:=Lib.hid (lp_4.out.below hBw)
 have xq_5:=Lib.hid (xq_4.out.below hBw)
 have one_5:=Lib.hid (h)
 have HB_5:=Lib.hid (below_trans HB_4.out hBw)
 clear hBw hb c_4 kp_4 lp_4 xq_4 HB_4
 clear h u0 u1 u2 u3 u4 ul
 clear n1 b1
 go_wp2_with fail
 refine Calls.mono (raddTimes (K:=4) xq_5.out xq_5.out (one_5.out.limQ bq1) j0i3 j0i3 j0i3 j0i3 j0i3 j0i3 j0i3) ?_
 rintro e w6 ⟨v6,rfl,h,hb⟩
 obtain⟨Az,cz,rfl,_,_⟩:=h.rowQ.len
 have hBw:=(show Below w5.heap.size w5 w6 from jhql)
 have c_6:=Lib.hid (c_5.out.below hBw)
 have kp_6:=Lib.hid (kp_5.out.below hBw)
 have lp_6:=Lib.hid (lp_5.out.below hBw)
 have xq_6:=Lib.hid (xq_5.out.below hBw)
 have two_6:=Lib.hid (h.rowQ)
 have HB_6:=Lib.hid (below_trans HB_5.out hBw)
 clear hBw hb c_5 kp_5 lp_5 xq_5 one_5 HB_5
 clear h
 obtain⟨u0,u1,u2,u3,u4,ul⟩:=kp_6.out.use5
 go_wp2_with fail
 refine Calls.mono (pcost_c lp_6.out xq_6.out j0i3 j0i3 j0i3 j0i3 HM.out HN.out) ?_
 rintro e w7 ⟨v,rfl,h,hb⟩
 obtain⟨b7,A7,n7,c7,d7,B7,m7,k7,rfl,-,-,-,-,-⟩:=id h.form
 have hBw:=(show Below w6.heap.size w6 w7 from jhql)
 have c_7:=Lib.hid (c_6.out.below hBw)
 have kp_7:=Lib.hid (kp_6.out.below hBw)
 have lp_7:=Lib.hid (lp_6.out.below hBw)
 have xq_7:=Lib.hid (xq_6.out.below hBw)
 have two_7:=Lib.hid (two_6.out.below hBw)
 have cc_7:=Lib.hid (h)
 have HB_7:=Lib.hid (below_trans HB_6.out hBw)
 clear hBw hb c_6 kp_6 lp_6 xq_6 two_6 HB_6
 clear h u0 u1 u2 u3 u4 ul
 obtain⟨u0,u1,u2,u3,u4,ul⟩:=kp_7.out.use5
 go_wp2_with fail
 generalize hW:w7.alloc (.cells #[.bool b7,.slice A7 n7 c7,.bool d7,.slice B7 m7 k7] 36)=w8
 have hz_8:=Lib.hid (show w8.heap.size=w7.heap.size+1 from j59e)
 have c_8:=Lib.hid (hW▸c_7.out.alloc_ _)
 have kp_8:=Lib.hid (hW▸kp_7.out.alloc_ _)
 have lp_8:=Lib.hid (hW▸lp_7.out.alloc_ _)
 have xq_8:=Lib.hid (hW▸xq_7.out.alloc_ _)
 have two_8:=Lib.hid (hW▸two_7.out.alloc_ _)
 have cc_8:=Lib.hid (hW▸cc_7.out.alloc_ _)
 have k7_8:Hid (Blk w8 w7.heap.size 36 #[.bool b7,.slice A7 n7 c7,.bool d7,.slice B7 m7 k7]) := jytn
 have HB_8:=Lib.hid (show Below w.heap.size w w8 from hW▸halloc HB_7.out)
 clear hW c_7 kp_7 lp_7 xq_7 two_7 cc_7 HB_7
 refine Calls.mono (pcost_c lp_8.out two_8.out j0i3 j0i3 j0i3 j0i3 HM.out HN.out) ?_
 rintro e w9 ⟨v,rfl,h,hb⟩
 obtain⟨b9,A9,n9,c9,d9,B9,m9,k9,rfl,-,-,-,-,-⟩:=id h.form
 have hBw:=(show Below w8.heap.size w8 w9 from jhql)
 have c_9:=Lib.hid (c_8.out.below hBw)
 have kp_9:=Lib.hid (kp_8.out.below hBw)
 have lp_9:=Lib.hid (lp_8.out.below hBw)
 have xq_9:=Lib.hid (xq_8.out.below hBw)
 have cc_9:=Lib.hid (cc_8.out.below hBw)
 have k7_9:=Lib.hid (k7_8.out.below hBw)
 have dd_9:=Lib.hid (h)
 have HB_9:=Lib.hid (below_trans HB_8.out hBw)
 clear hBw hb c_8 kp_8 lp_8 xq_8 two_8 cc_8 k7_8 HB_8
 clear h u0 u1 u2 u3 u4 ul
 obtain⟨u0,u1,u2,u3,u4,ul⟩:=kp_9.out.use5
 go_upto_region 9 with fail
 generalize hW:w9.alloc (.cells #[.bool b9,.slice A9 n9 c9,.bool d9,.slice B9 m9 k9] 36)=w10
 have hz_10:=Lib.hid (show w10.heap.size=w9.heap.size+1 from j59e)
 have c_10:=Lib.hid (hW▸c_9.out.alloc_ _)
 have kp_10:=Lib.hid (hW▸kp_9.out.alloc_ _)
 have lp_10:=Lib.hid (hW▸lp_9.out.alloc_ _)
 have xq_10:=Lib.hid (hW▸xq_9.out.alloc_ _)
 have cc_10:=Lib.hid (hW▸cc_9.out.alloc_ _)
 have k7_10:=Lib.hid (hW▸k7_9.out.alloc_ _)
 have dd_10:=Lib.hid (hW▸dd_9.out.alloc_ _)
 have k9_10:Hid (Blk w10 w9.heap.size 36 #[.bool b9,.slice A9 n9 c9,.bool d9,.slice B9 m9 k9]) := jytn
 have HB_10:=Lib.hid (show Below w.heap.size w w10 from hW▸halloc HB_9.out)
 clear hW c_9 kp_9 lp_9 xq_9 cc_9 k7_9 dd_9 HB_9
 generalize hW:w10.alloc (.cells #[.slice Ac D.cost.n cc,.slice Ar D.m cr,.slice Al D.lo.n cl,.slice Ah D.hi.n ch,.slice Ao D.no co] 26)=wc
 have K11:=Lib.hid (show Blk wc (w9.heap.size+1) 26 #[.slice Ac D.cost.n cc,.slice Ar D.m cr,.slice Al D.lo.n cl,.slice Ah D.hi.n ch,.slice Ao D.no co] from hW▸Blk.new _ _ (by have:=hz_10.out;omega) _ _)
 have HBc:=Lib.hid (show Below w10.heap.size w10 wc from hW▸below_new _ _)
 clear hW
 obtain⟨y0,y1,y2,y3,y4,yl⟩:=K11.out.use5
 have fr:=K11.out.frozen 1
 go_upto_region 10 with fail
 generalize hW:wc.setCell ⟨w9.heap.size+1,1,none⟩ (.slice none 0 0)=w11
 have K11':=Lib.hid (show Blk w11 (w9.heap.size+1) 26 #[.slice Ac D.cost.n cc,.slice none 0 0,.slice Al D.lo.n cl,.slice Ah D.hi.n ch,.slice Ao D.no co] from hW▸K11.out.set_ 1 _)
 have hb:=(show Below w10.heap.size w10 w11 from hW▸HBc.out.setCell (by have:=hz_10.out;show w10.heap.size≤w9.heap.size+1;omega) _)
 clear hW HBc K11 y0 y1 y2 y3 y4 yl fr
 have hBw:=(show Below w10.heap.size w10 w11 from jhql)
 have c_11:=Lib.hid (c_10.out.below hBw)
 have kp_11:=Lib.hid (kp_10.out.below hBw)
 have lp_11:=Lib.hid (lp_10.out.below hBw)
 have xq_11:=Lib.hid (xq_10.out.below hBw)
 have cc_11:=Lib.hid (cc_10.out.below hBw)
 have k7_11:=Lib.hid (k7_10.out.below hBw)
 have dd_11:=Lib.hid (dd_10.out.below hBw)
 have k9_11:=Lib.hid (k9_10.out.below hBw)
 have k11_11:=Lib.hid (K11'.out)
 have HB_11:=Lib.hid (below_trans HB_10.out hBw)
 clear hBw hb c_10 kp_10 lp_10 xq_10 cc_10 k7_10 dd_10 k9_10 HB_10
 clear K11'
 have HK:=Lib.hid (show Four w11 w.heap.size (w7.heap.size) (w9.heap.size) (w9.heap.size+1) #[.slice Ac D.cost.n cc,.slice Ar D.m cr,.slice Al D.lo.n cl,.slice Ah D.hi.n ch,.slice Ao D.no co] #[.bool b7,.slice A7 n7 c7,.bool d7,.slice B7 m7 k7] #[.bool b9,.slice A9 n9 c9,.bool d9,.slice B9 m9 k9] #[.slice Ac D.cost.n cc,.slice none 0 0,.slice Al D.lo.n cl,.slice Ah D.hi.n ch,.slice Ao D.no co] from⟨kp_11.out,k7_11.out,k9_11.out,k11_11.out⟩)
 have hq0:BQ 73 (dotF D.lp.cost.q x nx):=by
  have h0:=lp_11.out.rows.1
  have hle:D.lp.cost.n≤nx:=Nat.le_of_eq HN.out.symm
  exact row_dot h0.rowQ xq_11.out hle j0i3 j0i3 HM.out.1.2.1 nx (Nat.le_of_eq HN.out)
 have HC:=Lib.hid (cc_11.out.limQ hq0)
 have HQ:=Lib.hid (hq0.add hq0 (Nat.le_refl 147))
 have HD:=Lib.hid (show IsRat w11 (.agg #[.bool b9,.slice A9 n9 c9,.bool d9,.slice B9 m9 k9]) (dotF D.lp.cost.q x nx+dotF D.lp.cost.q x nx) from dotF_two _ _ nx▸dd_11.out)
 have HL:=Lib.hid lp_11.out
 have HB:=Lib.hid HB_11.out
 clear hq0 cc_11 dd_11 lp_11 kp_11 k7_11 k9_11 k11_11 xq_11 c_11 HB_11 u0 u1 u2 u3 u4 ul
 cases hF:fulB D.lp.bare D.lp.hi.n D.lp.hi.q
 ·refine wp_region_held_drew (S:=(fun w'=>w'.cell? ⟨w.heap.size,0,none⟩=some (.slice Ac D.cost.n cc)∧w'.cell? ⟨w.heap.size,1,none⟩=some (.slice Ar D.m cr)∧w'.cell? ⟨w.heap.size,2,none⟩=some (.slice Al D.lo.n cl)∧w'.cell? ⟨w.heap.size,3,none⟩=some (.slice Ah D.hi.n ch)∧w'.cell? ⟨w.heap.size,4,none⟩=some (.slice Ao D.no co)∧w'.cell? ⟨w7.heap.size,0,none⟩=some (.bool b7)∧w'.cell? ⟨w7.heap.size,1,none⟩=some (.slice A7 n7 c7)∧w'.cell? ⟨w7.heap.size,2,none⟩=some (.bool d7)∧w'.cell? ⟨w7.heap.size,3,none⟩=some (.slice B7 m7 k7)∧w'.cell? ⟨w9.heap.size,0,none⟩=some (.bool b9)∧w'.cell? ⟨w9.heap.size,1,none⟩=some (.slice A9 n9 c9)∧w'.cell? ⟨w9.heap.size,2,none⟩=some (.bool d9)∧w'.cell? ⟨w9.heap.size,3,none⟩=some (.slice B9 m9 k9)∧w'.cell? ⟨(w9.heap.size+1),0,none⟩=some (.slice Ac D.cost.n cc)∧w'.cell? ⟨(w9.heap.size+1),1,none⟩=some (.slice none 0 0)∧w'.cell? ⟨(w9.heap.size+1),2,none⟩=some (.slice Al D.lo.n cl)∧w'.cell? ⟨(w9.heap.size+1),3,none⟩=some (.slice Ah D.hi.n ch)∧w'.cell? ⟨(w9.heap.size+1),4,none⟩=some (.slice Ao D.no co))) jo0f (by exact HK.out.cells) (fun hHeld=>?_)
  refine jtk 0 ?_
  refine jtk 1 ?_
  refine jtk 2 ?_
  refine jtk 3 ?_
  refine jtk 4 ?_
  refine jtk 5 ?_
  refine jtk 6 ?_
  refine jtk 7 ?_
  refine jrd 8 fun Kz hKz=>?_
  go_simp
  refine Calls.mono (radd_q HC.out.drew_ HC.out.drew_ j0i3 j0i3 j0i3 j0i3) ?_;rintro e w12 ⟨vs,rfl,hs,hb⟩;have hBw:=(show Below w11.heap.size w11 w12 from jhql);have HK:=Lib.hid (HK.out.below hBw);have HD:=Lib.hid (HD.out.below hBw);have HL:=Lib.hid (HL.out.below hBw);have HB:=Lib.hid (below_trans HB.out hBw);have HS:=Lib.hid hs;clear hs;clear hb hBw
  refine hKz.out _ _ jvto (fun hHeld=>?_)
  clear hKz Kz
  refine jsp ?_
  refine jrd 9 fun Kz hKz=>?_
  go_simp
  refine Calls.mono (rat_same HD.out HS.out HQ.out j0i3) ?_;rintro e w13 ⟨rfl,hb⟩;have hBw:=(show Below w12.heap.size w12 w13 from jhql);have HK:=Lib.hid (HK.out.below hBw);have HD:=Lib.hid (HD.out.below hBw);have HL:=Lib.hid (HL.out.below hBw);have HB:=Lib.hid (below_trans HB.out hBw);clear hb hBw
  refine hKz.out _ _ jvto (fun hHeld=>?_)
  clear hKz Kz
  refine jsp ?_
  refine jtk 10 ?_
  refine jtk 11 ?_
  refine jtk 12 ?_
  refine jtk 13 ?_
  refine jtk 14 ?_
  refine jrd 15 fun Kz hKz=>?_
  go_simp
  refine Calls.mono (pful_is (k:=1) (l:=1) (bare_lo HM.out) (LpQ.bare_ (p:=D.lp) HL.out) HL.out.rows.2.2.1.rowQ j0i3 j0i3 j0i3 j0i3) ?_;rintro e w14 ⟨rfl,hb⟩;have hBw:=(show Below w13.heap.size w13 w14 from jhql);have HK:=Lib.hid (HK.out.below hBw);have HD:=Lib.hid (HD.out.below hBw);have HL:=Lib.hid (HL.out.below hBw);have HB:=Lib.hid (below_trans HB.out hBw);clear hb hBw
  refine hKz.out _ _ jvto (fun hHeld=>?_)
  clear hKz Kz
  refine jsp ?_
  refine jtk 16 ?_
  refine jtk 17 ?_
  refine jtk 18 ?_
  refine jtk 19 ?_
  refine jtk 20 ?_
  refine jrd 21 fun Kz hKz=>?_
  go_simp
  refine Calls.mono (pful_is (k:=1) (l:=1) hF (LpQ.bare_ (p:=D.lp) HL.out) HL.out.rows.2.2.2.1.rowQ j0i3 j0i3 j0i3 j0i3) ?_;rintro e w15 ⟨rfl,hb⟩;have hBw:=(show Below w14.heap.size w14 w15 from jhql);have HK:=Lib.hid (HK.out.below hBw);have HD:=Lib.hid (HD.out.below hBw);have HL:=Lib.hid (HL.out.below hBw);have HB:=Lib.hid (below_trans HB.out hBw);clear hb hBw
  refine hKz.out _ _ jvto (fun hHeld=>?_)
  clear hKz Kz
  refine jsp ?_
  refine jtk 22 ?_
  refine jtk 23 ?_
  refine jrd 24 fun Kz hKz=>?_
  go_simp
  refine Calls.mono (any_open_is (bare_hi HM.out hF) HL.out) ?_;rintro e w16 ⟨rfl,hb⟩;have hBw:=(show Below w15.heap.size w15 w16 from jhql);have HK:=Lib.hid (HK.out.below hBw);have HD:=Lib.hid (HD.out.below hBw);have HL:=Lib.hid (HL.out.below hBw);have HB:=Lib.hid (below_trans HB.out hBw);clear hb hBw
  refine hKz.out _ _ jvto (fun hHeld=>?_)
  clear hKz Kz
  refine jsp ?_
  refine jtk 25 ?_
  refine jtk 26 ?_
  refine jtk 27 ?_
  refine wpAnyH_done jo0f ?_ _
  go_wp2
  go_ret
  exact⟨rfl,HB.out⟩
 ·refine wp_region_held_drew (S:=(fun w'=>w'.cell? ⟨w.heap.size,0,none⟩=some (.slice Ac D.cost.n cc)∧w'.cell? ⟨w.heap.size,1,none⟩=some (.slice Ar D.m cr)∧w'.cell? ⟨w.heap.size,2,none⟩=some (.slice Al D.lo.n cl)∧w'.cell? ⟨w.heap.size,3,none⟩=some (.slice Ah D.hi.n ch)∧w'.cell? ⟨w.heap.size,4,none⟩=some (.slice Ao D.no co)∧w'.cell? ⟨w7.heap.size,0,none⟩=some (.bool b7)∧w'.cell? ⟨w7.heap.size,1,none⟩=some (.slice A7 n7 c7)∧w'.cell? ⟨w7.heap.size,2,none⟩=some (.bool d7)∧w'.cell? ⟨w7.heap.size,3,none⟩=some (.slice B7 m7 k7)∧w'.cell? ⟨w9.heap.size,0,none⟩=some (.bool b9)∧w'.cell? ⟨w9.heap.size,1,none⟩=some (.slice A9 n9 c9)∧w'.cell? ⟨w9.heap.size,2,none⟩=some (.bool d9)∧w'.cell? ⟨w9.heap.size,3,none⟩=some (.slice B9 m9 k9)∧w'.cell? ⟨(w9.heap.size+1),0,none⟩=some (.slice Ac D.cost.n cc)∧w'.cell? ⟨(w9.heap.size+1),1,none⟩=some (.slice none 0 0)∧w'.cell? ⟨(w9.heap.size+1),2,none⟩=some (.slice Al D.lo.n cl)∧w'.cell? ⟨(w9.heap.size+1),3,none⟩=some (.slice Ah D.hi.n ch)∧w'.cell? ⟨(w9.heap.size+1),4,none⟩=some (.slice Ao D.no co))) jo0f (by exact HK.out.cells) (fun hHeld=>?_)
  refine jtk 0 ?_
  refine jtk 1 ?_
  refine jtk 2 ?_
  refine jtk 3 ?_
  refine jtk 4 ?_
  refine jtk 5 ?_
  refine jtk 6 ?_
  refine jtk 7 ?_
  refine jrd 8 fun Kz hKz=>?_
  go_simp
  refine Calls.mono (radd_q HC.out.drew_ HC.out.drew_ j0i3 j0i3 j0i3 j0i3) ?_;rintro e w12 ⟨vs,rfl,hs,hb⟩;have hBw:=(show Below w11.heap.size w11 w12 from jhql);have HK:=Lib.hid (HK.out.below hBw);have HD:=Lib.hid (HD.out.below hBw);have HL:=Lib.hid (HL.out.below hBw);have HB:=Lib.hid (below_trans HB.out hBw);have HS:=Lib.hid hs;clear hs;clear hb hBw
  refine hKz.out _ _ jvto (fun hHeld=>?_)
  clear hKz Kz
  refine jsp ?_
  refine jrd 9 fun Kz hKz=>?_
  go_simp
  refine Calls.mono (rat_same HD.out HS.out HQ.out j0i3) ?_;rintro e w13 ⟨rfl,hb⟩;have hBw:=(show Below w12.heap.size w12 w13 from jhql);have HK:=Lib.hid (HK.out.below hBw);have HD:=Lib.hid (HD.out.below hBw);have HL:=Lib.hid (HL.out.below hBw);have HB:=Lib.hid (below_trans HB.out hBw);clear hb hBw
  refine hKz.out _ _ jvto (fun hHeld=>?_)
  clear hKz Kz
  refine jsp ?_
  refine jtk 10 ?_
  refine jtk 11 ?_
  refine jtk 12 ?_
  refine jtk 13 ?_
  refine jtk 14 ?_
  refine jrd 15 fun Kz hKz=>?_
  go_simp
  refine Calls.mono (pful_is (k:=1) (l:=1) (bare_lo HM.out) (LpQ.bare_ (p:=D.lp) HL.out) HL.out.rows.2.2.1.rowQ j0i3 j0i3 j0i3 j0i3) ?_;rintro e w14 ⟨rfl,hb⟩;have hBw:=(show Below w13.heap.size w13 w14 from jhql);have HK:=Lib.hid (HK.out.below hBw);have HD:=Lib.hid (HD.out.below hBw);have HL:=Lib.hid (HL.out.below hBw);have HB:=Lib.hid (below_trans HB.out hBw);clear hb hBw
  refine hKz.out _ _ jvto (fun hHeld=>?_)
  clear hKz Kz
  refine jsp ?_
  refine jtk 16 ?_
  refine jtk 17 ?_
  refine jtk 18 ?_
  refine jtk 19 ?_
  refine jtk 20 ?_
  refine jrd 21 fun Kz hKz=>?_
  go_simp
  refine Calls.mono (pful_is (k:=1) (l:=1) hF (LpQ.bare_ (p:=D.lp) HL.out) HL.out.rows.2.2.2.1.rowQ j0i3 j0i3 j0i3 j0i3) ?_;rintro e w15 ⟨rfl,hb⟩;have hBw:=(show Below w14.heap.size w14 w15 from jhql);have HK:=Lib.hid (HK.out.below hBw);have HD:=Lib.hid (HD.out.below hBw);have HL:=Lib.hid (HL.out.below hBw);have HB:=Lib.hid (below_trans HB.out hBw);clear hb hBw
  refine hKz.out _ _ jvto (fun hHeld=>?_)
  clear hKz Kz
  refine jsp ?_
  refine jtk 22 ?_
  refine jsk 23 ?_
  refine jsk 24 ?_
  refine jtk 25 ?_
  refine jtk 26 ?_
  refine jtk 27 ?_
  refine wpAnyH_done jo0f ?_ _
  go_wp2
  go_ret
  exact⟨rfl,HB.out⟩
end Go.Proofs.YtgilnmhejjpleaaGreat
namespace Go.Proofs.YtgilnmhejjpleaaGreat
open Go.RowKit
set_option maxRecDepth 100000
theorem lp_openC {H:Type} {enc:TypeId × Value→H} {W:World} {base b0:Nat} {held:Bool} {r:Reach} {v:Value} {d:DataW H} {p:List MemPlace}(hv:Value.okWide Tryz.prog W r b0 26 v)(h:DataW.Trod enc Tryz.prog W base (fun _=>true) held 26 v d p) : ∃D,LpC W v D:=by
 obtain⟨vc,vr,vl,vh,vo,nc,Xc,ac,bc,m,Y,X,a,b,ha,hb,nl,Xl,al,bl,nh,Xh,ah,bh,no,f,e,h1,h2,h3,h4,h5⟩:=lp_open hv h
 exact⟨⟨⟨nc,Xc,ac,bc⟩,m,Y,X,a,b,ha,hb,⟨nl,Xl,al,bl⟩,⟨nh,Xh,ah,bh⟩,no,f⟩,vc,vr,vl,vh,vo,e,h1,h2,h3,h4,h5⟩
end Go.Proofs.YtgilnmhejjpleaaGreat
