/- Contracts of prob: Cost, Right. -/
import Derived.Test.YtgilnmhejjpleaaGreatPFg
namespace Go.Proofs.YtgilnmhejjpleaaGreat
open Go.RowKit
attribute [local go_sem ↓] Go.wp_at_zero Go.wp_at_succ
set_option linter.unusedVariables false
set_option linter.unusedSimpArgs false
theorem jrcj {P:Prop}(h:P:=by simp [results, Tryz.results22, go_sem, e0, e1, e2, e3] <;> omega):P:=h
open Classical in
noncomputable def costB(p:LpX)(n:Nat):Bool:=decide (MayX p∧n=p.cost.n)
open Classical in
noncomputable def costQ(p:LpX)(n:Nat)(x:Nat→Rat):Rat:=if MayX p∧n=p.cost.n then dotF p.cost.q x n else 0
theorem costB_true {p:LpX} {n:Nat} : costB p n=true↔MayX p∧n=p.cost.n:=by simp [costB]
theorem costB_false {p:LpX} {n:Nat} : costB p n=false↔¬ (MayX p∧n=p.cost.n):=by simp [costB]
def NumPost(w w':World)(e:Ending)(q:Rat)(b:Bool):Prop := ∃v,e = .returned (.tuple #[v,.bool b])∧IsRat w' v q∧Below w.heap.size w w'
set_option maxRecDepth 100000 in
set_option maxHeartbeats 1000000 in
theorem pcost_a {pl:Bool} {k l nx:Nat} {w:World} {v vx:Value} {p:LpX} {x:Nat→Rat}(h:LpQ k w v p)(hx:RowQ pl l w vx nx x)(hk:k≤300)(h1:1≤k)(hl:l≤300)(h2:1≤l)(hm : ¬MayX p) :
 Calls Tryz.prog 22 #[v,vx] w fun e w'=>NumPost w w' e 0 false:=by
 have HM:=Lib.hid (mayB_false.2 hm)
 clear hm
 obtain⟨Ac,cc,Ar,cr,Al,cl,Ah,ch,Ao,co,rfl,hqc,hqr,hql,hqh,hqo,g1,g2,g3,g4,g5⟩:=h.form
 clear h
 obtain⟨Ax,cx,rfl,hcx,gx⟩:=hx.len
 have p_0:=Lib.hid (show LpQ k w (.agg #[.slice Ac p.cost.n cc,.slice Ar p.m cr,.slice Al p.lo.n cl,.slice Ah p.hi.n ch,.slice Ao p.no co]) p from⟨_,_,_,_,_,rfl,hqc,hqr,hql,hqh,hqo⟩)
 have c_0:=Lib.hid hqc.rowQ
 have x_0:=Lib.hid hx
 clear hqc hqr hql hqh hqo hx
 go_enter Tryz.func22,Tryz.ntmps22
 go_wp2_with fail
 refine Calls.mono (pMay_is (r:=false) HM.out ((p_0.out.alloc_ _).alloc_ _) j0i3 h1) ?_
 rintro e w1 ⟨rfl,hb⟩
 have hB:=bun (bun (hb))
 have p_1:=Lib.hid (p_0.out.below hB)
 have x_1:=Lib.hid (x_0.out.below hB)
 have c_1:=Lib.hid (c_0.out.below hB)
 have Kp_1:=Lib.hid (show Blk w1 (w.heap.size) 26 #[.slice Ac p.cost.n cc,.slice Ar p.m cr,.slice Al p.lo.n cl,.slice Ah p.hi.n ch,.slice Ao p.no co] from((Blk.new _ _ jupy _ _).alloc_ _).below hb)
 have Kr_1:=Lib.hid (show Blk w1 (w.heap.size+1) 36 #[.bool false,.slice none 0 0,.bool false,.slice none 0 0] from(Blk.new _ _ jupy _ _).below hb)
 have HB_1:=Lib.hid (hB)
 have hs_1:w.heap.size≤w1.heap.size:=HB_1.out.size
 have hz_1:w.heap.size+2≤w1.heap.size := jrv7
 clear hB hb p_0 x_0 c_0
 obtain⟨p10,p11,p12,p13,p14,l1⟩:=Kp_1.out.use5
 go_wp2_with fail
 refine Calls.mono (pzero _) ?_
 rintro e w2 ⟨v,rfl,h,hb⟩
 obtain⟨b2,A2,n2,c2,d2,B2,m2,k2,rfl,-,-,-,h1,h2⟩:=h.form
 have hB:=hb
 have Kp_2:=Lib.hid (Kp_1.out.below hB)
 have Kr_2:=Lib.hid (Kr_1.out.below hB)
 have z_2:=Lib.hid (h1)
 have z2_2:=Lib.hid (h2)
 have HB_2:=Lib.hid (below_trans HB_1.out hB)
 have hs_2:w.heap.size≤w2.heap.size:=HB_2.out.size
 have hz_2:w1.heap.size+0≤w2.heap.size := jrv7
 clear hB hb p_1 x_1 c_1 Kp_1 Kr_1 HB_1 p10 p11 p12 p13 p14 l1
 obtain⟨p20,p21,p22,p23,l2⟩:=Kr_2.out.use4
 obtain⟨r20,r21,r22,r23⟩:=Kr_2.out.into4
 go_wp2
 obtain⟨WF,hWF⟩ : ∃W,W=((((w2.setCell ⟨w.heap.size+1,0,none⟩ (.bool b2)).setCell ⟨w.heap.size+1,1,none⟩ (.slice A2 n2 c2)).setCell ⟨w.heap.size+1,2,none⟩ (.bool d2)).setCell ⟨w.heap.size+1,3,none⟩ (.slice B2 m2 k2)):=⟨_,rfl⟩
 rw [← hWF]
 have kq:Blk WF (w.heap.size+1) 36 #[.bool b2,.slice A2 n2 c2,.bool d2,.slice B2 m2 k2] := jwxb
 have hBF:Below w.heap.size w WF:=by rw [hWF];exact Below.set4 (HB_2.out) jvm6
 have f1:IsInt WF (.agg #[.bool b2,.slice A2 n2 c2]) ((0:Rat)).num := j5jq
 have f2:IsInt WF (.agg #[.bool d2,.slice B2 m2 k2]) (((0:Rat)).den:Int) := jdkc
 have HE:Hid (NumPost w WF (Ending.returned (.tuple #[.agg #[.bool b2,.slice A2 n2 c2,.bool d2,.slice B2 m2 k2],.bool false])) 0 false):=⟨_,rfl,⟨_,_,_,_,rfl,f1,f2⟩,hBF⟩
 obtain⟨e0,e1,e2,e3⟩:=kq.cells4
 clear hWF
 exact bodyPost_ret (v := .tuple #[.agg #[.bool b2,.slice A2 n2 c2,.bool d2,.slice B2 m2 k2],.bool false]) jrcj rfl HE.out
set_option maxRecDepth 100000 in
set_option maxHeartbeats 1000000 in
theorem pcost_b {pl:Bool} {k l nx:Nat} {w:World} {v vx:Value} {p:LpX} {x:Nat→Rat}(h:LpQ k w v p)(hx:RowQ pl l w vx nx x)(hk:k≤300)(h1:1≤k)(hl:l≤300)(h2:1≤l)(hm:MayX p)(hn:nx≠p.cost.n) :
 Calls Tryz.prog 22 #[v,vx] w fun e w'=>NumPost w w' e 0 false:=by
 have HM:=Lib.hid (mayB_true.2 hm)
 clear hm
 obtain⟨Ac,cc,Ar,cr,Al,cl,Ah,ch,Ao,co,rfl,hqc,hqr,hql,hqh,hqo,g1,g2,g3,g4,g5⟩:=h.form
 clear h
 obtain⟨Ax,cx,rfl,hcx,gx⟩:=hx.len
 have p_0:=Lib.hid (show LpQ k w (.agg #[.slice Ac p.cost.n cc,.slice Ar p.m cr,.slice Al p.lo.n cl,.slice Ah p.hi.n ch,.slice Ao p.no co]) p from⟨_,_,_,_,_,rfl,hqc,hqr,hql,hqh,hqo⟩)
 have c_0:=Lib.hid hqc.rowQ
 have x_0:=Lib.hid hx
 clear hqc hqr hql hqh hqo hx
 go_enter Tryz.func22,Tryz.ntmps22
 go_wp2_with fail
 refine Calls.mono (pMay_is (r:=true) HM.out ((p_0.out.alloc_ _).alloc_ _) j0i3 h1) ?_
 rintro e w1 ⟨rfl,hb⟩
 have hB:=bun (bun (hb))
 have p_1:=Lib.hid (p_0.out.below hB)
 have x_1:=Lib.hid (x_0.out.below hB)
 have c_1:=Lib.hid (c_0.out.below hB)
 have Kp_1:=Lib.hid (show Blk w1 (w.heap.size) 26 #[.slice Ac p.cost.n cc,.slice Ar p.m cr,.slice Al p.lo.n cl,.slice Ah p.hi.n ch,.slice Ao p.no co] from((Blk.new _ _ jupy _ _).alloc_ _).below hb)
 have Kr_1:=Lib.hid (show Blk w1 (w.heap.size+1) 36 #[.bool false,.slice none 0 0,.bool false,.slice none 0 0] from(Blk.new _ _ jupy _ _).below hb)
 have HB_1:=Lib.hid (hB)
 have hs_1:w.heap.size≤w1.heap.size:=HB_1.out.size
 have hz_1:w.heap.size+2≤w1.heap.size := jrv7
 clear hB hb p_0 x_0 c_0
 obtain⟨p10,p11,p12,p13,p14,l1⟩:=Kp_1.out.use5
 go_wp2_with fail
 refine Calls.mono (ldot_no g1 gx (fun e=>hn e.symm)) ?_
 rintro e w2 ⟨v,rfl,h,hb⟩
 obtain⟨b2,A2,n2,c2,d2,B2,m2,k2,rfl,-,-,-,h1,h2⟩:=h.form
 have hB:=hb
 have Kp_2:=Lib.hid (Kp_1.out.below hB)
 have Kr_2:=Lib.hid (Kr_1.out.below hB)
 have z_2:=Lib.hid (h1)
 have z2_2:=Lib.hid (h2)
 have HB_2:=Lib.hid (below_trans HB_1.out hB)
 have hs_2:w.heap.size≤w2.heap.size:=HB_2.out.size
 have hz_2:w1.heap.size+0≤w2.heap.size := jrv7
 clear hB hb p_1 x_1 c_1 Kp_1 Kr_1 HB_1 p10 p11 p12 p13 p14 l1
 obtain⟨p20,p21,p22,p23,l2⟩:=Kr_2.out.use4
 obtain⟨r20,r21,r22,r23⟩:=Kr_2.out.into4
 go_wp2
 obtain⟨WF,hWF⟩ : ∃W,W=((((w2.setCell ⟨w.heap.size+1,0,none⟩ (.bool b2)).setCell ⟨w.heap.size+1,1,none⟩ (.slice A2 n2 c2)).setCell ⟨w.heap.size+1,2,none⟩ (.bool d2)).setCell ⟨w.heap.size+1,3,none⟩ (.slice B2 m2 k2)):=⟨_,rfl⟩
 rw [← hWF]
 have kq:Blk WF (w.heap.size+1) 36 #[.bool b2,.slice A2 n2 c2,.bool d2,.slice B2 m2 k2] := jwxb
 have hBF:Below w.heap.size w WF:=by rw [hWF];exact Below.set4 (HB_2.out) jvm6
 have f1:IsInt WF (.agg #[.bool b2,.slice A2 n2 c2]) ((0:Rat)).num := j5jq
 have f2:IsInt WF (.agg #[.bool d2,.slice B2 m2 k2]) (((0:Rat)).den:Int) := jdkc
 have HE:Hid (NumPost w WF (Ending.returned (.tuple #[.agg #[.bool b2,.slice A2 n2 c2,.bool d2,.slice B2 m2 k2],.bool false])) 0 false):=⟨_,rfl,⟨_,_,_,_,rfl,f1,f2⟩,hBF⟩
 obtain⟨e0,e1,e2,e3⟩:=kq.cells4
 clear hWF
 exact bodyPost_ret (v := .tuple #[.agg #[.bool b2,.slice A2 n2 c2,.bool d2,.slice B2 m2 k2],.bool false]) jrcj rfl HE.out
set_option maxRecDepth 100000 in
set_option maxHeartbeats 1000000 in
theorem pcost_c {pl:Bool} {k l nx:Nat} {w:World} {v vx:Value} {p:LpX} {x:Nat→Rat}(h:LpQ k w v p)(hx:RowQ pl l w vx nx x)(hk:k≤300)(h1:1≤k)(hl:l≤300)(h2:1≤l)(hm:MayX p)(hn:nx=p.cost.n) :
 Calls Tryz.prog 22 #[v,vx] w fun e w'=>NumPost w w' e (dotF p.cost.q x nx) true:=by
 have HM:=Lib.hid (mayB_true.2 hm)
 have hn24:p.cost.n≤24:=hm.1.2.1
 clear hm
 obtain⟨Ac,cc,Ar,cr,Al,cl,Ah,ch,Ao,co,rfl,hqc,hqr,hql,hqh,hqo,g1,g2,g3,g4,g5⟩:=h.form
 clear h
 obtain⟨Ax,cx,rfl,hcx,gx⟩:=hx.len
 have p_0:=Lib.hid (show LpQ k w (.agg #[.slice Ac p.cost.n cc,.slice Ar p.m cr,.slice Al p.lo.n cl,.slice Ah p.hi.n ch,.slice Ao p.no co]) p from⟨_,_,_,_,_,rfl,hqc,hqr,hql,hqh,hqo⟩)
 have c_0:=Lib.hid hqc.rowQ
 have HKB:=Lib.hid (row_dot hqc.rowQ hx j0i3 h1 h2 hn24)
 subst hn
 have x_0:=Lib.hid hx
 clear hqc hqr hql hqh hqo hx
 go_enter Tryz.func22,Tryz.ntmps22
 go_wp2_with fail
 refine Calls.mono (pMay_is (r:=true) HM.out ((p_0.out.alloc_ _).alloc_ _) j0i3 h1) ?_
 rintro e w1 ⟨rfl,hb⟩
 have hB:=bun (bun (hb))
 have p_1:=Lib.hid (p_0.out.below hB)
 have x_1:=Lib.hid (x_0.out.below hB)
 have c_1:=Lib.hid (c_0.out.below hB)
 have Kp_1:=Lib.hid (show Blk w1 (w.heap.size) 26 #[.slice Ac p.cost.n cc,.slice Ar p.m cr,.slice Al p.lo.n cl,.slice Ah p.hi.n ch,.slice Ao p.no co] from((Blk.new _ _ jupy _ _).alloc_ _).below hb)
 have Kr_1:=Lib.hid (show Blk w1 (w.heap.size+1) 36 #[.bool false,.slice none 0 0,.bool false,.slice none 0 0] from(Blk.new _ _ jupy _ _).below hb)
 have HB_1:=Lib.hid (hB)
 have hs_1:w.heap.size≤w1.heap.size:=HB_1.out.size
 have hz_1:w.heap.size+2≤w1.heap.size := jrv7
 clear hB hb p_0 x_0 c_0
 obtain⟨p10,p11,p12,p13,p14,l1⟩:=Kp_1.out.use5
 go_wp2_with fail
 refine Calls.mono (ldot c_1.out x_1.out j0i3 j0i3 h1 h2 HKB.out j0i3 j0i3) ?_
 rintro e w2 ⟨v,rfl,h,hb⟩
 obtain⟨b2,A2,n2,c2,d2,B2,m2,k2,rfl,-,-,-,h1,h2⟩:=h.form
 have hB:=hb
 have Kp_2:=Lib.hid (Kp_1.out.below hB)
 have Kr_2:=Lib.hid (Kr_1.out.below hB)
 have z_2:=Lib.hid (h1)
 have z2_2:=Lib.hid (h2)
 have HB_2:=Lib.hid (below_trans HB_1.out hB)
 have hs_2:w.heap.size≤w2.heap.size:=HB_2.out.size
 have hz_2:w1.heap.size+0≤w2.heap.size := jrv7
 clear hB hb p_1 x_1 c_1 Kp_1 Kr_1 HB_1 p10 p11 p12 p13 p14 l1
 obtain⟨p20,p21,p22,p23,l2⟩:=Kr_2.out.use4
 obtain⟨r20,r21,r22,r23⟩:=Kr_2.out.into4
 go_wp2
 obtain⟨WF,hWF⟩ : ∃W,W=((((w2.setCell ⟨w.heap.size+1,0,none⟩ (.bool b2)).setCell ⟨w.heap.size+1,1,none⟩ (.slice A2 n2 c2)).setCell ⟨w.heap.size+1,2,none⟩ (.bool d2)).setCell ⟨w.heap.size+1,3,none⟩ (.slice B2 m2 k2)):=⟨_,rfl⟩
 rw [← hWF]
 have kq:Blk WF (w.heap.size+1) 36 #[.bool b2,.slice A2 n2 c2,.bool d2,.slice B2 m2 k2] := jwxb
 have hBF:Below w.heap.size w WF:=by rw [hWF];exact Below.set4 (HB_2.out) jvm6
 have f1:IsInt WF (.agg #[.bool b2,.slice A2 n2 c2]) (dotF p.cost.q x p.cost.n).num := j5jq
 have f2:IsInt WF (.agg #[.bool d2,.slice B2 m2 k2]) ((dotF p.cost.q x p.cost.n).den:Int) := jdkc
 have HE:Hid (NumPost w WF (Ending.returned (.tuple #[.agg #[.bool b2,.slice A2 n2 c2,.bool d2,.slice B2 m2 k2],.bool true])) (dotF p.cost.q x p.cost.n) true):=⟨_,rfl,⟨_,_,_,_,rfl,f1,f2⟩,hBF⟩
 obtain⟨e0,e1,e2,e3⟩:=kq.cells4
 clear hWF
 exact bodyPost_ret (v := .tuple #[.agg #[.bool b2,.slice A2 n2 c2,.bool d2,.slice B2 m2 k2],.bool true]) jrcj rfl HE.out
theorem pcost {pl:Bool} {k l nx:Nat} {w:World} {v vx:Value} {p:LpX} {x:Nat→Rat}(h:LpQ k w v p)(hx:RowQ pl l w vx nx x)(hk:k≤300)(h1:1≤k)(hl:l≤300)(h2:1≤l) :
 Calls Tryz.prog 22 #[v,vx] w fun e w'=>NumPost w w' e (costQ p nx x) (costB p nx):=by
 by_cases hm:MayX p
 ·by_cases hn:nx=p.cost.n
  ·rw [costB_true.2 ⟨hm,hn⟩,show costQ p nx x=dotF p.cost.q x nx by unfold costQ;rw [if_pos ⟨hm,hn⟩]]
   exact pcost_c h hx hk h1 hl h2 hm hn
  ·rw [costB_false.2 fun h=>hn h.2,show costQ p nx x=0 by unfold costQ;rw [if_neg fun h=>hn h.2]]
   exact pcost_b h hx hk h1 hl h2 hm hn
 ·rw [costB_false.2 fun h=>hm h.1,show costQ p nx x=0 by unfold costQ;rw [if_neg fun h=>hm h.1]]
  exact pcost_a h hx hk h1 hl h2 hm
def StdQ(p:Bool)(k:Nat)(w:World)(v:Value)(M N:Nat)(A:Nat→Nat→Rat)(B C:Nat→Rat):Prop :=
 ∃va vb vc,v = .agg #[va,vb,vc]∧TabQ p k w va M (fun _=>N) A∧RowQ p k w vb M B∧RowQ p k w vc N C
theorem StdQ.below {p:Bool} {k M N:Nat} {w w':World} {v:Value} {A:Nat→Nat→Rat} {B C:Nat→Rat}(h:StdQ p k w v M N A B C)(hb:Below w.heap.size w w'):StdQ p k w' v M N A B C:=by
 obtain⟨va,vb,vc,e,h1,h2,h3⟩:=h
 exact⟨va,vb,vc,e,h1.below hb,h2.below hb,h3.below hb⟩
def numX(n:Nat)(f:Nat→Rat):RowX:=⟨n,fun i=>(f i).num,fun i=>(f i).den⟩
theorem numX_mays(n:Nat)(f:Nat→Rat):(numX n f).mays:=fun i _=>by
 show(0:Int)<((f i).den:Int)
 have:=(f i).den_pos
 omega
theorem RowQ.rowN {k n:Nat} {w:World} {v:Value} {f:Nat→Rat}(h:RowQ true k w v n f):RowN k w v (numX n f):=by
 obtain⟨A,c,X,h0,h1,h2,h3,h4⟩:=h
 exact⟨A,c,X,h0,h1,h2,h3,fun i hi=>((h4 i hi).1 rfl).1.limR ((h4 i hi).1 rfl).2⟩
theorem TabQ.tabN {k m N:Nat} {w:World} {v:Value} {F:Nat→Nat→Rat}(h:TabQ true k w v m (fun _=>N) F):TabN k w v m (fun i=>numX N (F i)):=by
 obtain⟨A,c,h0,h1,h2,h3⟩:=h
 refine⟨A,c,h0,h1,h2,fun i hi=>?_⟩
 obtain⟨ad,r,e,h4,h5,h6⟩:=h3 i hi
 exact⟨ad,r,e,h4,h5,h6.rowN⟩
set_option maxRecDepth 100000 in
set_option maxHeartbeats 4000000 in
theorem pright {k M N:Nat} {w:World} {v:Value} {A:Nat→Nat→Rat} {B C:Nat→Rat}(h:StdQ true k w v M N A B C)(hk:k≤20000)(h1:1≤k)(hM:M≤64)(hN:N≤80)(hB : ∀i,i<M→0≤B i) :
 Calls Tryz.prog 17 #[v] w fun e w'=>e = .returned (.bool true)∧Below w.heap.size w w':=by
 obtain⟨va,vb,vc,rfl,ha,hb,hc⟩:=h
 obtain⟨Aa,ca,rfl,_,_⟩:=ha.len
 obtain⟨Ab,cb,rfl,_,_⟩:=hb.len
 obtain⟨Ac,cc,rfl,_,_⟩:=hc.len
 have a_0:=Lib.hid ha
 have n_0:=Lib.hid ha.tabN
 have b_0:=Lib.hid hb
 have p_0:=Lib.hid hb.rowN
 have q_0:=Lib.hid hc.rowN
 have HBB:=Lib.hid hB
 clear ha hb hc hB
 go_enter Tryz.func17,Tryz.ntmps17
 go_wp2_with fail
 refine Calls.mono (lrect_is (r:=true) (a_0.out.below (below_new _ _)) ⟨fun _ _ _=>rfl,fun _=>rfl⟩) ?_
 rintro e w1 ⟨rfl,hw1⟩
 have Ks_1:=Lib.hid (show Blk w1 w.heap.size 31 #[.slice Aa M ca,.slice Ab M cb,.slice Ac N cc] from hw1▸Blk.new _ _ rfl _ _)
 have HB_1:=Lib.hid (show Below w.heap.size w w1 from hw1▸below_new _ _)
 have n_1:=Lib.hid (n_0.out.below HB_1.out)
 have b_1:=Lib.hid (b_0.out.below HB_1.out)
 have p_1:=Lib.hid (p_0.out.below HB_1.out)
 have q_1:=Lib.hid (q_0.out.below HB_1.out)
 clear hw1 a_0 n_0 b_0 p_0 q_0
 obtain⟨k0,k1,k2,kl⟩:=Ks_1.out.use3
 go_wp2_with fail
 refine Calls.mono (pallMay_is (r:=true) n_1.out j0i3 ⟨fun _ _ _=>numX_mays _ _,fun _=>rfl⟩) ?_
 rintro e w2 ⟨rfl,hb⟩
 have Ks_2:=Lib.hid (Ks_1.out.below hb)
 have HB_2:=Lib.hid (below_trans HB_1.out hb)
 have b_2:=Lib.hid (b_1.out.below hb)
 have p_2:=Lib.hid (p_1.out.below hb)
 have q_2:=Lib.hid (q_1.out.below hb)
 clear k0 k1 k2 kl hb Ks_1 HB_1 n_1 b_1 p_1 q_1
 obtain⟨k0,k1,k2,kl⟩:=Ks_2.out.use3
 have HTN:Hid (TabN k (w2.alloc (.cells #[.slice Ab M cb,.slice Ac N cc] 22)) (.slice (some ⟨w2.heap.size,0,none⟩) 2 2) 2 (fun i=>if i=0 then numX M B else numX N C)):=by
  refine OwnT.tabN (own_new w2 w2.heap.size _ rfl (Nat.le_refl _) 2 j0i3 _ rfl (fun i=>if i=0 then .slice Ab M cb else .slice Ac N cc) rfl (fun u hu=>by simp at hu;rcases hu with rfl | rfl <;> exact nu)) j0i3 fun i hi=>?_
  have:i=0∨i=1 := j0i3
  rcases this with rfl | rfl
  ·exact p_2.out.below (below_new _ _)
  ·exact q_2.out.below (below_new _ _)
 go_wp2_with fail
 refine Calls.mono (pallMay_is (r:=true) HTN.out j0i3 ⟨fun _ i hi=>by split <;> exact numX_mays _ _,fun _=>rfl⟩) ?_
 rintro e w3 ⟨rfl,hb⟩
 have hb3:=bun hb
 have Ks_3:=Lib.hid (Ks_2.out.below hb3)
 have HB_3:=Lib.hid (below_trans HB_2.out hb3)
 have b_3:=Lib.hid (b_2.out.below hb3)
 clear k0 k1 k2 kl hb hb3 Ks_2 HB_2 b_2 p_2 q_2 HTN
 obtain⟨k0,k1,k2,kl⟩:=Ks_3.out.use3
 go_wp2_with fail
 refine Calls.mono (contains_rat (cap := #[]) (P:=fun i=>decide (B i<0)) (fun args u=>by simp [go_sem]) (fun i w' x hi hb' hr'=>pbelow_is rfl hr'.2 hk h1) b_3.out) ?_
 rintro e w4 ⟨rfl,hb⟩
 have HA:Hid (anyB M (fun i=>decide (B i<0))=false):=anyB_false.2 fun i hi=>decide_eq_false (Rat.not_lt.2 (HBB.out i hi))
 have HB_4:=Lib.hid (below_trans HB_3.out hb)
 clear hb
 rw [HA.out]
 go_wp2
 go_ret
 exact⟨rfl,HB_4.out⟩
end Go.Proofs.YtgilnmhejjpleaaGreat
namespace Go.Proofs.YtgilnmhejjpleaaGreat
open Go.RowKit
attribute [local go_sem ↓] Go.wp_at_zero Go.wp_at_succ
set_option linter.unusedVariables false
set_option linter.unusedSimpArgs false
theorem heldM_get(p:LpX) {i:Nat} : ∀n,i<n→(heldM p n)[i]? = some (heldR p i)
 | 0,h=>absurd h j0i3
 |n+1,h=>by
  rw [heldM]
  by_cases e:i<n
  ·rw [List.getElem?_append_left (by rw [heldM_len];exact e)]
   exact heldM_get p n e
  ·obtain rfl:i=n:=by omega
   rw [List.getElem?_append_right (by rw [heldM_len];omega),heldM_len,Nat.sub_self]
   rfl
theorem heldE_get(p:LpX) {j:Nat}(ho:p.op j=false) : ∀n,j<n→(heldE p n)[cntF p.op j]? = some (p.hi.q j - p.lo.q j)
 | 0,h=>absurd h j0i3
 |n+1,h=>by
  rw [heldE]
  by_cases e:j<n
  ·rw [List.getElem?_append_left (by rw [heldE_len];exact cntF_lt _ e ho)]
   exact heldE_get p ho n e
  ·obtain rfl:j=n:=by omega
   rw [List.getElem?_append_right (by rw [heldE_len];omega),heldE_len,Nat.sub_self,ho]
   rfl
theorem heldF_m(p:LpX) {i:Nat}(h:i<p.m):heldF p i=heldR p i:=by
 unfold heldF heldL
 rw [List.getElem?_append_left (by rw [heldM_len];exact h),heldM_get p _ h]
 rfl
theorem heldF_e(p:LpX) {j:Nat}(h:j<p.no)(ho:p.op j=false):heldF p (p.m+cntF p.op j)=p.hi.q j - p.lo.q j:=by
 unfold heldF heldL
 rw [List.getElem?_append_right (by rw [heldM_len];omega),heldM_len,Nat.add_sub_cancel_left,heldE_get p ho _ h]
 rfl
set_option maxRecDepth 100000 in
set_option maxHeartbeats 8000000 in
theorem pheld {k:Nat} {w:World} {v:Value} {p:LpX}(h:LpQ k w v p)(hm:MayX p)(hk:k≤300)(h1:1≤k) :
 Calls Tryz.prog 35 #[v] w fun e w' => ∃v X,e = .returned v∧OwnR w' w.heap.size v (rowsC p) X∧(∀i,i<rowsC p→EQ true (49*k+26) w' (X i).val (heldF p i))∧Below w.heap.size w w':=by
 obtain⟨Ac,cc,Ar,cr,Al,cl,Ah,ch,Ao,co,rfl,hqc,hqr,hql,hqh,hqo,g1,g2,g3,g4,g5⟩:=h.form
 clear h
 have HNO:Hid (p.no=p.cost.n):=hm.1.2.2.1
 have HLO:Hid (p.lo.n=p.cost.n):=hm.1.2.2.2.1
 have HHI:Hid (p.hi.n=p.cost.n):=hm.1.2.2.2.2.1
 have hn24:p.cost.n≤24:=hm.1.2.1
 have hm24:p.m≤24:=hm.1.2.2.2.2.2
 have HRC:=Lib.hid (fun i (hi:i<p.m)=>(hm.2.2.1 i hi).1)
 clear hm
 have HKB:Hid (∀i,i<p.m→∀q,q≤p.cost.n→BQ (1+24*(k+k+1)) (dotF (p.row i).coef.q p.lo.q q)):=by
  intro i hi
  obtain⟨_,_,_,_,_,_,_,hRw⟩:=hqr.at_ hi
  have hc:=HRC.out i hi
  have hl:=HLO.out
  have:=row_dot hRw.2.2.1.rowQ hql.rowQ j0i3 h1 h1 j0i3
  rw [hc] at this
  exact this
 have l_0:=Lib.hid hql
 have u_0:=Lib.hid hqh
 have r_0:=Lib.hid hqr
 have o_0:=Lib.hid hqo
 clear hqc hqr hql hqh hqo
 go_enter Tryz.func35,Tryz.ntmps35
 go_wp2
 have HB_1:=Lib.hid (show Below w.heap.size w (w.alloc (.cells #[.slice Ac p.cost.n cc,.slice Ar p.m cr,.slice Al p.lo.n cl,.slice Ah p.hi.n ch,.slice Ao p.no co] 26)) from below_new _ _)
 have Kp_1:=Lib.hid (show Blk (w.alloc (.cells #[.slice Ac p.cost.n cc,.slice Ar p.m cr,.slice Al p.lo.n cl,.slice Ah p.hi.n ch,.slice Ao p.no co] 26)) w.heap.size 26 #[.slice Ac p.cost.n cc,.slice Ar p.m cr,.slice Al p.lo.n cl,.slice Ah p.hi.n ch,.slice Ao p.no co] from Blk.new _ _ rfl _ _)
 generalize w.alloc (.cells #[.slice Ac p.cost.n cc,.slice Ar p.m cr,.slice Al p.lo.n cl,.slice Ah p.hi.n ch,.slice Ao p.no co] 26)=w1 at *
 go_loopw [3,13] (fun v3 v13 wr => ∃ (i:Nat) (X:Nat→RatD),v13 = .int .i64 (i:Nat)∧i≤p.m∧OwnR wr w.heap.size v3 i X∧(∀q,q<i→EQ true (49*k+26) wr (X q).val (heldF p q))∧Below w.heap.size w wr∧Blk wr w.heap.size 26 #[.slice Ac p.cost.n cc,.slice Ar p.m cr,.slice Al p.lo.n cl,.slice Ah p.hi.n ch,.slice Ao p.no co]) (fun _ v13 _=>p.m - (intOf v13).toNat)
 case atStart=>exact⟨0,fun _=>ratZ,rfl,Nat.zero_le _,OwnR.nil,fun q hq=>absurd hq j0i3,HB_1.out,Kp_1.out⟩
 case round =>
  clear HB_1 Kp_1
  obtain⟨i,X,rfl,hi,how,hX,hbw,hkp⟩:=hrel
  have HO:=Lib.hid how
  have HX:=Lib.hid hX
  have HB:=Lib.hid hbw
  have KP:=Lib.hid hkp
  clear how hX hbw hkp
  obtain⟨k0,k1,k2,k3,k4,kl⟩:=KP.out.use5
  by_cases hlt:i<p.m
  ·have hi0:(0:Int)≤(i:Int):=by omega
   have hik:(i:Int)<(p.m:Int) := j0i3
   obtain⟨ad,c1,⟨xA0,xn0,xc0,xs,⟨b9,A9,n9,c9,d9,B9,m9,k9⟩⟩,e1,_,_,⟨x0,x1,x2,x3,x4,x5,x6⟩,hRw⟩:=(r_0.out.below HB.out).at_ hlt
   simp only [Value.slice.injEq] at e1
   obtain⟨rfl,_,rfl⟩:=e1
   have HC:Hid (RowQ false k wr (.slice xA0 xn0 xc0) p.cost.n (p.row i).coef.q):=by
    have:=hRw.2.2.1.rowQ
    rw [HRC.out i hlt] at this
    exact this
   have HL:Hid (RowQ false k wr (.slice Al p.lo.n cl) p.cost.n p.lo.q):=by
    have:=(l_0.out.below HB.out).rowQ
    rw [HLO.out] at this ⊢
    exact this
   have HH:=Lib.hid (show LimQ k wr (.agg #[.bool b9,.slice A9 n9 c9,.bool d9,.slice B9 m9 k9]) (p.row i).h from⟨_,_,hRw.2.2.2,rfl⟩)
   have HK:=Lib.hid (HKB.out i hlt)
   clear hRw
   go_wp2_with fail
   refine Calls.mono (ldot (HC.out.alloc_ _) (HL.out.alloc_ _) j0i3 j0i3 h1 h1 HK.out j0i3 j0i3) ?_
   rintro e w5 ⟨v,rfl,h,hb⟩
   obtain⟨b5,A5,n5,c5,d5,B5,m5,k5,rfl,-,-,-,-,-⟩:=h.form
   have HD:=Lib.hid (h.limQ (HK.out _ (Nat.le_refl _)))
   have hb':=bun hb
   have K6:=Lib.hid (show Blk w5 wr.heap.size 60 #[.slice xA0 xn0 xc0,.int .i64 xs,.bool b9,.slice A9 n9 c9,.bool d9,.slice B9 m9 k9] from(Blk.new _ _ rfl _ _).below hb)
   have KP5:=Lib.hid (KP.out.below hb')
   have HO5:=Lib.hid (HO.out.below hb')
   have HX5:=Lib.hid (fun q (hq:q<i)=>(HX.out q hq).below hb')
   have HB5:=Lib.hid (below_trans HB.out hb')
   have HH5:=Lib.hid (HH.out.below hb')
   clear h hb hb' HC HL HH HO HX HB KP k0 k1 k2 k3 k4 kl x0 x1 x2 x3 x4 x5 x6
   obtain⟨k0,k1,k2,k3,k4,kl⟩:=KP5.out.use5
   obtain⟨y0,y1,y2,y3,y4,y5,yl⟩:=K6.out.use6
   go_wp2_with fail
   refine Calls.mono (q_sub (HH5.out.alloc_ _) (HD.out.alloc_ _) j0i3 j0i3 h1 j0i3) ?_
   rintro e w7 ⟨v,rfl,h,hb⟩
   obtain⟨b7,A7,n7,c7,d7,B7,m7,k7,rfl,-,-,-,-,-⟩:=h.form
   have hb':=bun hb
   have HE7:=Lib.hid (EQ.of (p:=true) h (BQ.sub (HH5.out.bq h1) (HK.out _ (Nat.le_refl _)) (show k+(1+24*(k+k+1))+1≤49*k+26 by omega)))
   have KP7:=Lib.hid (KP5.out.below hb')
   have HO7:=Lib.hid (HO5.out.below hb')
   have HX7:=Lib.hid (fun q (hq:q<i)=>(HX5.out q hq).below hb')
   have HB7:=Lib.hid (below_trans HB5.out hb')
   clear h hb hb' HD KP5 HO5 HX5 HB5 HH5 K6 k0 k1 k2 k3 k4 kl y0 y1 y2 y3 y4 y5 yl HK
   go_wp2_with (at_builtin;refine wpList_append_rats rfl rfl (.tmp 25) (.tmp 30) rfl (base:=w.heap.size) (n:=i) (m:=1) (c:=1) (X:=X) (Y:=fun _=>⟨b7,A7,n7,c7,d7,B7,m7,k7⟩) rfl (OwnR.alloc_ HO7.out _) rfl (rowAt_one w7 _ rfl ⟨b7,A7,n7,c7,d7,B7,m7,k7⟩) (fun e=>by cases e) j0i3 (by have:=HB7.out.size;simp;omega) ?_;intro v8 w8 ho hf)
   have HINV:Hid (OwnR w8 w.heap.size v8 (i+1) (appR X i (fun _=>⟨b7,A7,n7,c7,d7,B7,m7,k7⟩))∧(∀q,q<i+1→EQ true (49*k+26) w8 (appR X i (fun _=>⟨b7,A7,n7,c7,d7,B7,m7,k7⟩) q).val (heldF p q))∧Below w.heap.size w w8∧Blk w8 w.heap.size 26 #[.slice Ac p.cost.n cc,.slice (some ad) p.m cr,.slice Al p.lo.n cl,.slice Ah p.hi.n ch,.slice Ao p.no co]):=⟨ho,fun q hq=>by
    by_cases hqi:q<i
    ·rw [appR_lt _ _ _ hqi];exact((HX7.out q hqi).alloc_ _).kp hf.keep
    ·obtain rfl:q=i:=by omega
     rw [appR_at,heldF_m p hlt]
     exact(HE7.out.alloc_ _).kp hf.keep,(below_trans HB7.out (below_new _ _)).trans hf.below,Blk.fz (KP7.out.alloc_ _) hf jpu1⟩
   clear ho hf HE7 KP7 HO7 HX7 HB7
   go_wp2
   go_roundw
   case rel=>exact⟨i+1,_,by go_num,by omega,HINV.out⟩
   case measure=>simp [intOf];omega
  ·obtain rfl:i=p.m:=by omega
   have HS0:Hid (OwnR wr w.heap.size u3 (p.m+cntF p.op 0) X):=HO.out
   clear hi hlt HO
   obtain⟨wo,rfl⟩ : ∃x,x=wr:=⟨_,rfl⟩
   go_wp2
   go_loopw [3,36] (fun v3 v36 wr => ∃ (j:Nat) (X:Nat→RatD),v36 = .int .i64 (j:Nat)∧j≤p.no∧OwnR wr w.heap.size v3 (p.m+cntF p.op j) X∧(∀q,q<p.m+cntF p.op j→EQ true (49*k+26) wr (X q).val (heldF p q))∧Below w.heap.size w wr∧Blk wr w.heap.size 26 #[.slice Ac p.cost.n cc,.slice Ar p.m cr,.slice Al p.lo.n cl,.slice Ah p.hi.n ch,.slice Ao p.no co]) (fun _ v36 _=>p.no - (intOf v36).toNat)
   case atStart=>exact⟨0,X,rfl,Nat.zero_le _,HS0.out,HX.out,HB.out,KP.out⟩
   case round =>
    clear HS0 HX HB KP k0 k1 k2 k3 k4 kl
    obtain⟨j,X,rfl,hj,how,hX,hbw,hkp⟩:=hrel
    have HO:=Lib.hid how
    have HX:=Lib.hid hX
    have HB:=Lib.hid hbw
    have KP:=Lib.hid hkp
    clear how hX hbw hkp
    obtain⟨k0,k1,k2,k3,k4,kl⟩:=KP.out.use5
    by_cases hlt:j<p.no
    ·have hj0:(0:Int)≤(j:Int):=by omega
     have hjk:(j:Int)<(p.no:Int) := j0i3
     obtain⟨od,c0,e1,_,_,hob,hoc⟩:=(o_0.out.below HB.out).at_ hlt
     simp only [Value.slice.injEq] at e1
     obtain⟨rfl,_,rfl⟩:=e1
     cases hop:p.op j
     ·rw [hop] at hoc
      have HOP:=Lib.hid hop
      clear hop
      have hjn:j<p.cost.n:=by have:=HNO.out;omega
      obtain⟨ld,c1,⟨b5,A5,n5,c5,d5,B5,m5,k5⟩,e1,_,_,hatl,hEl⟩:=l_0.out.at_ (show j<p.lo.n by rw [HLO.out];exact hjn)
      simp only [Value.slice.injEq] at e1
      obtain⟨rfl,_,rfl⟩:=e1
      obtain⟨hd,c2,⟨b6,A6,n6,c6,d6,B6,m6,k6⟩,e1,_,_,hath,hEh⟩:=u_0.out.at_ (show j<p.hi.n by rw [HHI.out];exact hjn)
      simp only [Value.slice.injEq] at e1
      obtain⟨rfl,_,rfl⟩:=e1
      have hjl:(j:Int)<(p.lo.n:Int):=by rw [HLO.out];omega
      have hjh:(j:Int)<(p.hi.n:Int):=by rw [HHI.out];omega
      have HAL:=Lib.hid hatl
      have HAH:=Lib.hid hath
      obtain⟨x0,x1,x2,x3,x4⟩:=hatl.below HB.out
      obtain⟨y0,y1,y2,y3,y4⟩:=hath.below HB.out
      have HEL:=Lib.hid (show LimQ k wr (.agg #[.bool b5,.slice A5 n5 c5,.bool d5,.slice B5 m5 k5]) (p.lo.q j) from⟨_,_,hEl.below HB.out,rfl⟩)
      have HEH:=Lib.hid (show LimQ k wr (.agg #[.bool b6,.slice A6 n6 c6,.bool d6,.slice B6 m6 k6]) (p.hi.q j) from⟨_,_,hEh.below HB.out,rfl⟩)
      have HCE:=Lib.hid (heldF_e p hlt HOP.out)
      have HCN:Hid (cntF p.op (j+1)=cntF p.op j+1):=by show cntF p.op (j+1)=_;simp [cntF,HOP.out]
      have hcl:=cntF_le p.op j
      obtain⟨z,hz⟩ : ∃z,z=p.m+cntF p.op j:=⟨_,rfl⟩
      rw [← hz] at HO HX HCE
      have HZ:=Lib.hid hz
      have hzb:z≤1000:=by have:=HNO.out;omega
      clear hEl hEh hz hcl hatl hath
      have tok0:True:=trivial
      have tok1:True:=trivial
      go_wp2
      go_region_held3 (fun w'=>w'.cell? ⟨w.heap.size,2,none⟩=some (.slice (some ld) p.lo.n cl)∧w'.cell? ⟨w.heap.size,3,none⟩=some (.slice (some hd) p.hi.n ch)∧w'.cell? (ld.add (j*4))=some (.bool b5)∧w'.cell? ⟨(ld.add (j*4)).block,(ld.add (j*4)).off+1,none⟩=some (.slice A5 n5 c5)∧w'.cell? ⟨(ld.add (j*4)).block,(ld.add (j*4)).off+2,none⟩=some (.bool d5)∧w'.cell? ⟨(ld.add (j*4)).block,(ld.add (j*4)).off+3,none⟩=some (.slice B5 m5 k5)∧w'.cell? (hd.add (j*4))=some (.bool b6)∧w'.cell? ⟨(hd.add (j*4)).block,(hd.add (j*4)).off+1,none⟩=some (.slice A6 n6 c6)∧w'.cell? ⟨(hd.add (j*4)).block,(hd.add (j*4)).off+2,none⟩=some (.bool d6)∧w'.cell? ⟨(hd.add (j*4)).block,(hd.add (j*4)).off+3,none⟩=some (.slice B6 m6 k6)) (first | (refine⟨?_,?_,?_,?_,?_,?_,?_,?_,?_,?_⟩ <;> (first | with_reducible assumption | ((with_reducible refine Eq.trans (cell_drew _ _) ?_);with_reducible assumption) | go_keep)) | go_keep)
       (first
        |(go_at_call 67;have _t:=tok0;clear _t tok0;((with_reducible refine Calls.mono (q_sub HEH.out.drew_ HEL.out.drew_ j0i3 j0i3 h1 h1) ?_));rintro e w7 ⟨v,rfl,h,hb⟩;obtain⟨b7,A7,n7,c7,d7,B7,m7,k7,rfl,-,-,-,-,-⟩:=h.form;have hBw:=(show Below wr.heap.size wr w7 from jc22);have HE7:=Lib.hid (EQ.of (p:=true) h (BQ.sub (HEH.out.bq h1) (HEL.out.bq h1) (show k+k+1≤49*k+26 by omega)));have KP7:=Lib.hid (KP.out.below hBw);have HO7:=Lib.hid (HO.out.below hBw);have HX7:=Lib.hid (fun q (hq:q<z)=>(HX.out q hq).below hBw);have HB7:=Lib.hid (below_trans HB.out hBw);obtain⟨q0,q1,q2,q3,q4,ql⟩:=KP7.out.use5;obtain⟨z0,z1,z2,z3,z4⟩:=HAL.out.below HB7.out;obtain⟨f0,f1,f2,f3,f4⟩:=HAH.out.below HB7.out;clear h hb hBw HEL HEH KP HO HX HB k0 k1 k2 k3 k4 kl x0 x1 x2 x3 x4 y0 y1 y2 y3 y4)
        |(have _t:=tok1;refine step_append_rats rfl rfl (.tmp 43) (.tmp 55) rfl (base:=w.heap.size) (n:=z) (m:=1) (c:=1) (X:=X) (Y:=fun _=>⟨b7,A7,n7,c7,d7,B7,m7,k7⟩) rfl (OwnR.alloc_ HO7.out _) rfl (rowAt_one w7 _ rfl ⟨b7,A7,n7,c7,d7,B7,m7,k7⟩) (fun e=>by cases e) j0i3 (by have:=HB7.out.size;simp;omega) ?_;intro v8 w8 ho hf;clear _t tok1;have KP8:=Lib.hid (Blk.fz (KP7.out.alloc_ _) hf jpu1);obtain⟨s0,s1,s2,s3,s4,sl⟩:=KP8.out.use5;have HHW:=Lib.hid (show Below w.heap.size w w8 from(below_trans HB7.out (below_new _ _)).trans hf.below);have HO8:=Lib.hid ho;have HX8:=Lib.hid (show ∀q,q<z+1→EQ true (49*k+26) w8 (appR X z (fun _=>⟨b7,A7,n7,c7,d7,B7,m7,k7⟩) q).val (heldF p q) from fun q hq=>Decidable.byCases (fun hqi:q<z=>(by rw [appR_lt _ _ _ hqi];exact((HX7.out q hqi).alloc_ _).kp hf.keep)) (fun hqi : ¬q<z=>(by obtain rfl:z=q := j0i3;rw [appR_at,HCE.out];exact(HE7.out.alloc_ _).kp hf.keep)));obtain⟨z0',z1',z2',z3',z4'⟩:=HAL.out.below HHW.out;obtain⟨f0',f1',f2',f3',f4'⟩:=HAH.out.below HHW.out;clear ho hf HE7 KP7 HO7 HX7 HB7 q0 q1 q2 q3 q4 ql z0 z1 z2 z3 z4 f0 f1 f2 f3 f4))
      have HO9:Hid (OwnR w8 w.heap.size v8 (p.m+cntF p.op (j+1)) (appR X z (fun _=>⟨b7,A7,n7,c7,d7,B7,m7,k7⟩))):=by rw [HCN.out,← Nat.add_assoc,← HZ.out];exact HO8.out
      have HX9:Hid (∀q,q<p.m+cntF p.op (j+1)→EQ true (49*k+26) w8 (appR X z (fun _=>⟨b7,A7,n7,c7,d7,B7,m7,k7⟩) q).val (heldF p q)):=by rw [HCN.out,← Nat.add_assoc,← HZ.out];exact HX8.out
      clear HO8 HX8 s0 s1 s2 s3 s4 sl z0' z1' z2' z3' z4' f0' f1' f2' f3' f4'
      go_wp2
      go_roundw
      case rel=>exact⟨j+1,_,by go_num,by omega,HO9.out,HX9.out,HHW.out,KP8.out⟩
      case measure=>simp [intOf];omega
     ·rw [hop] at hoc
      have HCN:Hid (cntF p.op (j+1)=cntF p.op j):=by show cntF p.op (j+1)=_;simp [cntF,hop]
      have HO2:Hid (OwnR wr w.heap.size u3 (p.m+cntF p.op (j+1)) X):=by rw [HCN.out];exact HO.out
      have HX2:Hid (∀q,q<p.m+cntF p.op (j+1)→EQ true (49*k+26) wr (X q).val (heldF p q)):=by rw [HCN.out];exact HX.out
      clear hop HCN
      go_wp2
      go_roundw
      case rel=>exact⟨j+1,X,by go_num,by omega,HO2.out,HX2.out,HB.out,KP.out⟩
      case measure=>simp [intOf];omega
    ·obtain rfl:j=p.no:=by omega
     go_wp2
     go_ret
     exact⟨_,X,rfl,HO.out,HX.out,HB.out⟩
end Go.Proofs.YtgilnmhejjpleaaGreat
namespace Go.Proofs.YtgilnmhejjpleaaGreat
open Go.RowKit
set_option linter.unusedSimpArgs false
set_option linter.unusedVariables false
def shR(p:LpX)(y:Nat→Rat)(i:Nat):Rat:=(p.row i).h+dotF (p.row i).coef.q y p.cost.n
def shP(p:LpX)(y:Nat→Rat):LpX :=
 ⟨p.cost,p.m,fun i=>⟨(p.row i).coef,(p.row i).s,(shR p y i).num,((shR p y i).den:Int)⟩,numX p.lo.n (fun j=>p.lo.q j+1*y j),numX p.hi.n (fun j=>p.hi.q j+1*y j),p.no,p.op⟩
section
variable {p:LpX} {y:Nat→Rat}
theorem numX_q(n:Nat)(f:Nat→Rat)(i:Nat):(numX n f).q i=f i:=ratOf_num_den (f i)
theorem sh_lo(j:Nat):(shP p y).lo.q j=p.lo.q j+1*y j:=numX_q _ _ _
theorem sh_hi(j:Nat):(shP p y).hi.q j=p.hi.q j+1*y j:=numX_q _ _ _
theorem sh_h(i:Nat):((shP p y).row i).h=shR p y i:=ratOf_num_den _
theorem sh_may(h:MayX p):MayX (shP p y):=by
 refine⟨h.1,⟨h.2.1.1,numX_mays _ _,numX_mays _ _⟩,fun i hi=>⟨(h.2.2.1 i hi).1,(h.2.2.1 i hi).2.1,(h.2.2.1 i hi).2.2.1,?_⟩,fun j hj ho=>?_⟩
 ·show(0:Int)<((shR p y i).den:Int)
  have:=(shR p y i).den_pos
  omega
 ·rw [sh_lo,sh_hi]
  have:=h.2.2.2 j hj ho
  grind
theorem sh_var : ∀n,varL (shP p y) n=varL p n
 | 0=>rfl
 |n+1=>by rw [varL,varL,sh_var n];rfl
theorem sh_slk : ∀n,slkL (shP p y) n=slkL p n
 | 0=>rfl
 |n+1=>by rw [slkL,slkL,sh_slk n];rfl
theorem sh_end : ∀n,endL (shP p y) n=endL p n
 | 0=>rfl
 |n+1=>by rw [endL,endL,sh_end n];rfl
theorem sh_col:colL (shP p y)=colL p:=by rw [colL,colL,sh_var,sh_slk,sh_end];rfl
theorem sh_at(k:Nat):colAt (shP p y) k=colAt p k:=by rw [colAt,colAt,sh_col]
theorem dotF_sh(f g h:Nat→Rat) : ∀n,dotF f (fun j=>g j+1*h j) n=dotF f g n+dotF f h n
 | 0=>(Rat.add_zero 0).symm
 |n+1=>by
  simp only [dotF,dotF_sh f g h n]
  grind
theorem sh_dot(f:Nat→Rat)(n:Nat):dotF f (shP p y).lo.q n=dotF f p.lo.q n+dotF f y n:=by
 rw [← dotF_sh]
 exact dotF_congr n (fun _ _=>rfl) (fun j _=>sh_lo j)
theorem sh_heldR(i:Nat):heldR (shP p y) i=heldR p i:=by
 rw [heldR,sh_h,sh_dot]
 show shR p y i - (dotF (p.row i).coef.q p.lo.q p.cost.n+dotF (p.row i).coef.q y p.cost.n)=heldR p i
 rw [shR,heldR]
 grind
theorem sh_heldM : ∀n,heldM (shP p y) n=heldM p n
 | 0=>rfl
 |n+1=>by rw [heldM,heldM,sh_heldM n,sh_heldR]
theorem sh_heldE : ∀n,heldE (shP p y) n=heldE p n
 | 0=>rfl
 |n+1=>by
  rw [heldE,heldE,sh_heldE n,sh_lo,sh_hi,show p.hi.q n+1*y n - (p.lo.q n+1*y n)=p.hi.q n - p.lo.q n by grind]
  rfl
theorem sh_held(i:Nat):heldF (shP p y) i=heldF p i:=by
 rw [heldF,heldF,heldL,heldL,sh_heldM,sh_heldE]
 rfl
theorem sh_sgn(i:Nat):sgnF (shP p y) i=sgnF p i:=by rw [sgnF,sgnF,sh_held]
theorem sh_A(i k:Nat):stdA p i k=stdA (shP p y) i k:=by
 rw [stdA,stdA,sh_sgn,sh_at]
 rfl
theorem sh_B(i:Nat):stdB p i=stdB (shP p y) i:=by rw [stdB,stdB,sh_sgn,sh_held]
theorem sh_C(k:Nat):stdC p k=stdC (shP p y) k:=by
 rw [stdC,stdC,sh_at]
 rfl
theorem sh_rows:rowsC (shP p y)=rowsC p:=rfl
end
end Go.Proofs.YtgilnmhejjpleaaGreat
