/- Contracts of prob: Cost, Right. -/
import Derived.Test.YtgilnmhejjpleaaGreatPFg
namespace Go.Proofs.YtgilnmhejjpleaaGreat
open Go.RowKit
attribute [local go_sem ↓] Go.wp_at_zero Go.wp_at_succ
set_option linter.unusedVariables false
set_option linter.unusedSimpArgs false
theorem jzsm {P:Prop}(h:P:=by simp [results, Tryz.results22, go_sem, e0, e1, e2, e3] <;> omega):P:=h
open Classical in
noncomputable def costB(p:LpX)(n:Nat):Bool:=decide (MayX p∧n=p.cost.n)
open Classical in
noncomputable def costQ(p:LpX)(n:Nat)(x:Nat→Rat):Rat:=if MayX p∧n=p.cost.n then dotF p.cost.q x n else 0
theorem costB_true {p:LpX} {n:Nat} : costB p n=true↔MayX p∧n=p.cost.n:=by simp [costB]
theorem costB_false {p:LpX} {n:Nat} : costB p n=false↔¬ (MayX p∧n=p.cost.n):=by simp [costB]
def NumPost(w w':World)(e:Ending)(q:Rat)(b:Bool):Prop := ∃v,e = .returned (.tuple #[v,.bool b])∧IsRat w' v q∧Below w.heap.size w w'
set_option maxRecDepth 100000 in
set_option maxHeartbeats 1000000 in
theorem pcost_a {pl:Bool} {k l nx:Nat} {w:World} {v vx:Value} {p:LpX} {x:Nat→Rat}(h:LpQ k w v p)(hx:RowQ pl l w vx nx x)(hk:k≤300)(h1:1≤k)(hl:l≤300)(h2:1≤l)(hm : ¬MayX p) :
 Calls Tryz.prog 22 #[v,vx] w fun e w'=>NumPost w w' e 0 false:=by
 have HM:=Lib.hid (mayB_false.2 hm)
 clear hm
 obtain⟨Ac,cc,Ar,cr,Al,cl,Ah,ch,Ao,co,rfl,hqc,hqr,hql,hqh,hqo,g1,g2,g3,g4,g5⟩:=h.form
 clear h
 obtain⟨Ax,cx,rfl,hcx,gx⟩:=hx.len
 have p_0:=Lib.hid (show LpQ k w (.agg #[.slice Ac p.cost.n cc,.slice Ar p.m cr,.slice Al p.lo.n cl,.slice Ah p.hi.n ch,.slice Ao p.no co]) p from⟨_,_,_,_,_,rfl,hqc,hqr,hql,hqh,hqo⟩)
 have c_0:=Lib.hid hqc.rowQ
 have x_0:=Lib.hid hx
 clear hqc hqr hql hqh hqo hx
 go_enter Tryz.func22,Tryz.ntmps22
 go_wp2_with fail
 refine Calls.mono (pMay_is (r:=false) HM.out ((p_0.out.alloc_ _).alloc_ _) j0i3 h1) ?_
 rintro e w1 ⟨rfl,hb⟩
 have hB:=bun (bun (hb))
 have p_1:=Lib.hid (p_0.out.below hB)
 have x_1:=Lib.hid (x_0.out.below hB)
 have c_1:=Lib.hid (c_0.out.below hB)
 have Kp_1:=Lib.hid (show Blk w1 (w.heap.size) 26 #[.slice Ac p.cost.n cc,.slice Ar p.m cr,.slice Al p.lo.n cl,.slice Ah p.hi.n ch,.slice Ao p.no co] from((Blk.new _ _ jupy _ _).alloc_ _).below hb)
 have Kr_1:=Lib.hid (show Blk w1 (w.heap.size+1) 36 #[.bool false,.slice none 0 0,.bool false,.slice none 0 0] from(Blk.new _ _ jupy _ _).below hb)
 have HB_1:=Lib.hid (hB)
 have hs_1:w.heap.size≤w1.heap.size:=HB_1.out.size
 have hz_1:w.heap.size+2≤w1.heap.size := jrv7
 clear hB hb p_0 x_0 c_0
 obtain⟨p10,p11,p12,p13,p14,l1⟩:=Kp_1.out.use5
 go_wp2_with fail
 refine Calls.mono (pzero _) ?_
 rintro e w2 ⟨v,rfl,h,hb⟩
 obtain⟨b2,A2,n2,c2,d2,B2,m2,k2,rfl,-,-,-,h1,h2⟩:=h.form
 have hB:=hb
 have Kp_2:=Lib.hid (Kp_1.out.below hB)
 have Kr_2:=Lib.hid (Kr_1.out.below hB)
 have z_2:=Lib.hid (h1)
 have z2_2:=Lib.hid (h2)
 have HB_2:=Lib.hid (below_trans HB_1.out hB)
 have hs_2:w.heap.size≤w2.heap.size:=HB_2.out.size
 have hz_2:w1.heap.size+0≤w2.heap.size := jrv7
 clear hB hb p_1 x_1 c_1 Kp_1 Kr_1 HB_1 p10 p11 p12 p13 p14 l1
 obtain⟨p20,p21,p22,p23,l2⟩:=Kr_2.out.use4
 obtain⟨r20,r21,r22,r23⟩:=Kr_2.out.into4
 go_wp2
 obtain⟨WF,hWF⟩ : ∃W,W=((((w2.setCell ⟨w.heap.size+1,0,none⟩ (.bool b2)).setCell ⟨w.heap.size+1,1,none⟩ (.slice A2 n2 c2)).setCell ⟨w.heap.size+1,2,none⟩ (.bool d2)).setCell ⟨w.heap.size+1,3,none⟩ (.slice B2 m2 k2)):=⟨_,rfl⟩
 rw [← hWF]
 have kq:Blk WF (w.heap.size+1) 36 #[.bool b2,.slice A2 n2 c2,.bool d2,.slice B2 m2 k2] := jwxb
 have hBF:Below w.heap.size w WF:=by rw [hWF];exact Below.set4 (HB_2.out) jvm6
 have f1:IsInt WF (.agg #[.bool b2,.slice A2 n2 c2]) ((0:Rat)).num := j5jq
 have f2:IsInt WF (.agg #[.bool d2,.slice B2 m2 k2]) (((0:Rat)).den:Int) := jdkc
 have HE:Hid (NumPost w WF (Ending.returned (.tuple #[.agg #[.bool b2,.slice A2 n2 c2,.bool d2,.slice B2 m2 k2],.bool false])) 0 false):=⟨_,rfl,⟨_,_,_,_,rfl,f1,f2⟩,hBF⟩
 obtain⟨e0,e1,e2,e3⟩:=kq.cells4
 clear hWF
 exact bodyPost_ret (v := .tuple #[.agg #[.bool b2,.slice A2 n2 c2,.bool d2,.slice B2 m2 k2],.bool false]) jzsm rfl HE.out
set_option maxRecDepth 100000 in
set_option maxHeartbeats 1000000 in
theorem pcost_b {pl:Bool} {k l nx:Nat} {w:World} {v vx:Value} {p:LpX} {x:Nat→Rat}(h:LpQ k w v p)(hx:RowQ pl l w vx nx x)(hk:k≤300)(h1:1≤k)(hl:l≤300)(h2:1≤l)(hm:MayX p)(hn:nx≠p.cost.n) :
 Calls Tryz.prog 22 #[v,vx] w fun e w'=>NumPost w w' e 0 false:=by
 have HM:=Lib.hid (mayB_true.2 hm)
 clear hm
 obtain⟨Ac,cc,Ar,cr,Al,cl,Ah,ch,Ao,co,rfl,hqc,hqr,hql,hqh,hqo,g1,g2,g3,g4,g5⟩:=h.form
 clear h
 obtain⟨Ax,cx,rfl,hcx,gx⟩:=hx.len
 have p_0:=Lib.hid (show LpQ k w (.agg #[.slice Ac p.cost.n cc,.slice Ar p.m cr,.slice Al p.lo.n cl,.slice Ah p.hi.n ch,.slice Ao p.no co]) p from⟨_,_,_,_,_,rfl,hqc,hqr,hql,hqh,hqo⟩)
 have c_0:=Lib.hid hqc.rowQ
 have x_0:=Lib.hid hx
 clear hqc hqr hql hqh hqo hx
 go_enter Tryz.func22,Tryz.ntmps22
 go_wp2_with fail
 refine Calls.mono (pMay_is (r:=true) HM.out ((p_0.out.alloc_ _).alloc_ _) j0i3 h1) ?_
 rintro e w1 ⟨rfl,hb⟩
 have hB:=bun (bun (hb))
 have p_1:=Lib.hid (p_0.out.below hB)
 have x_1:=Lib.hid (x_0.out.below hB)
 have c_1:=Lib.hid (c_0.out.below hB)
 have Kp_1:=Lib.hid (show Blk w1 (w.heap.size) 26 #[.slice Ac p.cost.n cc,.slice Ar p.m cr,.slice Al p.lo.n cl,.slice Ah p.hi.n ch,.slice Ao p.no co] from((Blk.new _ _ jupy _ _).alloc_ _).below hb)
 have Kr_1:=Lib.hid (show Blk w1 (w.heap.size+1) 36 #[.bool false,.slice none 0 0,.bool false,.slice none 0 0] from(Blk.new _ _ jupy _ _).below hb)
 have HB_1:=Lib.hid (hB)
 have hs_1:w.heap.size≤w1.heap.size:=HB_1.out.size
 have hz_1:w.heap.size+2≤w1.heap.size := jrv7
 clear hB hb p_0 x_0 c_0
 obtain⟨p10,p11,p12,p13,p14,l1⟩:=Kp_1.out.use5
 go_wp2_with fail
 refine Calls.mono (ldot_no g1 gx (fun e=>hn e.symm)) ?_
 rintro e w2 ⟨v,rfl,h,hb⟩
 obtain⟨b2,A2,n2,c2,d2,B2,m2,k2,rfl,-,-,-,h1,h2⟩:=h.form
 have hB:=hb
 have Kp_2:=Lib.hid (Kp_1.out.below hB)
 have Kr_2:=Lib.hid (Kr_1.out.below hB)
 have z_2:=Lib.hid (h1)
 have z2_2:=Lib.hid (h2)
 have HB_2:=Lib.hid (below_trans HB_1.out hB)
 have hs_2:w.heap.size≤w2.heap.size:=HB_2.out.size
 have hz_2:w1.heap.size+0≤w2.heap.size := jrv7
 clear hB hb p_1 x_1 c_1 Kp_1 Kr_1 HB_1 p10 p11 p12 p13 p14 l1
 obtain⟨p20,p21,p22,p23,l2⟩:=Kr_2.out.use4
 obtain⟨r20,r21,r22,r23⟩:=Kr_2.out.into4
 go_wp2
 obtain⟨WF,hWF⟩ : ∃W,W=((((w2.setCell ⟨w.heap.size+1,0,none⟩ (.bool b2)).setCell ⟨w.heap.size+1,1,none⟩ (.slice A2 n2 c2)).setCell ⟨w.heap.size+1,2,none⟩ (.bool d2)).setCell ⟨w.heap.size+1,3,none⟩ (.slice B2 m2 k2)):=⟨_,rfl⟩
 rw [← hWF]
 have kq:Blk WF (w.heap.size+1) 36 #[.bool b2,.slice A2 n2 c2,.bool d2,.slice B2 m2 k2] := jwxb
 have hBF:Below w.heap.size w WF:=by rw [hWF];exact Below.set4 (HB_2.out) jvm6
 have f1:IsInt WF (.agg #[.bool b2,.slice A2 n2 c2]) ((0:Rat)).num := j5jq
 have f2:IsInt WF (.agg #[.bool d2,.slice B2 m2 k2]) (((0:Rat)).den:Int) := jdkc
 have HE:Hid (NumPost w WF (Ending.returned (.tuple #[.agg #[.bool b2,.slice A2 n2 c2,.bool d2,.slice B2 m2 k2],.bool false])) 0 false):=⟨_,rfl,⟨_,_,_,_,rfl,f1,f2⟩,hBF⟩
 obtain⟨e0,e1,e2,e3⟩:=kq.cells4
 clear hWF
 exact bodyPost_ret (v := .tuple #[.agg #[.bool b2,.slice A2 n2 c2,.bool d2,.slice B2 m2 k2],.bool false]) jzsm rfl HE.out
set_option maxRecDepth 100000 in
set_option maxHeartbeats 1000000 in
theorem pcost_c {pl:Bool} {k l nx:Nat} {w:World} {v vx:Value} {p:LpX} {x:Nat→Rat}(h:LpQ k w v p)(hx:RowQ pl l w vx nx x)(hk:k≤300)(h1:1≤k)(hl:l≤300)(h2:1≤l)(hm:MayX p)(hn:nx=p.cost.n) :
 Calls Tryz.prog 22 #[v,vx] w fun e w'=>NumPost w w' e (dotF p.cost.q x nx) true:=by
 have HM:=Lib.hid (mayB_true.2 hm)
 have hn24:p.cost.n≤24:=hm.1.2.1
 clear hm
 obtain⟨Ac,cc,Ar,cr,Al,cl,Ah,ch,Ao,co,rfl,hqc,hqr,hql,hqh,hqo,g1,g2,g3,g4,g5⟩:=h.form
 clear h
 obtain⟨Ax,cx,rfl,hcx,gx⟩:=hx.len
 have p_0:=Lib.hid (show LpQ k w (.agg #[.slice Ac p.cost.n cc,.slice Ar p.m cr,.slice Al p.lo.n cl,.slice Ah p.hi.n ch,.slice Ao p.no co]) p from⟨_,_,_,_,_,rfl,hqc,hqr,hql,hqh,hqo⟩)
 have c_0:=Lib.hid hqc.rowQ
 have HKB:=Lib.hid (row_dot hqc.rowQ hx j0i3 h1 h2 hn24)
 subst hn
 have x_0:=Lib.hid hx
 clear hqc hqr hql hqh hqo hx
 go_enter Tryz.func22,Tryz.ntmps22
 go_wp2_with fail
 refine Calls.mono (pMay_is (r:=true) HM.out ((p_0.out.alloc_ _).alloc_ _) j0i3 h1) ?_
 rintro e w1 ⟨rfl,hb⟩
 have hB:=bun (bun (hb))
 have p_1:=Lib.hid (p_0.out.below hB)
 have x_1:=Lib.hid (x_0.out.below hB)
 have c_1:=Lib.hid (c_0.out.below hB)
 have Kp_1:=Lib.hid (show Blk w1 (w.heap.size) 26 #[.slice Ac p.cost.n cc,.slice Ar p.m cr,.slice Al p.lo.n cl,.slice Ah p.hi.n ch,.slice Ao p.no co] from((Blk.new _ _ jupy _ _).alloc_ _).below hb)
 have Kr_1:=Lib.hid (show Blk w1 (w.heap.size+1) 36 #[.bool false,.slice none 0 0,.bool false,.slice none 0 0] from(Blk.new _ _ jupy _ _).below hb)
 have HB_1:=Lib.hid (hB)
 have hs_1:w.heap.size≤w1.heap.size:=HB_1.out.size
 have hz_1:w.heap.size+2≤w1.heap.size := jrv7
 clear hB hb p_0 x_0 c_0
 obtain⟨p10,p11,p12,p13,p14,l1⟩:=Kp_1.out.use5
 go_wp2_with fail
 refine Calls.mono (ldot c_1.out x_1.out j0i3 j0i3 h1 h2 HKB.out j0i3 j0i3) ?_
 rintro e w2 ⟨v,rfl,h,hb⟩
 obtain⟨b2,A2,n2,c2,d2,B2,m2,k2,rfl,-,-,-,h1,h2⟩:=h.form
 have hB:=hb
 have Kp_2:=Lib.hid (Kp_1.out.below hB)
 have Kr_2:=Lib.hid (Kr_1.out.below hB)
 have z_2:=Lib.hid (h1)
 have z2_2:=Lib.hid (h2)
 have HB_2:=Lib.hid (below_trans HB_1.out hB)
 have hs_2:w.heap.size≤w2.heap.size:=HB_2.out.size
 have hz_2:w1.heap.size+0≤w2.heap.size := jrv7
 clear hB hb p_1 x_1 c_1 Kp_1 Kr_1 HB_1 p10 p11 p12 p13 p14 l1
 obtain⟨p20,p21,p22,p23,l2⟩:=Kr_2.out.use4
 obtain⟨r20,r21,r22,r23⟩:=Kr_2.out.into4
 go_wp2
 obtain⟨WF,hWF⟩ : ∃W,W=((((w2.setCell ⟨w.heap.size+1,0,none⟩ (.bool b2)).setCell ⟨w.heap.size+1,1,none⟩ (.slice A2 n2 c2)).setCell ⟨w.heap.size+1,2,none⟩ (.bool d2)).setCell ⟨w.heap.size+1,3,none⟩ (.slice B2 m2 k2)):=⟨_,rfl⟩
 rw [← hWF]
 have kq:Blk WF (w.heap.size+1) 36 #[.bool b2,.slice A2 n2 c2,.bool d2,.slice B2 m2 k2] := jwxb
 have hBF:Below w.heap.size w WF:=by rw [hWF];exact Below.set4 (HB_2.out) jvm6
 have f1:IsInt WF (.agg #[.bool b2,.slice A2 n2 c2]) (dotF p.cost.q x p.cost.n).num := j5jq
 have f2:IsInt WF (.agg #[.bool d2,.slice B2 m2 k2]) ((dotF p.cost.q x p.cost.n).den:Int) := jdkc
 have HE:Hid (NumPost w WF (Ending.returned (.tuple #[.agg #[.bool b2,.slice A2 n2 c2,.bool d2,.slice B2 m2 k2],.bool true])) (dotF p.cost.q x p.cost.n) true):=⟨_,rfl,⟨_,_,_,_,rfl,f1,f2⟩,hBF⟩
 obtain⟨e0,e1,e2,e3⟩:=kq.cells4
 clear hWF
 exact bodyPost_ret (v := .tuple #[.agg #[.bool b2,.slice A2 n2 c2,.bool d2,.slice B2 m2 k2],.bool true]) jzsm rfl HE.out
theorem pcost {pl:Bool} {k l nx:Nat} {w:World} {v vx:Value} {p:LpX} {x:Nat→Rat}(h:LpQ k w v p)(hx:RowQ pl l w vx nx x)(hk:k≤300)(h1:1≤k)(hl:l≤300)(h2:1≤l) :
 Calls Tryz.prog 22 #[v,vx] w fun e w'=>NumPost w w' e (costQ p nx x) (costB p nx):=by
 by_cases hm:MayX p
 ·by_cases hn:nx=p.cost.n
  ·rw [costB_true.2 ⟨hm,hn⟩,show costQ p nx x=dotF p.cost.q x nx by unfold costQ;rw [if_pos ⟨hm,hn⟩]]
   exact pcost_c h hx hk h1 hl h2 hm hn
  ·rw [costB_false.2 fun h=>hn h.2,show costQ p nx x=0 by unfold costQ;rw [if_neg fun h=>hn h.2]]
   exact pcost_b h hx hk h1 hl h2 hm hn
 ·rw [costB_false.2 fun h=>hm h.1,show costQ p nx x=0 by unfold costQ;rw [if_neg fun h=>hm h.1]]
  exact pcost_a h hx hk h1 hl h2 hm
def StdQ(p:Bool)(k:Nat)(w:World)(v:Value)(M N:Nat)(A:Nat→Nat→Rat)(B C:Nat→Rat):Prop :=
 ∃va vb vc,v = .agg #[va,vb,vc]∧TabQ p k w va M (fun _=>N) A∧RowQ p k w vb M B∧RowQ p k w vc N C
def numX(n:Nat)(f:Nat→Rat):RowX:=⟨n,fun i=>(f i).num,fun i=>(f i).den⟩
theorem numX_mays(n:Nat)(f:Nat→Rat):(numX n f).mays:=fun i _=>by
 show(0:Int)<((f i).den:Int)
 have:=(f i).den_pos
 omega
theorem RowQ.rowN {k n:Nat} {w:World} {v:Value} {f:Nat→Rat}(h:RowQ true k w v n f):RowN k w v (numX n f):=by
 obtain⟨A,c,X,h0,h1,h2,h3,h4⟩:=h
 exact⟨A,c,X,h0,h1,h2,h3,fun i hi=>((h4 i hi).1 rfl).1.limR ((h4 i hi).1 rfl).2⟩
theorem TabQ.tabN {k m N:Nat} {w:World} {v:Value} {F:Nat→Nat→Rat}(h:TabQ true k w v m (fun _=>N) F):TabN k w v m (fun i=>numX N (F i)):=by
 obtain⟨A,c,h0,h1,h2,h3⟩:=h
 refine⟨A,c,h0,h1,h2,fun i hi=>?_⟩
 obtain⟨ad,r,e,h4,h5,h6⟩:=h3 i hi
 exact⟨ad,r,e,h4,h5,h6.rowN⟩
set_option maxRecDepth 100000 in
set_option maxHeartbeats 4000000 in
theorem pright {k M N:Nat} {w:World} {v:Value} {A:Nat→Nat→Rat} {B C:Nat→Rat}(h:StdQ true k w v M N A B C)(hk:k≤20000)(h1:1≤k)(hM:M≤64)(hN:N≤80)(hB : ∀i,i<M→0≤B i) :
 Calls Tryz.prog 17 #[v] w fun e w'=>e = .returned (.bool true)∧Below w.heap.size w w':=by
 obtain⟨va,vb,vc,rfl,ha,hb,hc⟩:=h
 obtain⟨Aa,ca,rfl,_,_⟩:=ha.len
 obtain⟨Ab,cb,rfl,_,_⟩:=hb.len
 obtain⟨Ac,cc,rfl,_,_⟩:=hc.len
 have a_0:=Lib.hid ha
 have n_0:=Lib.hid ha.tabN
 have b_0:=Lib.hid hb
 have p_0:=Lib.hid hb.rowN
 have q_0:=Lib.hid hc.rowN
 have HBB:=Lib.hid hB
 clear ha hb hc hB
 go_enter Tryz.func17,Tryz.ntmps17
 go_wp2_with fail
 refine Calls.mono (lrect_is (r:=true) (a_0.out.below (below_new _ _)) ⟨fun _ _ _=>rfl,fun _=>rfl⟩) ?_
 rintro e w1 ⟨rfl,hw1⟩
 have Ks_1:=Lib.hid (show Blk w1 w.heap.size 31 #[.slice Aa M ca,.slice Ab M cb,.slice Ac N cc] from hw1▸Blk.new _ _ rfl _ _)
 have HB_1:=Lib.hid (show Below w.heap.size w w1 from hw1▸below_new _ _)
 have n_1:=Lib.hid (n_0.out.below HB_1.out)
 have b_1:=Lib.hid (b_0.out.below HB_1.out)
 have p_1:=Lib.hid (p_0.out.below HB_1.out)
 have q_1:=Lib.hid (q_0.out.below HB_1.out)
 clear hw1 a_0 n_0 b_0 p_0 q_0
 obtain⟨k0,k1,k2,kl⟩:=Ks_1.out.use3
 go_wp2_with fail
 refine Calls.mono (pallMay_is (r:=true) n_1.out j0i3 ⟨fun _ _ _=>numX_mays _ _,fun _=>rfl⟩) ?_
 rintro e w2 ⟨rfl,hb⟩
 have Ks_2:=Lib.hid (Ks_1.out.below hb)
 have HB_2:=Lib.hid (below_trans HB_1.out hb)
 have b_2:=Lib.hid (b_1.out.below hb)
 have p_2:=Lib.hid (p_1.out.below hb)
 have q_2:=Lib.hid (q_1.out.below hb)
 clear k0 k1 k2 kl hb Ks_1 HB_1 n_1 b_1 p_1 q_1
 obtain⟨k0,k1,k2,kl⟩:=Ks_2.out.use3
 have HTN:Hid (TabN k (w2.alloc (.cells #[.slice Ab M cb,.slice Ac N cc] 22)) (.slice (some ⟨w2.heap.size,0,none⟩) 2 2) 2 (fun i=>if i=0 then numX M B else numX N C)):=by
  refine OwnT.tabN (own_new w2 w2.heap.size _ rfl (Nat.le_refl _) 2 j0i3 _ rfl (fun i=>if i=0 then .slice Ab M cb else .slice Ac N cc) rfl (fun u hu=>by simp at hu;rcases hu with rfl | rfl <;> exact nu)) j0i3 fun i hi=>?_
  have:i=0∨i=1 := j0i3
  rcases this with rfl | rfl
  ·exact p_2.out.below (below_new _ _)
  ·exact q_2.out.below (below_new _ _)
 go_wp2_with fail
 refine Calls.mono (pallMay_is (r:=true) HTN.out j0i3 ⟨fun _ i hi=>by split <;> exact numX_mays _ _,fun _=>rfl⟩) ?_
 rintro e w3 ⟨rfl,hb⟩
 have hb3:=bun hb
 have Ks_3:=Lib.hid (Ks_2.out.below hb3)
 have HB_3:=Lib.hid (below_trans HB_2.out hb3)
 have b_3:=Lib.hid (b_2.out.below hb3)
 clear k0 k1 k2 kl hb hb3 Ks_2 HB_2 b_2 p_2 q_2 HTN
 obtain⟨k0,k1,k2,kl⟩:=Ks_3.out.use3
 go_wp2_with fail
 refine Calls.mono (contains_rat (cap := #[]) (P:=fun i=>decide (B i<0)) (fun args u=>by simp [go_sem]) (fun i w' x hi hb' hr'=>pbelow_is rfl hr'.2 hk h1) b_3.out) ?_
 rintro e w4 ⟨rfl,hb⟩
 have HA:Hid (anyB M (fun i=>decide (B i<0))=false):=anyB_false.2 fun i hi=>decide_eq_false (Rat.not_lt.2 (HBB.out i hi))
 have HB_4:=Lib.hid (below_trans HB_3.out hb)
 clear hb
 rw [HA.out]
 go_wp2
 go_ret
 exact⟨rfl,HB_4.out⟩
end Go.Proofs.YtgilnmhejjpleaaGreat
namespace Go.Proofs.YtgilnmhejjpleaaGreat
open Go.RowKit
set_option linter.unusedSimpArgs false
set_option linter.unusedVariables false
attribute [local go_sem ↓] Go.wp_at_zero Go.wp_at_succ
theorem Blk.cells3 {w:World} {g:Nat} {t:TypeId} {x0 x1 x2:Value}(h:Blk w g t #[x0,x1,x2]):w.cell? ⟨g,0,none⟩=some x0∧w.cell? ⟨g,1,none⟩=some x1∧w.cell? ⟨g,2,none⟩=some x2:=⟨h.cell 0,h.cell 1,h.cell 2⟩
set_option maxRecDepth 100000 in
set_option maxHeartbeats 1000000 in
theorem pstd_no {k:Nat} {w:World} {v:Value} {p:LpX}(h:LpQ k w v p)(hm : ¬MayX p)(hk:k≤300)(h1:1≤k) :
 Calls Tryz.prog 11 #[v] w fun e w' => ∃vr,e = .returned (.tuple #[.agg #[.slice none 0 0,.slice none 0 0,.slice none 0 0],vr,.int .i64 1])∧IsRat w' vr 0∧Below w.heap.size w w':=by
 obtain⟨Ac,cc,Ar,cr,Al,cl,Ah,ch,Ao,co,rfl,hqc,hqr,hql,hqh,hqo,g1,g2,g3,g4,g5⟩:=h.form
 have p_0:=Lib.hid (show LpQ k w (.agg #[.slice Ac p.cost.n cc,.slice Ar p.m cr,.slice Al p.lo.n cl,.slice Ah p.hi.n ch,.slice Ao p.no co]) p from⟨_,_,_,_,_,rfl,hqc,hqr,hql,hqh,hqo⟩)
 have HM:=Lib.hid (mayB_false.2 hm)
 clear h hm hqr hqh hqo hqc hql
 go_enter Tryz.func11,Tryz.ntmps11
 go_wp2_with fail
 refine Calls.mono (pMay_is (r:=false) HM.out (((p_0.out.alloc_ _).alloc_ _).alloc_ _) j0i3 h1) ?_
 rintro e w1 ⟨rfl,hb⟩
 have hB:=bun (bun (bun (hb)))
 have p_1:=Lib.hid (p_0.out.below hB)
 have Kp_1:=Lib.hid (show Blk w1 (w.heap.size) 26 #[.slice Ac p.cost.n cc,.slice Ar p.m cr,.slice Al p.lo.n cl,.slice Ah p.hi.n ch,.slice Ao p.no co] from(((Blk.new _ _ jupy _ _).alloc_ _).alloc_ _).below hb)
 have Ks_1:=Lib.hid (show Blk w1 (w.heap.size+1) 31 #[.slice none 0 0,.slice none 0 0,.slice none 0 0] from((Blk.new _ _ jupy _ _).alloc_ _).below hb)
 have Kr_1:=Lib.hid (show Blk w1 (w.heap.size+1+1) 36 #[.bool false,.slice none 0 0,.bool false,.slice none 0 0] from(Blk.new _ _ jupy _ _).below hb)
 have HB_1:=Lib.hid (hB)
 have hs_1:w.heap.size≤w1.heap.size:=HB_1.out.size
 have hz_1:w.heap.size+3≤w1.heap.size := jrv7
 clear hB hb p_0
 obtain⟨p10,p11,p12,p13,p14,l1⟩:=Kp_1.out.use5
 go_wp2_with fail
 refine Calls.mono (pzero _) ?_
 rintro e w2 ⟨v,rfl,h,hb⟩
 obtain⟨b2,A2,n2,c2,d2,B2,m2,k2,rfl,-,-,-,h1,h2⟩:=h.form
 have hB:=hb
 have Kp_2:=Lib.hid (Kp_1.out.below hB)
 have Ks_2:=Lib.hid (Ks_1.out.below hB)
 have Kr_2:=Lib.hid (Kr_1.out.below hB)
 have z_2:=Lib.hid (h1)
 have z2_2:=Lib.hid (h2)
 have HB_2:=Lib.hid (below_trans HB_1.out hB)
 have hs_2:w.heap.size≤w2.heap.size:=HB_2.out.size
 have hz_2:w1.heap.size+0≤w2.heap.size := jrv7
 clear hB hb p_1 Kp_1 Ks_1 Kr_1 HB_1 p10 p11 p12 p13 p14 l1
 obtain⟨p20,p21,p22,l2⟩:=Ks_2.out.use3
 obtain⟨p30,p31,p32,l3⟩:=Ks_2.out.use3
 obtain⟨r30,r31,r32⟩:=Ks_2.out.into3
 obtain⟨p40,p41,p42,p43,l4⟩:=Kr_2.out.use4
 obtain⟨r40,r41,r42,r43⟩:=Kr_2.out.into4
 go_wp2
 obtain⟨WF,hWF⟩ : ∃W,W=(((((((w2.setCell ⟨w.heap.size+1,0,none⟩ (.slice none 0 0)).setCell ⟨w.heap.size+1,1,none⟩ (.slice none 0 0)).setCell ⟨w.heap.size+1,2,none⟩ (.slice none 0 0)).setCell ⟨w.heap.size+1+1,0,none⟩ (.bool b2)).setCell ⟨w.heap.size+1+1,1,none⟩ (.slice A2 n2 c2)).setCell ⟨w.heap.size+1+1,2,none⟩ (.bool d2)).setCell ⟨w.heap.size+1+1,3,none⟩ (.slice B2 m2 k2)):=⟨_,rfl⟩
 rw [← hWF]
 have kq0:Blk WF (w.heap.size+1) 31 #[.slice none 0 0,.slice none 0 0,.slice none 0 0]:=by rw [hWF];exact(((((((Ks_2.out.set_ 0 (.slice none 0 0)).set_ 1 (.slice none 0 0)).set_ 2 (.slice none 0 0)).other j0i3 0 (.bool b2)).other j0i3 1 (.slice A2 n2 c2)).other j0i3 2 (.bool d2)).other j0i3 3 (.slice B2 m2 k2))
 obtain⟨e00,e01,e02⟩:=kq0.cells3
 have kq1:Blk WF (w.heap.size+1+1) 36 #[.bool b2,.slice A2 n2 c2,.bool d2,.slice B2 m2 k2]:=by rw [hWF];exact(((((((Kr_2.out.other j0i3 0 (.slice none 0 0)).other j0i3 1 (.slice none 0 0)).other j0i3 2 (.slice none 0 0)).set_ 0 (.bool b2)).set_ 1 (.slice A2 n2 c2)).set_ 2 (.bool d2)).set_ 3 (.slice B2 m2 k2))
 obtain⟨e10,e11,e12,e13⟩:=kq1.cells4
 have hBF:Below w.heap.size w WF:=by rw [hWF];exact(bset (bset (bset (bset (bset (bset (bset HB_2.out j0i3) j0i3) j0i3) j0i3) j0i3) j0i3) j0i3)
 have f1:IsInt WF (.agg #[.bool b2,.slice A2 n2 c2]) (0:Rat).num:=by rw [hWF];exact(((((((z_2.out.one Ks_2.out (i:=0) (x := .slice none 0 0) (y := .slice none 0 0) rfl nu).one (Ks_2.out.set_ 0 (.slice none 0 0)) (i:=1) (x := .slice none 0 0) (y := .slice none 0 0) rfl nu).one ((Ks_2.out.set_ 0 (.slice none 0 0)).set_ 1 (.slice none 0 0)) (i:=2) (x := .slice none 0 0) (y := .slice none 0 0) rfl nu).one (((Kr_2.out.other j0i3 0 (.slice none 0 0)).other j0i3 1 (.slice none 0 0)).other j0i3 2 (.slice none 0 0)) (i:=0) (x := .bool false) (y := .bool b2) rfl nu).one ((((Kr_2.out.other j0i3 0 (.slice none 0 0)).other j0i3 1 (.slice none 0 0)).other j0i3 2 (.slice none 0 0)).set_ 0 (.bool b2)) (i:=1) (x := .slice none 0 0) (y := .slice A2 n2 c2) rfl nu).one (((((Kr_2.out.other j0i3 0 (.slice none 0 0)).other j0i3 1 (.slice none 0 0)).other j0i3 2 (.slice none 0 0)).set_ 0 (.bool b2)).set_ 1 (.slice A2 n2 c2)) (i:=2) (x := .bool false) (y := .bool d2) rfl nu).one ((((((Kr_2.out.other j0i3 0 (.slice none 0 0)).other j0i3 1 (.slice none 0 0)).other j0i3 2 (.slice none 0 0)).set_ 0 (.bool b2)).set_ 1 (.slice A2 n2 c2)).set_ 2 (.bool d2)) (i:=3) (x := .slice none 0 0) (y := .slice B2 m2 k2) rfl nu)
 have f2:IsInt WF (.agg #[.bool d2,.slice B2 m2 k2]) ((0:Rat).den:Int):=by rw [hWF];exact(((((((z2_2.out.one Ks_2.out (i:=0) (x := .slice none 0 0) (y := .slice none 0 0) rfl nu).one (Ks_2.out.set_ 0 (.slice none 0 0)) (i:=1) (x := .slice none 0 0) (y := .slice none 0 0) rfl nu).one ((Ks_2.out.set_ 0 (.slice none 0 0)).set_ 1 (.slice none 0 0)) (i:=2) (x := .slice none 0 0) (y := .slice none 0 0) rfl nu).one (((Kr_2.out.other j0i3 0 (.slice none 0 0)).other j0i3 1 (.slice none 0 0)).other j0i3 2 (.slice none 0 0)) (i:=0) (x := .bool false) (y := .bool b2) rfl nu).one ((((Kr_2.out.other j0i3 0 (.slice none 0 0)).other j0i3 1 (.slice none 0 0)).other j0i3 2 (.slice none 0 0)).set_ 0 (.bool b2)) (i:=1) (x := .slice none 0 0) (y := .slice A2 n2 c2) rfl nu).one (((((Kr_2.out.other j0i3 0 (.slice none 0 0)).other j0i3 1 (.slice none 0 0)).other j0i3 2 (.slice none 0 0)).set_ 0 (.bool b2)).set_ 1 (.slice A2 n2 c2)) (i:=2) (x := .bool false) (y := .bool d2) rfl nu).one ((((((Kr_2.out.other j0i3 0 (.slice none 0 0)).other j0i3 1 (.slice none 0 0)).other j0i3 2 (.slice none 0 0)).set_ 0 (.bool b2)).set_ 1 (.slice A2 n2 c2)).set_ 2 (.bool d2)) (i:=3) (x := .slice none 0 0) (y := .slice B2 m2 k2) rfl nu)
 have HE:Hid (∃vr,(Ending.returned (.tuple #[(.agg #[.slice none 0 0,.slice none 0 0,.slice none 0 0]),(.agg #[.bool b2,.slice A2 n2 c2,.bool d2,.slice B2 m2 k2]),.int .i64 1])) = .returned (.tuple #[.agg #[.slice none 0 0,.slice none 0 0,.slice none 0 0],vr,.int .i64 1])∧IsRat WF vr 0∧Below w.heap.size w WF):=⟨_,rfl,⟨_,_,_,_,rfl,f1,f2⟩,hBF⟩
 clear hWF
 exact bodyPost_ret (v := .tuple #[(.agg #[.slice none 0 0,.slice none 0 0,.slice none 0 0]),(.agg #[.bool b2,.slice A2 n2 c2,.bool d2,.slice B2 m2 k2]),.int .i64 1]) (by simp [results,Tryz.results11,go_sem,e00,e01,e02,e10,e11,e12,e13] <;> omega) rfl HE.out
end Go.Proofs.YtgilnmhejjpleaaGreat
namespace Go.Proofs.YtgilnmhejjpleaaGreat
open Go.RowKit
set_option linter.unusedSimpArgs false
set_option linter.unusedVariables false
attribute [local go_sem ↓] Go.wp_at_zero Go.wp_at_succ
set_option maxRecDepth 100000 in
set_option maxHeartbeats 1000000 in
theorem rsame11 {k l M N:Nat} {w:World} {va vb:Value} {A A':Nat→Nat→Rat} {B B' C C':Nat→Rat}(ha:StdQ true k w va M N A B C)(hb:StdQ true l w vb M N A' B' C')(hA : ∀i,i<M→∀j,j<N→A i j=A' i j)(hB : ∀i,i<M→B i=B' i)(hC : ∀j,j<N→C j=C' j)(hk:k≤100000) :
 Calls Tryz.prog 13 #[va,vb] w fun e w'=>e = .returned (.bool true)∧Below w.heap.size w w':=by
 obtain⟨v1,v2,v3,rfl,a1,a2,a3⟩:=ha
 obtain⟨u1,u2,u3,rfl,b1,b2,b3⟩:=hb
 obtain⟨Aa,ca,rfl,_,_⟩:=a1.len
 obtain⟨Ab,cb,rfl,_,_⟩:=a2.len
 obtain⟨Ac,cc,rfl,_,_⟩:=a3.len
 obtain⟨Aa',ca',rfl,_,_⟩:=b1.len
 obtain⟨Ab',cb',rfl,_,_⟩:=b2.len
 obtain⟨Ac',cc',rfl,_,_⟩:=b3.len
 have a_0:=Lib.hid a1
 have b_0:=Lib.hid a2
 have c_0:=Lib.hid a3
 have d_0:=Lib.hid b1
 have e_0:=Lib.hid b2
 have f_0:=Lib.hid b3
 have HA:=Lib.hid hA
 have HB:=Lib.hid hB
 have HC:=Lib.hid hC
 clear a1 a2 a3 b1 b2 b3 hA hB hC
 go_enter Tryz.func13,Tryz.ntmps13
 go_wp2_with fail
 refine Calls.mono (rtables ((a_0.out.alloc_ _).alloc_ _) ((d_0.out.alloc_ _).alloc_ _) (fun i hi=>rfl) HA.out hk) ?_
 rintro e w1 ⟨rfl,hb⟩
 have hB:=bun (bun (hb))
 have b_1:=Lib.hid (b_0.out.below hB)
 have c_1:=Lib.hid (c_0.out.below hB)
 have e_1:=Lib.hid (e_0.out.below hB)
 have f_1:=Lib.hid (f_0.out.below hB)
 have Kx_1:=Lib.hid (show Blk w1 (w.heap.size) 31 #[.slice Aa M ca,.slice Ab M cb,.slice Ac N cc] from((Blk.new _ _ jupy _ _).alloc_ _).below hb)
 have Kz_1:=Lib.hid (show Blk w1 (w.heap.size+1) 31 #[.slice Aa' M ca',.slice Ab' M cb',.slice Ac' N cc'] from(Blk.new _ _ jupy _ _).below hb)
 have HB_1:=Lib.hid (hB)
 have hs_1:w.heap.size≤w1.heap.size:=HB_1.out.size
 have hz_1:w.heap.size+2≤w1.heap.size := jrv7
 clear hB hb a_0 b_0 c_0 d_0 e_0 f_0
 obtain⟨p10,p11,p12,l1⟩:=Kx_1.out.use3
 obtain⟨p20,p21,p22,l2⟩:=Kz_1.out.use3
 go_wp2_with fail
 refine Calls.mono (rsame b_1.out e_1.out HB.out hk) ?_
 rintro e w2 ⟨rfl,hb⟩
 have hB:=hb
 have c_2:=Lib.hid (c_1.out.below hB)
 have f_2:=Lib.hid (f_1.out.below hB)
 have Kx_2:=Lib.hid (Kx_1.out.below hB)
 have Kz_2:=Lib.hid (Kz_1.out.below hB)
 have HB_2:=Lib.hid (below_trans HB_1.out hB)
 have hs_2:w.heap.size≤w2.heap.size:=HB_2.out.size
 have hz_2:w1.heap.size+0≤w2.heap.size := jrv7
 clear hB hb b_1 c_1 e_1 f_1 Kx_1 Kz_1 HB_1 p10 p11 p12 l1 p20 p21 p22 l2
 obtain⟨p30,p31,p32,l3⟩:=Kx_2.out.use3
 obtain⟨p40,p41,p42,l4⟩:=Kz_2.out.use3
 go_wp2_with fail
 refine Calls.mono (rsame c_2.out f_2.out HC.out hk) ?_
 rintro e w3 ⟨rfl,hb⟩
 have hB:=hb
 have c_3:=Lib.hid (c_2.out.below hB)
 have f_3:=Lib.hid (f_2.out.below hB)
 have Kx_3:=Lib.hid (Kx_2.out.below hB)
 have Kz_3:=Lib.hid (Kz_2.out.below hB)
 have HB_3:=Lib.hid (below_trans HB_2.out hB)
 have hs_3:w.heap.size≤w3.heap.size:=HB_3.out.size
 have hz_3:w2.heap.size+0≤w3.heap.size := jrv7
 clear hB hb c_2 f_2 Kx_2 Kz_2 HB_2 p30 p31 p32 l3 p40 p41 p42 l4
 obtain⟨p50,p51,p52,l5⟩:=Kx_3.out.use3
 obtain⟨p60,p61,p62,l6⟩:=Kz_3.out.use3
 go_wp2
 go_ret
 exact⟨rfl,HB_3.out⟩
end Go.Proofs.YtgilnmhejjpleaaGreat
