/- Contracts of the document's own fractions: Floor, Ceil, Frac. -/
import Derived.Test.YtgilnmhejjpleaaGreatPLr
import Derived.Test.YtgilnmhejjpleaaGreatPRl
import Derived.Test.YtgilnmhejjpleaaGreatPRc
import Derived.WalkKit
import Derived.ProofKit
import Derived.OpenShut
import Derived.Lib.SmallJoins
namespace Go.Proofs.YtgilnmhejjpleaaGreat
open Go.RowKit
attribute [local go_sem ↓] Go.wp_at_zero Go.wp_at_succ
set_option linter.unusedVariables false
theorem jd4n {P:Prop}(h:P:=by rw [beq_eq_false_iff_ne]; exact h0):P:=h
theorem jg4z {P:Prop}(h:P:=by unfold sg; simp; omega):P:=h
theorem jo0f {P:Prop}(h:P:=by kernel_rfl):P:=h
theorem jrw3 {P:Prop}(h:P:=by simp [results, Tryz.results77, go_sem, e0, e1, e2, e3] <;> omega):P:=h
theorem jvi8 {P:Prop}(h:P:=by show _ < _; rw [e2]; omega):P:=h
set_option maxRecDepth 100000 in
set_option maxHeartbeats 1000000 in
theorem rof3_z(N D:Int)(w:World)(h:D=0) :
 Calls Tryz.prog 77 #[.int .i64 N,.int .i64 D] w fun e w'=>RatOfPost w w' e 0 false:=by
 have g1:(D == 0)=true:=by rw [h];rfl
 clear h
 go_enter Tryz.func77,Tryz.ntmps77
 go_wp2_with fail
 refine Calls.mono (rzero_any _) ?_
 rintro e w1 ⟨v,rfl,h,hb⟩
 obtain⟨b1,A1,n1,c1,d1,B1,m1,k1,rfl,-,-,-,h1,h2⟩:=h.form
 have hB:=bun (hb)
 have Kr_1:=Lib.hid (show Blk w1 (w.heap.size) 36 #[.bool false,.slice none 0 0,.bool false,.slice none 0 0] from(Blk.new _ _ jupy _ _).below hb)
 have z_1:=Lib.hid (h1)
 have z2_1:=Lib.hid (h2)
 have HB_1:=Lib.hid (hB)
 have hs_1:w.heap.size≤w1.heap.size:=HB_1.out.size
 have hz_1:w.heap.size+1≤w1.heap.size := jrv7
 clear hB hb
 obtain⟨p10,p11,p12,p13,l1⟩:=Kr_1.out.use4
 obtain⟨r10,r11,r12,r13⟩:=Kr_1.out.into4
 go_wp2
 obtain⟨WF,hWF⟩ : ∃W,W=((((w1.setCell ⟨w.heap.size,0,none⟩ (.bool b1)).setCell ⟨w.heap.size,1,none⟩ (.slice A1 n1 c1)).setCell ⟨w.heap.size,2,none⟩ (.bool d1)).setCell ⟨w.heap.size,3,none⟩ (.slice B1 m1 k1)):=⟨_,rfl⟩
 rw [← hWF]
 have kq:Blk WF (w.heap.size) 36 #[.bool b1,.slice A1 n1 c1,.bool d1,.slice B1 m1 k1] := jvku
 have hBF:Below w.heap.size w WF:=by rw [hWF];exact Below.set4 (HB_1.out) jvm6
 have f1:IsInt WF (.agg #[.bool b1,.slice A1 n1 c1]) (0:Rat).num := jgdd
 have f2:IsInt WF (.agg #[.bool d1,.slice B1 m1 k1]) ((0:Rat).den:Int) := jv35
 have HE:Hid (RatOfPost w WF (Ending.returned (.tuple #[.agg #[.bool b1,.slice A1 n1 c1,.bool d1,.slice B1 m1 k1],.bool false])) 0 false):=⟨_,rfl,⟨_,_,_,_,rfl,f1,f2⟩,hBF⟩
 obtain⟨e0,e1,e2,e3⟩:=kq.cells4
 clear hWF
 exact bodyPost_ret (v := .tuple #[.agg #[.bool b1,.slice A1 n1 c1,.bool d1,.slice B1 m1 k1],.bool false]) jrw3 rfl HE.out
set_option maxRecDepth 100000 in
set_option maxHeartbeats 2000000 in
theorem rof3_tt(N D:Int)(w:World)(h1 : -9223372036854775808≤N)(h2:N≤9223372036854775807)(h3 : -9223372036854775808≤D)(h4:D≤9223372036854775807)(hn:decide (N<0)=true)(hd:decide (D<0)=true)(h0:D≠0) :
 Calls Tryz.prog 77 #[.int .i64 N,.int .i64 D] w fun e w'=>RatOfPost w w' e (Rat.divInt N D) true:=by
 have g1:(D == 0)=false := jd4n
 have HN:=Lib.hid hn
 have HD:=Lib.hid hd
 have hN:N<0:=of_decide_eq_true hn
 have hD:D<0:=of_decide_eq_true hd
 have e1:sg false N.natAbs = -N := jg4z
 have e2:sg false D.natAbs = -D := jg4z
 have HY:Hid (0<sg false D.natAbs) := jvi8
 have EQ:Hid (Rat.divInt (sg false N.natAbs) (sg false D.natAbs)=Rat.divInt N D):=by show _=_;rw [e1,e2,Rat.neg_divInt_neg]
 have H1:=Lib.hid h1
 have H2:=Lib.hid h2
 have H3:=Lib.hid h3
 have H4:=Lib.hid h4
 clear hn hd hN hD e1 e2 h0 h1 h2 h3 h4
 go_enter Tryz.func77,Tryz.ntmps77
 go_wp2_with fail
 refine Calls.mono (rof_any N _ H1.out H2.out) ?_
 rintro e w1 ⟨v,rfl,h,hb⟩
 obtain⟨b1,A1,n1,c1,rfl,e1,-,h⟩:=h.form
 obtain rfl:b1=true:=e1.trans HN.out
 clear e1
 replace h:=(h.limk H1.out H2.out).mag
 have hB:=bun (hb)
 have Kr_1:=Lib.hid (show Blk w1 (w.heap.size) 36 #[.bool false,.slice none 0 0,.bool false,.slice none 0 0] from(Blk.new _ _ jupy _ _).below hb)
 have n_1:=Lib.hid (h)
 have HB_1:=Lib.hid (hB)
 have hs_1:w.heap.size≤w1.heap.size:=HB_1.out.size
 have hz_1:w.heap.size+1≤w1.heap.size := jrv7
 clear hB hb
 go_wp2_with fail
 refine Calls.mono (rof_any D _ H3.out H4.out) ?_
 rintro e w2 ⟨v,rfl,h,hb⟩
 obtain⟨b2,A2,n2,c2,rfl,e2,-,h⟩:=h.form
 obtain rfl:b2=true:=e2.trans HD.out
 clear e2
 replace h:=(h.limk H3.out H4.out).mag
 have hB:=bun (hb)
 have n_2:=Lib.hid (n_1.out.below hB)
 have Kr_2:=Lib.hid (Kr_1.out.below hB)
 have Kn_2:=Lib.hid (show Blk w2 (w1.heap.size) 34 #[.bool true,.slice A1 n1 c1] from(Blk.new _ _ jupy _ _).below hb)
 have d_2:=Lib.hid (h)
 have HB_2:=Lib.hid (below_trans HB_1.out hB)
 have hs_2:w.heap.size≤w2.heap.size:=HB_2.out.size
 have hz_2:w1.heap.size+1≤w2.heap.size := jrv7
 clear hB hb n_1 Kr_1 HB_1
 obtain⟨p10,p11,l1⟩:=Kn_2.out.use2
 go_wp2_with fail
 refine Calls.mono (r_plain (k:=2) (limQ_mk (limI_mk (b:=false) (n_2.out.alloc_ _)) (limI_mk (b:=false) (d_2.out.alloc_ _)) HY.out EQ.out) j0i3) ?_
 rintro e w3 ⟨v,rfl,h,hb⟩
 obtain⟨b3,A3,n3,c3,d3,B3,m3,k3,rfl,-,-,-,h1,h2⟩:=h.form
 have hB:=bun (hb)
 have n_3:=Lib.hid (n_2.out.below hB)
 have d_3:=Lib.hid (d_2.out.below hB)
 have Kr_3:=Lib.hid (Kr_2.out.below hB)
 have Kn_3:=Lib.hid (Kn_2.out.below hB)
 have Kd_3:=Lib.hid (show Blk w3 (w2.heap.size) 34 #[.bool true,.slice A2 n2 c2] from(Blk.new _ _ jupy _ _).below hb)
 have z_3:=Lib.hid (h1)
 have z2_3:=Lib.hid (h2)
 have HB_3:=Lib.hid (below_trans HB_2.out hB)
 have hs_3:w.heap.size≤w3.heap.size:=HB_3.out.size
 have hz_3:w2.heap.size+1≤w3.heap.size := jrv7
 clear hB hb n_2 d_2 Kr_2 Kn_2 HB_2 p10 p11 l1
 obtain⟨p20,p21,p22,p23,l2⟩:=Kr_3.out.use4
 obtain⟨r20,r21,r22,r23⟩:=Kr_3.out.into4
 go_wp2
 obtain⟨WF,hWF⟩ : ∃W,W=((((w3.setCell ⟨w.heap.size,0,none⟩ (.bool b3)).setCell ⟨w.heap.size,1,none⟩ (.slice A3 n3 c3)).setCell ⟨w.heap.size,2,none⟩ (.bool d3)).setCell ⟨w.heap.size,3,none⟩ (.slice B3 m3 k3)):=⟨_,rfl⟩
 rw [← hWF]
 have kq:Blk WF (w.heap.size) 36 #[.bool b3,.slice A3 n3 c3,.bool d3,.slice B3 m3 k3] := js60
 have hBF:Below w.heap.size w WF:=by rw [hWF];exact Below.set4 (HB_3.out) jvm6
 have f1:IsInt WF (.agg #[.bool b3,.slice A3 n3 c3]) (Rat.divInt N D).num := jcr2
 have f2:IsInt WF (.agg #[.bool d3,.slice B3 m3 k3]) ((Rat.divInt N D).den:Int) := jjr2
 have HE:Hid (RatOfPost w WF (Ending.returned (.tuple #[.agg #[.bool b3,.slice A3 n3 c3,.bool d3,.slice B3 m3 k3],.bool true])) (Rat.divInt N D) true):=⟨_,rfl,⟨_,_,_,_,rfl,f1,f2⟩,hBF⟩
 obtain⟨e0,e1,e2,e3⟩:=kq.cells4
 clear hWF
 exact bodyPost_ret (v := .tuple #[.agg #[.bool b3,.slice A3 n3 c3,.bool d3,.slice B3 m3 k3],.bool true]) jrw3 rfl HE.out
set_option maxRecDepth 100000 in
set_option maxHeartbeats 2000000 in
theorem rof3_tf(N D:Int)(w:World)(h1 : -9223372036854775808≤N)(h2:N≤9223372036854775807)(h3 : -9223372036854775808≤D)(h4:D≤9223372036854775807)(hn:decide (N<0)=true)(hd:decide (D<0)=false)(h0:D≠0) :
 Calls Tryz.prog 77 #[.int .i64 N,.int .i64 D] w fun e w'=>RatOfPost w w' e (Rat.divInt N D) true:=by
 have g1:(D == 0)=false := jd4n
 have HN:=Lib.hid hn
 have HD:=Lib.hid hd
 have hN:N<0:=of_decide_eq_true hn
 have hD : ¬D<0:=of_decide_eq_false hd
 have e1:sg true N.natAbs=N := jg4z
 have e2:sg false D.natAbs=D := jg4z
 have HY:Hid (0<sg false D.natAbs) := jvi8
 have EQ:Hid (Rat.divInt (sg true N.natAbs) (sg false D.natAbs)=Rat.divInt N D):=by show _=_;rw [e1,e2]
 have H1:=Lib.hid h1
 have H2:=Lib.hid h2
 have H3:=Lib.hid h3
 have H4:=Lib.hid h4
 clear hn hd hN hD e1 e2 h0 h1 h2 h3 h4
 go_enter Tryz.func77,Tryz.ntmps77
 go_wp2_with fail
 refine Calls.mono (rof_any N _ H1.out H2.out) ?_
 rintro e w1 ⟨v,rfl,h,hb⟩
 obtain⟨b1,A1,n1,c1,rfl,e1,-,h⟩:=h.form
 obtain rfl:b1=true:=e1.trans HN.out
 clear e1
 replace h:=(h.limk H1.out H2.out).mag
 have hB:=bun (hb)
 have Kr_1:=Lib.hid (show Blk w1 (w.heap.size) 36 #[.bool false,.slice none 0 0,.bool false,.slice none 0 0] from(Blk.new _ _ jupy _ _).below hb)
 have n_1:=Lib.hid (h)
 have HB_1:=Lib.hid (hB)
 have hs_1:w.heap.size≤w1.heap.size:=HB_1.out.size
 have hz_1:w.heap.size+1≤w1.heap.size := jrv7
 clear hB hb
 go_wp2_with fail
 refine Calls.mono (rof_any D _ H3.out H4.out) ?_
 rintro e w2 ⟨v,rfl,h,hb⟩
 obtain⟨b2,A2,n2,c2,rfl,e2,-,h⟩:=h.form
 obtain rfl:b2=false:=e2.trans HD.out
 clear e2
 replace h:=(h.limk H3.out H4.out).mag
 have hB:=bun (hb)
 have n_2:=Lib.hid (n_1.out.below hB)
 have Kr_2:=Lib.hid (Kr_1.out.below hB)
 have Kn_2:=Lib.hid (show Blk w2 (w1.heap.size) 34 #[.bool true,.slice A1 n1 c1] from(Blk.new _ _ jupy _ _).below hb)
 have d_2:=Lib.hid (h)
 have HB_2:=Lib.hid (below_trans HB_1.out hB)
 have hs_2:w.heap.size≤w2.heap.size:=HB_2.out.size
 have hz_2:w1.heap.size+1≤w2.heap.size := jrv7
 clear hB hb n_1 Kr_1 HB_1
 obtain⟨p10,p11,l1⟩:=Kn_2.out.use2
 go_wp2_with fail
 refine Calls.mono (r_plain (k:=2) (limQ_mk (limI_mk (b:=true) (n_2.out.alloc_ _)) (limI_mk (b:=false) (d_2.out.alloc_ _)) HY.out EQ.out) j0i3) ?_
 rintro e w3 ⟨v,rfl,h,hb⟩
 obtain⟨b3,A3,n3,c3,d3,B3,m3,k3,rfl,-,-,-,h1,h2⟩:=h.form
 have hB:=bun (hb)
 have n_3:=Lib.hid (n_2.out.below hB)
 have d_3:=Lib.hid (d_2.out.below hB)
 have Kr_3:=Lib.hid (Kr_2.out.below hB)
 have Kn_3:=Lib.hid (Kn_2.out.below hB)
 have Kd_3:=Lib.hid (show Blk w3 (w2.heap.size) 34 #[.bool false,.slice A2 n2 c2] from(Blk.new _ _ jupy _ _).below hb)
 have z_3:=Lib.hid (h1)
 have z2_3:=Lib.hid (h2)
 have HB_3:=Lib.hid (below_trans HB_2.out hB)
 have hs_3:w.heap.size≤w3.heap.size:=HB_3.out.size
 have hz_3:w2.heap.size+1≤w3.heap.size := jrv7
 clear hB hb n_2 d_2 Kr_2 Kn_2 HB_2 p10 p11 l1
 obtain⟨p20,p21,p22,p23,l2⟩:=Kr_3.out.use4
 obtain⟨r20,r21,r22,r23⟩:=Kr_3.out.into4
 go_wp2
 obtain⟨WF,hWF⟩ : ∃W,W=((((w3.setCell ⟨w.heap.size,0,none⟩ (.bool b3)).setCell ⟨w.heap.size,1,none⟩ (.slice A3 n3 c3)).setCell ⟨w.heap.size,2,none⟩ (.bool d3)).setCell ⟨w.heap.size,3,none⟩ (.slice B3 m3 k3)):=⟨_,rfl⟩
 rw [← hWF]
 have kq:Blk WF (w.heap.size) 36 #[.bool b3,.slice A3 n3 c3,.bool d3,.slice B3 m3 k3] := js60
 have hBF:Below w.heap.size w WF:=by rw [hWF];exact Below.set4 (HB_3.out) jvm6
 have f1:IsInt WF (.agg #[.bool b3,.slice A3 n3 c3]) (Rat.divInt N D).num := jcr2
 have f2:IsInt WF (.agg #[.bool d3,.slice B3 m3 k3]) ((Rat.divInt N D).den:Int) := jjr2
 have HE:Hid (RatOfPost w WF (Ending.returned (.tuple #[.agg #[.bool b3,.slice A3 n3 c3,.bool d3,.slice B3 m3 k3],.bool true])) (Rat.divInt N D) true):=⟨_,rfl,⟨_,_,_,_,rfl,f1,f2⟩,hBF⟩
 obtain⟨e0,e1,e2,e3⟩:=kq.cells4
 clear hWF
 exact bodyPost_ret (v := .tuple #[.agg #[.bool b3,.slice A3 n3 c3,.bool d3,.slice B3 m3 k3],.bool true]) jrw3 rfl HE.out
set_option maxRecDepth 100000 in
set_option maxHeartbeats 2000000 in
theorem rof3_ft(N D:Int)(w:World)(h1 : -9223372036854775808≤N)(h2:N≤9223372036854775807)(h3 : -9223372036854775808≤D)(h4:D≤9223372036854775807)(hn:decide (N<0)=false)(hd:decide (D<0)=true)(h0:D≠0) :
 Calls Tryz.prog 77 #[.int .i64 N,.int .i64 D] w fun e w'=>RatOfPost w w' e (Rat.divInt N D) true:=by
 have g1:(D == 0)=false := jd4n
 have HN:=Lib.hid hn
 have HD:=Lib.hid hd
 have hN : ¬N<0:=of_decide_eq_false hn
 have hD:D<0:=of_decide_eq_true hd
 have e1:sg true N.natAbs = -N := jg4z
 have e2:sg false D.natAbs = -D := jg4z
 have HY:Hid (0<sg false D.natAbs) := jvi8
 have EQ:Hid (Rat.divInt (sg true N.natAbs) (sg false D.natAbs)=Rat.divInt N D):=by show _=_;rw [e1,e2,Rat.neg_divInt_neg]
 have H1:=Lib.hid h1
 have H2:=Lib.hid h2
 have H3:=Lib.hid h3
 have H4:=Lib.hid h4
 clear hn hd hN hD e1 e2 h0 h1 h2 h3 h4
 go_enter Tryz.func77,Tryz.ntmps77
 go_wp2_with fail
 refine Calls.mono (rof_any N _ H1.out H2.out) ?_
 rintro e w1 ⟨v,rfl,h,hb⟩
 obtain⟨b1,A1,n1,c1,rfl,e1,-,h⟩:=h.form
 obtain rfl:b1=false:=e1.trans HN.out
 clear e1
 replace h:=(h.limk H1.out H2.out).mag
 have hB:=bun (hb)
 have Kr_1:=Lib.hid (show Blk w1 (w.heap.size) 36 #[.bool false,.slice none 0 0,.bool false,.slice none 0 0] from(Blk.new _ _ jupy _ _).below hb)
 have n_1:=Lib.hid (h)
 have HB_1:=Lib.hid (hB)
 have hs_1:w.heap.size≤w1.heap.size:=HB_1.out.size
 have hz_1:w.heap.size+1≤w1.heap.size := jrv7
 clear hB hb
 go_wp2_with fail
 refine Calls.mono (rof_any D _ H3.out H4.out) ?_
 rintro e w2 ⟨v,rfl,h,hb⟩
 obtain⟨b2,A2,n2,c2,rfl,e2,-,h⟩:=h.form
 obtain rfl:b2=true:=e2.trans HD.out
 clear e2
 replace h:=(h.limk H3.out H4.out).mag
 have hB:=bun (hb)
 have n_2:=Lib.hid (n_1.out.below hB)
 have Kr_2:=Lib.hid (Kr_1.out.below hB)
 have Kn_2:=Lib.hid (show Blk w2 (w1.heap.size) 34 #[.bool false,.slice A1 n1 c1] from(Blk.new _ _ jupy _ _).below hb)
 have d_2:=Lib.hid (h)
 have HB_2:=Lib.hid (below_trans HB_1.out hB)
 have hs_2:w.heap.size≤w2.heap.size:=HB_2.out.size
 have hz_2:w1.heap.size+1≤w2.heap.size := jrv7
 clear hB hb n_1 Kr_1 HB_1
 obtain⟨p10,p11,l1⟩:=Kn_2.out.use2
 go_wp2_with fail
 refine Calls.mono (r_plain (k:=2) (limQ_mk (limI_mk (b:=true) (n_2.out.alloc_ _)) (limI_mk (b:=false) (d_2.out.alloc_ _)) HY.out EQ.out) j0i3) ?_
 rintro e w3 ⟨v,rfl,h,hb⟩
 obtain⟨b3,A3,n3,c3,d3,B3,m3,k3,rfl,-,-,-,h1,h2⟩:=h.form
 have hB:=bun (hb)
 have n_3:=Lib.hid (n_2.out.below hB)
 have d_3:=Lib.hid (d_2.out.below hB)
 have Kr_3:=Lib.hid (Kr_2.out.below hB)
 have Kn_3:=Lib.hid (Kn_2.out.below hB)
 have Kd_3:=Lib.hid (show Blk w3 (w2.heap.size) 34 #[.bool true,.slice A2 n2 c2] from(Blk.new _ _ jupy _ _).below hb)
 have z_3:=Lib.hid (h1)
 have z2_3:=Lib.hid (h2)
 have HB_3:=Lib.hid (below_trans HB_2.out hB)
 have hs_3:w.heap.size≤w3.heap.size:=HB_3.out.size
 have hz_3:w2.heap.size+1≤w3.heap.size := jrv7
 clear hB hb n_2 d_2 Kr_2 Kn_2 HB_2 p10 p11 l1
 obtain⟨p20,p21,p22,p23,l2⟩:=Kr_3.out.use4
 obtain⟨r20,r21,r22,r23⟩:=Kr_3.out.into4
 go_wp2
 obtain⟨WF,hWF⟩ : ∃W,W=((((w3.setCell ⟨w.heap.size,0,none⟩ (.bool b3)).setCell ⟨w.heap.size,1,none⟩ (.slice A3 n3 c3)).setCell ⟨w.heap.size,2,none⟩ (.bool d3)).setCell ⟨w.heap.size,3,none⟩ (.slice B3 m3 k3)):=⟨_,rfl⟩
 rw [← hWF]
 have kq:Blk WF (w.heap.size) 36 #[.bool b3,.slice A3 n3 c3,.bool d3,.slice B3 m3 k3] := js60
 have hBF:Below w.heap.size w WF:=by rw [hWF];exact Below.set4 (HB_3.out) jvm6
 have f1:IsInt WF (.agg #[.bool b3,.slice A3 n3 c3]) (Rat.divInt N D).num := jcr2
 have f2:IsInt WF (.agg #[.bool d3,.slice B3 m3 k3]) ((Rat.divInt N D).den:Int) := jjr2
 have HE:Hid (RatOfPost w WF (Ending.returned (.tuple #[.agg #[.bool b3,.slice A3 n3 c3,.bool d3,.slice B3 m3 k3],.bool true])) (Rat.divInt N D) true):=⟨_,rfl,⟨_,_,_,_,rfl,f1,f2⟩,hBF⟩
 obtain⟨e0,e1,e2,e3⟩:=kq.cells4
 clear hWF
 exact bodyPost_ret (v := .tuple #[.agg #[.bool b3,.slice A3 n3 c3,.bool d3,.slice B3 m3 k3],.bool true]) jrw3 rfl HE.out
set_option maxRecDepth 100000 in
set_option maxHeartbeats 2000000 in
theorem rof3_ff(N D:Int)(w:World)(h1 : -9223372036854775808≤N)(h2:N≤9223372036854775807)(h3 : -9223372036854775808≤D)(h4:D≤9223372036854775807)(hn:decide (N<0)=false)(hd:decide (D<0)=false)(h0:D≠0) :
 Calls Tryz.prog 77 #[.int .i64 N,.int .i64 D] w fun e w'=>RatOfPost w w' e (Rat.divInt N D) true:=by
 have g1:(D == 0)=false := jd4n
 have HN:=Lib.hid hn
 have HD:=Lib.hid hd
 have hN : ¬N<0:=of_decide_eq_false hn
 have hD : ¬D<0:=of_decide_eq_false hd
 have e1:sg false N.natAbs=N := jg4z
 have e2:sg false D.natAbs=D := jg4z
 have HY:Hid (0<sg false D.natAbs) := jvi8
 have EQ:Hid (Rat.divInt (sg false N.natAbs) (sg false D.natAbs)=Rat.divInt N D):=by show _=_;rw [e1,e2]
 have H1:=Lib.hid h1
 have H2:=Lib.hid h2
 have H3:=Lib.hid h3
 have H4:=Lib.hid h4
 clear hn hd hN hD e1 e2 h0 h1 h2 h3 h4
 go_enter Tryz.func77,Tryz.ntmps77
 go_wp2_with fail
 refine Calls.mono (rof_any N _ H1.out H2.out) ?_
 rintro e w1 ⟨v,rfl,h,hb⟩
 obtain⟨b1,A1,n1,c1,rfl,e1,-,h⟩:=h.form
 obtain rfl:b1=false:=e1.trans HN.out
 clear e1
 replace h:=(h.limk H1.out H2.out).mag
 have hB:=bun (hb)
 have Kr_1:=Lib.hid (show Blk w1 (w.heap.size) 36 #[.bool false,.slice none 0 0,.bool false,.slice none 0 0] from(Blk.new _ _ jupy _ _).below hb)
 have n_1:=Lib.hid (h)
 have HB_1:=Lib.hid (hB)
 have hs_1:w.heap.size≤w1.heap.size:=HB_1.out.size
 have hz_1:w.heap.size+1≤w1.heap.size := jrv7
 clear hB hb
 go_wp2_with fail
 refine Calls.mono (rof_any D _ H3.out H4.out) ?_
 rintro e w2 ⟨v,rfl,h,hb⟩
 obtain⟨b2,A2,n2,c2,rfl,e2,-,h⟩:=h.form
 obtain rfl:b2=false:=e2.trans HD.out
 clear e2
 replace h:=(h.limk H3.out H4.out).mag
 have hB:=bun (hb)
 have n_2:=Lib.hid (n_1.out.below hB)
 have Kr_2:=Lib.hid (Kr_1.out.below hB)
 have Kn_2:=Lib.hid (show Blk w2 (w1.heap.size) 34 #[.bool false,.slice A1 n1 c1] from(Blk.new _ _ jupy _ _).below hb)
 have d_2:=Lib.hid (h)
 have HB_2:=Lib.hid (below_trans HB_1.out hB)
 have hs_2:w.heap.size≤w2.heap.size:=HB_2.out.size
 have hz_2:w1.heap.size+1≤w2.heap.size := jrv7
 clear hB hb n_1 Kr_1 HB_1
 obtain⟨p10,p11,l1⟩:=Kn_2.out.use2
 go_wp2_with fail
 refine Calls.mono (r_plain (k:=2) (limQ_mk (limI_mk (b:=false) (n_2.out.alloc_ _)) (limI_mk (b:=false) (d_2.out.alloc_ _)) HY.out EQ.out) j0i3) ?_
 rintro e w3 ⟨v,rfl,h,hb⟩
 obtain⟨b3,A3,n3,c3,d3,B3,m3,k3,rfl,-,-,-,h1,h2⟩:=h.form
 have hB:=bun (hb)
 have n_3:=Lib.hid (n_2.out.below hB)
 have d_3:=Lib.hid (d_2.out.below hB)
 have Kr_3:=Lib.hid (Kr_2.out.below hB)
 have Kn_3:=Lib.hid (Kn_2.out.below hB)
 have Kd_3:=Lib.hid (show Blk w3 (w2.heap.size) 34 #[.bool false,.slice A2 n2 c2] from(Blk.new _ _ jupy _ _).below hb)
 have z_3:=Lib.hid (h1)
 have z2_3:=Lib.hid (h2)
 have HB_3:=Lib.hid (below_trans HB_2.out hB)
 have hs_3:w.heap.size≤w3.heap.size:=HB_3.out.size
 have hz_3:w2.heap.size+1≤w3.heap.size := jrv7
 clear hB hb n_2 d_2 Kr_2 Kn_2 HB_2 p10 p11 l1
 obtain⟨p20,p21,p22,p23,l2⟩:=Kr_3.out.use4
 obtain⟨r20,r21,r22,r23⟩:=Kr_3.out.into4
 go_wp2
 obtain⟨WF,hWF⟩ : ∃W,W=((((w3.setCell ⟨w.heap.size,0,none⟩ (.bool b3)).setCell ⟨w.heap.size,1,none⟩ (.slice A3 n3 c3)).setCell ⟨w.heap.size,2,none⟩ (.bool d3)).setCell ⟨w.heap.size,3,none⟩ (.slice B3 m3 k3)):=⟨_,rfl⟩
 rw [← hWF]
 have kq:Blk WF (w.heap.size) 36 #[.bool b3,.slice A3 n3 c3,.bool d3,.slice B3 m3 k3] := js60
 have hBF:Below w.heap.size w WF:=by rw [hWF];exact Below.set4 (HB_3.out) jvm6
 have f1:IsInt WF (.agg #[.bool b3,.slice A3 n3 c3]) (Rat.divInt N D).num := jcr2
 have f2:IsInt WF (.agg #[.bool d3,.slice B3 m3 k3]) ((Rat.divInt N D).den:Int) := jjr2
 have HE:Hid (RatOfPost w WF (Ending.returned (.tuple #[.agg #[.bool b3,.slice A3 n3 c3,.bool d3,.slice B3 m3 k3],.bool true])) (Rat.divInt N D) true):=⟨_,rfl,⟨_,_,_,_,rfl,f1,f2⟩,hBF⟩
 obtain⟨e0,e1,e2,e3⟩:=kq.cells4
 clear hWF
 exact bodyPost_ret (v := .tuple #[.agg #[.bool b3,.slice A3 n3 c3,.bool d3,.slice B3 m3 k3],.bool true]) jrw3 rfl HE.out
theorem rof3_q(N D:Int)(w:World)(h1 : -9223372036854775808≤N)(h2:N≤9223372036854775807)(h3 : -9223372036854775808≤D)(h4:D≤9223372036854775807):Calls Tryz.prog 77 #[.int .i64 N,.int .i64 D] w fun e w'=>RatOfPost w w' e (Rat.divInt N D) (decide (D≠0)):=by
 by_cases h:D=0
 ·rw [decide_eq_false j0i3]
  have e:Rat.divInt N D=0:=by rw [h];exact Rat.divInt_zero N
  rw [e];exact rof3_z N D w h
 ·rw [decide_eq_true h]
  cases hn:decide (N<0) <;> cases hd:decide (D<0)
  ·exact rof3_ff N D w h1 h2 h3 h4 hn hd h
  ·exact rof3_ft N D w h1 h2 h3 h4 hn hd h
  ·exact rof3_tf N D w h1 h2 h3 h4 hn hd h
  ·exact rof3_tt N D w h1 h2 h3 h4 hn hd h
end Go.Proofs.YtgilnmhejjpleaaGreat
namespace Go.Proofs.YtgilnmhejjpleaaGreat
open Go.ChangeShapes Go.WideShapes Go.ChangeAt Go.RowKit Go.ChangeShapes
theorem cellsR_:Tryz.prog.cellsOf 36=4:=by kernel_rfl
theorem cellsRI_:Tryz.prog.cellsOf 34=2:=by kernel_rfl
theorem cellsRB_:Tryz.prog.cellsOf 4=1:=by kernel_rfl
theorem cellsRN_:Tryz.prog.cellsOf 32=1:=by kernel_rfl
set_option maxRecDepth 100000 in
theorem part_open {H:Type} {enc:TypeId × Value→H} {W:World} {base n:Nat} {held:Bool} {c0 c1:Value} {y:DataW H × List MemPlace}(h:DataW.trod enc Tryz.prog W base (fun _=>true) held n 34 [c0,c1]=some y) :
 ∃ (b:Bool) (s:Option Addr) (l c:Nat) (X:Int),c0 = .bool b∧c1 = .slice s l c∧LimI l W (.agg #[.bool b,.slice s l c]) X:=by
 obtain⟨y0,y1,m,_,_,h0,h1⟩:=trod_struct2 Tryz.underlying34 h
 simp only [cellsRB_,cellsRN_,List.drop_zero,List.drop_succ_cons,List.take_succ_cons,List.take_zero] at h0 h1
 obtain⟨b,e0,_⟩:=DataW.trod_bool Tryz.underlying4 h0
 simp at e0
 subst e0
 have hrow : ∃ (s:Option Addr) (l' c':Nat) (zs:List Int),c1 = .slice s l' c'∧((s=none∧l'=0∧c'=0∧zs = [])∨∃x,s=some x∧l'≤c'∧c'≤maxLen∧zs.length=c'∧(∀i,i<zs.length→W.cell? (x.add i)=some (.int .u32 (zs.getD i 0)))∧∀n∈zs,(Lit.int .u32 n).wf=true):=by
  rcases open_ints Tryz.underlying32 Tryz.underlying117 jo0f h1 with ⟨hcs,_⟩ | ⟨x,l',c',zs,hcs,_,hl',hm',hz',_,hcell,hwz⟩
  ·simp at hcs
   exact⟨none,0,0, [],hcs,.inl ⟨rfl,rfl,rfl,rfl⟩⟩
  ·simp at hcs
   exact⟨some x,l',c',zs,hcs,.inr ⟨x,rfl,hl',hm',by simpa using hz',hcell,hwz⟩⟩
 obtain⟨s,l',c',zs,rfl,hr⟩:=hrow
 obtain⟨N,hN⟩:=lim_of l' (Nat.le_refl _) hr
 exact⟨b,s,l',c',sg b N,rfl,rfl,limI_mk hN⟩
end Go.Proofs.YtgilnmhejjpleaaGreat
