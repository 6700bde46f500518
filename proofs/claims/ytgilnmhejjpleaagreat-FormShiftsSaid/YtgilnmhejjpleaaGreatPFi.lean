/- Contracts of prob: what a column costs, what it has in a row; which row holds a variable to its end. -/
import Derived.Test.YtgilnmhejjpleaaGreatPMin
import Derived.Test.YtgilnmhejjpleaaGreatPFe
namespace Go.Proofs.YtgilnmhejjpleaaGreat
open Go.RowKit
attribute [local go_sem ↓] Go.wp_at_zero Go.wp_at_succ
set_option linter.unusedVariables false
set_option linter.unusedSimpArgs false
theorem jd51 {P:Prop}(h:P:=by simp [results, Tryz.results37, go_sem, e0, e1, e2, e3] <;> omega):P:=h
theorem jj1e {P:Prop}(h:P:=by simp [results, Tryz.results38, go_sem, e0, e1, e2, e3] <;> omega):P:=h
theorem jovd {P:Prop}(h:P:=by first | exact hnr | exact hna | exact hnr2 | exact hna2 | exact hn1 | exact hn2):P:=h
theorem jxzq {P:Prop}(h:P:=by show ¬ (0 : Int) ≤ -1; omega):P:=h
theorem ju2h {P:Prop}(h:P:=by (try dsimp only); (first | (and_intros <;> (first | with_reducible assumption | ((with_reducible refine Eq.trans (cell_drew _ _) ?_); with_reducible assumption) | ((repeat rw [World.cell?_setCell_far _ _ _ _ jovd]); with_reducible assumption) | go_keep)) | go_keep)):P:=h
theorem isRat_int {w:World} {b b':Bool} {m m':Value} {u:Int}(h1:IsInt w (.agg #[.bool b,m]) u)(h2:IsInt w (.agg #[.bool b',m']) 1):IsRat w (.agg #[.bool b,m,.bool b',m']) (u:Rat):=⟨b,m,b',m',rfl,by rw [Rat.num_intCast];exact h1,by rw [Rat.den_intCast];exact h2⟩
set_option maxRecDepth 100000 in
set_option maxHeartbeats 1000000 in
theorem pccost_v {k:Nat} {w:World} {v:Value} {p:LpX}(h:LpQ k w v p)(hk:k≤20000)(h1:1≤k) {j:Nat} {r u:Int}(hj:j<p.cost.n) :
 Calls Tryz.prog 37 #[(.agg #[.int .i64 (j:Nat),.int .i64 r,.int .i64 u]),v] w fun e w'=>RatPost w w' e (p.cost.q j):=by
 obtain⟨Ac,cc,Ar,cr,Al,cl,Ah,ch,Ao,co,rfl,hqc,hqr,hql,hqh,hqo,g1,g2,g3,g4,g5⟩:=h.form
 clear h
 have p_0:=Lib.hid (show LpQ k w (.agg #[.slice Ac p.cost.n cc,.slice Ar p.m cr,.slice Al p.lo.n cl,.slice Ah p.hi.n ch,.slice Ao p.no co]) p from⟨_,_,_,_,_,rfl,hqc,hqr,hql,hqh,hqo⟩)
 have c_0:=Lib.hid hqc.rowQ
 have r_0:=Lib.hid hqr
 clear hqc hqr hql hqh hqo
 go_enter Tryz.func37,Tryz.ntmps37
 have hj0:(0:Int)≤(j:Int) := j0i3
 have hjk:(j:Int)<(p.cost.n:Int) := j0i3
 obtain⟨ad,cx,⟨b5,A5,n5,c5,d5,B5,m5,k5⟩,e1,_,_,hat,hE⟩:=c_0.out.at_ hj
 simp only [Value.slice.injEq] at e1
 obtain⟨rfl,_,rfl⟩:=e1
 obtain⟨x0,x1,x2,x3,x4⟩:=hat.below (show Below w.heap.size w (((w.alloc (.cells #[.int .i64 (j:Nat),.int .i64 r,.int .i64 u] 67)).alloc (.cells #[.slice (some ad) p.cost.n cc,.slice Ar p.m cr,.slice Al p.lo.n cl,.slice Ah p.hi.n ch,.slice Ao p.no co] 26)).alloc (.cells #[.bool false,.slice none 0 0,.bool false,.slice none 0 0] 36)) from halloc (halloc (halloc (Below.refl _ _))))
 have e_0:=Lib.hid hE.2
 clear hE hat
 go_wp2_with fail
 refine Calls.mono (q_plain (((e_0.out.alloc_ _).alloc_ _).alloc_ _) j0i3 h1) ?_
 rintro e w1 ⟨v,rfl,h,hb⟩
 obtain⟨b1,A1,n1,c1,d1,B1,m1,k1,rfl,-,-,-,h1,h2⟩:=h.form
 have hB:=bun (bun (bun (hb)))
 have Kc_1:=Lib.hid (show Blk w1 (w.heap.size) 67 #[.int .i64 (j:Nat),.int .i64 r,.int .i64 u] from(((Blk.new _ _ jupy _ _).alloc_ _).alloc_ _).below hb)
 have Kp_1:=Lib.hid (show Blk w1 (w.heap.size+1) 26 #[.slice (some ad) p.cost.n cc,.slice Ar p.m cr,.slice Al p.lo.n cl,.slice Ah p.hi.n ch,.slice Ao p.no co] from((Blk.new _ _ jupy _ _).alloc_ _).below hb)
 have Kr_1:=Lib.hid (show Blk w1 (w.heap.size+1+1) 36 #[.bool false,.slice none 0 0,.bool false,.slice none 0 0] from(Blk.new _ _ jupy _ _).below hb)
 have z_1:=Lib.hid (h1)
 have z2_1:=Lib.hid (h2)
 have HB_1:=Lib.hid (hB)
 have hs_1:w.heap.size≤w1.heap.size:=HB_1.out.size
 have hz_1:w.heap.size+3≤w1.heap.size := jrv7
 clear hB hb c_0 e_0 x0 x1 x2 x3 x4
 obtain⟨p10,p11,p12,p13,l1⟩:=Kr_1.out.use4
 obtain⟨r10,r11,r12,r13⟩:=Kr_1.out.into4
 go_wp2
 obtain⟨WF,hWF⟩ : ∃W,W=((((w1.setCell ⟨w.heap.size+1+1,0,none⟩ (.bool b1)).setCell ⟨w.heap.size+1+1,1,none⟩ (.slice A1 n1 c1)).setCell ⟨w.heap.size+1+1,2,none⟩ (.bool d1)).setCell ⟨w.heap.size+1+1,3,none⟩ (.slice B1 m1 k1)):=⟨_,rfl⟩
 rw [← hWF]
 have kq:Blk WF (w.heap.size+1+1) 36 #[.bool b1,.slice A1 n1 c1,.bool d1,.slice B1 m1 k1] := jvku
 have hBF:Below w.heap.size w WF:=by rw [hWF];exact Below.set4 (HB_1.out) jvm6
 have f1:IsInt WF (.agg #[.bool b1,.slice A1 n1 c1]) (p.cost.q j).num := jgdd
 have f2:IsInt WF (.agg #[.bool d1,.slice B1 m1 k1]) ((p.cost.q j).den:Int) := jv35
 have HE:Hid (RatPost w WF (Ending.returned (.agg #[.bool b1,.slice A1 n1 c1,.bool d1,.slice B1 m1 k1])) (p.cost.q j)):=⟨_,rfl,⟨_,_,_,_,rfl,f1,f2⟩,hBF⟩
 obtain⟨e0,e1,e2,e3⟩:=kq.cells4
 clear hWF
 exact bodyPost_ret (v := .agg #[.bool b1,.slice A1 n1 c1,.bool d1,.slice B1 m1 k1]) jd51 rfl HE.out
set_option maxRecDepth 100000 in
set_option maxHeartbeats 1000000 in
theorem pccost_n {k:Nat} {w:World} {v:Value} {p:LpX}(h:LpQ k w v p)(hk:k≤20000)(h1:1≤k) {r u:Int} :
 Calls Tryz.prog 37 #[(.agg #[.int .i64 (-1),.int .i64 r,.int .i64 u]),v] w fun e w'=>RatPost w w' e 0:=by
 obtain⟨Ac,cc,Ar,cr,Al,cl,Ah,ch,Ao,co,rfl,hqc,hqr,hql,hqh,hqo,g1,g2,g3,g4,g5⟩:=h.form
 clear h
 have p_0:=Lib.hid (show LpQ k w (.agg #[.slice Ac p.cost.n cc,.slice Ar p.m cr,.slice Al p.lo.n cl,.slice Ah p.hi.n ch,.slice Ao p.no co]) p from⟨_,_,_,_,_,rfl,hqc,hqr,hql,hqh,hqo⟩)
 have c_0:=Lib.hid hqc.rowQ
 have r_0:=Lib.hid hqr
 clear hqc hqr hql hqh hqo
 go_enter Tryz.func37,Tryz.ntmps37
 go_wp2_with fail
 refine Calls.mono (pzero _) ?_
 rintro e w1 ⟨v,rfl,h,hb⟩
 obtain⟨b1,A1,n1,c1,d1,B1,m1,k1,rfl,-,-,-,h1,h2⟩:=h.form
 have hB:=bun (bun (bun (hb)))
 have Kc_1:=Lib.hid (show Blk w1 (w.heap.size) 67 #[.int .i64 (-1),.int .i64 r,.int .i64 u] from(((Blk.new _ _ jupy _ _).alloc_ _).alloc_ _).below hb)
 have Kp_1:=Lib.hid (show Blk w1 (w.heap.size+1) 26 #[.slice Ac p.cost.n cc,.slice Ar p.m cr,.slice Al p.lo.n cl,.slice Ah p.hi.n ch,.slice Ao p.no co] from((Blk.new _ _ jupy _ _).alloc_ _).below hb)
 have Kr_1:=Lib.hid (show Blk w1 (w.heap.size+1+1) 36 #[.bool false,.slice none 0 0,.bool false,.slice none 0 0] from(Blk.new _ _ jupy _ _).below hb)
 have z_1:=Lib.hid (h1)
 have z2_1:=Lib.hid (h2)
 have HB_1:=Lib.hid (hB)
 have hs_1:w.heap.size≤w1.heap.size:=HB_1.out.size
 have hz_1:w.heap.size+3≤w1.heap.size := jrv7
 clear hB hb
 obtain⟨p10,p11,p12,p13,l1⟩:=Kr_1.out.use4
 obtain⟨r10,r11,r12,r13⟩:=Kr_1.out.into4
 go_wp2
 obtain⟨WF,hWF⟩ : ∃W,W=((((w1.setCell ⟨w.heap.size+1+1,0,none⟩ (.bool b1)).setCell ⟨w.heap.size+1+1,1,none⟩ (.slice A1 n1 c1)).setCell ⟨w.heap.size+1+1,2,none⟩ (.bool d1)).setCell ⟨w.heap.size+1+1,3,none⟩ (.slice B1 m1 k1)):=⟨_,rfl⟩
 rw [← hWF]
 have kq:Blk WF (w.heap.size+1+1) 36 #[.bool b1,.slice A1 n1 c1,.bool d1,.slice B1 m1 k1] := jvku
 have hBF:Below w.heap.size w WF:=by rw [hWF];exact Below.set4 (HB_1.out) jvm6
 have f1:IsInt WF (.agg #[.bool b1,.slice A1 n1 c1]) ((0:Rat)).num := jgdd
 have f2:IsInt WF (.agg #[.bool d1,.slice B1 m1 k1]) (((0:Rat)).den:Int) := jv35
 have HE:Hid (RatPost w WF (Ending.returned (.agg #[.bool b1,.slice A1 n1 c1,.bool d1,.slice B1 m1 k1])) ((0:Rat))):=⟨_,rfl,⟨_,_,_,_,rfl,f1,f2⟩,hBF⟩
 obtain⟨e0,e1,e2,e3⟩:=kq.cells4
 clear hWF
 exact bodyPost_ret (v := .agg #[.bool b1,.slice A1 n1 c1,.bool d1,.slice B1 m1 k1]) jd51 rfl HE.out
set_option maxRecDepth 100000 in
set_option maxHeartbeats 1000000 in
theorem pcin_a {k:Nat} {w:World} {v:Value} {p:LpX}(h:LpQ k w v p)(hk:k≤20000)(h1:1≤k) {v0:Int} {i:Nat} {u:Int}(hi:i≤1000000)(hu1 : -9223372036854775808≤u)(hu2:u≤9223372036854775807) :
 Calls Tryz.prog 38 #[(.agg #[.int .i64 v0,.int .i64 (i:Nat),.int .i64 u]),v,.int .i64 (i:Nat)] w fun e w'=>RatPost w w' e (u:Rat):=by
 obtain⟨Ac,cc,Ar,cr,Al,cl,Ah,ch,Ao,co,rfl,hqc,hqr,hql,hqh,hqo,g1,g2,g3,g4,g5⟩:=h.form
 clear h
 have p_0:=Lib.hid (show LpQ k w (.agg #[.slice Ac p.cost.n cc,.slice Ar p.m cr,.slice Al p.lo.n cl,.slice Ah p.hi.n ch,.slice Ao p.no co]) p from⟨_,_,_,_,_,rfl,hqc,hqr,hql,hqh,hqo⟩)
 have c_0:=Lib.hid hqc.rowQ
 have r_0:=Lib.hid hqr
 clear hqc hqr hql hqh hqo
 go_enter Tryz.func38,Tryz.ntmps38
 go_wp2_with fail
 refine Calls.mono (of_any u _ hu1 hu2) ?_
 rintro e w1 ⟨v,rfl,h,hb⟩
 obtain⟨b1,A1,n1,c1,rfl,-,-,h⟩:=h.form
 have hB:=bun (bun (bun (hb)))
 have Kc_1:=Lib.hid (show Blk w1 (w.heap.size) 67 #[.int .i64 v0,.int .i64 (i:Nat),.int .i64 u] from(((Blk.new _ _ jupy _ _).alloc_ _).alloc_ _).below hb)
 have Kp_1:=Lib.hid (show Blk w1 (w.heap.size+1) 26 #[.slice Ac p.cost.n cc,.slice Ar p.m cr,.slice Al p.lo.n cl,.slice Ah p.hi.n ch,.slice Ao p.no co] from((Blk.new _ _ jupy _ _).alloc_ _).below hb)
 have Kr_1:=Lib.hid (show Blk w1 (w.heap.size+1+1) 36 #[.bool false,.slice none 0 0,.bool false,.slice none 0 0] from(Blk.new _ _ jupy _ _).below hb)
 have x_1:=Lib.hid (h)
 have HB_1:=Lib.hid (hB)
 have hs_1:w.heap.size≤w1.heap.size:=HB_1.out.size
 have hz_1:w.heap.size+3≤w1.heap.size := jrv7
 clear hB hb
 obtain⟨p10,p11,p12,l1⟩:=Kc_1.out.use3
 go_wp2_with fail
 refine Calls.mono (of_any 1 _ j0i3 j0i3) ?_
 rintro e w2 ⟨v,rfl,h,hb⟩
 obtain⟨b2,A2,n2,c2,rfl,-,-,h⟩:=h.form
 have hB:=hb
 have x_2:=Lib.hid (x_1.out.below hB)
 have Kc_2:=Lib.hid (Kc_1.out.below hB)
 have Kp_2:=Lib.hid (Kp_1.out.below hB)
 have Kr_2:=Lib.hid (Kr_1.out.below hB)
 have y_2:=Lib.hid (h)
 have HB_2:=Lib.hid (below_trans HB_1.out hB)
 have hs_2:w.heap.size≤w2.heap.size:=HB_2.out.size
 have hz_2:w1.heap.size+0≤w2.heap.size := jrv7
 clear hB hb x_1 Kc_1 Kp_1 Kr_1 HB_1 p10 p11 p12 l1
 obtain⟨p20,p21,p22,p23,l2⟩:=Kr_2.out.use4
 obtain⟨r20,r21,r22,r23⟩:=Kr_2.out.into4
 go_wp2
 obtain⟨WF,hWF⟩ : ∃W,W=((((w2.setCell ⟨w.heap.size+1+1,0,none⟩ (.bool b1)).setCell ⟨w.heap.size+1+1,1,none⟩ (.slice A1 n1 c1)).setCell ⟨w.heap.size+1+1,2,none⟩ (.bool b2)).setCell ⟨w.heap.size+1+1,3,none⟩ (.slice A2 n2 c2)):=⟨_,rfl⟩
 rw [← hWF]
 have kq:Blk WF (w.heap.size+1+1) 36 #[.bool b1,.slice A1 n1 c1,.bool b2,.slice A2 n2 c2] := jwxb
 have hBF:Below w.heap.size w WF:=by rw [hWF];exact Below.set4 (HB_2.out) jvm6
 have f1:IsInt WF (.agg #[.bool b1,.slice A1 n1 c1]) u:=by rw [hWF];exact x_2.out.other4 Kr_2.out nu nu nu nu
 have f2:IsInt WF (.agg #[.bool b2,.slice A2 n2 c2]) 1:=by rw [hWF];exact y_2.out.other4 Kr_2.out nu nu nu nu
 have HE:Hid (RatPost w WF (Ending.returned (.agg #[.bool b1,.slice A1 n1 c1,.bool b2,.slice A2 n2 c2])) (u:Rat)):=⟨_,rfl,isRat_int f1 f2,hBF⟩
 obtain⟨e0,e1,e2,e3⟩:=kq.cells4
 clear hWF
 exact bodyPost_ret (v := .agg #[.bool b1,.slice A1 n1 c1,.bool b2,.slice A2 n2 c2]) jj1e rfl HE.out
set_option maxRecDepth 100000 in
set_option maxHeartbeats 1000000 in
theorem pcin_n {k:Nat} {w:World} {v:Value} {p:LpX}(h:LpQ k w v p)(hk:k≤20000)(h1:1≤k) {r:Int} {i:Nat} {u:Int}(hi:i≤1000000)(hr:(i:Int)≠r) :
 Calls Tryz.prog 38 #[(.agg #[.int .i64 (-1),.int .i64 r,.int .i64 u]),v,.int .i64 (i:Nat)] w fun e w'=>RatPost w w' e 0:=by
 obtain⟨Ac,cc,Ar,cr,Al,cl,Ah,ch,Ao,co,rfl,hqc,hqr,hql,hqh,hqo,g1,g2,g3,g4,g5⟩:=h.form
 clear h
 have p_0:=Lib.hid (show LpQ k w (.agg #[.slice Ac p.cost.n cc,.slice Ar p.m cr,.slice Al p.lo.n cl,.slice Ah p.hi.n ch,.slice Ao p.no co]) p from⟨_,_,_,_,_,rfl,hqc,hqr,hql,hqh,hqo⟩)
 have c_0:=Lib.hid hqc.rowQ
 have r_0:=Lib.hid hqr
 clear hqc hqr hql hqh hqo
 go_enter Tryz.func38,Tryz.ntmps38
 go_wp2_with fail
 refine Calls.mono (pzero _) ?_
 rintro e w1 ⟨v,rfl,h,hb⟩
 obtain⟨b1,A1,n1,c1,d1,B1,m1,k1,rfl,-,-,-,h1,h2⟩:=h.form
 have hB:=bun (bun (bun (hb)))
 have Kc_1:=Lib.hid (show Blk w1 (w.heap.size) 67 #[.int .i64 (-1),.int .i64 r,.int .i64 u] from(((Blk.new _ _ jupy _ _).alloc_ _).alloc_ _).below hb)
 have Kp_1:=Lib.hid (show Blk w1 (w.heap.size+1) 26 #[.slice Ac p.cost.n cc,.slice Ar p.m cr,.slice Al p.lo.n cl,.slice Ah p.hi.n ch,.slice Ao p.no co] from((Blk.new _ _ jupy _ _).alloc_ _).below hb)
 have Kr_1:=Lib.hid (show Blk w1 (w.heap.size+1+1) 36 #[.bool false,.slice none 0 0,.bool false,.slice none 0 0] from(Blk.new _ _ jupy _ _).below hb)
 have z_1:=Lib.hid (h1)
 have z2_1:=Lib.hid (h2)
 have HB_1:=Lib.hid (hB)
 have hs_1:w.heap.size≤w1.heap.size:=HB_1.out.size
 have hz_1:w.heap.size+3≤w1.heap.size := jrv7
 clear hB hb
 obtain⟨p10,p11,p12,p13,l1⟩:=Kr_1.out.use4
 obtain⟨r10,r11,r12,r13⟩:=Kr_1.out.into4
 go_wp2
 obtain⟨WF,hWF⟩ : ∃W,W=((((w1.setCell ⟨w.heap.size+1+1,0,none⟩ (.bool b1)).setCell ⟨w.heap.size+1+1,1,none⟩ (.slice A1 n1 c1)).setCell ⟨w.heap.size+1+1,2,none⟩ (.bool d1)).setCell ⟨w.heap.size+1+1,3,none⟩ (.slice B1 m1 k1)):=⟨_,rfl⟩
 rw [← hWF]
 have kq:Blk WF (w.heap.size+1+1) 36 #[.bool b1,.slice A1 n1 c1,.bool d1,.slice B1 m1 k1] := jvku
 have hBF:Below w.heap.size w WF:=by rw [hWF];exact Below.set4 (HB_1.out) jvm6
 have f1:IsInt WF (.agg #[.bool b1,.slice A1 n1 c1]) ((0:Rat)).num := jgdd
 have f2:IsInt WF (.agg #[.bool d1,.slice B1 m1 k1]) (((0:Rat)).den:Int) := jv35
 have HE:Hid (RatPost w WF (Ending.returned (.agg #[.bool b1,.slice A1 n1 c1,.bool d1,.slice B1 m1 k1])) ((0:Rat))):=⟨_,rfl,⟨_,_,_,_,rfl,f1,f2⟩,hBF⟩
 obtain⟨e0,e1,e2,e3⟩:=kq.cells4
 clear hWF
 exact bodyPost_ret (v := .agg #[.bool b1,.slice A1 n1 c1,.bool d1,.slice B1 m1 k1]) jj1e rfl HE.out
set_option maxRecDepth 100000 in
set_option maxHeartbeats 1000000 in
theorem pcin_m {k:Nat} {w:World} {v:Value} {p:LpX}(h:LpQ k w v p)(hk:k≤20000)(h1:1≤k) {j:Nat} {r:Int} {i:Nat} {u:Int}(hi:i≤1000000)(hr:(i:Int)≠r)(hm:p.m≤i) :
 Calls Tryz.prog 38 #[(.agg #[.int .i64 (j:Nat),.int .i64 r,.int .i64 u]),v,.int .i64 (i:Nat)] w fun e w'=>RatPost w w' e 0:=by
 obtain⟨Ac,cc,Ar,cr,Al,cl,Ah,ch,Ao,co,rfl,hqc,hqr,hql,hqh,hqo,g1,g2,g3,g4,g5⟩:=h.form
 clear h
 have p_0:=Lib.hid (show LpQ k w (.agg #[.slice Ac p.cost.n cc,.slice Ar p.m cr,.slice Al p.lo.n cl,.slice Ah p.hi.n ch,.slice Ao p.no co]) p from⟨_,_,_,_,_,rfl,hqc,hqr,hql,hqh,hqo⟩)
 have c_0:=Lib.hid hqc.rowQ
 have r_0:=Lib.hid hqr
 clear hqc hqr hql hqh hqo
 have hj0:(0:Int)≤(j:Int) := j0i3
 have him : ¬ (i:Int)<(p.m:Int) := j0i3
 go_enter Tryz.func38,Tryz.ntmps38
 go_wp2_with fail
 refine Calls.mono (pzero _) ?_
 rintro e w1 ⟨v,rfl,h,hb⟩
 obtain⟨b1,A1,n1,c1,d1,B1,m1,k1,rfl,-,-,-,h1,h2⟩:=h.form
 have hB:=bun (bun (bun (hb)))
 have Kc_1:=Lib.hid (show Blk w1 (w.heap.size) 67 #[.int .i64 (j:Nat),.int .i64 r,.int .i64 u] from(((Blk.new _ _ jupy _ _).alloc_ _).alloc_ _).below hb)
 have Kp_1:=Lib.hid (show Blk w1 (w.heap.size+1) 26 #[.slice Ac p.cost.n cc,.slice Ar p.m cr,.slice Al p.lo.n cl,.slice Ah p.hi.n ch,.slice Ao p.no co] from((Blk.new _ _ jupy _ _).alloc_ _).below hb)
 have Kr_1:=Lib.hid (show Blk w1 (w.heap.size+1+1) 36 #[.bool false,.slice none 0 0,.bool false,.slice none 0 0] from(Blk.new _ _ jupy _ _).below hb)
 have z_1:=Lib.hid (h1)
 have z2_1:=Lib.hid (h2)
 have HB_1:=Lib.hid (hB)
 have hs_1:w.heap.size≤w1.heap.size:=HB_1.out.size
 have hz_1:w.heap.size+3≤w1.heap.size := jrv7
 clear hB hb
 obtain⟨p10,p11,p12,p13,l1⟩:=Kr_1.out.use4
 obtain⟨r10,r11,r12,r13⟩:=Kr_1.out.into4
 go_wp2
 obtain⟨WF,hWF⟩ : ∃W,W=((((w1.setCell ⟨w.heap.size+1+1,0,none⟩ (.bool b1)).setCell ⟨w.heap.size+1+1,1,none⟩ (.slice A1 n1 c1)).setCell ⟨w.heap.size+1+1,2,none⟩ (.bool d1)).setCell ⟨w.heap.size+1+1,3,none⟩ (.slice B1 m1 k1)):=⟨_,rfl⟩
 rw [← hWF]
 have kq:Blk WF (w.heap.size+1+1) 36 #[.bool b1,.slice A1 n1 c1,.bool d1,.slice B1 m1 k1] := jvku
 have hBF:Below w.heap.size w WF:=by rw [hWF];exact Below.set4 (HB_1.out) jvm6
 have f1:IsInt WF (.agg #[.bool b1,.slice A1 n1 c1]) ((0:Rat)).num := jgdd
 have f2:IsInt WF (.agg #[.bool d1,.slice B1 m1 k1]) (((0:Rat)).den:Int) := jv35
 have HE:Hid (RatPost w WF (Ending.returned (.agg #[.bool b1,.slice A1 n1 c1,.bool d1,.slice B1 m1 k1])) ((0:Rat))):=⟨_,rfl,⟨_,_,_,_,rfl,f1,f2⟩,hBF⟩
 obtain⟨e0,e1,e2,e3⟩:=kq.cells4
 clear hWF
 exact bodyPost_ret (v := .agg #[.bool b1,.slice A1 n1 c1,.bool d1,.slice B1 m1 k1]) jj1e rfl HE.out
set_option maxRecDepth 100000 in
set_option maxHeartbeats 4000000 in
theorem pcin_v {k:Nat} {w:World} {v:Value} {p:LpX}(h:LpQ k w v p)(hk:k≤20000)(h1:1≤k) {j:Nat} {r:Int} {i:Nat} {u:Int}(hi:i<p.m)(hr:(i:Int)≠r)(hj:j<(p.row i).coef.n) :
 Calls Tryz.prog 38 #[(.agg #[.int .i64 (j:Nat),.int .i64 r,.int .i64 u]),v,.int .i64 (i:Nat)] w fun e w'=>RatPost w w' e ((p.row i).coef.q j):=by
 obtain⟨Ac,cc,Ar,cr,Al,cl,Ah,ch,Ao,co,rfl,hqc,hqr,hql,hqh,hqo,g1,g2,g3,g4,g5⟩:=h.form
 clear h
 have p_0:=Lib.hid (show LpQ k w (.agg #[.slice Ac p.cost.n cc,.slice Ar p.m cr,.slice Al p.lo.n cl,.slice Ah p.hi.n ch,.slice Ao p.no co]) p from⟨_,_,_,_,_,rfl,hqc,hqr,hql,hqh,hqo⟩)
 have c_0:=Lib.hid hqc.rowQ
 have r_0:=Lib.hid hqr
 clear hqc hqr hql hqh hqo
 obtain⟨rd,cr2,⟨xA0,xn0,xc0,xs,⟨b7,A7,n7,c7,d7,B7,m7,k7⟩⟩,e1,_,_,hat,hRw⟩:=r_0.out.at_ hi
 simp only [Value.slice.injEq] at e1
 obtain⟨rfl,_,rfl⟩:=e1
 have hxn:xn0=(p.row i).coef.n:=hRw.len
 have hRc:=hRw.2.2.1.rowQ
 have hjx:(j:Int)<(xn0:Int) := j0i3
 obtain⟨ad,cx,⟨b5,A5,n5,c5,d5,B5,m5,k5⟩,e1,_,_,hae,hE⟩:=hRc.at_ hj
 simp only [Value.slice.injEq] at e1
 obtain⟨rfl,_,rfl⟩:=e1
 have hnr:w.heap.size≠(rd.add (i*6)).block:=by have:=hat.1;omega
 have hna:w.heap.size≠(ad.add (j*4)).block:=by have:=hae.1;omega
 have hnr2:w.heap.size+1+1≠(rd.add (i*6)).block:=by have:=hat.1;omega
 have hna2:w.heap.size+1+1≠(ad.add (j*4)).block:=by have:=hae.1;omega
 have hn1:w.heap.size+1+1≠w.heap.size := j0i3
 have hn2:w.heap.size+1+1≠w.heap.size+1 := j0i3
 have HTA:=Lib.hid hat
 have HTE:=Lib.hid hae
 have e_0:=Lib.hid hE.2
 have hj0:(0:Int)≤(j:Int) := j0i3
 have hi0:(0:Int)≤(i:Int) := j0i3
 have him:(i:Int)<(p.m:Int) := j0i3
 clear hat hae hRw hRc hE c_0 r_0 p_0 hxn
 go_enter Tryz.func38,Tryz.ntmps38
 go_wp2
 generalize hW:(((w.alloc (.cells #[.int .i64 (j:Nat),.int .i64 r,.int .i64 u] 67)).alloc (.cells #[.slice Ac p.cost.n cc,.slice (some rd) p.m cr,.slice Al p.lo.n cl,.slice Ah p.hi.n ch,.slice Ao p.no co] 26)).alloc (.cells #[.bool false,.slice none 0 0,.bool false,.slice none 0 0] 36))=w1
 have e_1:=Lib.hid (hW▸(((e_0.out.alloc_ _).alloc_ _).alloc_ _))
 have Kc_1:=Lib.hid (show Blk w1 (w.heap.size) 67 #[.int .i64 (j:Nat),.int .i64 r,.int .i64 u] from jl14)
 have Kp_1:=Lib.hid (show Blk w1 (w.heap.size+1) 26 #[.slice Ac p.cost.n cc,.slice (some rd) p.m cr,.slice Al p.lo.n cl,.slice Ah p.hi.n ch,.slice Ao p.no co] from jtbf)
 have Kr_1:=Lib.hid (show Blk w1 (w.heap.size+1+1) 36 #[.bool false,.slice none 0 0,.bool false,.slice none 0 0] from jc21)
 have HB_1:=Lib.hid (show Below w.heap.size w w1 from jkqe)
 have hs_1:w.heap.size≤w1.heap.size:=HB_1.out.size
 have hz_1:w.heap.size+3≤w1.heap.size := j59e
 clear hW e_0
 obtain⟨p10,p11,p12,l1⟩:=Kc_1.out.use3
 obtain⟨p20,p21,p22,p23,p24,l2⟩:=Kp_1.out.use5
 have HAT:=Lib.hid (HTA.out.below HB_1.out)
 have HAE:=Lib.hid (HTE.out.below HB_1.out)
 obtain⟨y0,y1,-,-,-,-,-⟩:=HAT.out
 obtain⟨x0,x1,x2,x3,x4⟩:=HAE.out
 refine wp_region_held_drew (S:=(fun w'=>w'.cell? ⟨w.heap.size,0,none⟩=some (.int .i64 (j:Nat))∧w'.cell? ⟨(w.heap.size+1),1,none⟩=some (.slice (some rd) p.m cr)∧w'.cell? (rd.add (i*6))=some (.slice (some ad) xn0 xc0)∧w'.cell? (ad.add (j*4))=some (.bool b5)∧w'.cell? ⟨(ad.add (j*4)).block,(ad.add (j*4)).off+1,none⟩=some (.slice A5 n5 c5)∧w'.cell? ⟨(ad.add (j*4)).block,(ad.add (j*4)).off+2,none⟩=some (.bool d5)∧w'.cell? ⟨(ad.add (j*4)).block,(ad.add (j*4)).off+3,none⟩=some (.slice B5 m5 k5))) jo0f ?_ (fun hHeld=>?_)
 ·(first | (refine⟨?_,?_,?_,?_,?_,?_,?_⟩ <;> (first | with_reducible assumption | ((with_reducible refine Eq.trans (cell_drew _ _) ?_);with_reducible assumption) | ((repeat rw [World.cell?_setCell_far _ _ _ _ jovd]);with_reducible assumption) | go_keep)) | go_keep)
 refine jtk 0 ?_
 refine jtk 1 ?_
 refine jtk 2 ?_
 refine jtk 3 ?_
 refine jtk 4 ?_
 refine jtk 5 ?_
 refine jtk 6 ?_
 refine jtk 7 ?_
 refine jtk 8 ?_
 refine jtk 9 ?_
 refine jrd 10 fun Kz hKz=>?_
 go_simp
 ((with_reducible refine Calls.mono (q_plain e_1.out.drew_ j0i3 h1) ?_));rintro e w2 ⟨v,rfl,h,hb⟩;obtain⟨b2,A2,n2,c2,d2,B2,m2,k2,rfl,-,-,-,hz1,hz2⟩:=h.form;have hBw:=(show Below w1.heap.size w1 w2 from jc22);have Kc_2:=Lib.hid (Kc_1.out.below hBw);have Kp_2:=Lib.hid (Kp_1.out.below hBw);have Kr_2:=Lib.hid (Kr_1.out.below hBw);have HB_2:=Lib.hid (below_trans HB_1.out hBw);obtain⟨c0',c1',c2',cl'⟩:=Kc_2.out.use3;obtain⟨q0,q1,q2,q3,q4,ql⟩:=Kp_2.out.use5;obtain⟨s0,s1,s2,s3,sl'⟩:=Kr_2.out.use4;obtain⟨f0,f1',f2',f3⟩:=Kr_2.out.into4;obtain⟨z0,z1,-,-,-,-,-⟩:=HAT.out.below hBw;obtain⟨u0,u1,u2,u3,u4⟩:=HAE.out.below hBw;have z_2:=Lib.hid hz1;have z2_2:=Lib.hid hz2;clear hb hBw h Kc_1 Kp_1 Kr_1 HB_1 e_1 y0 y1 x0 x1 x2 x3 x4 p10 p11 p12 l1 p20 p21 p22 p23 p24 l2
 refine hKz.out _ _ ju2h (fun hHeld=>?_)
 clear hKz Kz
 refine jsp ?_
 refine jrd 11 fun Kz hKz=>?_
 go_simp
 refine hKz.out _ _ ju2h (fun hHeld=>?_)
 clear hKz Kz
 refine jsp ?_
 refine wpAnyH_done jo0f ?_ _
 go_wp2
 obtain⟨WF,hWF⟩ : ∃W,W=((((w2.setCell ⟨w.heap.size+1+1,0,none⟩ (.bool b2)).setCell ⟨w.heap.size+1+1,1,none⟩ (.slice A2 n2 c2)).setCell ⟨w.heap.size+1+1,2,none⟩ (.bool d2)).setCell ⟨w.heap.size+1+1,3,none⟩ (.slice B2 m2 k2)):=⟨_,rfl⟩
 rw [← hWF]
 have kq:Blk WF (w.heap.size+1+1) 36 #[.bool b2,.slice A2 n2 c2,.bool d2,.slice B2 m2 k2] := jwxb
 have hBF:Below w.heap.size w WF:=by rw [hWF];exact Below.set4 (HB_2.out) jvm6
 have f1:IsInt WF (.agg #[.bool b2,.slice A2 n2 c2]) ((p.row i).coef.q j).num := j5jq
 have f2:IsInt WF (.agg #[.bool d2,.slice B2 m2 k2]) (((p.row i).coef.q j).den:Int) := jdkc
 have HE:Hid (RatPost w WF (Ending.returned (.agg #[.bool b2,.slice A2 n2 c2,.bool d2,.slice B2 m2 k2])) ((p.row i).coef.q j)):=⟨_,rfl,⟨_,_,_,_,rfl,f1,f2⟩,hBF⟩
 obtain⟨e0,e1,e2,e3⟩:=kq.cells4
 clear hWF
 exact bodyPost_ret (v := .agg #[.bool b2,.slice A2 n2 c2,.bool d2,.slice B2 m2 k2]) jj1e rfl HE.out
theorem pccost {k:Nat} {w:World} {v:Value} {p:LpX} {c:ColX}(h:LpQ k w v p)(hk:k≤20000)(h1:1≤k)(hv:c.v = -1∨∃j:Nat,j<p.cost.n∧c.v=(j:Nat)) :
 Calls Tryz.prog 37 #[.agg #[.int .i64 c.v,.int .i64 c.r,.int .i64 c.u],v] w fun e w'=>RatPost w w' e (costF p c):=by
 obtain⟨cv,cr,cu⟩:=c
 rcases hv with rfl | ⟨j,hj,rfl⟩
 ·rw [show costF p ⟨-1,cr,cu⟩=0 by unfold costF;rw [if_neg jxzq]]
  exact pccost_n h hk h1
 ·rw [show costF p ⟨(j:Nat),cr,cu⟩=p.cost.q j by unfold costF;rw [if_pos (by show(0:Int)≤(j:Int);omega)];rfl]
  exact pccost_v h hk h1 hj
theorem pcin {k:Nat} {w:World} {v:Value} {p:LpX} {c:ColX} {i:Nat}(h:LpQ k w v p)(hk:k≤20000)(h1:1≤k)(hi:i≤1000000)(hu : -1≤c.u∧c.u≤1)(hv:c.v = -1∨∃j:Nat,(i<p.m→j<(p.row i).coef.n)∧c.v=(j:Nat)) :
 Calls Tryz.prog 38 #[.agg #[.int .i64 c.v,.int .i64 c.r,.int .i64 c.u],v,.int .i64 (i:Nat)] w fun e w'=>RatPost w w' e (inF p c i):=by
 obtain⟨cv,cr,cu⟩:=c
 dsimp only at hu hv ⊢
 by_cases hr:(i:Int)=cr
 ·subst hr
  rw [show inF p ⟨cv,(i:Nat),cu⟩ i=(cu:Rat) by unfold inF;rw [if_pos rfl]]
  exact pcin_a h hk h1 hi j0i3 j0i3
 ·rcases hv with rfl | ⟨j,hj,rfl⟩
  ·rw [show inF p ⟨-1,cr,cu⟩ i=0 by unfold inF;rw [if_neg hr,if_neg (fun h=>absurd h.1 jxzq)]]
   exact pcin_n h hk h1 hi hr
  ·by_cases hm:i<p.m
   ·rw [show inF p ⟨(j:Nat),cr,cu⟩ i=(p.row i).coef.q j by unfold inF;rw [if_neg hr,if_pos ⟨by show(0:Int)≤(j:Int);omega,hm⟩];rfl]
    exact pcin_v h hk h1 hm hr (hj hm)
   ·rw [show inF p ⟨(j:Nat),cr,cu⟩ i=0 by unfold inF;rw [if_neg hr,if_neg (fun h=>hm h.2)]]
    exact pcin_m h hk h1 hi hr j0i3
set_option maxRecDepth 100000 in
set_option maxHeartbeats 4000000 in
theorem pends {k:Nat} {w:World} {v:Value} {p:LpX}(h:LpQ k w v p) :
 Calls Tryz.prog 69 #[v] w fun e w' => ∃g,e = .returned (.slice (some ⟨g,0,none⟩) p.no p.no)∧OwnV w' w.heap.size 3 (.slice (some ⟨g,0,none⟩) p.no p.no) p.no (fun j => .int .i64 (endR p j))∧Below w.heap.size w w':=by
 obtain⟨Ac,cc,Ar,cr,Al,cl,Ah,ch,Ao,co,rfl,hqc,hqr,hql,hqh,hqo,g1,g2,g3,g4,g5⟩:=h.form
 clear h
 have HO:=Lib.hid hqo
 clear hqc hqr hql hqh hqo
 go_enter Tryz.func69,Tryz.ntmps69
 go_wp2_with (at_make;refine wpList_make_vals rfl _ _ 71 rfl w.heap.size 3 (.int .i64 0) 8 Tryz.underlying71 int_info rfl nu _ _ _ _ p.no rfl rfl rfl rfl g5 j0i3 jupy ?_;intro w2 hown hbw hsw;have HB_2:=Lib.hid (bun hbw);have Kp_2:=Lib.hid (show Blk w2 w.heap.size 26 #[.slice Ac p.cost.n cc,.slice Ar p.m cr,.slice Al p.lo.n cl,.slice Ah p.hi.n ch,.slice Ao p.no co] from(Blk.new _ _ rfl _ _).below hbw);obtain⟨k0,k1,k2,k3,k4,kl⟩:=Kp_2.out.use5)
 have hsz:(w.alloc (.cells #[.slice Ac p.cost.n cc,.slice Ar p.m cr,.slice Al p.lo.n cl,.slice Ah p.hi.n ch,.slice Ao p.no co] 26)).heap.size=w.heap.size+1 := jupy
 rw [hsz] at hown
 have hgg:w.heap.size<w.heap.size+1 := j0i3
 clear hsw hbw hsz
 generalize w.heap.size+1=gr at *
 have HU_2:=Lib.hid hown
 clear hown
 go_wp2
 go_loopw [4,17] (fun v4 v17 wr => ∃ (j:Nat) (r:Nat→Value),v17 = .int .i64 (j:Nat)∧v4 = .int .i64 ((p.m+cntF p.op j:Nat):Int)∧j≤p.no∧OwnV wr w.heap.size 3 (.slice (some ⟨gr,0,none⟩) p.no p.no) p.no r∧(∀q,q<j→r q = .int .i64 (endR p q))∧Below w.heap.size w wr∧Blk wr w.heap.size 26 #[.slice Ac p.cost.n cc,.slice Ar p.m cr,.slice Al p.lo.n cl,.slice Ah p.hi.n ch,.slice Ao p.no co]) (fun _ v17 _=>p.no - (intOf v17).toNat)
 case atStart=>exact⟨0,_,rfl,rfl,Nat.zero_le _,HU_2.out,fun q hq=>absurd hq j0i3,HB_2.out,Kp_2.out⟩
 case round =>
  clear HB_2 Kp_2 HU_2 k0 k1 k2 k3 k4 kl
  obtain⟨j,r,rfl,rfl,hj,hu,hr,hbw,hkp⟩:=hrel
  have HU:=Lib.hid hu
  have HR:=Lib.hid hr
  have HB:=Lib.hid hbw
  have KP:=Lib.hid hkp
  clear hu hr hbw hkp
  obtain⟨k0,k1,k2,k3,k4,kl⟩:=KP.out.use5
  have hgl:gr<wr.heap.size:=(OwnN.blk HU.out).2.2.elim fun cur h=>Blk.lt h
  by_cases hlt:j<p.no
  ·have hj0:(0:Int)≤(j:Int):=by omega
   have hjk:(j:Int)<(p.no:Int) := j0i3
   have hcl:=cntF_le p.op j
   obtain⟨od,c0,e1,_,_,hob,hoc⟩:=HO.out.at_ hlt
   simp only [Value.slice.injEq] at e1
   obtain⟨rfl,_,rfl⟩:=e1
   have hoc:=(HB.out.cell (p:=od.add j) (by rw [add_block];exact hob)).trans hoc
   have hu0:=OwnV.at_ HU.out hlt
   have hf0:=OwnN.frozenAt HU.out j
   cases hop:p.op j
   ·rw [hop] at hoc
    have HOP:=Lib.hid hop
    clear hop
    obtain⟨z,hz⟩ : ∃z:Nat,z=p.m+cntF p.op j:=⟨_,rfl⟩
    rw [← hz]
    have HZ:=Lib.hid hz
    have hzb:z≤3000000 := j0i3
    clear hz hcl
    go_wp2
    obtain⟨W,hW⟩ : ∃W,W=(wr.setCell ⟨gr,j,none⟩ (.int .i64 (-1))).setCell ⟨gr,j,none⟩ (.int .i64 (z:Nat)):=⟨_,rfl⟩
    rw [← hW]
    obtain⟨u1,f1⟩:=OwnV.set1 HU.out hlt (u := .int .i64 (-1)) nu rfl
    obtain⟨u2,f2⟩:=OwnV.set1 u1 hlt (u := .int .i64 (z:Nat)) nu hW
    have HINV:Hid (OwnV W w.heap.size 3 (.slice (some ⟨gr,0,none⟩) p.no p.no) p.no (updR (updR r j (.int .i64 (-1))) j (.int .i64 (z:Nat)))∧(∀q,q<j+1→updR (updR r j (.int .i64 (-1))) j (.int .i64 (z:Nat)) q = .int .i64 (endR p q))∧Below w.heap.size w W∧Blk W w.heap.size 26 #[.slice Ac p.cost.n cc,.slice Ar p.m cr,.slice Al p.lo.n cl,.slice Ah p.hi.n ch,.slice (some od) p.no co]):=⟨u2,fun q hq=>by
     by_cases hqj:q=j
     ·subst hqj
      rw [updR_at]
      unfold endR
      rw [HOP.out,HZ.out]
      rfl
     ·rw [updR_ne _ _ hqj,updR_ne _ _ hqj]
      exact HR.out q j0i3,(HB.out.trans f1.below).trans f2.below,Blk.fz (Blk.fz KP.out f1 jpu1) f2 jpu1⟩
    have hcz:((z:Nat):Int)+1=((p.m+cntF p.op (j+1):Nat):Int):=by
     have:cntF p.op (j+1)=cntF p.op j+1:=by simp [cntF,HOP.out]
     have:=HZ.out
     omega
    clear hW u1 u2 f1 f2 HU HR HB KP k0 k1 k2 k3 k4 kl hoc hu0 hf0
    have HCZ:=Lib.hid hcz
    clear hcz
    go_wp2
    go_roundw
    case rel=>exact⟨j+1,_,by go_num,by rw [← HCZ.out],by omega,HINV.out⟩
    case measure=>simp [intOf];omega
   ·rw [hop] at hoc
    have HOP:=Lib.hid hop
    clear hop
    obtain⟨z,hz⟩ : ∃z:Nat,z=p.m+cntF p.op j:=⟨_,rfl⟩
    rw [← hz]
    have HZ:=Lib.hid hz
    have hzb:z≤3000000 := j0i3
    clear hz hcl
    go_wp2
    obtain⟨W,hW⟩ : ∃W,W=wr.setCell ⟨gr,j,none⟩ (.int .i64 (-1)):=⟨_,rfl⟩
    rw [← hW]
    obtain⟨u1,f1⟩:=OwnV.set1 HU.out hlt (u := .int .i64 (-1)) nu hW
    have HINV:Hid (OwnV W w.heap.size 3 (.slice (some ⟨gr,0,none⟩) p.no p.no) p.no (updR r j (.int .i64 (-1)))∧(∀q,q<j+1→updR r j (.int .i64 (-1)) q = .int .i64 (endR p q))∧Below w.heap.size w W∧Blk W w.heap.size 26 #[.slice Ac p.cost.n cc,.slice Ar p.m cr,.slice Al p.lo.n cl,.slice Ah p.hi.n ch,.slice (some od) p.no co]):=⟨u1,fun q hq=>by
     by_cases hqj:q=j
     ·subst hqj
      rw [updR_at]
      unfold endR
      rw [HOP.out]
      rfl
     ·rw [updR_ne _ _ hqj]
      exact HR.out q j0i3,HB.out.trans f1.below,Blk.fz KP.out f1 jpu1⟩
    have HCZ:Hid (z=p.m+cntF p.op (j+1)):=by
     have:cntF p.op (j+1)=cntF p.op j:=by simp [cntF,HOP.out]
     have:=HZ.out
     show z=_
     omega
    clear hW u1 f1 HU HR HB KP k0 k1 k2 k3 k4 kl hoc hu0 hf0
    go_wp2
    go_roundw
    case rel=>exact⟨j+1,_,by go_num,by rw [← HCZ.out],by omega,HINV.out⟩
    case measure=>simp [intOf];omega
  ·obtain rfl:j=p.no:=by omega
   have HE:Hid (OwnV wr w.heap.size 3 (.slice (some ⟨gr,0,none⟩) p.no p.no) p.no (fun j => .int .i64 (endR p j))):=by
    have h:=HU.out
    unfold OwnV at h ⊢
    rw [← List.map_congr_left (fun i hi=>HR.out i (by simpa using hi))]
    exact h
   go_wp2
   go_ret
   exact⟨_,rfl,HE.out,HB.out⟩
end Go.Proofs.YtgilnmhejjpleaaGreat
