/- Contracts of ratio: inWords, words.lowest. -/
import Derived.Test.YtgilnmhejjpleaaGreatPRd
namespace Go.Proofs.YtgilnmhejjpleaaGreat
open Go.RowKit
set_option linter.unusedVariables false
theorem j4dy {P:Prop}(h:P:=by have h := ((u_1.out.one Kr_1.out (i := 0) (x := .int .i64 0) (y := .int .i64 (X)) rfl nu).one (Kr_1.out.set_ 0 (.int .i64 (X))) (i := 1) (x := .int .i64 0) (y := .int .i64 (Y)) rfl nu); rw [hW] at h; exact h):P:=h
theorem ja87 {P:Prop}(h:P:=by rw [← hW]; exact ((Kr_1.out.set_ 0 (.int .i64 (X))).set_ 1 (.int .i64 (Y)))):P:=h
theorem jfej {P:Prop}(h:P:=by rw [← hW]; simp [World.setCell]):P:=h
theorem joq9 {P:Prop}(h:P:=by simp [results, Tryz.results93, go_sem, e00, e01, e10, e11] <;> omega):P:=h
theorem jzcy {P:Prop}(h:P:=by have h := ((v_1.out.one Kr_1.out (i := 0) (x := .int .i64 0) (y := .int .i64 (X)) rfl nu).one (Kr_1.out.set_ 0 (.int .i64 (X))) (i := 1) (x := .int .i64 0) (y := .int .i64 (Y)) rfl nu); rw [hW] at h; exact h):P:=h
theorem j0n0 {P:Prop}(h:P:=by rw [← hW]; exact ((Ks_1.out.other j0i3 0 (.int .i64 (X))).other j0i3 1 (.int .i64 (Y)))):P:=h
theorem jhn8 {P:Prop}(h:P:=by rw [← hW]; exact ((Kb_1.out.other j0i3 0 (.int .i64 (X))).other j0i3 1 (.int .i64 (Y)))):P:=h
theorem ji2b {P:Prop}(h:P:=by rw [← hW]; exact (bset (bset HB_3.out j0i3) j0i3)):P:=h
theorem jmxj {P:Prop}(h:P:=by rw [hWF]; exact (bset (bset (bset (bset HB_4.out j0i3) j0i3) j0i3) j0i3).drew):P:=h
theorem jt8n {P:Prop}(h:P:=by rw [← hW]; exact ((Ka_1.out.other j0i3 0 (.int .i64 (X))).other j0i3 1 (.int .i64 (Y)))):P:=h
theorem jwo1 {P:Prop}(h:P:=by rw [← hW]; exact (bset (bset HB_1.out j0i3) j0i3)):P:=h
def WNo(w w':World)(e:Ending):Prop := ∃x y x' y':Int,e = .returned (.tuple #[.agg #[.int .i64 x,.int .i64 y],.agg #[.int .i64 x',.int .i64 y'],.bool false])∧Below w.heap.size w w'
def WYes(w w':World)(e:Ending)(X Y X' Y':Int):Prop:=e = .returned (.tuple #[.agg #[.int .i64 X,.int .i64 Y],.agg #[.int .i64 X',.int .i64 Y'],.bool true])∧Below w.heap.size w w'
theorem Blk.own2' {w:World} {g:Nat} {t:TypeId} {x y a b:Value}(h:Blk w g t #[x,y]):Blk ((w.setCell ⟨g,0,none⟩ a).setCell ⟨g,1,none⟩ b) g t #[a,b]:=(h.set_ 0 a).set_ 1 b
set_option maxRecDepth 100000 in
set_option maxHeartbeats 1000000 in
theorem inWords_no1(b:Bool)(A:Option Addr)(n c:Nat)(b':Bool)(A':Option Addr)(n' c':Nat)(p:Bool)(P:Option Addr)(m d:Nat)(p':Bool)(P':Option Addr)(m' d':Nat)(w:World)(k l:Nat)(X Y X' Y':Int)(hx:LimI k w (.agg #[.bool b,.slice A n c]) X)(hy:LimI k w (.agg #[.bool b',.slice A' n' c']) Y)(hx':LimI l w (.agg #[.bool p,.slice P m d]) X')(hy':LimI l w (.agg #[.bool p',.slice P' m' d']) Y')(hk:k≤100000)(hl:l≤100000)(h0:0<Y)(h0':0<Y')(h : ¬Short X Y) :
 Calls Tryz.prog 93 #[(.agg #[.bool b,.slice A n c,.bool b',.slice A' n' c']),(.agg #[.bool p,.slice P m d,.bool p',.slice P' m' d'])] w fun e w'=>WNo w w' e:=by
 have HS:=Lib.hid h
 clear h
 have x_0:=Lib.hid hx
 have y_0:=Lib.hid hy
 have u_0:=Lib.hid hx'
 have v_0:=Lib.hid hy'
 clear hx hy hx' hy'
 go_enter Tryz.func93,Tryz.ntmps93
 go_wp2_with fail
 refine Calls.mono (wordsOf_no _ _ _ _ _ _ _ _ _ k X Y ((((x_0.out.alloc_ _).alloc_ _).alloc_ _).alloc_ _) ((((y_0.out.alloc_ _).alloc_ _).alloc_ _).alloc_ _) hk h0 HS.out) ?_
 rintro e w1 ⟨x1,y1,rfl,hb⟩
 have hB:=bun (bun (bun (bun (hb))))
 have x_1:=Lib.hid (x_0.out.below hB)
 have y_1:=Lib.hid (y_0.out.below hB)
 have u_1:=Lib.hid (u_0.out.below hB)
 have v_1:=Lib.hid (v_0.out.below hB)
 have Ka_1:=Lib.hid (show Blk w1 (w.heap.size) 36 #[.bool b,.slice A n c,.bool b',.slice A' n' c'] from((((Blk.new _ _ jupy _ _).alloc_ _).alloc_ _).alloc_ _).below hb)
 have Kb_1:=Lib.hid (show Blk w1 (w.heap.size+1) 36 #[.bool p,.slice P m d,.bool p',.slice P' m' d'] from(((Blk.new _ _ jupy _ _).alloc_ _).alloc_ _).below hb)
 have Kr_1:=Lib.hid (show Blk w1 (w.heap.size+1+1) 105 #[.int .i64 0,.int .i64 0] from((Blk.new _ _ jupy _ _).alloc_ _).below hb)
 have Ks_1:=Lib.hid (show Blk w1 (w.heap.size+1+1+1) 105 #[.int .i64 0,.int .i64 0] from(Blk.new _ _ jupy _ _).below hb)
 have HB_1:=Lib.hid (hB)
 have hs_1:w.heap.size≤w1.heap.size:=HB_1.out.size
 have hz_1:w.heap.size+4≤w1.heap.size := jrv7
 clear hB hb x_0 y_0 u_0 v_0
 obtain⟨p10,p11,l1⟩:=Kr_1.out.use2
 obtain⟨r10,r11⟩:=Kr_1.out.into2
 obtain⟨p20,p21,l2⟩:=Ks_1.out.use2
 obtain⟨r20,r21⟩:=Ks_1.out.into2
 go_wp2
 obtain⟨WF,hWF⟩ : ∃W,W=((((((w1.setCell ⟨w.heap.size+1+1,0,none⟩ (.int .i64 (x1))).setCell ⟨w.heap.size+1+1,1,none⟩ (.int .i64 (y1))).setCell ⟨w.heap.size+1+1,0,none⟩ (.int .i64 (0))).setCell ⟨w.heap.size+1+1,1,none⟩ (.int .i64 (0))).setCell ⟨w.heap.size+1+1+1,0,none⟩ (.int .i64 (0))).setCell ⟨w.heap.size+1+1+1,1,none⟩ (.int .i64 (0))):=⟨_,rfl⟩
 rw [← hWF]
 have kq0:Blk WF (w.heap.size+1+1) 105 #[.int .i64 (0),.int .i64 (0)]:=by rw [hWF];exact((((((Kr_1.out.set_ 0 (.int .i64 (x1))).set_ 1 (.int .i64 (y1))).set_ 0 (.int .i64 (0))).set_ 1 (.int .i64 (0))).other j0i3 0 (.int .i64 (0))).other j0i3 1 (.int .i64 (0)))
 obtain⟨e00,e01⟩:=kq0.cells2
 have kq1:Blk WF (w.heap.size+1+1+1) 105 #[.int .i64 (0),.int .i64 (0)]:=by rw [hWF];exact((((((Ks_1.out.other j0i3 0 (.int .i64 (x1))).other j0i3 1 (.int .i64 (y1))).other j0i3 0 (.int .i64 (0))).other j0i3 1 (.int .i64 (0))).set_ 0 (.int .i64 (0))).set_ 1 (.int .i64 (0)))
 obtain⟨e10,e11⟩:=kq1.cells2
 have hBF:Below w.heap.size w WF:=by rw [hWF];exact(bset (bset (bset (bset (bset (bset HB_1.out j0i3) j0i3) j0i3) j0i3) j0i3) j0i3)
 have HE:Hid (WNo w WF (Ending.returned (.tuple #[.agg #[.int .i64 (0),.int .i64 (0)],.agg #[.int .i64 (0),.int .i64 (0)],.bool false]))):=⟨_,_,_,_,rfl,hBF⟩
 clear hWF
 exact bodyPost_ret (v := .tuple #[.agg #[.int .i64 (0),.int .i64 (0)],.agg #[.int .i64 (0),.int .i64 (0)],.bool false]) joq9 rfl HE.out
set_option maxRecDepth 100000 in
set_option maxHeartbeats 1000000 in
theorem inWords_no2(b:Bool)(A:Option Addr)(n c:Nat)(b':Bool)(A':Option Addr)(n' c':Nat)(p:Bool)(P:Option Addr)(m d:Nat)(p':Bool)(P':Option Addr)(m' d':Nat)(w:World)(k l:Nat)(X Y X' Y':Int)(hx:LimI k w (.agg #[.bool b,.slice A n c]) X)(hy:LimI k w (.agg #[.bool b',.slice A' n' c']) Y)(hx':LimI l w (.agg #[.bool p,.slice P m d]) X')(hy':LimI l w (.agg #[.bool p',.slice P' m' d']) Y')(hk:k≤100000)(hl:l≤100000)(h0:0<Y)(h0':0<Y')(h1 : -2147483648<X)(h2:X<2147483648)(h3:Y<2147483648)(h : ¬Short X' Y') :
 Calls Tryz.prog 93 #[(.agg #[.bool b,.slice A n c,.bool b',.slice A' n' c']),(.agg #[.bool p,.slice P m d,.bool p',.slice P' m' d'])] w fun e w'=>WNo w w' e:=by
 have HS:=Lib.hid h
 clear h
 have x_0:=Lib.hid hx
 have y_0:=Lib.hid hy
 have u_0:=Lib.hid hx'
 have v_0:=Lib.hid hy'
 clear hx hy hx' hy'
 go_enter Tryz.func93,Tryz.ntmps93
 go_wp2_with fail
 refine Calls.mono (wordsOf_yes _ _ _ _ _ _ _ _ _ k X Y ((((x_0.out.alloc_ _).alloc_ _).alloc_ _).alloc_ _) ((((y_0.out.alloc_ _).alloc_ _).alloc_ _).alloc_ _) hk h1 h2 h0 h3) ?_
 rintro e w1 ⟨rfl,hb⟩
 have hB:=bun (bun (bun (bun (hb))))
 have u_1:=Lib.hid (u_0.out.below hB)
 have v_1:=Lib.hid (v_0.out.below hB)
 have Ka_1:=Lib.hid (show Blk w1 (w.heap.size) 36 #[.bool b,.slice A n c,.bool b',.slice A' n' c'] from((((Blk.new _ _ jupy _ _).alloc_ _).alloc_ _).alloc_ _).below hb)
 have Kb_1:=Lib.hid (show Blk w1 (w.heap.size+1) 36 #[.bool p,.slice P m d,.bool p',.slice P' m' d'] from(((Blk.new _ _ jupy _ _).alloc_ _).alloc_ _).below hb)
 have Kr_1:=Lib.hid (show Blk w1 (w.heap.size+1+1) 105 #[.int .i64 0,.int .i64 0] from((Blk.new _ _ jupy _ _).alloc_ _).below hb)
 have Ks_1:=Lib.hid (show Blk w1 (w.heap.size+1+1+1) 105 #[.int .i64 0,.int .i64 0] from(Blk.new _ _ jupy _ _).below hb)
 have HB_1:=Lib.hid (hB)
 have hs_1:w.heap.size≤w1.heap.size:=HB_1.out.size
 have hz_1:w.heap.size+4≤w1.heap.size := jrv7
 clear hB hb x_0 y_0 u_0 v_0
 obtain⟨p10,p11,p12,p13,l1⟩:=Kb_1.out.use4
 obtain⟨p20,p21,l2⟩:=Kr_1.out.use2
 obtain⟨r20,r21⟩:=Kr_1.out.into2
 go_wp2_with fail
 generalize hW:((w1.setCell ⟨w.heap.size+1+1,0,none⟩ (.int .i64 (X))).setCell ⟨w.heap.size+1+1,1,none⟩ (.int .i64 (Y)))=w2
 have u_2:=Lib.hid j4dy
 have v_2:=Lib.hid jzcy
 have Ka_2:=Lib.hid (show Blk w2 (w.heap.size) 36 #[.bool b,.slice A n c,.bool b',.slice A' n' c'] from jt8n)
 have Kb_2:=Lib.hid (show Blk w2 (w.heap.size+1) 36 #[.bool p,.slice P m d,.bool p',.slice P' m' d'] from jhn8)
 have Kr_2:=Lib.hid (show Blk w2 (w.heap.size+1+1) 105 #[.int .i64 (X),.int .i64 (Y)] from ja87)
 have Ks_2:=Lib.hid (show Blk w2 (w.heap.size+1+1+1) 105 #[.int .i64 0,.int .i64 0] from j0n0)
 have HB_2:=Lib.hid (show Below w.heap.size w w2 from jwo1)
 have hs_2:w.heap.size≤w2.heap.size:=HB_2.out.size
 have hz_2:w1.heap.size≤w2.heap.size := jfej
 clear hW u_1 v_1 Ka_1 Kb_1 Kr_1 Ks_1 HB_1 p10 p11 p12 p13 l1 p20 p21 l2 r20 r21
 refine Calls.mono (wordsOf_no _ _ _ _ _ _ _ _ _ l X' Y' u_2.out v_2.out hl h0' HS.out) ?_
 rintro e w3 ⟨x3,y3,rfl,hb⟩
 have hB:=hb
 have Ka_3:=Lib.hid (Ka_2.out.below hB)
 have Kb_3:=Lib.hid (Kb_2.out.below hB)
 have Kr_3:=Lib.hid (Kr_2.out.below hB)
 have Ks_3:=Lib.hid (Ks_2.out.below hB)
 have HB_3:=Lib.hid (below_trans HB_2.out hB)
 have hs_3:w.heap.size≤w3.heap.size:=HB_3.out.size
 have hz_3:w2.heap.size+0≤w3.heap.size := jrv7
 clear hB hb u_2 v_2 Ka_2 Kb_2 Kr_2 Ks_2 HB_2
 obtain⟨p30,p31,l3⟩:=Kr_3.out.use2
 obtain⟨p40,p41,l4⟩:=Ks_3.out.use2
 obtain⟨r40,r41⟩:=Ks_3.out.into2
 go_wp2
 generalize hW:((w3.setCell ⟨w.heap.size+1+1+1,0,none⟩ (.int .i64 (x3))).setCell ⟨w.heap.size+1+1+1,1,none⟩ (.int .i64 (y3)))=w4
 have Ka_4:=Lib.hid (show Blk w4 (w.heap.size) 36 #[.bool b,.slice A n c,.bool b',.slice A' n' c'] from by rw [← hW];exact((Ka_3.out.other j0i3 0 (.int .i64 (x3))).other j0i3 1 (.int .i64 (y3))))
 have Kb_4:=Lib.hid (show Blk w4 (w.heap.size+1) 36 #[.bool p,.slice P m d,.bool p',.slice P' m' d'] from by rw [← hW];exact((Kb_3.out.other j0i3 0 (.int .i64 (x3))).other j0i3 1 (.int .i64 (y3))))
 have Kr_4:=Lib.hid (show Blk w4 (w.heap.size+1+1) 105 #[.int .i64 (X),.int .i64 (Y)] from by rw [← hW];exact((Kr_3.out.other j0i3 0 (.int .i64 (x3))).other j0i3 1 (.int .i64 (y3))))
 have Ks_4:=Lib.hid (show Blk w4 (w.heap.size+1+1+1) 105 #[.int .i64 (x3),.int .i64 (y3)] from by rw [← hW];exact((Ks_3.out.set_ 0 (.int .i64 (x3))).set_ 1 (.int .i64 (y3))))
 have HB_4:=Lib.hid (show Below w.heap.size w w4 from ji2b)
 have hs_4:w.heap.size≤w4.heap.size:=HB_4.out.size
 have hz_4:w3.heap.size≤w4.heap.size := jfej
 clear hW Ka_3 Kb_3 Kr_3 Ks_3 HB_3 p30 p31 l3 p40 p41 l4 r40 r41
 obtain⟨p50,p51,l5⟩:=Kr_4.out.use2
 obtain⟨r50,r51⟩:=Kr_4.out.into2
 obtain⟨p60,p61,l6⟩:=Ks_4.out.use2
 obtain⟨r60,r61⟩:=Ks_4.out.into2
 go_region
 go_wp2
 obtain⟨WF,hWF⟩ : ∃W,W=((((w4.setCell ⟨w.heap.size+1+1,0,none⟩ (.int .i64 (X))).setCell ⟨w.heap.size+1+1,1,none⟩ (.int .i64 (Y))).setCell ⟨w.heap.size+1+1+1,0,none⟩ (.int .i64 (x3))).setCell ⟨w.heap.size+1+1+1,1,none⟩ (.int .i64 (y3))).drew:=⟨_,rfl⟩
 rw [← hWF]
 have kq0:Blk WF (w.heap.size+1+1) 105 #[.int .i64 (X),.int .i64 (Y)]:=by rw [hWF];exact((((Kr_4.out.set_ 0 (.int .i64 (X))).set_ 1 (.int .i64 (Y))).other j0i3 0 (.int .i64 (x3))).other j0i3 1 (.int .i64 (y3))).drew_
 obtain⟨e00,e01⟩:=kq0.cells2
 have kq1:Blk WF (w.heap.size+1+1+1) 105 #[.int .i64 (x3),.int .i64 (y3)]:=by rw [hWF];exact((((Ks_4.out.other j0i3 0 (.int .i64 (X))).other j0i3 1 (.int .i64 (Y))).set_ 0 (.int .i64 (x3))).set_ 1 (.int .i64 (y3))).drew_
 obtain⟨e10,e11⟩:=kq1.cells2
 have hBF:Below w.heap.size w WF := jmxj
 have HE:Hid (WNo w WF (Ending.returned (.tuple #[.agg #[.int .i64 (X),.int .i64 (Y)],.agg #[.int .i64 (x3),.int .i64 (y3)],.bool false]))):=⟨_,_,_,_,rfl,hBF⟩
 clear hWF
 exact bodyPost_ret (v := .tuple #[.agg #[.int .i64 (X),.int .i64 (Y)],.agg #[.int .i64 (x3),.int .i64 (y3)],.bool false]) joq9 rfl HE.out
set_option maxRecDepth 100000 in
set_option maxHeartbeats 1000000 in
theorem inWords_yes0(b:Bool)(A:Option Addr)(n c:Nat)(b':Bool)(A':Option Addr)(n' c':Nat)(p:Bool)(P:Option Addr)(m d:Nat)(p':Bool)(P':Option Addr)(m' d':Nat)(w:World)(k l:Nat)(X Y X' Y':Int)(hx:LimI k w (.agg #[.bool b,.slice A n c]) X)(hy:LimI k w (.agg #[.bool b',.slice A' n' c']) Y)(hx':LimI l w (.agg #[.bool p,.slice P m d]) X')(hy':LimI l w (.agg #[.bool p',.slice P' m' d']) Y')(hk:k≤100000)(hl:l≤100000)(h0:0<Y)(h0':0<Y')(h1 : -2147483648<X)(h2:X<2147483648)(h3:Y<2147483648)(h1' : -2147483648<X')(h2':X'<2147483648)(h3':Y'<2147483648) :
 Calls Tryz.prog 93 #[(.agg #[.bool b,.slice A n c,.bool b',.slice A' n' c']),(.agg #[.bool p,.slice P m d,.bool p',.slice P' m' d'])] w fun e w'=>WYes w w' e X Y X' Y':=by
 have x_0:=Lib.hid hx
 have y_0:=Lib.hid hy
 have u_0:=Lib.hid hx'
 have v_0:=Lib.hid hy'
 clear hx hy hx' hy'
 go_enter Tryz.func93,Tryz.ntmps93
 go_wp2_with fail
 refine Calls.mono (wordsOf_yes _ _ _ _ _ _ _ _ _ k X Y ((((x_0.out.alloc_ _).alloc_ _).alloc_ _).alloc_ _) ((((y_0.out.alloc_ _).alloc_ _).alloc_ _).alloc_ _) hk h1 h2 h0 h3) ?_
 rintro e w1 ⟨rfl,hb⟩
 have hB:=bun (bun (bun (bun (hb))))
 have u_1:=Lib.hid (u_0.out.below hB)
 have v_1:=Lib.hid (v_0.out.below hB)
 have Ka_1:=Lib.hid (show Blk w1 (w.heap.size) 36 #[.bool b,.slice A n c,.bool b',.slice A' n' c'] from((((Blk.new _ _ jupy _ _).alloc_ _).alloc_ _).alloc_ _).below hb)
 have Kb_1:=Lib.hid (show Blk w1 (w.heap.size+1) 36 #[.bool p,.slice P m d,.bool p',.slice P' m' d'] from(((Blk.new _ _ jupy _ _).alloc_ _).alloc_ _).below hb)
 have Kr_1:=Lib.hid (show Blk w1 (w.heap.size+1+1) 105 #[.int .i64 0,.int .i64 0] from((Blk.new _ _ jupy _ _).alloc_ _).below hb)
 have Ks_1:=Lib.hid (show Blk w1 (w.heap.size+1+1+1) 105 #[.int .i64 0,.int .i64 0] from(Blk.new _ _ jupy _ _).below hb)
 have HB_1:=Lib.hid (hB)
 have hs_1:w.heap.size≤w1.heap.size:=HB_1.out.size
 have hz_1:w.heap.size+4≤w1.heap.size := jrv7
 clear hB hb x_0 y_0 u_0 v_0
 obtain⟨p10,p11,p12,p13,l1⟩:=Kb_1.out.use4
 obtain⟨p20,p21,l2⟩:=Kr_1.out.use2
 obtain⟨r20,r21⟩:=Kr_1.out.into2
 go_wp2_with fail
 generalize hW:((w1.setCell ⟨w.heap.size+1+1,0,none⟩ (.int .i64 (X))).setCell ⟨w.heap.size+1+1,1,none⟩ (.int .i64 (Y)))=w2
 have u_2:=Lib.hid j4dy
 have v_2:=Lib.hid jzcy
 have Ka_2:=Lib.hid (show Blk w2 (w.heap.size) 36 #[.bool b,.slice A n c,.bool b',.slice A' n' c'] from jt8n)
 have Kb_2:=Lib.hid (show Blk w2 (w.heap.size+1) 36 #[.bool p,.slice P m d,.bool p',.slice P' m' d'] from jhn8)
 have Kr_2:=Lib.hid (show Blk w2 (w.heap.size+1+1) 105 #[.int .i64 (X),.int .i64 (Y)] from ja87)
 have Ks_2:=Lib.hid (show Blk w2 (w.heap.size+1+1+1) 105 #[.int .i64 0,.int .i64 0] from j0n0)
 have HB_2:=Lib.hid (show Below w.heap.size w w2 from jwo1)
 have hs_2:w.heap.size≤w2.heap.size:=HB_2.out.size
 have hz_2:w1.heap.size≤w2.heap.size := jfej
 clear hW u_1 v_1 Ka_1 Kb_1 Kr_1 Ks_1 HB_1 p10 p11 p12 p13 l1 p20 p21 l2 r20 r21
 refine Calls.mono (wordsOf_yes _ _ _ _ _ _ _ _ _ l X' Y' u_2.out v_2.out hl h1' h2' h0' h3') ?_
 rintro e w3 ⟨rfl,hb⟩
 have hB:=hb
 have Ka_3:=Lib.hid (Ka_2.out.below hB)
 have Kb_3:=Lib.hid (Kb_2.out.below hB)
 have Kr_3:=Lib.hid (Kr_2.out.below hB)
 have Ks_3:=Lib.hid (Ks_2.out.below hB)
 have HB_3:=Lib.hid (below_trans HB_2.out hB)
 have hs_3:w.heap.size≤w3.heap.size:=HB_3.out.size
 have hz_3:w2.heap.size+0≤w3.heap.size := jrv7
 clear hB hb u_2 v_2 Ka_2 Kb_2 Kr_2 Ks_2 HB_2
 obtain⟨p30,p31,l3⟩:=Kr_3.out.use2
 obtain⟨p40,p41,l4⟩:=Ks_3.out.use2
 obtain⟨r40,r41⟩:=Ks_3.out.into2
 go_wp2
 generalize hW:((w3.setCell ⟨w.heap.size+1+1+1,0,none⟩ (.int .i64 (X'))).setCell ⟨w.heap.size+1+1+1,1,none⟩ (.int .i64 (Y')))=w4
 have Ka_4:=Lib.hid (show Blk w4 (w.heap.size) 36 #[.bool b,.slice A n c,.bool b',.slice A' n' c'] from by rw [← hW];exact((Ka_3.out.other j0i3 0 (.int .i64 (X'))).other j0i3 1 (.int .i64 (Y'))))
 have Kb_4:=Lib.hid (show Blk w4 (w.heap.size+1) 36 #[.bool p,.slice P m d,.bool p',.slice P' m' d'] from by rw [← hW];exact((Kb_3.out.other j0i3 0 (.int .i64 (X'))).other j0i3 1 (.int .i64 (Y'))))
 have Kr_4:=Lib.hid (show Blk w4 (w.heap.size+1+1) 105 #[.int .i64 (X),.int .i64 (Y)] from by rw [← hW];exact((Kr_3.out.other j0i3 0 (.int .i64 (X'))).other j0i3 1 (.int .i64 (Y'))))
 have Ks_4:=Lib.hid (show Blk w4 (w.heap.size+1+1+1) 105 #[.int .i64 (X'),.int .i64 (Y')] from by rw [← hW];exact((Ks_3.out.set_ 0 (.int .i64 (X'))).set_ 1 (.int .i64 (Y'))))
 have HB_4:=Lib.hid (show Below w.heap.size w w4 from ji2b)
 have hs_4:w.heap.size≤w4.heap.size:=HB_4.out.size
 have hz_4:w3.heap.size≤w4.heap.size := jfej
 clear hW Ka_3 Kb_3 Kr_3 Ks_3 HB_3 p30 p31 l3 p40 p41 l4 r40 r41
 obtain⟨p50,p51,l5⟩:=Kr_4.out.use2
 obtain⟨r50,r51⟩:=Kr_4.out.into2
 obtain⟨p60,p61,l6⟩:=Ks_4.out.use2
 obtain⟨r60,r61⟩:=Ks_4.out.into2
 go_region
 go_wp2
 obtain⟨WF,hWF⟩ : ∃W,W=((((w4.setCell ⟨w.heap.size+1+1,0,none⟩ (.int .i64 (X))).setCell ⟨w.heap.size+1+1,1,none⟩ (.int .i64 (Y))).setCell ⟨w.heap.size+1+1+1,0,none⟩ (.int .i64 (X'))).setCell ⟨w.heap.size+1+1+1,1,none⟩ (.int .i64 (Y'))).drew:=⟨_,rfl⟩
 rw [← hWF]
 have kq0:Blk WF (w.heap.size+1+1) 105 #[.int .i64 (X),.int .i64 (Y)]:=by rw [hWF];exact((((Kr_4.out.set_ 0 (.int .i64 (X))).set_ 1 (.int .i64 (Y))).other j0i3 0 (.int .i64 (X'))).other j0i3 1 (.int .i64 (Y'))).drew_
 obtain⟨e00,e01⟩:=kq0.cells2
 have kq1:Blk WF (w.heap.size+1+1+1) 105 #[.int .i64 (X'),.int .i64 (Y')]:=by rw [hWF];exact((((Ks_4.out.other j0i3 0 (.int .i64 (X))).other j0i3 1 (.int .i64 (Y))).set_ 0 (.int .i64 (X'))).set_ 1 (.int .i64 (Y'))).drew_
 obtain⟨e10,e11⟩:=kq1.cells2
 have hBF:Below w.heap.size w WF := jmxj
 have HE:Hid (WYes w WF (Ending.returned (.tuple #[.agg #[.int .i64 (X),.int .i64 (Y)],.agg #[.int .i64 (X'),.int .i64 (Y')],.bool true])) X Y X' Y'):=⟨rfl,hBF⟩
 clear hWF
 exact bodyPost_ret (v := .tuple #[.agg #[.int .i64 (X),.int .i64 (Y)],.agg #[.int .i64 (X'),.int .i64 (Y')],.bool true]) joq9 rfl HE.out
end Go.Proofs.YtgilnmhejjpleaaGreat
