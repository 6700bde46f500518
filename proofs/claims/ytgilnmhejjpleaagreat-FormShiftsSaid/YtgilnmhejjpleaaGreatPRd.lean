/- Contracts of ratio: what is told of words. -/
import Derived.Test.YtgilnmhejjpleaaGreatPRc
import Derived.Deep.DeepCutAuto
namespace Go.Proofs.YtgilnmhejjpleaaGreat
open Go.RowKit
set_option linter.unusedVariables false
theorem jopl {P:Prop}(h:P:=by simp [results, Tryz.results114, go_sem, e0, e1] <;> omega):P:=h
theorem jrv7 {P:Prop}(h:P:=by have h := hb.size; (try simp at h); omega):P:=h
theorem jxbq {P:Prop}(h:P:=by rw [hWF]; exact Kr_2.out.own2):P:=h
def Short(X Y:Int):Prop := -2147483648<X∧X<2147483648∧Y<2147483648
theorem li_small_no {k:Nat} {w:World} {v:Value} {X:Int}(h:LimI k w v X)(hk:k≤1000000)(h1 : ¬ (-9223372036854775808≤X∧X≤9223372036854775807)):Calls Tryz.prog 132 #[v] w fun e w'=>e = .returned (.tuple #[.int .i64 0,.bool false])∧Below w.heap.size w w':=by
 have:=li_small h hk
 unfold SmallPost at this
 rw [(small_no h1).1,(small_no h1).2] at this
 exact this
set_option maxRecDepth 100000 in
set_option maxHeartbeats 1000000 in
theorem wordsOf_yes(b:Bool)(A:Option Addr)(n c:Nat)(b':Bool)(A':Option Addr)(n' c':Nat)(w:World)(k:Nat)(X Y:Int)(hx:LimI k w (.agg #[.bool b,.slice A n c]) X)(hy:LimI k w (.agg #[.bool b',.slice A' n' c']) Y)(hk:k≤100000)(h1 : -2147483648<X)(h2:X<2147483648)(h0:0<Y)(h3:Y<2147483648) :
 Calls Tryz.prog 114 #[(.agg #[.bool b,.slice A n c,.bool b',.slice A' n' c'])] w fun e w'=>e = .returned (.tuple #[.agg #[.int .i64 (X),.int .i64 (Y)],.bool true])∧Below w.heap.size w w':=by
 have x_0:=Lib.hid hx
 have y_0:=Lib.hid hy
 clear hx hy
 go_enter Tryz.func114,Tryz.ntmps114
 go_wp2_with fail
 refine Calls.mono (li_small_is ((x_0.out.alloc_ _).alloc_ _) j0i3 j0i3 j0i3) ?_
 rintro e w1 ⟨rfl,hb⟩
 have hB:=bun (bun (hb))
 have x_1:=Lib.hid (x_0.out.below hB)
 have y_1:=Lib.hid (y_0.out.below hB)
 have Ka_1:=Lib.hid (show Blk w1 (w.heap.size) 36 #[.bool b,.slice A n c,.bool b',.slice A' n' c'] from((Blk.new _ _ jupy _ _).alloc_ _).below hb)
 have Kr_1:=Lib.hid (show Blk w1 (w.heap.size+1) 105 #[.int .i64 0,.int .i64 0] from(Blk.new _ _ jupy _ _).below hb)
 have HB_1:=Lib.hid (hB)
 have hs_1:w.heap.size≤w1.heap.size:=HB_1.out.size
 have hz_1:w.heap.size+2≤w1.heap.size := jrv7
 clear hB hb x_0 y_0
 obtain⟨p10,p11,p12,p13,l1⟩:=Ka_1.out.use4
 go_wp2_with fail
 refine Calls.mono (li_small_is y_1.out j0i3 j0i3 j0i3) ?_
 rintro e w2 ⟨rfl,hb⟩
 have hB:=hb
 have x_2:=Lib.hid (x_1.out.below hB)
 have y_2:=Lib.hid (y_1.out.below hB)
 have Ka_2:=Lib.hid (Ka_1.out.below hB)
 have Kr_2:=Lib.hid (Kr_1.out.below hB)
 have HB_2:=Lib.hid (below_trans HB_1.out hB)
 have hs_2:w.heap.size≤w2.heap.size:=HB_2.out.size
 have hz_2:w1.heap.size+0≤w2.heap.size := jrv7
 clear hB hb x_1 y_1 Ka_1 Kr_1 HB_1 p10 p11 p12 p13 l1
 obtain⟨p20,p21,l2⟩:=Kr_2.out.use2
 obtain⟨r20,r21⟩:=Kr_2.out.into2
 go_wp2
 obtain⟨WF,hWF⟩ : ∃W,W=((w2.setCell ⟨w.heap.size+1,0,none⟩ (.int .i64 (X))).setCell ⟨w.heap.size+1,1,none⟩ (.int .i64 (Y))):=⟨_,rfl⟩
 rw [← hWF]
 have kq:Blk WF (w.heap.size+1) 105 #[.int .i64 (X),.int .i64 (Y)] := jxbq
 have hBF:Below w.heap.size w WF:=by rw [hWF];exact Below.set2 (HB_2.out) jvm6
 have HE:Hid ((Ending.returned (.tuple #[.agg #[.int .i64 (X),.int .i64 (Y)],.bool true]))=Ending.returned (.tuple #[.agg #[.int .i64 (X),.int .i64 (Y)],.bool true])∧Below w.heap.size w WF):=⟨rfl,hBF⟩
 obtain⟨e0,e1⟩:=kq.cells2
 clear hWF
 exact bodyPost_ret (v := .tuple #[.agg #[.int .i64 (X),.int .i64 (Y)],.bool true]) jopl rfl HE.out
set_option maxRecDepth 100000 in
set_option maxHeartbeats 1000000 in
theorem wordsOf_a(b:Bool)(A:Option Addr)(n c:Nat)(b':Bool)(A':Option Addr)(n' c':Nat)(w:World)(k:Nat)(X Y:Int)(hx:LimI k w (.agg #[.bool b,.slice A n c]) X)(hy:LimI k w (.agg #[.bool b',.slice A' n' c']) Y)(hk:k≤100000)(h1 : -9223372036854775808≤X)(h2:X≤ -2147483648)(h0:0<Y)(h3:Y≤9223372036854775807) :
 Calls Tryz.prog 114 #[(.agg #[.bool b,.slice A n c,.bool b',.slice A' n' c'])] w fun e w'=>e = .returned (.tuple #[.agg #[.int .i64 (X),.int .i64 (Y)],.bool false])∧Below w.heap.size w w':=by
 have x_0:=Lib.hid hx
 have y_0:=Lib.hid hy
 clear hx hy
 go_enter Tryz.func114,Tryz.ntmps114
 go_wp2_with fail
 refine Calls.mono (li_small_is ((x_0.out.alloc_ _).alloc_ _) j0i3 j0i3 j0i3) ?_
 rintro e w1 ⟨rfl,hb⟩
 have hB:=bun (bun (hb))
 have x_1:=Lib.hid (x_0.out.below hB)
 have y_1:=Lib.hid (y_0.out.below hB)
 have Ka_1:=Lib.hid (show Blk w1 (w.heap.size) 36 #[.bool b,.slice A n c,.bool b',.slice A' n' c'] from((Blk.new _ _ jupy _ _).alloc_ _).below hb)
 have Kr_1:=Lib.hid (show Blk w1 (w.heap.size+1) 105 #[.int .i64 0,.int .i64 0] from(Blk.new _ _ jupy _ _).below hb)
 have HB_1:=Lib.hid (hB)
 have hs_1:w.heap.size≤w1.heap.size:=HB_1.out.size
 have hz_1:w.heap.size+2≤w1.heap.size := jrv7
 clear hB hb x_0 y_0
 obtain⟨p10,p11,p12,p13,l1⟩:=Ka_1.out.use4
 go_wp2_with fail
 refine Calls.mono (li_small_is y_1.out j0i3 j0i3 j0i3) ?_
 rintro e w2 ⟨rfl,hb⟩
 have hB:=hb
 have x_2:=Lib.hid (x_1.out.below hB)
 have y_2:=Lib.hid (y_1.out.below hB)
 have Ka_2:=Lib.hid (Ka_1.out.below hB)
 have Kr_2:=Lib.hid (Kr_1.out.below hB)
 have HB_2:=Lib.hid (below_trans HB_1.out hB)
 have hs_2:w.heap.size≤w2.heap.size:=HB_2.out.size
 have hz_2:w1.heap.size+0≤w2.heap.size := jrv7
 clear hB hb x_1 y_1 Ka_1 Kr_1 HB_1 p10 p11 p12 p13 l1
 obtain⟨p20,p21,l2⟩:=Kr_2.out.use2
 obtain⟨r20,r21⟩:=Kr_2.out.into2
 go_wp2
 obtain⟨WF,hWF⟩ : ∃W,W=((w2.setCell ⟨w.heap.size+1,0,none⟩ (.int .i64 (X))).setCell ⟨w.heap.size+1,1,none⟩ (.int .i64 (Y))):=⟨_,rfl⟩
 rw [← hWF]
 have kq:Blk WF (w.heap.size+1) 105 #[.int .i64 (X),.int .i64 (Y)] := jxbq
 have hBF:Below w.heap.size w WF:=by rw [hWF];exact Below.set2 (HB_2.out) jvm6
 have HE:Hid ((Ending.returned (.tuple #[.agg #[.int .i64 (X),.int .i64 (Y)],.bool false]))=Ending.returned (.tuple #[.agg #[.int .i64 (X),.int .i64 (Y)],.bool false])∧Below w.heap.size w WF):=⟨rfl,hBF⟩
 obtain⟨e0,e1⟩:=kq.cells2
 clear hWF
 exact bodyPost_ret (v := .tuple #[.agg #[.int .i64 (X),.int .i64 (Y)],.bool false]) jopl rfl HE.out
set_option maxRecDepth 100000 in
set_option maxHeartbeats 1000000 in
theorem wordsOf_b(b:Bool)(A:Option Addr)(n c:Nat)(b':Bool)(A':Option Addr)(n' c':Nat)(w:World)(k:Nat)(X Y:Int)(hx:LimI k w (.agg #[.bool b,.slice A n c]) X)(hy:LimI k w (.agg #[.bool b',.slice A' n' c']) Y)(hk:k≤100000)(h1:2147483648≤X)(h5 : -2147483648<X)(h2:X≤9223372036854775807)(h0:0<Y)(h3:Y≤9223372036854775807) :
 Calls Tryz.prog 114 #[(.agg #[.bool b,.slice A n c,.bool b',.slice A' n' c'])] w fun e w'=>e = .returned (.tuple #[.agg #[.int .i64 (X),.int .i64 (Y)],.bool false])∧Below w.heap.size w w':=by
 have x_0:=Lib.hid hx
 have y_0:=Lib.hid hy
 clear hx hy
 go_enter Tryz.func114,Tryz.ntmps114
 go_wp2_with fail
 refine Calls.mono (li_small_is ((x_0.out.alloc_ _).alloc_ _) j0i3 j0i3 j0i3) ?_
 rintro e w1 ⟨rfl,hb⟩
 have hB:=bun (bun (hb))
 have x_1:=Lib.hid (x_0.out.below hB)
 have y_1:=Lib.hid (y_0.out.below hB)
 have Ka_1:=Lib.hid (show Blk w1 (w.heap.size) 36 #[.bool b,.slice A n c,.bool b',.slice A' n' c'] from((Blk.new _ _ jupy _ _).alloc_ _).below hb)
 have Kr_1:=Lib.hid (show Blk w1 (w.heap.size+1) 105 #[.int .i64 0,.int .i64 0] from(Blk.new _ _ jupy _ _).below hb)
 have HB_1:=Lib.hid (hB)
 have hs_1:w.heap.size≤w1.heap.size:=HB_1.out.size
 have hz_1:w.heap.size+2≤w1.heap.size := jrv7
 clear hB hb x_0 y_0
 obtain⟨p10,p11,p12,p13,l1⟩:=Ka_1.out.use4
 go_wp2_with fail
 refine Calls.mono (li_small_is y_1.out j0i3 j0i3 j0i3) ?_
 rintro e w2 ⟨rfl,hb⟩
 have hB:=hb
 have x_2:=Lib.hid (x_1.out.below hB)
 have y_2:=Lib.hid (y_1.out.below hB)
 have Ka_2:=Lib.hid (Ka_1.out.below hB)
 have Kr_2:=Lib.hid (Kr_1.out.below hB)
 have HB_2:=Lib.hid (below_trans HB_1.out hB)
 have hs_2:w.heap.size≤w2.heap.size:=HB_2.out.size
 have hz_2:w1.heap.size+0≤w2.heap.size := jrv7
 clear hB hb x_1 y_1 Ka_1 Kr_1 HB_1 p10 p11 p12 p13 l1
 obtain⟨p20,p21,l2⟩:=Kr_2.out.use2
 obtain⟨r20,r21⟩:=Kr_2.out.into2
 go_wp2
 obtain⟨WF,hWF⟩ : ∃W,W=((w2.setCell ⟨w.heap.size+1,0,none⟩ (.int .i64 (X))).setCell ⟨w.heap.size+1,1,none⟩ (.int .i64 (Y))):=⟨_,rfl⟩
 rw [← hWF]
 have kq:Blk WF (w.heap.size+1) 105 #[.int .i64 (X),.int .i64 (Y)] := jxbq
 have hBF:Below w.heap.size w WF:=by rw [hWF];exact Below.set2 (HB_2.out) jvm6
 have HE:Hid ((Ending.returned (.tuple #[.agg #[.int .i64 (X),.int .i64 (Y)],.bool false]))=Ending.returned (.tuple #[.agg #[.int .i64 (X),.int .i64 (Y)],.bool false])∧Below w.heap.size w WF):=⟨rfl,hBF⟩
 obtain⟨e0,e1⟩:=kq.cells2
 clear hWF
 exact bodyPost_ret (v := .tuple #[.agg #[.int .i64 (X),.int .i64 (Y)],.bool false]) jopl rfl HE.out
set_option maxRecDepth 100000 in
set_option maxHeartbeats 1000000 in
theorem wordsOf_c(b:Bool)(A:Option Addr)(n c:Nat)(b':Bool)(A':Option Addr)(n' c':Nat)(w:World)(k:Nat)(X Y:Int)(hx:LimI k w (.agg #[.bool b,.slice A n c]) X)(hy:LimI k w (.agg #[.bool b',.slice A' n' c']) Y)(hk:k≤100000)(h1 : -2147483648<X)(h2:X<2147483648)(h0:2147483648≤Y)(h3:Y≤9223372036854775807) :
 Calls Tryz.prog 114 #[(.agg #[.bool b,.slice A n c,.bool b',.slice A' n' c'])] w fun e w'=>e = .returned (.tuple #[.agg #[.int .i64 (X),.int .i64 (Y)],.bool false])∧Below w.heap.size w w':=by
 have x_0:=Lib.hid hx
 have y_0:=Lib.hid hy
 clear hx hy
 go_enter Tryz.func114,Tryz.ntmps114
 go_wp2_with fail
 refine Calls.mono (li_small_is ((x_0.out.alloc_ _).alloc_ _) j0i3 j0i3 j0i3) ?_
 rintro e w1 ⟨rfl,hb⟩
 have hB:=bun (bun (hb))
 have x_1:=Lib.hid (x_0.out.below hB)
 have y_1:=Lib.hid (y_0.out.below hB)
 have Ka_1:=Lib.hid (show Blk w1 (w.heap.size) 36 #[.bool b,.slice A n c,.bool b',.slice A' n' c'] from((Blk.new _ _ jupy _ _).alloc_ _).below hb)
 have Kr_1:=Lib.hid (show Blk w1 (w.heap.size+1) 105 #[.int .i64 0,.int .i64 0] from(Blk.new _ _ jupy _ _).below hb)
 have HB_1:=Lib.hid (hB)
 have hs_1:w.heap.size≤w1.heap.size:=HB_1.out.size
 have hz_1:w.heap.size+2≤w1.heap.size := jrv7
 clear hB hb x_0 y_0
 obtain⟨p10,p11,p12,p13,l1⟩:=Ka_1.out.use4
 go_wp2_with fail
 refine Calls.mono (li_small_is y_1.out j0i3 j0i3 j0i3) ?_
 rintro e w2 ⟨rfl,hb⟩
 have hB:=hb
 have x_2:=Lib.hid (x_1.out.below hB)
 have y_2:=Lib.hid (y_1.out.below hB)
 have Ka_2:=Lib.hid (Ka_1.out.below hB)
 have Kr_2:=Lib.hid (Kr_1.out.below hB)
 have HB_2:=Lib.hid (below_trans HB_1.out hB)
 have hs_2:w.heap.size≤w2.heap.size:=HB_2.out.size
 have hz_2:w1.heap.size+0≤w2.heap.size := jrv7
 clear hB hb x_1 y_1 Ka_1 Kr_1 HB_1 p10 p11 p12 p13 l1
 obtain⟨p20,p21,l2⟩:=Kr_2.out.use2
 obtain⟨r20,r21⟩:=Kr_2.out.into2
 go_wp2
 obtain⟨WF,hWF⟩ : ∃W,W=((w2.setCell ⟨w.heap.size+1,0,none⟩ (.int .i64 (X))).setCell ⟨w.heap.size+1,1,none⟩ (.int .i64 (Y))):=⟨_,rfl⟩
 rw [← hWF]
 have kq:Blk WF (w.heap.size+1) 105 #[.int .i64 (X),.int .i64 (Y)] := jxbq
 have hBF:Below w.heap.size w WF:=by rw [hWF];exact Below.set2 (HB_2.out) jvm6
 have HE:Hid ((Ending.returned (.tuple #[.agg #[.int .i64 (X),.int .i64 (Y)],.bool false]))=Ending.returned (.tuple #[.agg #[.int .i64 (X),.int .i64 (Y)],.bool false])∧Below w.heap.size w WF):=⟨rfl,hBF⟩
 obtain⟨e0,e1⟩:=kq.cells2
 clear hWF
 exact bodyPost_ret (v := .tuple #[.agg #[.int .i64 (X),.int .i64 (Y)],.bool false]) jopl rfl HE.out
set_option maxRecDepth 100000 in
set_option maxHeartbeats 1000000 in
theorem wordsOf_d(b:Bool)(A:Option Addr)(n c:Nat)(b':Bool)(A':Option Addr)(n' c':Nat)(w:World)(k:Nat)(X Y:Int)(hx:LimI k w (.agg #[.bool b,.slice A n c]) X)(hy:LimI k w (.agg #[.bool b',.slice A' n' c']) Y)(hk:k≤100000)(h1 : -9223372036854775808≤X)(h2:X≤9223372036854775807)(h0:9223372036854775807<Y) :
 Calls Tryz.prog 114 #[(.agg #[.bool b,.slice A n c,.bool b',.slice A' n' c'])] w fun e w'=>e = .returned (.tuple #[.agg #[.int .i64 (X),.int .i64 (0)],.bool false])∧Below w.heap.size w w':=by
 have x_0:=Lib.hid hx
 have y_0:=Lib.hid hy
 have HY:Hid (¬ (-9223372036854775808≤Y∧Y≤9223372036854775807)):=by show ¬_;omega
 clear hx hy
 go_enter Tryz.func114,Tryz.ntmps114
 go_wp2_with fail
 refine Calls.mono (li_small_is ((x_0.out.alloc_ _).alloc_ _) j0i3 j0i3 j0i3) ?_
 rintro e w1 ⟨rfl,hb⟩
 have hB:=bun (bun (hb))
 have x_1:=Lib.hid (x_0.out.below hB)
 have y_1:=Lib.hid (y_0.out.below hB)
 have Ka_1:=Lib.hid (show Blk w1 (w.heap.size) 36 #[.bool b,.slice A n c,.bool b',.slice A' n' c'] from((Blk.new _ _ jupy _ _).alloc_ _).below hb)
 have Kr_1:=Lib.hid (show Blk w1 (w.heap.size+1) 105 #[.int .i64 0,.int .i64 0] from(Blk.new _ _ jupy _ _).below hb)
 have HB_1:=Lib.hid (hB)
 have hs_1:w.heap.size≤w1.heap.size:=HB_1.out.size
 have hz_1:w.heap.size+2≤w1.heap.size := jrv7
 clear hB hb x_0 y_0
 obtain⟨p10,p11,p12,p13,l1⟩:=Ka_1.out.use4
 go_wp2_with fail
 refine Calls.mono (li_small_no y_1.out j0i3 HY.out) ?_
 rintro e w2 ⟨rfl,hb⟩
 have hB:=hb
 have x_2:=Lib.hid (x_1.out.below hB)
 have y_2:=Lib.hid (y_1.out.below hB)
 have Ka_2:=Lib.hid (Ka_1.out.below hB)
 have Kr_2:=Lib.hid (Kr_1.out.below hB)
 have HB_2:=Lib.hid (below_trans HB_1.out hB)
 have hs_2:w.heap.size≤w2.heap.size:=HB_2.out.size
 have hz_2:w1.heap.size+0≤w2.heap.size := jrv7
 clear hB hb x_1 y_1 Ka_1 Kr_1 HB_1 p10 p11 p12 p13 l1
 obtain⟨p20,p21,l2⟩:=Kr_2.out.use2
 obtain⟨r20,r21⟩:=Kr_2.out.into2
 go_wp2
 obtain⟨WF,hWF⟩ : ∃W,W=((w2.setCell ⟨w.heap.size+1,0,none⟩ (.int .i64 (X))).setCell ⟨w.heap.size+1,1,none⟩ (.int .i64 (0))):=⟨_,rfl⟩
 rw [← hWF]
 have kq:Blk WF (w.heap.size+1) 105 #[.int .i64 (X),.int .i64 (0)] := jxbq
 have hBF:Below w.heap.size w WF:=by rw [hWF];exact Below.set2 (HB_2.out) jvm6
 have HE:Hid ((Ending.returned (.tuple #[.agg #[.int .i64 (X),.int .i64 (0)],.bool false]))=Ending.returned (.tuple #[.agg #[.int .i64 (X),.int .i64 (0)],.bool false])∧Below w.heap.size w WF):=⟨rfl,hBF⟩
 obtain⟨e0,e1⟩:=kq.cells2
 clear hWF
 exact bodyPost_ret (v := .tuple #[.agg #[.int .i64 (X),.int .i64 (0)],.bool false]) jopl rfl HE.out
set_option maxRecDepth 100000 in
set_option maxHeartbeats 1000000 in
theorem wordsOf_e(b:Bool)(A:Option Addr)(n c:Nat)(b':Bool)(A':Option Addr)(n' c':Nat)(w:World)(k:Nat)(X Y:Int)(hx:LimI k w (.agg #[.bool b,.slice A n c]) X)(hy:LimI k w (.agg #[.bool b',.slice A' n' c']) Y)(hk:k≤100000)(h1 : ¬ (-9223372036854775808≤X∧X≤9223372036854775807))(h0:0<Y)(h3:Y≤9223372036854775807) :
 Calls Tryz.prog 114 #[(.agg #[.bool b,.slice A n c,.bool b',.slice A' n' c'])] w fun e w'=>e = .returned (.tuple #[.agg #[.int .i64 (0),.int .i64 (Y)],.bool false])∧Below w.heap.size w w':=by
 have x_0:=Lib.hid hx
 have y_0:=Lib.hid hy
 have HX:=Lib.hid h1
 clear h1
 clear hx hy
 go_enter Tryz.func114,Tryz.ntmps114
 go_wp2_with fail
 refine Calls.mono (li_small_no ((x_0.out.alloc_ _).alloc_ _) j0i3 HX.out) ?_
 rintro e w1 ⟨rfl,hb⟩
 have hB:=bun (bun (hb))
 have x_1:=Lib.hid (x_0.out.below hB)
 have y_1:=Lib.hid (y_0.out.below hB)
 have Ka_1:=Lib.hid (show Blk w1 (w.heap.size) 36 #[.bool b,.slice A n c,.bool b',.slice A' n' c'] from((Blk.new _ _ jupy _ _).alloc_ _).below hb)
 have Kr_1:=Lib.hid (show Blk w1 (w.heap.size+1) 105 #[.int .i64 0,.int .i64 0] from(Blk.new _ _ jupy _ _).below hb)
 have HB_1:=Lib.hid (hB)
 have hs_1:w.heap.size≤w1.heap.size:=HB_1.out.size
 have hz_1:w.heap.size+2≤w1.heap.size := jrv7
 clear hB hb x_0 y_0
 obtain⟨p10,p11,p12,p13,l1⟩:=Ka_1.out.use4
 go_wp2_with fail
 refine Calls.mono (li_small_is y_1.out j0i3 j0i3 j0i3) ?_
 rintro e w2 ⟨rfl,hb⟩
 have hB:=hb
 have x_2:=Lib.hid (x_1.out.below hB)
 have y_2:=Lib.hid (y_1.out.below hB)
 have Ka_2:=Lib.hid (Ka_1.out.below hB)
 have Kr_2:=Lib.hid (Kr_1.out.below hB)
 have HB_2:=Lib.hid (below_trans HB_1.out hB)
 have hs_2:w.heap.size≤w2.heap.size:=HB_2.out.size
 have hz_2:w1.heap.size+0≤w2.heap.size := jrv7
 clear hB hb x_1 y_1 Ka_1 Kr_1 HB_1 p10 p11 p12 p13 l1
 obtain⟨p20,p21,l2⟩:=Kr_2.out.use2
 obtain⟨r20,r21⟩:=Kr_2.out.into2
 go_wp2
 obtain⟨WF,hWF⟩ : ∃W,W=((w2.setCell ⟨w.heap.size+1,0,none⟩ (.int .i64 (0))).setCell ⟨w.heap.size+1,1,none⟩ (.int .i64 (Y))):=⟨_,rfl⟩
 rw [← hWF]
 have kq:Blk WF (w.heap.size+1) 105 #[.int .i64 (0),.int .i64 (Y)] := jxbq
 have hBF:Below w.heap.size w WF:=by rw [hWF];exact Below.set2 (HB_2.out) jvm6
 have HE:Hid ((Ending.returned (.tuple #[.agg #[.int .i64 (0),.int .i64 (Y)],.bool false]))=Ending.returned (.tuple #[.agg #[.int .i64 (0),.int .i64 (Y)],.bool false])∧Below w.heap.size w WF):=⟨rfl,hBF⟩
 obtain⟨e0,e1⟩:=kq.cells2
 clear hWF
 exact bodyPost_ret (v := .tuple #[.agg #[.int .i64 (0),.int .i64 (Y)],.bool false]) jopl rfl HE.out
set_option maxRecDepth 100000 in
set_option maxHeartbeats 1000000 in
theorem wordsOf_f(b:Bool)(A:Option Addr)(n c:Nat)(b':Bool)(A':Option Addr)(n' c':Nat)(w:World)(k:Nat)(X Y:Int)(hx:LimI k w (.agg #[.bool b,.slice A n c]) X)(hy:LimI k w (.agg #[.bool b',.slice A' n' c']) Y)(hk:k≤100000)(h1 : ¬ (-9223372036854775808≤X∧X≤9223372036854775807))(h0:9223372036854775807<Y) :
 Calls Tryz.prog 114 #[(.agg #[.bool b,.slice A n c,.bool b',.slice A' n' c'])] w fun e w'=>e = .returned (.tuple #[.agg #[.int .i64 (0),.int .i64 (0)],.bool false])∧Below w.heap.size w w':=by
 have x_0:=Lib.hid hx
 have y_0:=Lib.hid hy
 have HX:=Lib.hid h1
 have HY:Hid (¬ (-9223372036854775808≤Y∧Y≤9223372036854775807)):=by show ¬_;omega
 clear h1
 clear hx hy
 go_enter Tryz.func114,Tryz.ntmps114
 go_wp2_with fail
 refine Calls.mono (li_small_no ((x_0.out.alloc_ _).alloc_ _) j0i3 HX.out) ?_
 rintro e w1 ⟨rfl,hb⟩
 have hB:=bun (bun (hb))
 have x_1:=Lib.hid (x_0.out.below hB)
 have y_1:=Lib.hid (y_0.out.below hB)
 have Ka_1:=Lib.hid (show Blk w1 (w.heap.size) 36 #[.bool b,.slice A n c,.bool b',.slice A' n' c'] from((Blk.new _ _ jupy _ _).alloc_ _).below hb)
 have Kr_1:=Lib.hid (show Blk w1 (w.heap.size+1) 105 #[.int .i64 0,.int .i64 0] from(Blk.new _ _ jupy _ _).below hb)
 have HB_1:=Lib.hid (hB)
 have hs_1:w.heap.size≤w1.heap.size:=HB_1.out.size
 have hz_1:w.heap.size+2≤w1.heap.size := jrv7
 clear hB hb x_0 y_0
 obtain⟨p10,p11,p12,p13,l1⟩:=Ka_1.out.use4
 go_wp2_with fail
 refine Calls.mono (li_small_no y_1.out j0i3 HY.out) ?_
 rintro e w2 ⟨rfl,hb⟩
 have hB:=hb
 have x_2:=Lib.hid (x_1.out.below hB)
 have y_2:=Lib.hid (y_1.out.below hB)
 have Ka_2:=Lib.hid (Ka_1.out.below hB)
 have Kr_2:=Lib.hid (Kr_1.out.below hB)
 have HB_2:=Lib.hid (below_trans HB_1.out hB)
 have hs_2:w.heap.size≤w2.heap.size:=HB_2.out.size
 have hz_2:w1.heap.size+0≤w2.heap.size := jrv7
 clear hB hb x_1 y_1 Ka_1 Kr_1 HB_1 p10 p11 p12 p13 l1
 obtain⟨p20,p21,l2⟩:=Kr_2.out.use2
 obtain⟨r20,r21⟩:=Kr_2.out.into2
 go_wp2
 obtain⟨WF,hWF⟩ : ∃W,W=((w2.setCell ⟨w.heap.size+1,0,none⟩ (.int .i64 (0))).setCell ⟨w.heap.size+1,1,none⟩ (.int .i64 (0))):=⟨_,rfl⟩
 rw [← hWF]
 have kq:Blk WF (w.heap.size+1) 105 #[.int .i64 (0),.int .i64 (0)] := jxbq
 have hBF:Below w.heap.size w WF:=by rw [hWF];exact Below.set2 (HB_2.out) jvm6
 have HE:Hid ((Ending.returned (.tuple #[.agg #[.int .i64 (0),.int .i64 (0)],.bool false]))=Ending.returned (.tuple #[.agg #[.int .i64 (0),.int .i64 (0)],.bool false])∧Below w.heap.size w WF):=⟨rfl,hBF⟩
 obtain⟨e0,e1⟩:=kq.cells2
 clear hWF
 exact bodyPost_ret (v := .tuple #[.agg #[.int .i64 (0),.int .i64 (0)],.bool false]) jopl rfl HE.out
def WordsNo(w w':World)(e:Ending):Prop := ∃x y:Int,e = .returned (.tuple #[.agg #[.int .i64 x,.int .i64 y],.bool false])∧Below w.heap.size w w'
theorem wordsOf_no(b:Bool)(A:Option Addr)(n c:Nat)(b':Bool)(A':Option Addr)(n' c':Nat)(w:World)(k:Nat)(X Y:Int)(hx:LimI k w (.agg #[.bool b,.slice A n c]) X)(hy:LimI k w (.agg #[.bool b',.slice A' n' c']) Y)(hk:k≤100000)(h0:0<Y)(h : ¬Short X Y):Calls Tryz.prog 114 #[(.agg #[.bool b,.slice A n c,.bool b',.slice A' n' c'])] w fun e w'=>WordsNo w w' e:=by
 unfold Short at h
 by_cases hX : -9223372036854775808≤X∧X≤9223372036854775807
 ·by_cases hY:Y≤9223372036854775807
  ·by_cases h1:X≤ -2147483648
   ·exact(wordsOf_a b A n c b' A' n' c' w k X Y hx hy hk j0i3 h1 h0 hY).mono fun e w' h=>⟨_,_,h⟩
   by_cases h2:2147483648≤X
   ·exact(wordsOf_b b A n c b' A' n' c' w k X Y hx hy hk h2 j0i3 j0i3 h0 hY).mono fun e w' h=>⟨_,_,h⟩
   exact(wordsOf_c b A n c b' A' n' c' w k X Y hx hy hk j0i3 j0i3 j0i3 hY).mono fun e w' h=>⟨_,_,h⟩
  ·exact(wordsOf_d b A n c b' A' n' c' w k X Y hx hy hk j0i3 j0i3 j0i3).mono fun e w' h=>⟨_,_,h⟩
 ·by_cases hY:Y≤9223372036854775807
  ·exact(wordsOf_e b A n c b' A' n' c' w k X Y hx hy hk hX h0 hY).mono fun e w' h=>⟨_,_,h⟩
  ·exact(wordsOf_f b A n c b' A' n' c' w k X Y hx hy hk hX j0i3).mono fun e w' h=>⟨_,_,h⟩
theorem gcd_tmod(a b:Int):Int.gcd b (a.tmod b)=Int.gcd a b:=by
 unfold Int.gcd
 rw [Int.natAbs_tmod,Nat.gcd_comm a.natAbs,Nat.gcd_rec b.natAbs a.natAbs,Nat.gcd_comm]
set_option maxHeartbeats 1000000 in
theorem divisor_any(a b:Int)(w:World)(ha:0<a)(ha2:a≤9223372036854775807)(hb1 : -9223372036854775807≤b)(hb2:b≤9223372036854775807) :
 Calls Tryz.prog 131 #[.int .i64 a,.int .i64 b] w fun e w'=>e = .returned (.int .i64 (Int.gcd a b:Nat))∧Below w.heap.size w w':=by
 go_enter Tryz.func131,Tryz.ntmps131
 go_wp2
 go_loopw [0,1] (fun v0 v1 wr => ∃X Y:Int,v0 = .int .i64 X∧v1 = .int .i64 Y∧ -9223372036854775807≤X∧X≤9223372036854775807∧ -9223372036854775807≤Y∧Y≤9223372036854775807∧Int.gcd X Y=Int.gcd a b∧Below w.heap.size w wr) (fun _ v1 _=>(intOf v1).natAbs)
 case atStart=>exact⟨a,b,rfl,rfl,by omega,by omega,hb1,hb2,rfl,Below.refl _ _⟩
 case round =>
  obtain⟨X,Y,rfl,rfl,h1,h2,h3,h4,h5,hbl⟩:=hrel
  have H5:=Lib.hid h5
  clear h5
  by_cases h0:Y=0
  ·subst h0
   have hv:X.natAbs=Int.gcd a b:=by rw [← H5.out,Int.gcd_zero_right]
   clear H5
   rcases Int.lt_or_le X 0 with hx | hx
   ·have e : -X=(Int.gcd a b:Nat):=by omega
    have E:=Lib.hid e
    clear e hv
    go_wp2
    go_ret
    exact⟨show Ending.returned (.int .i64 (-X))=_ by rw [← E.out],hbl⟩
   ·have e:X=(Int.gcd a b:Nat):=by omega
    have E:=Lib.hid e
    clear e hv
    go_wp2
    go_ret
    exact⟨show Ending.returned (.int .i64 X)=_ by rw [← E.out],hbl⟩
  ·have hg:(Y == 0)=false:=by rw [beq_eq_false_iff_ne];exact h0
   have hg2:(Y != 0)=true:=by rw [bne_iff_ne];exact h0
   have hlt:(X.tmod Y).natAbs<Y.natAbs:=by rw [Int.natAbs_tmod];exact Nat.mod_lt _ j0i3
   have HT:Hid (Int.gcd Y (X.tmod Y)=Int.gcd a b):=by show _=_;rw [gcd_tmod];exact H5.out
   obtain⟨r,hr⟩ : ∃r,X.tmod Y=r:=⟨_,rfl⟩
   rw [hr] at hlt HT
   have hw:IntKind.i64.wrap r=r:=IntWalk.i64_in _ j0i3
   go_wp2
   go_quiet (fail)
   go_wp2
   go_roundw
   case rel=>exact⟨Y,r,rfl,rfl,h3,h4,by omega,by omega,HT.out,Below.drewN_ hbl _⟩
   case measure=>simp [intOf];omega
end Go.Proofs.YtgilnmhejjpleaaGreat
