/- Contracts of lin: zero, isZero, plain, times. -/
import Derived.Test.YtgilnmhejjpleaaGreatPYb
import Derived.Deep.RegionHeld3
namespace Go.Proofs.YtgilnmhejjpleaaGreat
open Go.RowKit
attribute [local go_sem ↓] Go.wp_at_zero Go.wp_at_succ
set_option linter.unusedVariables false
theorem jgud {P:Prop}(h:P:=by simp [results, Tryz.results74, go_sem, e0, e1, e2, e3] <;> omega):P:=h
theorem jukb {P:Prop}(h:P:=by unfold cmpI; (repeat' split) <;> omega):P:=h
theorem ratOf_zero {X Y:Int}(h:ratOf X Y=0)(hY:0<Y):X=0:=by
 unfold ratOf at h
 rw [if_pos hY] at h
 obtain⟨e1,_,_⟩:=divInt_parts X hY
 rw [h] at e1
 simpa using e1.symm
set_option maxRecDepth 100000 in
set_option maxHeartbeats 1000000 in
theorem lzero(w:World) :
 Calls Tryz.prog 75 #[] w fun e w'=>RatPost w w' e 0:=by
 go_enter Tryz.func75,Tryz.ntmps75
 go_wp2_with fail
 refine Calls.mono (of_any 1 _ j0i3 j0i3) ?_
 rintro e w1 ⟨v,rfl,h,hb⟩
 obtain⟨b1,A1,n1,c1,rfl,-,-,h⟩:=h.form
 have hB:=bun (hb)
 have Kr_1:=Lib.hid (show Blk w1 (w.heap.size) 36 #[.bool false,.slice none 0 0,.bool false,.slice none 0 0] from(Blk.new _ _ jupy _ _).below hb)
 have z_1:=Lib.hid (h)
 have HB_1:=Lib.hid (hB)
 have hs_1:w.heap.size≤w1.heap.size:=HB_1.out.size
 have hz_1:w.heap.size+1≤w1.heap.size := jrv7
 clear hB hb
 obtain⟨p10,p11,p12,p13,l1⟩:=Kr_1.out.use4
 obtain⟨r10,r11,r12,r13⟩:=Kr_1.out.into4
 go_wp2
 obtain⟨WF,hWF⟩ : ∃W,W=((((w1.setCell ⟨w.heap.size,0,none⟩ (.bool false)).setCell ⟨w.heap.size,1,none⟩ (.slice none 0 0)).setCell ⟨w.heap.size,2,none⟩ (.bool b1)).setCell ⟨w.heap.size,3,none⟩ (.slice A1 n1 c1)):=⟨_,rfl⟩
 rw [← hWF]
 have kq:Blk WF (w.heap.size) 36 #[.bool false,.slice none 0 0,.bool b1,.slice A1 n1 c1] := jvku
 have hBF:Below w.heap.size w WF:=by rw [hWF];exact Below.set4 (HB_1.out) jvm6
 have f1:IsInt WF (.agg #[.bool b1,.slice A1 n1 c1]) 1 := jgdd
 have HE:Hid (RatPost w WF (Ending.returned (.agg #[.bool false,.slice none 0 0,.bool b1,.slice A1 n1 c1])) 0):=⟨_,rfl,⟨false,_,b1,_,rfl,⟨_,rfl,isNat_nil _⟩,f1⟩,hBF⟩
 obtain⟨e0,e1,e2,e3⟩:=kq.cells4
 clear hWF
 exact bodyPost_ret (v := .agg #[.bool false,.slice none 0 0,.bool b1,.slice A1 n1 c1]) (by simp [results,Tryz.results75,go_sem,e0,e1,e2,e3] <;> omega) rfl HE.out
set_option maxRecDepth 100000 in
set_option maxHeartbeats 1000000 in
theorem lisz_no(b:Bool)(A:Option Addr)(n c:Nat)(b':Bool)(A':Option Addr)(n' c':Nat)(w:World)(k:Nat)(X Y:Int)(h:LimR k w (.agg #[.bool b,.slice A n c,.bool b',.slice A' n' c']) X Y)(hk:k≤1000000)(hY:Y≤0) :
 Calls Tryz.prog 76 #[(.agg #[.bool b,.slice A n c,.bool b',.slice A' n' c'])] w fun e w'=>e = .returned (.bool true)∧Below w.heap.size w w':=by
 have y_0:=Lib.hid h.parts.2
 have HY:=Lib.hid hY
 clear h hY
 go_enter Tryz.func76,Tryz.ntmps76
 go_wp2_with fail
 refine Calls.mono (may_false _ _ _ _ _ _ _ _ _ k Y (y_0.out.alloc_ _) hk HY.out) ?_
 rintro e w1 ⟨rfl,hb⟩
 have hB:=bun (hb)
 have y_1:=Lib.hid (y_0.out.below hB)
 have Ka_1:=Lib.hid (show Blk w1 (w.heap.size) 36 #[.bool b,.slice A n c,.bool b',.slice A' n' c'] from(Blk.new _ _ jupy _ _).below hb)
 have HB_1:=Lib.hid (hB)
 have hs_1:w.heap.size≤w1.heap.size:=HB_1.out.size
 have hz_1:w.heap.size+1≤w1.heap.size := jrv7
 clear hB hb y_0
 obtain⟨p10,p11,p12,p13,l1⟩:=Ka_1.out.use4
 go_wp2
 go_ret
 exact⟨rfl,HB_1.out⟩
set_option maxRecDepth 100000 in
set_option maxHeartbeats 1000000 in
theorem lisz_yes(b:Bool)(A:Option Addr)(n c:Nat)(b':Bool)(A':Option Addr)(n' c':Nat)(w:World)(k:Nat)(X Y:Int)(h:LimR k w (.agg #[.bool b,.slice A n c,.bool b',.slice A' n' c']) X Y)(hk:k≤1000000)(hY:0<Y)(hX:X=0) :
 Calls Tryz.prog 76 #[(.agg #[.bool b,.slice A n c,.bool b',.slice A' n' c'])] w fun e w'=>e = .returned (.bool true)∧Below w.heap.size w w':=by
 have hr:cmpI X 0=0 := jukb
 have x_0:=Lib.hid h.parts.1
 have y_0:=Lib.hid h.parts.2
 have HY:=Lib.hid hY
 have HR:=Lib.hid hr
 clear h hY hX hr
 go_enter Tryz.func76,Tryz.ntmps76
 go_wp2_with fail
 refine Calls.mono (may_true _ _ _ _ _ _ _ _ _ k Y (y_0.out.alloc_ _) hk HY.out) ?_
 rintro e w1 ⟨rfl,hb⟩
 have hB:=bun (hb)
 have x_1:=Lib.hid (x_0.out.below hB)
 have Ka_1:=Lib.hid (show Blk w1 (w.heap.size) 36 #[.bool b,.slice A n c,.bool b',.slice A' n' c'] from(Blk.new _ _ jupy _ _).below hb)
 have HB_1:=Lib.hid (hB)
 have hs_1:w.heap.size≤w1.heap.size:=HB_1.out.size
 have hz_1:w.heap.size+1≤w1.heap.size := jrv7
 clear hB hb x_0 y_0
 obtain⟨p10,p11,p12,p13,l1⟩:=Ka_1.out.use4
 go_wp2_with fail
 refine Calls.mono (li_cmp_is 0 HR.out x_1.out (limI_zero _) hk j0i3) ?_
 rintro e w2 ⟨rfl,hb⟩
 have hB:=hb
 have x_2:=Lib.hid (x_1.out.below hB)
 have Ka_2:=Lib.hid (Ka_1.out.below hB)
 have HB_2:=Lib.hid (below_trans HB_1.out hB)
 have hs_2:w.heap.size≤w2.heap.size:=HB_2.out.size
 have hz_2:w1.heap.size+0≤w2.heap.size := jrv7
 clear hB hb x_1 Ka_1 HB_1 p10 p11 p12 p13 l1
 go_wp2
 go_ret
 exact⟨rfl,HB_2.out⟩
set_option maxRecDepth 100000 in
set_option maxHeartbeats 1000000 in
theorem lisz_lt(b:Bool)(A:Option Addr)(n c:Nat)(b':Bool)(A':Option Addr)(n' c':Nat)(w:World)(k:Nat)(X Y:Int)(h:LimR k w (.agg #[.bool b,.slice A n c,.bool b',.slice A' n' c']) X Y)(hk:k≤1000000)(hY:0<Y)(hX:X<0) :
 Calls Tryz.prog 76 #[(.agg #[.bool b,.slice A n c,.bool b',.slice A' n' c'])] w fun e w'=>e = .returned (.bool false)∧Below w.heap.size w w':=by
 have hr:cmpI X 0=(-1) := jukb
 have x_0:=Lib.hid h.parts.1
 have y_0:=Lib.hid h.parts.2
 have HY:=Lib.hid hY
 have HR:=Lib.hid hr
 clear h hY hX hr
 go_enter Tryz.func76,Tryz.ntmps76
 go_wp2_with fail
 refine Calls.mono (may_true _ _ _ _ _ _ _ _ _ k Y (y_0.out.alloc_ _) hk HY.out) ?_
 rintro e w1 ⟨rfl,hb⟩
 have hB:=bun (hb)
 have x_1:=Lib.hid (x_0.out.below hB)
 have Ka_1:=Lib.hid (show Blk w1 (w.heap.size) 36 #[.bool b,.slice A n c,.bool b',.slice A' n' c'] from(Blk.new _ _ jupy _ _).below hb)
 have HB_1:=Lib.hid (hB)
 have hs_1:w.heap.size≤w1.heap.size:=HB_1.out.size
 have hz_1:w.heap.size+1≤w1.heap.size := jrv7
 clear hB hb x_0 y_0
 obtain⟨p10,p11,p12,p13,l1⟩:=Ka_1.out.use4
 go_wp2_with fail
 refine Calls.mono (li_cmp_is (-1) HR.out x_1.out (limI_zero _) hk j0i3) ?_
 rintro e w2 ⟨rfl,hb⟩
 have hB:=hb
 have x_2:=Lib.hid (x_1.out.below hB)
 have Ka_2:=Lib.hid (Ka_1.out.below hB)
 have HB_2:=Lib.hid (below_trans HB_1.out hB)
 have hs_2:w.heap.size≤w2.heap.size:=HB_2.out.size
 have hz_2:w1.heap.size+0≤w2.heap.size := jrv7
 clear hB hb x_1 Ka_1 HB_1 p10 p11 p12 p13 l1
 go_wp2
 go_ret
 exact⟨rfl,HB_2.out⟩
set_option maxRecDepth 100000 in
set_option maxHeartbeats 1000000 in
theorem lisz_gt(b:Bool)(A:Option Addr)(n c:Nat)(b':Bool)(A':Option Addr)(n' c':Nat)(w:World)(k:Nat)(X Y:Int)(h:LimR k w (.agg #[.bool b,.slice A n c,.bool b',.slice A' n' c']) X Y)(hk:k≤1000000)(hY:0<Y)(hX:0<X) :
 Calls Tryz.prog 76 #[(.agg #[.bool b,.slice A n c,.bool b',.slice A' n' c'])] w fun e w'=>e = .returned (.bool false)∧Below w.heap.size w w':=by
 have hr:cmpI X 0=1 := jukb
 have x_0:=Lib.hid h.parts.1
 have y_0:=Lib.hid h.parts.2
 have HY:=Lib.hid hY
 have HR:=Lib.hid hr
 clear h hY hX hr
 go_enter Tryz.func76,Tryz.ntmps76
 go_wp2_with fail
 refine Calls.mono (may_true _ _ _ _ _ _ _ _ _ k Y (y_0.out.alloc_ _) hk HY.out) ?_
 rintro e w1 ⟨rfl,hb⟩
 have hB:=bun (hb)
 have x_1:=Lib.hid (x_0.out.below hB)
 have Ka_1:=Lib.hid (show Blk w1 (w.heap.size) 36 #[.bool b,.slice A n c,.bool b',.slice A' n' c'] from(Blk.new _ _ jupy _ _).below hb)
 have HB_1:=Lib.hid (hB)
 have hs_1:w.heap.size≤w1.heap.size:=HB_1.out.size
 have hz_1:w.heap.size+1≤w1.heap.size := jrv7
 clear hB hb x_0 y_0
 obtain⟨p10,p11,p12,p13,l1⟩:=Ka_1.out.use4
 go_wp2_with fail
 refine Calls.mono (li_cmp_is 1 HR.out x_1.out (limI_zero _) hk j0i3) ?_
 rintro e w2 ⟨rfl,hb⟩
 have hB:=hb
 have x_2:=Lib.hid (x_1.out.below hB)
 have Ka_2:=Lib.hid (Ka_1.out.below hB)
 have HB_2:=Lib.hid (below_trans HB_1.out hB)
 have hs_2:w.heap.size≤w2.heap.size:=HB_2.out.size
 have hz_2:w1.heap.size+0≤w2.heap.size := jrv7
 clear hB hb x_1 Ka_1 HB_1 p10 p11 p12 p13 l1
 go_wp2
 go_ret
 exact⟨rfl,HB_2.out⟩
theorem lisz {k:Nat} {w:World} {v:Value} {q:Rat}(h:LimQ k w v q)(hk:k≤1000000):Calls Tryz.prog 76 #[v] w fun e w'=>e = .returned (.bool (decide (q=0)))∧Below w.heap.size w w':=by
 obtain⟨X,Y,h,rfl⟩:=h
 obtain⟨b,A,n,c,b',A',n',c',rfl,ha,hb⟩:=h.form
 by_cases hY:0<Y
 ·by_cases hX:X=0
  ·rw [decide_eq_true (show ratOf X Y=0 by unfold ratOf;rw [if_pos hY,hX];exact Rat.zero_divInt _)]
   exact lisz_yes b A n c b' A' n' c' w k X Y (limR_mk ha hb) hk hY hX
  ·rw [decide_eq_false (fun h=>hX (ratOf_zero h hY))]
   rcases Int.lt_or_lt_of_ne hX with h | h
   ·exact lisz_lt b A n c b' A' n' c' w k X Y (limR_mk ha hb) hk hY h
   ·exact lisz_gt b A n c b' A' n' c' w k X Y (limR_mk ha hb) hk hY h
 ·rw [decide_eq_true (show ratOf X Y=0 by unfold ratOf;rw [if_neg hY])]
  exact lisz_no b A n c b' A' n' c' w k X Y (limR_mk ha hb) hk j0i3
theorem lisz_is {k:Nat} {w:World} {v:Value} {q:Rat} {r:Bool}(hr:decide (q=0)=r)(h:LimQ k w v q)(hk:k≤1000000):Calls Tryz.prog 76 #[v] w fun e w'=>e = .returned (.bool r)∧Below w.heap.size w w':=hr▸lisz h hk
set_option maxRecDepth 100000 in
set_option maxHeartbeats 1000000 in
theorem ltimes_x(b:Bool)(A:Option Addr)(n c:Nat)(b':Bool)(A':Option Addr)(n' c':Nat)(p:Bool)(P:Option Addr)(m d:Nat)(p':Bool)(P':Option Addr)(m' d':Nat)(w:World)(k l:Nat)(x y:Rat)(hx:LimQ k w (.agg #[.bool b,.slice A n c,.bool b',.slice A' n' c']) x)(hy:LimQ l w (.agg #[.bool p,.slice P m d,.bool p',.slice P' m' d']) y)(hk:k≤40000)(hl:l≤40000)(h1:1≤k)(h1':1≤l)(hq:x=0) :
 Calls Tryz.prog 74 #[(.agg #[.bool b,.slice A n c,.bool b',.slice A' n' c']),(.agg #[.bool p,.slice P m d,.bool p',.slice P' m' d'])] w fun e w'=>RatPost w w' e ((0:Rat)):=by
 have x_0:=Lib.hid hx
 have y_0:=Lib.hid hy
 clear hx hy
 have HD:=Lib.hid (decide_eq_true hq)
 clear hq
 go_enter Tryz.func74,Tryz.ntmps74
 go_wp2_with fail
 refine Calls.mono (lisz_is HD.out (((x_0.out.alloc_ _).alloc_ _).alloc_ _) j0i3) ?_
 rintro e w1 ⟨rfl,hb⟩
 have hB:=bun (bun (bun (hb)))
 have x_1:=Lib.hid (x_0.out.below hB)
 have y_1:=Lib.hid (y_0.out.below hB)
 have Ka_1:=Lib.hid (show Blk w1 (w.heap.size) 36 #[.bool b,.slice A n c,.bool b',.slice A' n' c'] from(((Blk.new _ _ jupy _ _).alloc_ _).alloc_ _).below hb)
 have Kb_1:=Lib.hid (show Blk w1 (w.heap.size+1) 36 #[.bool p,.slice P m d,.bool p',.slice P' m' d'] from((Blk.new _ _ jupy _ _).alloc_ _).below hb)
 have Kr_1:=Lib.hid (show Blk w1 (w.heap.size+1+1) 36 #[.bool false,.slice none 0 0,.bool false,.slice none 0 0] from(Blk.new _ _ jupy _ _).below hb)
 have HB_1:=Lib.hid (hB)
 have hs_1:w.heap.size≤w1.heap.size:=HB_1.out.size
 have hz_1:w.heap.size+3≤w1.heap.size := jrv7
 clear hB hb x_0 y_0
 obtain⟨p10,p11,p12,p13,l1⟩:=Ka_1.out.use4
 obtain⟨p20,p21,p22,p23,l2⟩:=Kb_1.out.use4
 obtain⟨p30,p31,p32,p33,l3⟩:=Kr_1.out.use4
 go_wp2_with fail
 refine Calls.mono (lzero _) ?_
 rintro e w2 ⟨v,rfl,h,hb⟩
 obtain⟨b2,A2,n2,c2,d2,B2,m2,k2,rfl,-,-,-,h1,h2⟩:=h.form
 have hB:=hb
 have Ka_2:=Lib.hid (Ka_1.out.below hB)
 have Kb_2:=Lib.hid (Kb_1.out.below hB)
 have Kr_2:=Lib.hid (Kr_1.out.below hB)
 have z_2:=Lib.hid (h1)
 have z2_2:=Lib.hid (h2)
 have HB_2:=Lib.hid (below_trans HB_1.out hB)
 have hs_2:w.heap.size≤w2.heap.size:=HB_2.out.size
 have hz_2:w1.heap.size+0≤w2.heap.size := jrv7
 clear hB hb x_1 y_1 Ka_1 Kb_1 Kr_1 HB_1 p10 p11 p12 p13 l1 p20 p21 p22 p23 l2 p30 p31 p32 p33 l3
 obtain⟨p40,p41,p42,p43,l4⟩:=Kr_2.out.use4
 obtain⟨r40,r41,r42,r43⟩:=Kr_2.out.into4
 go_wp2
 obtain⟨WF,hWF⟩ : ∃W,W=((((w2.setCell ⟨w.heap.size+1+1,0,none⟩ (.bool b2)).setCell ⟨w.heap.size+1+1,1,none⟩ (.slice A2 n2 c2)).setCell ⟨w.heap.size+1+1,2,none⟩ (.bool d2)).setCell ⟨w.heap.size+1+1,3,none⟩ (.slice B2 m2 k2)):=⟨_,rfl⟩
 rw [← hWF]
 have kq:Blk WF (w.heap.size+1+1) 36 #[.bool b2,.slice A2 n2 c2,.bool d2,.slice B2 m2 k2] := jwxb
 have hBF:Below w.heap.size w WF:=by rw [hWF];exact Below.set4 (HB_2.out) jvm6
 have f1:IsInt WF (.agg #[.bool b2,.slice A2 n2 c2]) ((0:Rat)).num := j5jq
 have f2:IsInt WF (.agg #[.bool d2,.slice B2 m2 k2]) (((0:Rat)).den:Int) := jdkc
 have HE:Hid (RatPost w WF (Ending.returned (.agg #[.bool b2,.slice A2 n2 c2,.bool d2,.slice B2 m2 k2])) ((0:Rat))):=⟨_,rfl,⟨_,_,_,_,rfl,f1,f2⟩,hBF⟩
 obtain⟨e0,e1,e2,e3⟩:=kq.cells4
 clear hWF
 exact bodyPost_ret (v := .agg #[.bool b2,.slice A2 n2 c2,.bool d2,.slice B2 m2 k2]) jgud rfl HE.out
set_option maxRecDepth 100000 in
set_option maxHeartbeats 1000000 in
theorem ltimes_y(b:Bool)(A:Option Addr)(n c:Nat)(b':Bool)(A':Option Addr)(n' c':Nat)(p:Bool)(P:Option Addr)(m d:Nat)(p':Bool)(P':Option Addr)(m' d':Nat)(w:World)(k l:Nat)(x y:Rat)(hx:LimQ k w (.agg #[.bool b,.slice A n c,.bool b',.slice A' n' c']) x)(hy:LimQ l w (.agg #[.bool p,.slice P m d,.bool p',.slice P' m' d']) y)(hk:k≤40000)(hl:l≤40000)(h1:1≤k)(h1':1≤l)(hq:x≠0)(hp:y=0) :
 Calls Tryz.prog 74 #[(.agg #[.bool b,.slice A n c,.bool b',.slice A' n' c']),(.agg #[.bool p,.slice P m d,.bool p',.slice P' m' d'])] w fun e w'=>RatPost w w' e ((0:Rat)):=by
 have x_0:=Lib.hid hx
 have y_0:=Lib.hid hy
 clear hx hy
 have HD:=Lib.hid (decide_eq_false hq)
 have HP:=Lib.hid (decide_eq_true hp)
 clear hq hp
 go_enter Tryz.func74,Tryz.ntmps74
 go_wp2_with fail
 refine Calls.mono (lisz_is HD.out (((x_0.out.alloc_ _).alloc_ _).alloc_ _) j0i3) ?_
 rintro e w1 ⟨rfl,hb⟩
 have hB:=bun (bun (bun (hb)))
 have x_1:=Lib.hid (x_0.out.below hB)
 have y_1:=Lib.hid (y_0.out.below hB)
 have Ka_1:=Lib.hid (show Blk w1 (w.heap.size) 36 #[.bool b,.slice A n c,.bool b',.slice A' n' c'] from(((Blk.new _ _ jupy _ _).alloc_ _).alloc_ _).below hb)
 have Kb_1:=Lib.hid (show Blk w1 (w.heap.size+1) 36 #[.bool p,.slice P m d,.bool p',.slice P' m' d'] from((Blk.new _ _ jupy _ _).alloc_ _).below hb)
 have Kr_1:=Lib.hid (show Blk w1 (w.heap.size+1+1) 36 #[.bool false,.slice none 0 0,.bool false,.slice none 0 0] from(Blk.new _ _ jupy _ _).below hb)
 have HB_1:=Lib.hid (hB)
 have hs_1:w.heap.size≤w1.heap.size:=HB_1.out.size
 have hz_1:w.heap.size+3≤w1.heap.size := jrv7
 clear hB hb x_0 y_0
 obtain⟨p10,p11,p12,p13,l1⟩:=Ka_1.out.use4
 obtain⟨p20,p21,p22,p23,l2⟩:=Kb_1.out.use4
 obtain⟨p30,p31,p32,p33,l3⟩:=Kr_1.out.use4
 go_wp2_with fail
 refine Calls.mono (lisz_is HP.out y_1.out j0i3) ?_
 rintro e w2 ⟨rfl,hb⟩
 have hB:=hb
 have x_2:=Lib.hid (x_1.out.below hB)
 have y_2:=Lib.hid (y_1.out.below hB)
 have Ka_2:=Lib.hid (Ka_1.out.below hB)
 have Kb_2:=Lib.hid (Kb_1.out.below hB)
 have Kr_2:=Lib.hid (Kr_1.out.below hB)
 have HB_2:=Lib.hid (below_trans HB_1.out hB)
 have hs_2:w.heap.size≤w2.heap.size:=HB_2.out.size
 have hz_2:w1.heap.size+0≤w2.heap.size := jrv7
 clear hB hb x_1 y_1 Ka_1 Kb_1 Kr_1 HB_1 p10 p11 p12 p13 l1 p20 p21 p22 p23 l2 p30 p31 p32 p33 l3
 obtain⟨p40,p41,p42,p43,l4⟩:=Ka_2.out.use4
 obtain⟨p50,p51,p52,p53,l5⟩:=Kb_2.out.use4
 obtain⟨p60,p61,p62,p63,l6⟩:=Kr_2.out.use4
 go_wp2_with fail
 refine Calls.mono (lzero _) ?_
 rintro e w3 ⟨v,rfl,h,hb⟩
 obtain⟨b3,A3,n3,c3,d3,B3,m3,k3,rfl,-,-,-,h1,h2⟩:=h.form
 have hB:=hb
 have Ka_3:=Lib.hid (Ka_2.out.below hB)
 have Kb_3:=Lib.hid (Kb_2.out.below hB)
 have Kr_3:=Lib.hid (Kr_2.out.below hB)
 have z_3:=Lib.hid (h1)
 have z2_3:=Lib.hid (h2)
 have HB_3:=Lib.hid (below_trans HB_2.out hB)
 have hs_3:w.heap.size≤w3.heap.size:=HB_3.out.size
 have hz_3:w2.heap.size+0≤w3.heap.size := jrv7
 clear hB hb x_2 y_2 Ka_2 Kb_2 Kr_2 HB_2 p40 p41 p42 p43 l4 p50 p51 p52 p53 l5 p60 p61 p62 p63 l6
 obtain⟨p70,p71,p72,p73,l7⟩:=Kr_3.out.use4
 obtain⟨r70,r71,r72,r73⟩:=Kr_3.out.into4
 go_wp2
 obtain⟨WF,hWF⟩ : ∃W,W=((((w3.setCell ⟨w.heap.size+1+1,0,none⟩ (.bool b3)).setCell ⟨w.heap.size+1+1,1,none⟩ (.slice A3 n3 c3)).setCell ⟨w.heap.size+1+1,2,none⟩ (.bool d3)).setCell ⟨w.heap.size+1+1,3,none⟩ (.slice B3 m3 k3)):=⟨_,rfl⟩
 rw [← hWF]
 have kq:Blk WF (w.heap.size+1+1) 36 #[.bool b3,.slice A3 n3 c3,.bool d3,.slice B3 m3 k3] := js60
 have hBF:Below w.heap.size w WF:=by rw [hWF];exact Below.set4 (HB_3.out) jvm6
 have f1:IsInt WF (.agg #[.bool b3,.slice A3 n3 c3]) ((0:Rat)).num := jcr2
 have f2:IsInt WF (.agg #[.bool d3,.slice B3 m3 k3]) (((0:Rat)).den:Int) := jjr2
 have HE:Hid (RatPost w WF (Ending.returned (.agg #[.bool b3,.slice A3 n3 c3,.bool d3,.slice B3 m3 k3])) ((0:Rat))):=⟨_,rfl,⟨_,_,_,_,rfl,f1,f2⟩,hBF⟩
 obtain⟨e0,e1,e2,e3⟩:=kq.cells4
 clear hWF
 exact bodyPost_ret (v := .agg #[.bool b3,.slice A3 n3 c3,.bool d3,.slice B3 m3 k3]) jgud rfl HE.out
set_option maxRecDepth 100000 in
set_option maxHeartbeats 1000000 in
theorem ltimes_n(b:Bool)(A:Option Addr)(n c:Nat)(b':Bool)(A':Option Addr)(n' c':Nat)(p:Bool)(P:Option Addr)(m d:Nat)(p':Bool)(P':Option Addr)(m' d':Nat)(w:World)(k l:Nat)(x y:Rat)(hx:LimQ k w (.agg #[.bool b,.slice A n c,.bool b',.slice A' n' c']) x)(hy:LimQ l w (.agg #[.bool p,.slice P m d,.bool p',.slice P' m' d']) y)(hk:k≤40000)(hl:l≤40000)(h1:1≤k)(h1':1≤l)(hq:x≠0)(hp:y≠0) :
 Calls Tryz.prog 74 #[(.agg #[.bool b,.slice A n c,.bool b',.slice A' n' c']),(.agg #[.bool p,.slice P m d,.bool p',.slice P' m' d'])] w fun e w'=>RatPost w w' e (x*y):=by
 have x_0:=Lib.hid hx
 have y_0:=Lib.hid hy
 clear hx hy
 have HD:=Lib.hid (decide_eq_false hq)
 have HP:=Lib.hid (decide_eq_false hp)
 clear hq hp
 go_enter Tryz.func74,Tryz.ntmps74
 go_wp2_with fail
 refine Calls.mono (lisz_is HD.out (((x_0.out.alloc_ _).alloc_ _).alloc_ _) j0i3) ?_
 rintro e w1 ⟨rfl,hb⟩
 have hB:=bun (bun (bun (hb)))
 have x_1:=Lib.hid (x_0.out.below hB)
 have y_1:=Lib.hid (y_0.out.below hB)
 have Ka_1:=Lib.hid (show Blk w1 (w.heap.size) 36 #[.bool b,.slice A n c,.bool b',.slice A' n' c'] from(((Blk.new _ _ jupy _ _).alloc_ _).alloc_ _).below hb)
 have Kb_1:=Lib.hid (show Blk w1 (w.heap.size+1) 36 #[.bool p,.slice P m d,.bool p',.slice P' m' d'] from((Blk.new _ _ jupy _ _).alloc_ _).below hb)
 have Kr_1:=Lib.hid (show Blk w1 (w.heap.size+1+1) 36 #[.bool false,.slice none 0 0,.bool false,.slice none 0 0] from(Blk.new _ _ jupy _ _).below hb)
 have HB_1:=Lib.hid (hB)
 have hs_1:w.heap.size≤w1.heap.size:=HB_1.out.size
 have hz_1:w.heap.size+3≤w1.heap.size := jrv7
 clear hB hb x_0 y_0
 obtain⟨p10,p11,p12,p13,l1⟩:=Ka_1.out.use4
 obtain⟨p20,p21,p22,p23,l2⟩:=Kb_1.out.use4
 obtain⟨p30,p31,p32,p33,l3⟩:=Kr_1.out.use4
 go_wp2_with fail
 refine Calls.mono (lisz_is HP.out y_1.out j0i3) ?_
 rintro e w2 ⟨rfl,hb⟩
 have hB:=hb
 have x_2:=Lib.hid (x_1.out.below hB)
 have y_2:=Lib.hid (y_1.out.below hB)
 have Ka_2:=Lib.hid (Ka_1.out.below hB)
 have Kb_2:=Lib.hid (Kb_1.out.below hB)
 have Kr_2:=Lib.hid (Kr_1.out.below hB)
 have HB_2:=Lib.hid (below_trans HB_1.out hB)
 have hs_2:w.heap.size≤w2.heap.size:=HB_2.out.size
 have hz_2:w1.heap.size+0≤w2.heap.size := jrv7
 clear hB hb x_1 y_1 Ka_1 Kb_1 Kr_1 HB_1 p10 p11 p12 p13 l1 p20 p21 p22 p23 l2 p30 p31 p32 p33 l3
 obtain⟨p40,p41,p42,p43,l4⟩:=Ka_2.out.use4
 obtain⟨p50,p51,p52,p53,l5⟩:=Kb_2.out.use4
 obtain⟨p60,p61,p62,p63,l6⟩:=Kr_2.out.use4
 go_wp2_with fail
 refine Calls.mono (q_mul x_2.out y_2.out hk hl h1 h1') ?_
 rintro e w3 ⟨v,rfl,h,hb⟩
 obtain⟨b3,A3,n3,c3,d3,B3,m3,k3,rfl,-,-,-,h1,h2⟩:=h.form
 have hB:=hb
 have Ka_3:=Lib.hid (Ka_2.out.below hB)
 have Kb_3:=Lib.hid (Kb_2.out.below hB)
 have Kr_3:=Lib.hid (Kr_2.out.below hB)
 have z_3:=Lib.hid (h1)
 have z2_3:=Lib.hid (h2)
 have HB_3:=Lib.hid (below_trans HB_2.out hB)
 have hs_3:w.heap.size≤w3.heap.size:=HB_3.out.size
 have hz_3:w2.heap.size+0≤w3.heap.size := jrv7
 clear hB hb x_2 y_2 Ka_2 Kb_2 Kr_2 HB_2 p40 p41 p42 p43 l4 p50 p51 p52 p53 l5 p60 p61 p62 p63 l6
 obtain⟨p70,p71,p72,p73,l7⟩:=Kr_3.out.use4
 obtain⟨r70,r71,r72,r73⟩:=Kr_3.out.into4
 go_wp2
 obtain⟨WF,hWF⟩ : ∃W,W=((((w3.setCell ⟨w.heap.size+1+1,0,none⟩ (.bool b3)).setCell ⟨w.heap.size+1+1,1,none⟩ (.slice A3 n3 c3)).setCell ⟨w.heap.size+1+1,2,none⟩ (.bool d3)).setCell ⟨w.heap.size+1+1,3,none⟩ (.slice B3 m3 k3)):=⟨_,rfl⟩
 rw [← hWF]
 have kq:Blk WF (w.heap.size+1+1) 36 #[.bool b3,.slice A3 n3 c3,.bool d3,.slice B3 m3 k3] := js60
 have hBF:Below w.heap.size w WF:=by rw [hWF];exact Below.set4 (HB_3.out) jvm6
 have f1:IsInt WF (.agg #[.bool b3,.slice A3 n3 c3]) (x*y).num := jcr2
 have f2:IsInt WF (.agg #[.bool d3,.slice B3 m3 k3]) ((x*y).den:Int) := jjr2
 have HE:Hid (RatPost w WF (Ending.returned (.agg #[.bool b3,.slice A3 n3 c3,.bool d3,.slice B3 m3 k3])) (x*y)):=⟨_,rfl,⟨_,_,_,_,rfl,f1,f2⟩,hBF⟩
 obtain⟨e0,e1,e2,e3⟩:=kq.cells4
 clear hWF
 exact bodyPost_ret (v := .agg #[.bool b3,.slice A3 n3 c3,.bool d3,.slice B3 m3 k3]) jgud rfl HE.out
theorem ltimes {k l:Nat} {w:World} {v v':Value} {x y:Rat}(hx:LimQ k w v x)(hy:LimQ l w v' y)(hk:k≤40000)(hl:l≤40000)(h1:1≤k)(h1':1≤l):Calls Tryz.prog 74 #[v,v'] w fun e w'=>RatPost w w' e (x*y):=by
 obtain⟨⟨b,A,n,c,b',A',n',c'⟩,rfl⟩:=hx.parts
 obtain⟨⟨p,P,m,d,p',P',m',d'⟩,rfl⟩:=hy.parts
 by_cases hq:x=0
 ·have:=ltimes_x b A n c b' A' n' c' p P m d p' P' m' d' w k l x y hx hy hk hl h1 h1' hq
  rw [show x*y=0 by rw [hq,Rat.zero_mul]]
  exact this
 ·by_cases hp:y=0
  ·have:=ltimes_y b A n c b' A' n' c' p P m d p' P' m' d' w k l x y hx hy hk hl h1 h1' hq hp
   rw [show x*y=0 by rw [hp,Rat.mul_zero]]
   exact this
  ·exact ltimes_n b A n c b' A' n' c' p P m d p' P' m' d' w k l x y hx hy hk hl h1 h1' hq hp
end Go.Proofs.YtgilnmhejjpleaaGreat
namespace Go.Proofs.YtgilnmhejjpleaaGreat
open Go.RowKit
attribute [local go_sem ↓] Go.wp_at_zero Go.wp_at_succ
set_option linter.unusedVariables false
def PrI(w wr:World)(g0 n K:Nat)(H:Nat→Rat)(i:Nat)(X:Nat→RatD):Prop :=
 OwnR wr w.heap.size (.slice (some ⟨g0,0,none⟩) n n) n X∧(∀j,j<i→EQ true K wr (X j).val (H j))∧Below w.heap.size w wr
set_option maxRecDepth 100000 in
set_option maxHeartbeats 4000000 in
theorem pairs_any {fn:FuncId} {cap:Array Value} {p p':Bool} {k l K n:Nat} {w:World} {va vb:Value} {f g:Nat→Rat} {G:Rat→Rat→Rat}
 (hcf : ∀args u,(callFunc fn args).run Tryz.prog u = .ok (.enter fn args) u)
 (hG : ∀w' v v' x y,Below w.heap.size w w'→LimQ k w' v x→LimQ l w' v' y→Calls Tryz.prog fn (#[v,v'] ++ cap) w' fun e w''=>RatPost w' w'' e (G x y))
 (ha:RowQ p k w va n f) (hb:RowQ p' l w vb n g) (hK : ∀i,i<n→BQ K (G (f i) (g i))) :
 Calls Tryz.prog 73 #[va,vb,.func (.func fn) #[] cap] w fun e w' => ∃v,e = .returned (.tuple #[v,.bool true])∧RowT true K w' v n (fun i=>G (f i) (g i))∧Below w.heap.size w w':=by
 obtain⟨A,ca,rfl,hca,hn⟩:=ha.len
 obtain⟨B,cb,rfl,hcb,_⟩:=hb.len
 have HA:=Lib.hid ha
 have HB:=Lib.hid hb
 have HG:=Lib.hid hG
 have HK:=Lib.hid hK
 have HN:=Lib.hid hn
 clear ha hb hG hK hca hcb hn
 go_enter Tryz.func73,Tryz.ntmps73
 go_wp2_with (at_make;refine wpList_make_rats rfl rfl _ _ rfl w.heap.size _ _ _ _ n rfl rfl rfl rfl HN.out (Nat.le_refl _) ?_;intro w1 hown hbw hsw)
 have HI0:Hid (PrI w w1 w.heap.size n K (fun i=>G (f i) (g i)) 0 (fun _=>ratZ)):=⟨hown,fun j hj=>absurd hj j0i3,hbw⟩
 clear hown hbw hsw
 go_wp2
 go_loopw [21] (fun v21 wr => ∃ (i:Nat) (X:Nat→RatD),v21 = .int .i64 (i:Nat)∧i≤n∧PrI w wr w.heap.size n K (fun i=>G (f i) (g i)) i X) (fun v21 _=>n - (intOf v21).toNat)
 case atStart=>exact⟨0,_,rfl,Nat.zero_le _,HI0.out⟩
 case round =>
  obtain⟨i,X,rfl,hi,hinv⟩:=hrel
  have HI:=Lib.hid hinv
  clear hinv HI0
  by_cases hlt:i<n
  ·have hi0:(0:Int)≤(i:Int):=by omega
   have hik:(i:Int)<(n:Int) := j0i3
   have hAw:=HA.out.below HI.out.2.2
   have hBw:=HB.out.below HI.out.2.2
   obtain⟨ad,c1,⟨b,A1,n1,c2,b',A1',n1',c1'⟩,e1,_,_,⟨a0,a1,a2,a3,a4⟩,hEa⟩:=hAw.at_ hlt
   simp only [Value.slice.injEq] at e1
   obtain⟨rfl,_,rfl⟩:=e1
   obtain⟨bd,c3,⟨q,Q1,m1,d2,q',Q1',m1',d1'⟩,e1,_,_,⟨b0,b1,b2,b3,b4⟩,hEb⟩:=hBw.at_ hlt
   simp only [Value.slice.injEq] at e1
   obtain⟨rfl,_,rfl⟩:=e1
   have hea:=Lib.hid hEa.2
   have heb:=Lib.hid hEb.2
   clear hEa hEb hAw hBw
   go_wp2
   generalize hW:wr.alloc (.cells #[.bool b,.slice A1 n1 c2,.bool b',.slice A1' n1' c1'] 36)=w2
   have hbw2:Below wr.heap.size wr w2:=by rw [← hW];exact below_new _ _
   have K2:=Lib.hid (show Blk w2 wr.heap.size 36 #[.bool b,.slice A1 n1 c2,.bool b',.slice A1' n1' c1'] from jytn)
   have b0x:=Nat.lt_of_lt_of_le b0 hbw2.size
   have b1x:=(hbw2.cell (p:=bd.add (i*4)) b0).trans b1
   have b2x:=(hbw2.cell (p:=⟨(bd.add (i*4)).block,(bd.add (i*4)).off+1,none⟩) b0).trans b2
   have b3x:=(hbw2.cell (p:=⟨(bd.add (i*4)).block,(bd.add (i*4)).off+2,none⟩) b0).trans b3
   have b4x:=(hbw2.cell (p:=⟨(bd.add (i*4)).block,(bd.add (i*4)).off+3,none⟩) b0).trans b4
   have hea2:=Lib.hid (hea.out.below hbw2)
   have heb2:=Lib.hid (heb.out.below hbw2)
   have HO2:=Lib.hid (HI.out.1.below hbw2)
   have HX2:=Lib.hid (fun j (hj:j<i)=>(HI.out.2.1 j hj).below hbw2)
   have HB2:=Lib.hid (below_trans HI.out.2.2 hbw2)
   have HGR:=Lib.hid (show w.heap.size<wr.heap.size from(OwnN.blk HI.out.1).2.2.elim fun cur h=>Blk.lt h)
   clear hW hbw2 a0 a1 a2 a3 a4 b0 b1 b2 b3 b4 hea heb HI
   obtain⟨p0,p1,p2,p3,pl⟩:=K2.out.use4
   have tok0:True:=trivial
   have hgw:w.heap.size<w2.heap.size:=(OwnN.blk HO2.out).2.2.elim fun cur h=>Blk.lt h
   have hgr:w.heap.size<wr.heap.size:=HGR.out
   have hne:w.heap.size≠(bd.add (i*4)).block:=by
    obtain⟨bd',_,_,e1,_,_,h,_⟩:=HB.out.at_ hlt
    simp only [Value.slice.injEq,Option.some.injEq] at e1
    obtain⟨rfl,_⟩:=e1
    have:=h.1
    omega
   have hne2:w.heap.size≠wr.heap.size := j0i3
   go_region_held3 (fun w'=>w'.cell? ⟨wr.heap.size,0,none⟩=some (.bool b)∧w'.cell? ⟨wr.heap.size,1,none⟩=some (.slice A1 n1 c2)∧w'.cell? ⟨wr.heap.size,2,none⟩=some (.bool b')∧w'.cell? ⟨wr.heap.size,3,none⟩=some (.slice A1' n1' c1')∧w'.cell? (bd.add (i*4))=some (.bool q)∧w'.cell? ⟨(bd.add (i*4)).block,(bd.add (i*4)).off+1,none⟩=some (.slice Q1 m1 d2)∧w'.cell? ⟨(bd.add (i*4)).block,(bd.add (i*4)).off+2,none⟩=some (.bool q')∧w'.cell? ⟨(bd.add (i*4)).block,(bd.add (i*4)).off+3,none⟩=some (.slice Q1' m1' d1')) (first | (refine⟨?_,?_,?_,?_,?_,?_,?_,?_⟩ <;> (first | with_reducible assumption | ((with_reducible refine Eq.trans (cell_drew _ _) ?_);with_reducible assumption) | ((repeat rw [World.cell?_setCell_far _ _ _ _ (by first | exact hne | exact hne2)]);with_reducible assumption) | go_keep)) | go_keep)
    (first
     |(have _t:=tok0;clear _t tok0;((with_reducible refine Calls.mono (HG.out w2.drew _ _ _ _ HB2.out.drew hea2.out.drew_ heb2.out.drew_) ?_));rintro e w3 ⟨v,rfl,h,hb⟩;obtain⟨⟨z,Z1,z2,z3,z',Z1',z2',z3'⟩,rfl⟩:=h.parts;have hBw:=(show Below w2.heap.size w2 w3 from bundrew hb);have K3:=K2.out.below hBw;obtain⟨y0,y1,y2,y3,yl⟩:=K3.use4;have b1y:=(hBw.cell (p:=bd.add (i*4)) b0x).trans b1x;have b2y:=(hBw.cell (p:=⟨(bd.add (i*4)).block,(bd.add (i*4)).off+1,none⟩) b0x).trans b2x;have b3y:=(hBw.cell (p:=⟨(bd.add (i*4)).block,(bd.add (i*4)).off+2,none⟩) b0x).trans b3x;have b4y:=(hBw.cell (p:=⟨(bd.add (i*4)).block,(bd.add (i*4)).off+3,none⟩) b0x).trans b4x;
       have HO3:=Lib.hid (HO2.out.below hBw);have HX3:=Lib.hid (fun j (hj:j<i)=>(HX2.out j hj).below hBw);have HB3:=Lib.hid (below_trans HB2.out hBw);have HR:=Lib.hid h;clear hBw h hb HO2 HX2 HB2 hea2 heb2 b1x b2x b3x b4x p0 p1 p2 p3 pl K3;obtain⟨s0,s1,s2,s3,s4,s5,s6,s7,s8⟩:=HO3.out.spot hlt))
   obtain⟨W,hW⟩ : ∃W,W=((((w3.setCell ⟨w.heap.size,i*4,none⟩ (.bool z)).setCell ⟨w.heap.size,i*4+1,none⟩ (.slice Z1 z2 z3)).setCell ⟨w.heap.size,i*4+2,none⟩ (.bool z')).setCell ⟨w.heap.size,i*4+3,none⟩ (.slice Z1' z2' z3')):=⟨_,rfl⟩
   rw [← hW]
   obtain⟨g1,g2,g3⟩:=OwnR.set4 HO3.out hlt ⟨z,Z1,z2,z3,z',Z1',z2',z3'⟩ hW
   have HINV:Hid (PrI w W w.heap.size n K (fun i=>G (f i) (g i)) (i+1) (updR X i ⟨z,Z1,z2,z3,z',Z1',z2',z3'⟩)):=⟨g1,fun j hj=>by
    by_cases hji:j=i
    ·subst hji;rw [updR_at];exact(EQ.of HR.out (HK.out j hlt)).kp g2.keep
    ·rw [updR_ne _ _ hji];exact(HX3.out j j0i3).kp g2.keep,HB3.out.trans g2.below⟩
   clear hW g1 g2 g3 HO3 HX3 HB3 HR
   go_wp2
   go_roundw
   case rel=>exact⟨i+1,_,by go_num,by omega,HINV.out⟩
   case measure=>simp [intOf];omega
  ·obtain rfl:i=n:=by omega
   go_wp2
   go_ret2
   exact⟨_,rfl,OwnR.rowT HI.out.1 HN.out HI.out.2.1,HI.out.2.2⟩
end Go.Proofs.YtgilnmhejjpleaaGreat
