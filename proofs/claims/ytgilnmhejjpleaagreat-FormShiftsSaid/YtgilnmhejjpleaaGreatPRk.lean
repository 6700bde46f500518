/- Contracts of the document's own fractions. -/
import Derived.Test.YtgilnmhejjpleaaGreatPRh
namespace Go.Proofs.YtgilnmhejjpleaaGreat
open Go.RowKit
attribute [local go_sem ↓] Go.wp_at_zero Go.wp_at_succ
set_option linter.unusedVariables false
theorem jji3 {P:Prop}(h:P:=by first | exact xn_3.out | exact xn_3.out.drew_ | exact xn_3.out.alloc_ _ | exact (xn_3.out.alloc_ _).drew_):P:=h
theorem jkla {P:Prop}(h:P:=by rw [← hW]; exact halloc (HB_2.out)):P:=h
theorem jl9d {P:Prop}(h:P:=by simp [results, Tryz.results43, go_sem, e0, e1, e2, e3] <;> omega):P:=h
theorem jvf0 {P:Prop}(h:P:=by first | exact xd_4.out | exact xd_4.out.drew_ | exact xd_4.out.alloc_ _ | exact (xd_4.out.alloc_ _).drew_):P:=h
theorem LimI.pos_sign {k:Nat} {w:World} {b:Bool} {m:Value} {Y:Int}(h:LimI k w (.agg #[.bool b,m]) Y)(hY:0<Y):b=false:=by
 have e:=h.sgn
 cases b
 ·rfl
 ·have:Y = -(Y.natAbs:Int):=e
  omega
theorem LimI.neg_sign {k:Nat} {w:World} {b:Bool} {m:Value} {Y:Int}(h:LimI k w (.agg #[.bool b,m]) Y)(hY:Y<0):b=true:=by
 have e:=h.sgn
 cases b
 ·have:Y=(Y.natAbs:Int):=e
  omega
 ·rfl
set_option maxRecDepth 100000 in
set_option maxHeartbeats 1000000 in
theorem rzero_any(w:World) :
 Calls Tryz.prog 64 #[] w fun e w'=>RatPost w w' e 0:=by
 go_enter Tryz.func64,Tryz.ntmps64
 go_wp2_with fail
 refine Calls.mono (rof_any 1 _ j0i3 j0i3) ?_
 rintro e w1 ⟨v,rfl,h,hb⟩
 obtain⟨b1,A1,n1,c1,rfl,-,-,h⟩:=h.form
 have hB:=bun (hb)
 have Kr_1:=Lib.hid (show Blk w1 (w.heap.size) 36 #[.bool false,.slice none 0 0,.bool false,.slice none 0 0] from(Blk.new _ _ jupy _ _).below hb)
 have o_1:=Lib.hid (h)
 have HB_1:=Lib.hid (hB)
 have hs_1:w.heap.size≤w1.heap.size:=HB_1.out.size
 have hz_1:w.heap.size+1≤w1.heap.size := jrv7
 clear hB hb
 obtain⟨p10,p11,p12,p13,l1⟩:=Kr_1.out.use4
 obtain⟨r10,r11,r12,r13⟩:=Kr_1.out.into4
 go_wp2
 obtain⟨WF,hWF⟩ : ∃W,W=((((w1.setCell ⟨w.heap.size,0,none⟩ (.bool false)).setCell ⟨w.heap.size,1,none⟩ (.slice none 0 0)).setCell ⟨w.heap.size,2,none⟩ (.bool b1)).setCell ⟨w.heap.size,3,none⟩ (.slice A1 n1 c1)):=⟨_,rfl⟩
 rw [← hWF]
 have kq:Blk WF (w.heap.size) 36 #[.bool false,.slice none 0 0,.bool b1,.slice A1 n1 c1] := jvku
 have hBF:Below w.heap.size w WF:=by rw [hWF];exact Below.set4 (HB_1.out) jvm6
 have fo:IsInt WF (.agg #[.bool b1,.slice A1 n1 c1]) 1 := jvf8
 have HE:Hid (RatPost w WF (Ending.returned (.agg #[.bool false,.slice none 0 0,.bool b1,.slice A1 n1 c1])) 0):=⟨_,rfl,⟨false,_,b1,_,rfl,⟨_,rfl,isNat_nil _⟩,fo⟩,hBF⟩
 obtain⟨e0,e1,e2,e3⟩:=kq.cells4
 clear hWF
 exact bodyPost_ret (v := .agg #[.bool false,.slice none 0 0,.bool b1,.slice A1 n1 c1]) (by simp [results,Tryz.results64,go_sem,e0,e1,e2,e3] <;> omega) rfl HE.out
set_option maxRecDepth 100000 in
set_option maxHeartbeats 1000000 in
theorem rmay_t(b:Bool)(A:Option Addr)(n c:Nat)(b':Bool)(A':Option Addr)(n' c':Nat)(w:World)(k:Nat)(Y:Int)(h:LimI k w (.agg #[.bool b',.slice A' n' c']) Y)(hk:k≤1000000)(hY:0<Y) :
 Calls Tryz.prog 53 #[(.agg #[.bool b,.slice A n c,.bool b',.slice A' n' c'])] w fun e w'=>e = .returned (.bool true)∧Below w.heap.size w w':=by
 obtain rfl:=h.pos_sign hY
 have HN:Hid (0<Y.natAbs) := jn6w
 have y_0:=Lib.hid h.mag
 clear h hY
 go_enter Tryz.func53,Tryz.ntmps53
 go_wp2_with fail
 refine Calls.mono (lim_rtr (y_0.out.alloc_ _) hk) ?_
 rintro e w1 ⟨v,rfl,h,hb⟩
 obtain⟨A1,n1,c1,rfl,hn,h⟩:=isNat_form h
 have hn0:0<n1:=hn.2 HN.out
 clear hn h
 have hB:=bun (hb)
 have y_1:=Lib.hid (y_0.out.below hB)
 have Ka_1:=Lib.hid (show Blk w1 (w.heap.size) 36 #[.bool b,.slice A n c,.bool false,.slice A' n' c'] from(Blk.new _ _ jupy _ _).below hb)
 have HB_1:=Lib.hid (hB)
 have hs_1:w.heap.size≤w1.heap.size:=HB_1.out.size
 have hz_1:w.heap.size+1≤w1.heap.size := jrv7
 clear hB hb y_0
 obtain⟨p10,p11,p12,p13,l1⟩:=Ka_1.out.use4
 go_wp2
 go_ret
 exact⟨rfl,HB_1.out⟩
set_option maxRecDepth 100000 in
set_option maxHeartbeats 1000000 in
theorem rmay_z(b:Bool)(A:Option Addr)(n c:Nat)(b':Bool)(A':Option Addr)(n' c':Nat)(w:World)(k:Nat)(Y:Int)(h:LimI k w (.agg #[.bool b',.slice A' n' c']) Y)(hk:k≤1000000)(hY:Y=0) :
 Calls Tryz.prog 53 #[(.agg #[.bool b,.slice A n c,.bool b',.slice A' n' c'])] w fun e w'=>e = .returned (.bool false)∧Below w.heap.size w w':=by
 have HN:Hid (Y.natAbs=0) := jkha
 have y_0:=Lib.hid h.mag
 clear h hY
 go_enter Tryz.func53,Tryz.ntmps53
 go_wp2_with fail
 refine Calls.mono (lim_rtr (y_0.out.alloc_ _) hk) ?_
 rintro e w1 ⟨v,rfl,h,hb⟩
 obtain⟨A1,n1,c1,rfl,hn,h⟩:=isNat_form h
 have hn0:n1=0:=by have:=HN.out;omega
 subst hn0
 clear hn h
 have hB:=bun (hb)
 have y_1:=Lib.hid (y_0.out.below hB)
 have Ka_1:=Lib.hid (show Blk w1 (w.heap.size) 36 #[.bool b,.slice A n c,.bool b',.slice A' n' c'] from(Blk.new _ _ jupy _ _).below hb)
 have HB_1:=Lib.hid (hB)
 have hs_1:w.heap.size≤w1.heap.size:=HB_1.out.size
 have hz_1:w.heap.size+1≤w1.heap.size := jrv7
 clear hB hb y_0
 obtain⟨p10,p11,p12,p13,l1⟩:=Ka_1.out.use4
 go_wp2
 go_ret
 exact⟨rfl,HB_1.out⟩
set_option maxRecDepth 100000 in
set_option maxHeartbeats 1000000 in
theorem rmay_n(b:Bool)(A:Option Addr)(n c:Nat)(b':Bool)(A':Option Addr)(n' c':Nat)(w:World)(k:Nat)(Y:Int)(h:LimI k w (.agg #[.bool b',.slice A' n' c']) Y)(hk:k≤1000000)(hY:Y<0) :
 Calls Tryz.prog 53 #[(.agg #[.bool b,.slice A n c,.bool b',.slice A' n' c'])] w fun e w'=>e = .returned (.bool false)∧Below w.heap.size w w':=by
 obtain rfl:=h.neg_sign hY
 have HN:Hid (0<Y.natAbs) := jn6w
 have y_0:=Lib.hid h.mag
 clear h hY
 go_enter Tryz.func53,Tryz.ntmps53
 go_wp2_with fail
 refine Calls.mono (lim_rtr (y_0.out.alloc_ _) hk) ?_
 rintro e w1 ⟨v,rfl,h,hb⟩
 obtain⟨A1,n1,c1,rfl,hn,h⟩:=isNat_form h
 have hn0:0<n1:=hn.2 HN.out
 clear hn h
 have hB:=bun (hb)
 have y_1:=Lib.hid (y_0.out.below hB)
 have Ka_1:=Lib.hid (show Blk w1 (w.heap.size) 36 #[.bool b,.slice A n c,.bool true,.slice A' n' c'] from(Blk.new _ _ jupy _ _).below hb)
 have HB_1:=Lib.hid (hB)
 have hs_1:w.heap.size≤w1.heap.size:=HB_1.out.size
 have hz_1:w.heap.size+1≤w1.heap.size := jrv7
 clear hB hb y_0
 obtain⟨p10,p11,p12,p13,l1⟩:=Ka_1.out.use4
 go_wp2
 go_ret
 exact⟨rfl,HB_1.out⟩
set_option maxRecDepth 100000 in
set_option maxHeartbeats 1000000 in
theorem rplain_qz(b:Bool)(A:Option Addr)(n c:Nat)(b':Bool)(A':Option Addr)(n' c':Nat)(w:World)(k:Nat)(X Y:Int)(hx:LimI k w (.agg #[.bool b,.slice A n c]) X)(hy:LimI k w (.agg #[.bool b',.slice A' n' c']) Y)(hk:k≤100000)(hY:Y=0) :
 Calls Tryz.prog 43 #[(.agg #[.bool b,.slice A n c,.bool b',.slice A' n' c'])] w fun e w'=>RatPost w w' e 0:=by
 have x_0:=Lib.hid hx
 have y_0:=Lib.hid hy
 have HY:=Lib.hid hY
 clear hx hy hY
 go_enter Tryz.func43,Tryz.ntmps43
 go_wp2_with fail
 refine Calls.mono (rmay_z _ _ _ _ _ _ _ _ _ k Y ((y_0.out.alloc_ _).alloc_ _) j0i3 HY.out) ?_
 rintro e w1 ⟨rfl,hb⟩
 have hB:=bun (bun (hb))
 have x_1:=Lib.hid (x_0.out.below hB)
 have y_1:=Lib.hid (y_0.out.below hB)
 have Ka_1:=Lib.hid (show Blk w1 (w.heap.size) 36 #[.bool b,.slice A n c,.bool b',.slice A' n' c'] from((Blk.new _ _ jupy _ _).alloc_ _).below hb)
 have Kr_1:=Lib.hid (show Blk w1 (w.heap.size+1) 36 #[.bool false,.slice none 0 0,.bool false,.slice none 0 0] from(Blk.new _ _ jupy _ _).below hb)
 have HB_1:=Lib.hid (hB)
 have hs_1:w.heap.size≤w1.heap.size:=HB_1.out.size
 have hz_1:w.heap.size+2≤w1.heap.size := jrv7
 clear hB hb x_0 y_0
 go_wp2_with fail
 refine Calls.mono (rzero_any _) ?_
 rintro e w2 ⟨v,rfl,h,hb⟩
 obtain⟨b2,A2,n2,c2,d2,B2,m2,k2,rfl,-,-,-,h1,h2⟩:=h.form
 have hB:=hb
 have Ka_2:=Lib.hid (Ka_1.out.below hB)
 have Kr_2:=Lib.hid (Kr_1.out.below hB)
 have z_2:=Lib.hid (h1)
 have z2_2:=Lib.hid (h2)
 have HB_2:=Lib.hid (below_trans HB_1.out hB)
 have hs_2:w.heap.size≤w2.heap.size:=HB_2.out.size
 have hz_2:w1.heap.size+0≤w2.heap.size := jrv7
 clear hB hb x_1 y_1 Ka_1 Kr_1 HB_1
 obtain⟨p10,p11,p12,p13,l1⟩:=Kr_2.out.use4
 obtain⟨r10,r11,r12,r13⟩:=Kr_2.out.into4
 go_wp2
 obtain⟨WF,hWF⟩ : ∃W,W=((((w2.setCell ⟨w.heap.size+1,0,none⟩ (.bool b2)).setCell ⟨w.heap.size+1,1,none⟩ (.slice A2 n2 c2)).setCell ⟨w.heap.size+1,2,none⟩ (.bool d2)).setCell ⟨w.heap.size+1,3,none⟩ (.slice B2 m2 k2)):=⟨_,rfl⟩
 rw [← hWF]
 have kq:Blk WF (w.heap.size+1) 36 #[.bool b2,.slice A2 n2 c2,.bool d2,.slice B2 m2 k2] := jwxb
 have hBF:Below w.heap.size w WF:=by rw [hWF];exact Below.set4 (HB_2.out) jvm6
 have f1:IsInt WF (.agg #[.bool b2,.slice A2 n2 c2]) (0:Rat).num := j5jq
 have f2:IsInt WF (.agg #[.bool d2,.slice B2 m2 k2]) ((0:Rat).den:Int) := jdkc
 have HE:Hid (RatPost w WF (Ending.returned (.agg #[.bool b2,.slice A2 n2 c2,.bool d2,.slice B2 m2 k2])) (0:Rat)):=⟨_,rfl,⟨_,_,_,_,rfl,f1,f2⟩,hBF⟩
 obtain⟨e0,e1,e2,e3⟩:=kq.cells4
 clear hWF
 exact bodyPost_ret (v := .agg #[.bool b2,.slice A2 n2 c2,.bool d2,.slice B2 m2 k2]) jl9d rfl HE.out
set_option maxRecDepth 100000 in
set_option maxHeartbeats 1000000 in
theorem rplain_qn(b:Bool)(A:Option Addr)(n c:Nat)(b':Bool)(A':Option Addr)(n' c':Nat)(w:World)(k:Nat)(X Y:Int)(hx:LimI k w (.agg #[.bool b,.slice A n c]) X)(hy:LimI k w (.agg #[.bool b',.slice A' n' c']) Y)(hk:k≤100000)(hY:Y<0) :
 Calls Tryz.prog 43 #[(.agg #[.bool b,.slice A n c,.bool b',.slice A' n' c'])] w fun e w'=>RatPost w w' e 0:=by
 have x_0:=Lib.hid hx
 have y_0:=Lib.hid hy
 have HY:=Lib.hid hY
 clear hx hy hY
 go_enter Tryz.func43,Tryz.ntmps43
 go_wp2_with fail
 refine Calls.mono (rmay_n _ _ _ _ _ _ _ _ _ k Y ((y_0.out.alloc_ _).alloc_ _) j0i3 HY.out) ?_
 rintro e w1 ⟨rfl,hb⟩
 have hB:=bun (bun (hb))
 have x_1:=Lib.hid (x_0.out.below hB)
 have y_1:=Lib.hid (y_0.out.below hB)
 have Ka_1:=Lib.hid (show Blk w1 (w.heap.size) 36 #[.bool b,.slice A n c,.bool b',.slice A' n' c'] from((Blk.new _ _ jupy _ _).alloc_ _).below hb)
 have Kr_1:=Lib.hid (show Blk w1 (w.heap.size+1) 36 #[.bool false,.slice none 0 0,.bool false,.slice none 0 0] from(Blk.new _ _ jupy _ _).below hb)
 have HB_1:=Lib.hid (hB)
 have hs_1:w.heap.size≤w1.heap.size:=HB_1.out.size
 have hz_1:w.heap.size+2≤w1.heap.size := jrv7
 clear hB hb x_0 y_0
 go_wp2_with fail
 refine Calls.mono (rzero_any _) ?_
 rintro e w2 ⟨v,rfl,h,hb⟩
 obtain⟨b2,A2,n2,c2,d2,B2,m2,k2,rfl,-,-,-,h1,h2⟩:=h.form
 have hB:=hb
 have Ka_2:=Lib.hid (Ka_1.out.below hB)
 have Kr_2:=Lib.hid (Kr_1.out.below hB)
 have z_2:=Lib.hid (h1)
 have z2_2:=Lib.hid (h2)
 have HB_2:=Lib.hid (below_trans HB_1.out hB)
 have hs_2:w.heap.size≤w2.heap.size:=HB_2.out.size
 have hz_2:w1.heap.size+0≤w2.heap.size := jrv7
 clear hB hb x_1 y_1 Ka_1 Kr_1 HB_1
 obtain⟨p10,p11,p12,p13,l1⟩:=Kr_2.out.use4
 obtain⟨r10,r11,r12,r13⟩:=Kr_2.out.into4
 go_wp2
 obtain⟨WF,hWF⟩ : ∃W,W=((((w2.setCell ⟨w.heap.size+1,0,none⟩ (.bool b2)).setCell ⟨w.heap.size+1,1,none⟩ (.slice A2 n2 c2)).setCell ⟨w.heap.size+1,2,none⟩ (.bool d2)).setCell ⟨w.heap.size+1,3,none⟩ (.slice B2 m2 k2)):=⟨_,rfl⟩
 rw [← hWF]
 have kq:Blk WF (w.heap.size+1) 36 #[.bool b2,.slice A2 n2 c2,.bool d2,.slice B2 m2 k2] := jwxb
 have hBF:Below w.heap.size w WF:=by rw [hWF];exact Below.set4 (HB_2.out) jvm6
 have f1:IsInt WF (.agg #[.bool b2,.slice A2 n2 c2]) (0:Rat).num := j5jq
 have f2:IsInt WF (.agg #[.bool d2,.slice B2 m2 k2]) ((0:Rat).den:Int) := jdkc
 have HE:Hid (RatPost w WF (Ending.returned (.agg #[.bool b2,.slice A2 n2 c2,.bool d2,.slice B2 m2 k2])) (0:Rat)):=⟨_,rfl,⟨_,_,_,_,rfl,f1,f2⟩,hBF⟩
 obtain⟨e0,e1,e2,e3⟩:=kq.cells4
 clear hWF
 exact bodyPost_ret (v := .agg #[.bool b2,.slice A2 n2 c2,.bool d2,.slice B2 m2 k2]) jl9d rfl HE.out
set_option maxRecDepth 100000 in
set_option maxHeartbeats 2000000 in
theorem rplain_qp(b:Bool)(A:Option Addr)(n c:Nat)(b':Bool)(A':Option Addr)(n' c':Nat)(w:World)(k:Nat)(X Y:Int)(hx:LimI k w (.agg #[.bool b,.slice A n c]) X)(hy:LimI k w (.agg #[.bool b',.slice A' n' c']) Y)(hk:k≤100000)(hY:0<Y) :
 Calls Tryz.prog 43 #[(.agg #[.bool b,.slice A n c,.bool b',.slice A' n' c'])] w fun e w'=>RatPost w w' e (Rat.divInt X Y):=by
 obtain⟨E1,E2,hG⟩:=divInt_parts X hY
 have HG:=Lib.hid hG
 have BG:Hid (Int.gcd X Y<4294967296 ^ k):=by
  show _<_
  have:=hy.lt
  have h2:=Nat.le_of_dvd j0i3 (Nat.gcd_dvd_right X.natAbs Y.natAbs)
  unfold Int.gcd
  omega
 have hsx:=hx.sgn
 have q1:X.natAbs / Int.gcd X Y=(Rat.divInt X Y).num.natAbs:=by
  have:X.natAbs=(Rat.divInt X Y).num.natAbs*Int.gcd X Y:=by
   have e:=congrArg Int.natAbs E1
   rw [Int.natAbs_mul,Int.natAbs_natCast] at e
   exact e.symm
  exact Nat.div_eq_of_eq_mul_left hG this
 have q2:Y.natAbs / Int.gcd X Y=(Rat.divInt X Y).den:=by
  have:((Rat.divInt X Y).den*Int.gcd X Y:Nat)=Y:=by rw [Int.natCast_mul];exact E2
  exact Nat.div_eq_of_eq_mul_left hG j0i3
 have q3:sg b (Rat.divInt X Y).num.natAbs=(Rat.divInt X Y).num:=by
  generalize (Rat.divInt X Y).num=a at *
  have hG':(0:Int)<(Int.gcd X Y:Int) := j0i3
  cases b
  ·have e:X=(X.natAbs:Int):=hsx
   have:0≤a:=by
    rcases Int.lt_or_le a 0 with h | h
    ·have:=Int.mul_neg_of_neg_of_pos h hG';omega
    ·exact h
   show(a.natAbs:Int)=a
   omega
  ·have e:X = -(X.natAbs:Int):=hsx
   have:a≤0:=by
    rcases Int.lt_or_le 0 a with h | h
    ·have:=Int.mul_pos h hG';omega
    ·exact h
   show -(a.natAbs:Int)=a
   omega
 have Q1:=Lib.hid q1
 have Q2:=Lib.hid q2
 have Q3:=Lib.hid q3
 have BQ1:Hid ((Rat.divInt X Y).num.natAbs<4294967296 ^ k):=(divInt_bq hY hx.lt hy.lt (Nat.le_refl _) (Nat.le_refl _)).1
 have HY:=Lib.hid hY
 have m_0:=Lib.hid hx.mag
 have o_0:=Lib.hid hy.mag
 have x_0:=Lib.hid hx
 have y_0:=Lib.hid hy
 clear hx hy hY E1 E2 hG hsx q1 q2 q3
 go_enter Tryz.func43,Tryz.ntmps43
 go_wp2_with fail
 refine Calls.mono (rmay_t _ _ _ _ _ _ _ _ _ k Y ((y_0.out.alloc_ _).alloc_ _) j0i3 HY.out) ?_
 rintro e w1 ⟨rfl,hb⟩
 have hB:=bun (bun (hb))
 have m_1:=Lib.hid (m_0.out.below hB)
 have o_1:=Lib.hid (o_0.out.below hB)
 have Ka_1:=Lib.hid (show Blk w1 (w.heap.size) 36 #[.bool b,.slice A n c,.bool b',.slice A' n' c'] from((Blk.new _ _ jupy _ _).alloc_ _).below hb)
 have Kr_1:=Lib.hid (show Blk w1 (w.heap.size+1) 36 #[.bool false,.slice none 0 0,.bool false,.slice none 0 0] from(Blk.new _ _ jupy _ _).below hb)
 have HB_1:=Lib.hid (hB)
 have hs_1:w.heap.size≤w1.heap.size:=HB_1.out.size
 have hz_1:w.heap.size+2≤w1.heap.size := jrv7
 clear hB hb x_0 y_0 m_0 o_0
 obtain⟨p10,p11,p12,p13,l1⟩:=Ka_1.out.use4
 go_wp2_with fail
 refine Calls.mono (rGcd m_1.out o_1.out hk hk) ?_
 rintro e w2 ⟨v,rfl,h,hb⟩
 obtain⟨A2,n2,c2,rfl,-,h⟩:=isNat_form h
 have hgg:Nat.gcd X.natAbs Y.natAbs=Int.gcd X Y:=rfl
 rw [hgg] at h
 clear hgg
 have hB:=hb
 have m_2:=Lib.hid (m_1.out.below hB)
 have o_2:=Lib.hid (o_1.out.below hB)
 have Ka_2:=Lib.hid (Ka_1.out.below hB)
 have Kr_2:=Lib.hid (Kr_1.out.below hB)
 have g_2:=Lib.hid (h)
 have HB_2:=Lib.hid (below_trans HB_1.out hB)
 have hs_2:w.heap.size≤w2.heap.size:=HB_2.out.size
 have hz_2:w1.heap.size+0≤w2.heap.size := jrv7
 clear hB hb m_1 o_1 Ka_1 Kr_1 HB_1 p10 p11 p12 p13 l1
 obtain⟨p20,p21,p22,p23,l2⟩:=Ka_2.out.use4
 go_wp2_with fail
 refine Calls.mono ((rDiv m_2.out (g_2.out.lim BG.out) hk hk).mono fun e w' h=>h.yes HG.out) ?_
 rintro e w3 ⟨vq,vr,rfl,h,h2,hb⟩
 obtain⟨A3,n3,c3,rfl,-,h⟩:=isNat_form h
 obtain⟨B3,m3,k3,rfl,-,h2⟩:=isNat_form h2
 clear h2
 rw [Q1.out] at h
 have hB:=hb
 have o_3:=Lib.hid (o_2.out.below hB)
 have g_3:=Lib.hid (g_2.out.below hB)
 have Ka_3:=Lib.hid (Ka_2.out.below hB)
 have Kr_3:=Lib.hid (Kr_2.out.below hB)
 have u_3:=Lib.hid (h)
 have HB_3:=Lib.hid (below_trans HB_2.out hB)
 have hs_3:w.heap.size≤w3.heap.size:=HB_3.out.size
 have hz_3:w2.heap.size+0≤w3.heap.size := jrv7
 clear hB hb m_2 o_2 g_2 Ka_2 Kr_2 HB_2 p20 p21 p22 p23 l2
 obtain⟨p30,p31,p32,p33,l3⟩:=Ka_3.out.use4
 go_wp2_with fail
 refine Calls.mono ((rDiv o_3.out (g_3.out.lim BG.out) hk hk).mono fun e w' h=>h.yes HG.out) ?_
 rintro e w4 ⟨vq,vr,rfl,h,h2,hb⟩
 obtain⟨A4,n4,c4,rfl,-,h⟩:=isNat_form h
 obtain⟨B4,m4,k4,rfl,-,h2⟩:=isNat_form h2
 clear h2
 rw [Q2.out] at h
 have hB:=hb
 have u_4:=Lib.hid (u_3.out.below hB)
 have Ka_4:=Lib.hid (Ka_3.out.below hB)
 have Kr_4:=Lib.hid (Kr_3.out.below hB)
 have v_4:=Lib.hid (h)
 have HB_4:=Lib.hid (below_trans HB_3.out hB)
 have hs_4:w.heap.size≤w4.heap.size:=HB_4.out.size
 have hz_4:w3.heap.size+0≤w4.heap.size := jrv7
 clear hB hb o_3 g_3 u_3 Ka_3 Kr_3 HB_3 p30 p31 p32 p33 l3
 obtain⟨p40,p41,p42,p43,l4⟩:=Ka_4.out.use4
 go_wp2_with fail
 refine Calls.mono (li_rplain (limI_mk (b:=b) (u_4.out.lim BQ1.out)) j0i3) ?_
 rintro e w5 ⟨v,rfl,h,hb⟩
 rw [Q3.out] at h
 obtain⟨b5,A5,n5,c5,rfl,-,-,h⟩:=h.form
 have hB:=hb
 have v_5:=Lib.hid (v_4.out.below hB)
 have Ka_5:=Lib.hid (Ka_4.out.below hB)
 have Kr_5:=Lib.hid (Kr_4.out.below hB)
 have z_5:=Lib.hid (h)
 have HB_5:=Lib.hid (below_trans HB_4.out hB)
 have hs_5:w.heap.size≤w5.heap.size:=HB_5.out.size
 have hz_5:w4.heap.size+0≤w5.heap.size := jrv7
 clear hB hb u_4 v_4 Ka_4 Kr_4 HB_4 p40 p41 p42 p43 l4
 obtain⟨p50,p51,p52,p53,l5⟩:=Kr_5.out.use4
 obtain⟨r50,r51,r52,r53⟩:=Kr_5.out.into4
 go_wp2
 obtain⟨WF,hWF⟩ : ∃W,W=((((w5.setCell ⟨w.heap.size+1,0,none⟩ (.bool b5)).setCell ⟨w.heap.size+1,1,none⟩ (.slice A5 n5 c5)).setCell ⟨w.heap.size+1,2,none⟩ (.bool false)).setCell ⟨w.heap.size+1,3,none⟩ (.slice A4 n4 c4)):=⟨_,rfl⟩
 rw [← hWF]
 have kq:Blk WF (w.heap.size+1) 36 #[.bool b5,.slice A5 n5 c5,.bool false,.slice A4 n4 c4] := j29s
 have hBF:Below w.heap.size w WF:=by rw [hWF];exact Below.set4 (HB_5.out) jvm6
 have f1:IsInt WF (.agg #[.bool b5,.slice A5 n5 c5]) (Rat.divInt X Y).num := jp32
 have f2:IsNat WF (.slice A4 n4 c4) (Rat.divInt X Y).den:=by rw [hWF];exact v_5.out.other4 Kr_5.out nu nu nu nu
 have HE:Hid (RatPost w WF (Ending.returned (.agg #[.bool b5,.slice A5 n5 c5,.bool false,.slice A4 n4 c4])) (Rat.divInt X Y)):=⟨_,rfl,⟨_,_,_,_,rfl,f1,isInt_nat f2⟩,hBF⟩
 obtain⟨e0,e1,e2,e3⟩:=kq.cells4
 clear hWF
 exact bodyPost_ret (v := .agg #[.bool b5,.slice A5 n5 c5,.bool false,.slice A4 n4 c4]) jl9d rfl HE.out
theorem r_plain {k:Nat} {w:World} {v:Value} {q:Rat}(h:LimQ k w v q)(hk:k≤100000):Calls Tryz.prog 43 #[v] w fun e w'=>RatPost w w' e q:=by
 obtain⟨X,Y,h,rfl⟩:=h
 obtain⟨b,A,n,c,b',A',n',c',rfl,h1,h2⟩:=h.form
 unfold ratOf
 rcases Int.lt_trichotomy Y 0 with hY | hY | hY
 ·rw [if_neg j0i3];exact rplain_qn b A n c b' A' n' c' w k X Y h1 h2 hk hY
 ·rw [if_neg j0i3];exact rplain_qz b A n c b' A' n' c' w k X Y h1 h2 hk hY
 ·rw [if_pos hY];exact rplain_qp b A n c b' A' n' c' w k X Y h1 h2 hk hY
def CrossPost(w w':World)(e:Ending)(x y:Rat):Prop := ∃v1 v2 v3,e = .returned (.tuple #[v1,v2,v3])∧IsInt w' v1 (x.num*y.den)∧IsInt w' v2 (y.num*x.den)∧IsInt w' v3 ((x.den:Int)*y.den)∧Below w.heap.size w w'
set_option maxRecDepth 100000 in
set_option maxHeartbeats 4000000 in
theorem rcross0(b:Bool)(A:Option Addr)(n c:Nat)(b':Bool)(A':Option Addr)(n' c':Nat)(p:Bool)(P:Option Addr)(m d:Nat)(p':Bool)(P':Option Addr)(m' d':Nat)(w:World)(k l:Nat)(x y:Rat)(hx:LimQ k w (.agg #[.bool b,.slice A n c,.bool b',.slice A' n' c']) x)(hy:LimQ l w (.agg #[.bool p,.slice P m d,.bool p',.slice P' m' d']) y)(hk:k≤100000)(hl:l≤100000)(h1:1≤k)(h1':1≤l) :
 Calls Tryz.prog 61 #[(.agg #[.bool b,.slice A n c,.bool b',.slice A' n' c']),(.agg #[.bool p,.slice P m d,.bool p',.slice P' m' d'])] w fun e w'=>CrossPost w w' e x y:=by
 have bx:=hx.bq h1
 have by':=hy.bq h1'
 have BXN:=Lib.hid bx.1
 have BXD:=Lib.hid (show(x.den:Int).natAbs<4294967296 ^ k from bx.2)
 have BYN:=Lib.hid by'.1
 have BYD:=Lib.hid (show(y.den:Int).natAbs<4294967296 ^ l from by'.2)
 clear bx by'
 have x_0:=Lib.hid hx
 have y_0:=Lib.hid hy
 clear hx hy
 go_enter Tryz.func61,Tryz.ntmps61
 go_wp2_with fail
 refine Calls.mono (r_plain (((((x_0.out.alloc_ _).alloc_ _).alloc_ _).alloc_ _).alloc_ _) hk) ?_
 rintro e w1 ⟨v,rfl,h,hb⟩
 obtain⟨b1,A1,n1,c1,d1,B1,m1,k1,rfl,-,-,-,h1,h2⟩:=h.form
 have hB:=bun (bun (bun (bun (bun (hb)))))
 have y_1:=Lib.hid (y_0.out.below hB)
 have Ka_1:=Lib.hid (show Blk w1 (w.heap.size) 36 #[.bool b,.slice A n c,.bool b',.slice A' n' c'] from(((((Blk.new _ _ jupy _ _).alloc_ _).alloc_ _).alloc_ _).alloc_ _).below hb)
 have Kb_1:=Lib.hid (show Blk w1 (w.heap.size+1) 36 #[.bool p,.slice P m d,.bool p',.slice P' m' d'] from((((Blk.new _ _ jupy _ _).alloc_ _).alloc_ _).alloc_ _).below hb)
 have Kr1_1:=Lib.hid (show Blk w1 (w.heap.size+1+1) 34 #[.bool false,.slice none 0 0] from(((Blk.new _ _ jupy _ _).alloc_ _).alloc_ _).below hb)
 have Kr2_1:=Lib.hid (show Blk w1 (w.heap.size+1+1+1) 34 #[.bool false,.slice none 0 0] from((Blk.new _ _ jupy _ _).alloc_ _).below hb)
 have Kr3_1:=Lib.hid (show Blk w1 (w.heap.size+1+1+1+1) 34 #[.bool false,.slice none 0 0] from(Blk.new _ _ jupy _ _).below hb)
 have xn_1:=Lib.hid (h1)
 have xd_1:=Lib.hid (h2)
 have HB_1:=Lib.hid (hB)
 have hs_1:w.heap.size≤w1.heap.size:=HB_1.out.size
 have hz_1:w.heap.size+5≤w1.heap.size := jrv7
 clear hB hb x_0 y_0
 obtain⟨p10,p11,p12,p13,l1⟩:=Kb_1.out.use4
 go_wp2_with fail
 refine Calls.mono (r_plain (y_1.out.alloc_ _) hl) ?_
 rintro e w2 ⟨v,rfl,h,hb⟩
 obtain⟨b2,A2,n2,c2,d2,B2,m2,k2,rfl,-,-,-,h1,h2⟩:=h.form
 have hB:=bun (hb)
 have xn_2:=Lib.hid (xn_1.out.below hB)
 have xd_2:=Lib.hid (xd_1.out.below hB)
 have Kr1_2:=Lib.hid (Kr1_1.out.below hB)
 have Kr2_2:=Lib.hid (Kr2_1.out.below hB)
 have Kr3_2:=Lib.hid (Kr3_1.out.below hB)
 have Kx_2:=Lib.hid (show Blk w2 (w1.heap.size) 36 #[.bool b1,.slice A1 n1 c1,.bool d1,.slice B1 m1 k1] from(Blk.new _ _ jupy _ _).below hb)
 have yn_2:=Lib.hid (h1)
 have yd_2:=Lib.hid (h2)
 have HB_2:=Lib.hid (below_trans HB_1.out hB)
 have hs_2:w.heap.size≤w2.heap.size:=HB_2.out.size
 have hz_2:w1.heap.size+1≤w2.heap.size := jrv7
 clear hB hb y_1 xn_1 xd_1 Ka_1 Kb_1 Kr1_1 Kr2_1 Kr3_1 HB_1 p10 p11 p12 p13 l1
 go_wp2
 generalize hW:(w2.alloc (.cells #[.bool b2,.slice A2 n2 c2,.bool d2,.slice B2 m2 k2] 36))=w3
 have xn_3:=Lib.hid (hW▸(xn_2.out.alloc_ _))
 have xd_3:=Lib.hid (hW▸(xd_2.out.alloc_ _))
 have yn_3:=Lib.hid (hW▸(yn_2.out.alloc_ _))
 have yd_3:=Lib.hid (hW▸(yd_2.out.alloc_ _))
 have Kr1_3:=Lib.hid (show Blk w3 (w.heap.size+1+1) 34 #[.bool false,.slice none 0 0] from by rw [← hW];exact(Kr1_2.out.alloc_ _))
 have Kr2_3:=Lib.hid (show Blk w3 (w.heap.size+1+1+1) 34 #[.bool false,.slice none 0 0] from by rw [← hW];exact(Kr2_2.out.alloc_ _))
 have Kr3_3:=Lib.hid (show Blk w3 (w.heap.size+1+1+1+1) 34 #[.bool false,.slice none 0 0] from by rw [← hW];exact(Kr3_2.out.alloc_ _))
 have Kx_3:=Lib.hid (show Blk w3 (w1.heap.size) 36 #[.bool b1,.slice A1 n1 c1,.bool d1,.slice B1 m1 k1] from by rw [← hW];exact(Kx_2.out.alloc_ _))
 have Ky_3:=Lib.hid (show Blk w3 (w2.heap.size) 36 #[.bool b2,.slice A2 n2 c2,.bool d2,.slice B2 m2 k2] from jc21)
 have HB_3:=Lib.hid (show Below w.heap.size w w3 from jkla)
 have hs_3:w.heap.size≤w3.heap.size:=HB_3.out.size
 have hz_3:w2.heap.size+1≤w3.heap.size := j59e
 clear hW xn_2 xd_2 yn_2 yd_2 Kr1_2 Kr2_2 Kr3_2 Kx_2 HB_2
 obtain⟨p20,p21,p22,p23,l2⟩:=Kx_3.out.use4
 obtain⟨p30,p31,p32,p33,l3⟩:=Ky_3.out.use4
 have tok0:True:=trivial
 have tok1:True:=trivial
 have tok2:True:=trivial
 go_region_held3 (fun w'=>w'.cell? ⟨w1.heap.size,0,none⟩=some (.bool b1)∧w'.cell? ⟨w1.heap.size,1,none⟩=some (.slice A1 n1 c1)∧w'.cell? ⟨w1.heap.size,2,none⟩=some (.bool d1)∧w'.cell? ⟨w1.heap.size,3,none⟩=some (.slice B1 m1 k1)∧w'.cell? ⟨w2.heap.size,0,none⟩=some (.bool b2)∧w'.cell? ⟨w2.heap.size,1,none⟩=some (.slice A2 n2 c2)∧w'.cell? ⟨w2.heap.size,2,none⟩=some (.bool d2)∧w'.cell? ⟨w2.heap.size,3,none⟩=some (.slice B2 m2 k2)) (first | (refine⟨?_,?_,?_,?_,?_,?_,?_,?_⟩ <;> (first | with_reducible assumption | ((with_reducible refine Eq.trans (cell_drew _ _) ?_);with_reducible assumption) | ((rw [cell_far4 _ _ _ _ _ _ _ _ j0i3]);with_reducible assumption) | ((repeat rw [cell_far2 _ _ _ _ _ _ j0i3]);with_reducible assumption) | go_keep)) | trivial | go_keep)
  (first
   |(go_at_call 82;have _t:=tok0;clear _t tok0;((with_reducible refine Calls.mono (li_rmul (IsInt.lim (k:=k) jji3 BXN.out) (IsInt.lim (k:=l) (by first | exact yd_3.out | exact yd_3.out.drew_ | exact yd_3.out.alloc_ _ | exact(yd_3.out.alloc_ _).drew_) BYD.out) j0i3 j0i3) ?_));rintro e w4 ⟨v,rfl,h,hb⟩;obtain⟨b4,A4,n4,c4,rfl,-,-,h⟩:=h.form;have hB:=(show Below w3.heap.size w3 w4 from jfh7);have xn_4:=Lib.hid (xn_3.out.below hB);have xd_4:=Lib.hid (xd_3.out.below hB);have yn_4:=Lib.hid (yn_3.out.below hB);have yd_4:=Lib.hid (yd_3.out.below hB);have Kr1_4:=Lib.hid (Kr1_3.out.below hB);have Kr2_4:=Lib.hid (Kr2_3.out.below hB);have Kr3_4:=Lib.hid (Kr3_3.out.below hB);have Kx_4:=Lib.hid (Kx_3.out.below hB);have Ky_4:=Lib.hid (Ky_3.out.below hB);have f_4:=Lib.hid (h);have HB_4:=Lib.hid (below_trans HB_3.out hB);have hs_4:w.heap.size≤w4.heap.size:=HB_4.out.size;have hz_4:w3.heap.size+0≤w4.heap.size := jrv7;clear hB hb xn_3 xd_3 yn_3 yd_3 Kr1_3 Kr2_3 Kr3_3 Kx_3 Ky_3 HB_3 p20 p21 p22 p23 l2 p30 p31 p32 p33 l3;obtain⟨p40,p41,p42,p43,l4⟩:=Kx_4.out.use4;obtain⟨p50,p51,p52,p53,l5⟩:=Ky_4.out.use4)
   |(go_at_call 82;have _t:=tok1;clear _t tok1;((with_reducible refine Calls.mono (li_rmul (IsInt.lim (k:=l) (by first | exact yn_4.out | exact yn_4.out.drew_ | exact yn_4.out.alloc_ _ | exact(yn_4.out.alloc_ _).drew_) BYN.out) (IsInt.lim (k:=k) jvf0 BXD.out) j0i3 j0i3) ?_));rintro e w5 ⟨v,rfl,h,hb⟩;obtain⟨b5,A5,n5,c5,rfl,-,-,h⟩:=h.form;have hB:=(show Below w4.heap.size w4 w5 from jfh7);have xn_5:=Lib.hid (xn_4.out.below hB);have xd_5:=Lib.hid (xd_4.out.below hB);have yn_5:=Lib.hid (yn_4.out.below hB);have yd_5:=Lib.hid (yd_4.out.below hB);have f_5:=Lib.hid (f_4.out.below hB);have Kr1_5:=Lib.hid (Kr1_4.out.below hB);have Kr2_5:=Lib.hid (Kr2_4.out.below hB);have Kr3_5:=Lib.hid (Kr3_4.out.below hB);have Kx_5:=Lib.hid (Kx_4.out.below hB);have Ky_5:=Lib.hid (Ky_4.out.below hB);have g_5:=Lib.hid (h);have HB_5:=Lib.hid (below_trans HB_4.out hB);have hs_5:w.heap.size≤w5.heap.size:=HB_5.out.size;have hz_5:w4.heap.size+0≤w5.heap.size := jrv7;clear hB hb xn_4 xd_4 yn_4 yd_4 f_4 Kr1_4 Kr2_4 Kr3_4 Kx_4 Ky_4 HB_4 p40 p41 p42 p43 l4 p50 p51 p52 p53 l5;obtain⟨p60,p61,p62,p63,l6⟩:=Kx_5.out.use4;obtain⟨p70,p71,p72,p73,l7⟩:=Ky_5.out.use4)
   |(go_at_call 82;have _t:=tok2;clear _t tok2;((with_reducible refine Calls.mono (li_rmul (IsInt.lim (k:=k) (by first | exact xd_5.out | exact xd_5.out.drew_ | exact xd_5.out.alloc_ _ | exact(xd_5.out.alloc_ _).drew_) BXD.out) (IsInt.lim (k:=l) (by first | exact yd_5.out | exact yd_5.out.drew_ | exact yd_5.out.alloc_ _ | exact(yd_5.out.alloc_ _).drew_) BYD.out) j0i3 j0i3) ?_));rintro e w6 ⟨v,rfl,h,hb⟩;obtain⟨b6,A6,n6,c6,rfl,-,-,h⟩:=h.form;have hB:=(show Below w5.heap.size w5 w6 from jfh7);have xn_6:=Lib.hid (xn_5.out.below hB);have xd_6:=Lib.hid (xd_5.out.below hB);have yn_6:=Lib.hid (yn_5.out.below hB);have yd_6:=Lib.hid (yd_5.out.below hB);have f_6:=Lib.hid (f_5.out.below hB);have g_6:=Lib.hid (g_5.out.below hB);have Kr1_6:=Lib.hid (Kr1_5.out.below hB);have Kr2_6:=Lib.hid (Kr2_5.out.below hB);have Kr3_6:=Lib.hid (Kr3_5.out.below hB);have Kx_6:=Lib.hid (Kx_5.out.below hB);have Ky_6:=Lib.hid (Ky_5.out.below hB);have h_6:=Lib.hid (h);have HB_6:=Lib.hid (below_trans HB_5.out hB);have hs_6:w.heap.size≤w6.heap.size:=HB_6.out.size;have hz_6:w5.heap.size+0≤w6.heap.size := jrv7;clear hB hb xn_5 xd_5 yn_5 yd_5 f_5 g_5 Kr1_5 Kr2_5 Kr3_5 Kx_5 Ky_5 HB_5 p60 p61 p62 p63 l6 p70 p71 p72 p73 l7;obtain⟨p80,p81,p82,p83,l8⟩:=Kx_6.out.use4;obtain⟨p90,p91,p92,p93,l9⟩:=Ky_6.out.use4;obtain⟨p100,p101,l10⟩:=Kr1_6.out.use2;obtain⟨r100,r101⟩:=Kr1_6.out.into2;obtain⟨p110,p111,l11⟩:=Kr2_6.out.use2;obtain⟨r110,r111⟩:=Kr2_6.out.into2;obtain⟨p120,p121,l12⟩:=Kr3_6.out.use2;obtain⟨r120,r121⟩:=Kr3_6.out.into2))
 go_wp2
 obtain⟨WF,hWF⟩ : ∃W,W=((((((w6.setCell ⟨w.heap.size+1+1,0,none⟩ (.bool b4)).setCell ⟨w.heap.size+1+1,1,none⟩ (.slice A4 n4 c4)).setCell ⟨w.heap.size+1+1+1,0,none⟩ (.bool b5)).setCell ⟨w.heap.size+1+1+1,1,none⟩ (.slice A5 n5 c5)).setCell ⟨w.heap.size+1+1+1+1,0,none⟩ (.bool b6)).setCell ⟨w.heap.size+1+1+1+1,1,none⟩ (.slice A6 n6 c6)):=⟨_,rfl⟩
 rw [← hWF]
 have kq0:Blk WF (w.heap.size+1+1) 34 #[.bool b4,.slice A4 n4 c4]:=by rw [hWF];exact((((((Kr1_6.out.set_ 0 (.bool b4)).set_ 1 (.slice A4 n4 c4)).other j0i3 0 (.bool b5)).other j0i3 1 (.slice A5 n5 c5)).other j0i3 0 (.bool b6)).other j0i3 1 (.slice A6 n6 c6))
 obtain⟨e00,e01⟩:=kq0.cells2
 have kq1:Blk WF (w.heap.size+1+1+1) 34 #[.bool b5,.slice A5 n5 c5]:=by rw [hWF];exact((((((Kr2_6.out.other j0i3 0 (.bool b4)).other j0i3 1 (.slice A4 n4 c4)).set_ 0 (.bool b5)).set_ 1 (.slice A5 n5 c5)).other j0i3 0 (.bool b6)).other j0i3 1 (.slice A6 n6 c6))
 obtain⟨e10,e11⟩:=kq1.cells2
 have kq2:Blk WF (w.heap.size+1+1+1+1) 34 #[.bool b6,.slice A6 n6 c6]:=by rw [hWF];exact((((((Kr3_6.out.other j0i3 0 (.bool b4)).other j0i3 1 (.slice A4 n4 c4)).other j0i3 0 (.bool b5)).other j0i3 1 (.slice A5 n5 c5)).set_ 0 (.bool b6)).set_ 1 (.slice A6 n6 c6))
 obtain⟨e20,e21⟩:=kq2.cells2
 have hBF:Below w.heap.size w WF:=by rw [hWF];exact(bset (bset (bset (bset (bset (bset HB_6.out j0i3) j0i3) j0i3) j0i3) j0i3) j0i3)
 have ff:IsInt WF (.agg #[.bool b4,.slice A4 n4 c4]) (x.num*y.den):=by rw [hWF];exact((((((f_6.out.one Kr1_6.out (i:=0) (x := .bool false) (y := .bool b4) rfl nu).one (Kr1_6.out.set_ 0 (.bool b4)) (i:=1) (x := .slice none 0 0) (y := .slice A4 n4 c4) rfl nu).one ((Kr2_6.out.other j0i3 0 (.bool b4)).other j0i3 1 (.slice A4 n4 c4)) (i:=0) (x := .bool false) (y := .bool b5) rfl nu).one (((Kr2_6.out.other j0i3 0 (.bool b4)).other j0i3 1 (.slice A4 n4 c4)).set_ 0 (.bool b5)) (i:=1) (x := .slice none 0 0) (y := .slice A5 n5 c5) rfl nu).one ((((Kr3_6.out.other j0i3 0 (.bool b4)).other j0i3 1 (.slice A4 n4 c4)).other j0i3 0 (.bool b5)).other j0i3 1 (.slice A5 n5 c5)) (i:=0) (x := .bool false) (y := .bool b6) rfl nu).one (((((Kr3_6.out.other j0i3 0 (.bool b4)).other j0i3 1 (.slice A4 n4 c4)).other j0i3 0 (.bool b5)).other j0i3 1 (.slice A5 n5 c5)).set_ 0 (.bool b6)) (i:=1) (x := .slice none 0 0) (y := .slice A6 n6 c6) rfl nu)
 have fg:IsInt WF (.agg #[.bool b5,.slice A5 n5 c5]) (y.num*x.den):=by rw [hWF];exact((((((g_6.out.one Kr1_6.out (i:=0) (x := .bool false) (y := .bool b4) rfl nu).one (Kr1_6.out.set_ 0 (.bool b4)) (i:=1) (x := .slice none 0 0) (y := .slice A4 n4 c4) rfl nu).one ((Kr2_6.out.other j0i3 0 (.bool b4)).other j0i3 1 (.slice A4 n4 c4)) (i:=0) (x := .bool false) (y := .bool b5) rfl nu).one (((Kr2_6.out.other j0i3 0 (.bool b4)).other j0i3 1 (.slice A4 n4 c4)).set_ 0 (.bool b5)) (i:=1) (x := .slice none 0 0) (y := .slice A5 n5 c5) rfl nu).one ((((Kr3_6.out.other j0i3 0 (.bool b4)).other j0i3 1 (.slice A4 n4 c4)).other j0i3 0 (.bool b5)).other j0i3 1 (.slice A5 n5 c5)) (i:=0) (x := .bool false) (y := .bool b6) rfl nu).one (((((Kr3_6.out.other j0i3 0 (.bool b4)).other j0i3 1 (.slice A4 n4 c4)).other j0i3 0 (.bool b5)).other j0i3 1 (.slice A5 n5 c5)).set_ 0 (.bool b6)) (i:=1) (x := .slice none 0 0) (y := .slice A6 n6 c6) rfl nu)
 have fh:IsInt WF (.agg #[.bool b6,.slice A6 n6 c6]) ((x.den:Int)*y.den):=by rw [hWF];exact((((((h_6.out.one Kr1_6.out (i:=0) (x := .bool false) (y := .bool b4) rfl nu).one (Kr1_6.out.set_ 0 (.bool b4)) (i:=1) (x := .slice none 0 0) (y := .slice A4 n4 c4) rfl nu).one ((Kr2_6.out.other j0i3 0 (.bool b4)).other j0i3 1 (.slice A4 n4 c4)) (i:=0) (x := .bool false) (y := .bool b5) rfl nu).one (((Kr2_6.out.other j0i3 0 (.bool b4)).other j0i3 1 (.slice A4 n4 c4)).set_ 0 (.bool b5)) (i:=1) (x := .slice none 0 0) (y := .slice A5 n5 c5) rfl nu).one ((((Kr3_6.out.other j0i3 0 (.bool b4)).other j0i3 1 (.slice A4 n4 c4)).other j0i3 0 (.bool b5)).other j0i3 1 (.slice A5 n5 c5)) (i:=0) (x := .bool false) (y := .bool b6) rfl nu).one (((((Kr3_6.out.other j0i3 0 (.bool b4)).other j0i3 1 (.slice A4 n4 c4)).other j0i3 0 (.bool b5)).other j0i3 1 (.slice A5 n5 c5)).set_ 0 (.bool b6)) (i:=1) (x := .slice none 0 0) (y := .slice A6 n6 c6) rfl nu)
 have HE:Hid (CrossPost w WF (Ending.returned (.tuple #[(.agg #[.bool b4,.slice A4 n4 c4]),(.agg #[.bool b5,.slice A5 n5 c5]),(.agg #[.bool b6,.slice A6 n6 c6])])) x y):=⟨_,_,_,rfl,ff,fg,fh,hBF⟩
 clear hWF
 exact bodyPost_ret (v := .tuple #[(.agg #[.bool b4,.slice A4 n4 c4]),(.agg #[.bool b5,.slice A5 n5 c5]),(.agg #[.bool b6,.slice A6 n6 c6])]) (by simp [results,Tryz.results61,go_sem,e00,e01,e10,e11,e20,e21] <;> omega) rfl HE.out
theorem rcross {k l:Nat} {w:World} {v v':Value} {x y:Rat}(hx:LimQ k w v x)(hy:LimQ l w v' y)(hk:k≤100000)(hl:l≤100000)(h1:1≤k)(h1':1≤l):Calls Tryz.prog 61 #[v,v'] w fun e w'=>CrossPost w w' e x y:=by
 have Hx:=hx
 have Hy:=hy
 obtain⟨X,Y,hx,rfl⟩:=hx
 obtain⟨X',Y',hy,rfl⟩:=hy
 obtain⟨b,A,n,c,b',A',n',c',rfl,-,-⟩:=hx.form
 obtain⟨p,P,m,d,p',P',m',d',rfl,-,-⟩:=hy.form
 exact rcross0 b A n c b' A' n' c' p P m d p' P' m' d' w k l _ _ Hx Hy hk hl h1 h1'
end Go.Proofs.YtgilnmhejjpleaaGreat
