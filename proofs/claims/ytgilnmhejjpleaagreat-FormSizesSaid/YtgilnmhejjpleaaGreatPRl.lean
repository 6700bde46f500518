/- Contracts of the document's own fractions. -/
import Derived.Test.YtgilnmhejjpleaaGreatPRh
namespace Go.Proofs.YtgilnmhejjpleaaGreat
open Go.RowKit
attribute [local go_sem ↓] Go.wp_at_zero Go.wp_at_succ
set_option linter.unusedVariables false
theorem jcb {P:Prop}(h:P:=by simp [results, Tryz.results43, go_sem, e0, e1, e2, e3] <;> omega):P:=h
theorem LimI.pos_sign {k:Nat} {w:World} {b:Bool} {m:Value} {Y:Int}(h:LimI k w (.agg #[.bool b,m]) Y)(hY:0<Y):b=false:=by
 have e:=h.sgn
 cases b
 ·rfl
 ·have:Y = -(Y.natAbs:Int):=e
  omega
theorem LimI.neg_sign {k:Nat} {w:World} {b:Bool} {m:Value} {Y:Int}(h:LimI k w (.agg #[.bool b,m]) Y)(hY:Y<0):b=true:=by
 have e:=h.sgn
 cases b
 ·have:Y=(Y.natAbs:Int):=e
  omega
 ·rfl
set_option maxRecDepth 100000 in
set_option maxHeartbeats 1000000 in
theorem rzero_any(w:World) :
 Calls Tryz.prog 64 #[] w fun e w'=>RatPost w w' e 0:=by
 go_enter Tryz.func64,Tryz.ntmps64
 go_wp2_with fail
 refine Calls.mono (rof_any 1 _ j0a j0a) ?_
 rintro e w1 ⟨v,rfl,h,hb⟩
 obtain⟨b1,A1,n1,c1,rfl,-,-,h⟩:=h.form
 have hB:=bun (hb)
 have Kr_1:=Lib.hid (show Blk w1 (w.heap.size) 36 #[.bool false,.slice none 0 0,.bool false,.slice none 0 0] from(Blk.new _ _ j0b _ _).below hb)
 have o_1:=Lib.hid (h)
 have HB_1:=Lib.hid (hB)
 have hs_1:w.heap.size≤w1.heap.size:=HB_1.out.size
 have hz_1:w.heap.size+1≤w1.heap.size := j0d
 clear hB hb
 obtain⟨p10,p11,p12,p13,l1⟩:=Kr_1.out.use4
 obtain⟨r10,r11,r12,r13⟩:=Kr_1.out.into4
 go_wp2
 obtain⟨WF,hWF⟩ : ∃W,W=((((w1.setCell ⟨w.heap.size,0,none⟩ (.bool false)).setCell ⟨w.heap.size,1,none⟩ (.slice none 0 0)).setCell ⟨w.heap.size,2,none⟩ (.bool b1)).setCell ⟨w.heap.size,3,none⟩ (.slice A1 n1 c1)):=⟨_,rfl⟩
 rw [← hWF]
 have kq:Blk WF (w.heap.size) 36 #[.bool false,.slice none 0 0,.bool b1,.slice A1 n1 c1] := j0x
 have hBF:Below w.heap.size w WF := jc5
 have fo:IsInt WF (.agg #[.bool b1,.slice A1 n1 c1]) 1 := jco
 have HE:Hid (RatPost w WF (Ending.returned (.agg #[.bool false,.slice none 0 0,.bool b1,.slice A1 n1 c1])) 0):=⟨_,rfl,⟨false,_,b1,_,rfl,⟨_,rfl,isNat_nil _⟩,fo⟩,hBF⟩
 obtain⟨e0,e1,e2,e3⟩:=kq.cells4
 clear hWF
 exact bodyPost_ret (v := .agg #[.bool false,.slice none 0 0,.bool b1,.slice A1 n1 c1]) (by simp [results,Tryz.results64,go_sem,e0,e1,e2,e3] <;> omega) rfl HE.out
set_option maxRecDepth 100000 in
set_option maxHeartbeats 1000000 in
theorem rmay_t(b:Bool)(A:Option Addr)(n c:Nat)(b':Bool)(A':Option Addr)(n' c':Nat)(w:World)(k:Nat)(Y:Int)(h:LimI k w (.agg #[.bool b',.slice A' n' c']) Y)(hk:k≤1000000)(hY:0<Y) :
 Calls Tryz.prog 53 #[(.agg #[.bool b,.slice A n c,.bool b',.slice A' n' c'])] w fun e w'=>e = .returned (.bool true)∧Below w.heap.size w w':=by
 obtain rfl:=h.pos_sign hY
 have HN:Hid (0<Y.natAbs) := j03
 have y_0:=Lib.hid h.mag
 clear h hY
 go_enter Tryz.func53,Tryz.ntmps53
 go_wp2_with fail
 refine Calls.mono (lim_rtr (y_0.out.alloc_ _) hk) ?_
 rintro e w1 ⟨v,rfl,h,hb⟩
 obtain⟨A1,n1,c1,rfl,hn,h⟩:=isNat_form h
 have hn0:0<n1:=hn.2 HN.out
 clear hn h
 have hB:=bun (hb)
 have y_1:=Lib.hid (y_0.out.below hB)
 have Ka_1:=Lib.hid (show Blk w1 (w.heap.size) 36 #[.bool b,.slice A n c,.bool false,.slice A' n' c'] from(Blk.new _ _ j0b _ _).below hb)
 have HB_1:=Lib.hid (hB)
 have hs_1:w.heap.size≤w1.heap.size:=HB_1.out.size
 have hz_1:w.heap.size+1≤w1.heap.size := j0d
 clear hB hb y_0
 obtain⟨p10,p11,p12,p13,l1⟩:=Ka_1.out.use4
 go_wp2
 go_ret
 exact⟨rfl,HB_1.out⟩
set_option maxRecDepth 100000 in
set_option maxHeartbeats 1000000 in
theorem rmay_z(b:Bool)(A:Option Addr)(n c:Nat)(b':Bool)(A':Option Addr)(n' c':Nat)(w:World)(k:Nat)(Y:Int)(h:LimI k w (.agg #[.bool b',.slice A' n' c']) Y)(hk:k≤1000000)(hY:Y=0) :
 Calls Tryz.prog 53 #[(.agg #[.bool b,.slice A n c,.bool b',.slice A' n' c'])] w fun e w'=>e = .returned (.bool false)∧Below w.heap.size w w':=by
 have HN:Hid (Y.natAbs=0):=by show _=_;omega
 have y_0:=Lib.hid h.mag
 clear h hY
 go_enter Tryz.func53,Tryz.ntmps53
 go_wp2_with fail
 refine Calls.mono (lim_rtr (y_0.out.alloc_ _) hk) ?_
 rintro e w1 ⟨v,rfl,h,hb⟩
 obtain⟨A1,n1,c1,rfl,hn,h⟩:=isNat_form h
 have hn0:n1=0:=by have:=HN.out;omega
 subst hn0
 clear hn h
 have hB:=bun (hb)
 have y_1:=Lib.hid (y_0.out.below hB)
 have Ka_1:=Lib.hid (show Blk w1 (w.heap.size) 36 #[.bool b,.slice A n c,.bool b',.slice A' n' c'] from(Blk.new _ _ j0b _ _).below hb)
 have HB_1:=Lib.hid (hB)
 have hs_1:w.heap.size≤w1.heap.size:=HB_1.out.size
 have hz_1:w.heap.size+1≤w1.heap.size := j0d
 clear hB hb y_0
 obtain⟨p10,p11,p12,p13,l1⟩:=Ka_1.out.use4
 go_wp2
 go_ret
 exact⟨rfl,HB_1.out⟩
set_option maxRecDepth 100000 in
set_option maxHeartbeats 1000000 in
theorem rmay_n(b:Bool)(A:Option Addr)(n c:Nat)(b':Bool)(A':Option Addr)(n' c':Nat)(w:World)(k:Nat)(Y:Int)(h:LimI k w (.agg #[.bool b',.slice A' n' c']) Y)(hk:k≤1000000)(hY:Y<0) :
 Calls Tryz.prog 53 #[(.agg #[.bool b,.slice A n c,.bool b',.slice A' n' c'])] w fun e w'=>e = .returned (.bool false)∧Below w.heap.size w w':=by
 obtain rfl:=h.neg_sign hY
 have HN:Hid (0<Y.natAbs) := j03
 have y_0:=Lib.hid h.mag
 clear h hY
 go_enter Tryz.func53,Tryz.ntmps53
 go_wp2_with fail
 refine Calls.mono (lim_rtr (y_0.out.alloc_ _) hk) ?_
 rintro e w1 ⟨v,rfl,h,hb⟩
 obtain⟨A1,n1,c1,rfl,hn,h⟩:=isNat_form h
 have hn0:0<n1:=hn.2 HN.out
 clear hn h
 have hB:=bun (hb)
 have y_1:=Lib.hid (y_0.out.below hB)
 have Ka_1:=Lib.hid (show Blk w1 (w.heap.size) 36 #[.bool b,.slice A n c,.bool true,.slice A' n' c'] from(Blk.new _ _ j0b _ _).below hb)
 have HB_1:=Lib.hid (hB)
 have hs_1:w.heap.size≤w1.heap.size:=HB_1.out.size
 have hz_1:w.heap.size+1≤w1.heap.size := j0d
 clear hB hb y_0
 obtain⟨p10,p11,p12,p13,l1⟩:=Ka_1.out.use4
 go_wp2
 go_ret
 exact⟨rfl,HB_1.out⟩
set_option maxRecDepth 100000 in
set_option maxHeartbeats 1000000 in
theorem rplain_qz(b:Bool)(A:Option Addr)(n c:Nat)(b':Bool)(A':Option Addr)(n' c':Nat)(w:World)(k:Nat)(X Y:Int)(hx:LimI k w (.agg #[.bool b,.slice A n c]) X)(hy:LimI k w (.agg #[.bool b',.slice A' n' c']) Y)(hk:k≤100000)(hY:Y=0) :
 Calls Tryz.prog 43 #[(.agg #[.bool b,.slice A n c,.bool b',.slice A' n' c'])] w fun e w'=>RatPost w w' e 0:=by
 have x_0:=Lib.hid hx
 have y_0:=Lib.hid hy
 have HY:=Lib.hid hY
 clear hx hy hY
 go_enter Tryz.func43,Tryz.ntmps43
 go_wp2_with fail
 refine Calls.mono (rmay_z _ _ _ _ _ _ _ _ _ k Y ((y_0.out.alloc_ _).alloc_ _) j0a HY.out) ?_
 rintro e w1 ⟨rfl,hb⟩
 have hB:=bun (bun (hb))
 have x_1:=Lib.hid (x_0.out.below hB)
 have y_1:=Lib.hid (y_0.out.below hB)
 have Ka_1:=Lib.hid (show Blk w1 (w.heap.size) 36 #[.bool b,.slice A n c,.bool b',.slice A' n' c'] from((Blk.new _ _ j0b _ _).alloc_ _).below hb)
 have Kr_1:=Lib.hid (show Blk w1 (w.heap.size+1) 36 #[.bool false,.slice none 0 0,.bool false,.slice none 0 0] from(Blk.new _ _ j0b _ _).below hb)
 have HB_1:=Lib.hid (hB)
 have hs_1:w.heap.size≤w1.heap.size:=HB_1.out.size
 have hz_1:w.heap.size+2≤w1.heap.size := j0d
 clear hB hb x_0 y_0
 go_wp2_with fail
 refine Calls.mono (rzero_any _) ?_
 rintro e w2 ⟨v,rfl,h,hb⟩
 obtain⟨b2,A2,n2,c2,d2,B2,m2,k2,rfl,-,-,-,h1,h2⟩:=h.form
 have hB:=hb
 have Ka_2:=Lib.hid (Ka_1.out.below hB)
 have Kr_2:=Lib.hid (Kr_1.out.below hB)
 have z_2:=Lib.hid (h1)
 have z2_2:=Lib.hid (h2)
 have HB_2:=Lib.hid (below_trans HB_1.out hB)
 have hs_2:w.heap.size≤w2.heap.size:=HB_2.out.size
 have hz_2:w1.heap.size+0≤w2.heap.size := j0d
 clear hB hb x_1 y_1 Ka_1 Kr_1 HB_1
 obtain⟨p10,p11,p12,p13,l1⟩:=Kr_2.out.use4
 obtain⟨r10,r11,r12,r13⟩:=Kr_2.out.into4
 go_wp2
 obtain⟨WF,hWF⟩ : ∃W,W=((((w2.setCell ⟨w.heap.size+1,0,none⟩ (.bool b2)).setCell ⟨w.heap.size+1,1,none⟩ (.slice A2 n2 c2)).setCell ⟨w.heap.size+1,2,none⟩ (.bool d2)).setCell ⟨w.heap.size+1,3,none⟩ (.slice B2 m2 k2)):=⟨_,rfl⟩
 rw [← hWF]
 have kq:Blk WF (w.heap.size+1) 36 #[.bool b2,.slice A2 n2 c2,.bool d2,.slice B2 m2 k2] := j00
 have hBF:Below w.heap.size w WF := jc7
 have f1:IsInt WF (.agg #[.bool b2,.slice A2 n2 c2]) (0:Rat).num := j04
 have f2:IsInt WF (.agg #[.bool d2,.slice B2 m2 k2]) ((0:Rat).den:Int) := j05
 have HE:Hid (RatPost w WF (Ending.returned (.agg #[.bool b2,.slice A2 n2 c2,.bool d2,.slice B2 m2 k2])) (0:Rat)):=⟨_,rfl,⟨_,_,_,_,rfl,f1,f2⟩,hBF⟩
 obtain⟨e0,e1,e2,e3⟩:=kq.cells4
 clear hWF
 exact bodyPost_ret (v := .agg #[.bool b2,.slice A2 n2 c2,.bool d2,.slice B2 m2 k2]) jcb rfl HE.out
set_option maxRecDepth 100000 in
set_option maxHeartbeats 1000000 in
theorem rplain_qn(b:Bool)(A:Option Addr)(n c:Nat)(b':Bool)(A':Option Addr)(n' c':Nat)(w:World)(k:Nat)(X Y:Int)(hx:LimI k w (.agg #[.bool b,.slice A n c]) X)(hy:LimI k w (.agg #[.bool b',.slice A' n' c']) Y)(hk:k≤100000)(hY:Y<0) :
 Calls Tryz.prog 43 #[(.agg #[.bool b,.slice A n c,.bool b',.slice A' n' c'])] w fun e w'=>RatPost w w' e 0:=by
 have x_0:=Lib.hid hx
 have y_0:=Lib.hid hy
 have HY:=Lib.hid hY
 clear hx hy hY
 go_enter Tryz.func43,Tryz.ntmps43
 go_wp2_with fail
 refine Calls.mono (rmay_n _ _ _ _ _ _ _ _ _ k Y ((y_0.out.alloc_ _).alloc_ _) j0a HY.out) ?_
 rintro e w1 ⟨rfl,hb⟩
 have hB:=bun (bun (hb))
 have x_1:=Lib.hid (x_0.out.below hB)
 have y_1:=Lib.hid (y_0.out.below hB)
 have Ka_1:=Lib.hid (show Blk w1 (w.heap.size) 36 #[.bool b,.slice A n c,.bool b',.slice A' n' c'] from((Blk.new _ _ j0b _ _).alloc_ _).below hb)
 have Kr_1:=Lib.hid (show Blk w1 (w.heap.size+1) 36 #[.bool false,.slice none 0 0,.bool false,.slice none 0 0] from(Blk.new _ _ j0b _ _).below hb)
 have HB_1:=Lib.hid (hB)
 have hs_1:w.heap.size≤w1.heap.size:=HB_1.out.size
 have hz_1:w.heap.size+2≤w1.heap.size := j0d
 clear hB hb x_0 y_0
 go_wp2_with fail
 refine Calls.mono (rzero_any _) ?_
 rintro e w2 ⟨v,rfl,h,hb⟩
 obtain⟨b2,A2,n2,c2,d2,B2,m2,k2,rfl,-,-,-,h1,h2⟩:=h.form
 have hB:=hb
 have Ka_2:=Lib.hid (Ka_1.out.below hB)
 have Kr_2:=Lib.hid (Kr_1.out.below hB)
 have z_2:=Lib.hid (h1)
 have z2_2:=Lib.hid (h2)
 have HB_2:=Lib.hid (below_trans HB_1.out hB)
 have hs_2:w.heap.size≤w2.heap.size:=HB_2.out.size
 have hz_2:w1.heap.size+0≤w2.heap.size := j0d
 clear hB hb x_1 y_1 Ka_1 Kr_1 HB_1
 obtain⟨p10,p11,p12,p13,l1⟩:=Kr_2.out.use4
 obtain⟨r10,r11,r12,r13⟩:=Kr_2.out.into4
 go_wp2
 obtain⟨WF,hWF⟩ : ∃W,W=((((w2.setCell ⟨w.heap.size+1,0,none⟩ (.bool b2)).setCell ⟨w.heap.size+1,1,none⟩ (.slice A2 n2 c2)).setCell ⟨w.heap.size+1,2,none⟩ (.bool d2)).setCell ⟨w.heap.size+1,3,none⟩ (.slice B2 m2 k2)):=⟨_,rfl⟩
 rw [← hWF]
 have kq:Blk WF (w.heap.size+1) 36 #[.bool b2,.slice A2 n2 c2,.bool d2,.slice B2 m2 k2] := j00
 have hBF:Below w.heap.size w WF := jc7
 have f1:IsInt WF (.agg #[.bool b2,.slice A2 n2 c2]) (0:Rat).num := j04
 have f2:IsInt WF (.agg #[.bool d2,.slice B2 m2 k2]) ((0:Rat).den:Int) := j05
 have HE:Hid (RatPost w WF (Ending.returned (.agg #[.bool b2,.slice A2 n2 c2,.bool d2,.slice B2 m2 k2])) (0:Rat)):=⟨_,rfl,⟨_,_,_,_,rfl,f1,f2⟩,hBF⟩
 obtain⟨e0,e1,e2,e3⟩:=kq.cells4
 clear hWF
 exact bodyPost_ret (v := .agg #[.bool b2,.slice A2 n2 c2,.bool d2,.slice B2 m2 k2]) jcb rfl HE.out
set_option maxRecDepth 100000 in
set_option maxHeartbeats 2000000 in
theorem rplain_qp(b:Bool)(A:Option Addr)(n c:Nat)(b':Bool)(A':Option Addr)(n' c':Nat)(w:World)(k:Nat)(X Y:Int)(hx:LimI k w (.agg #[.bool b,.slice A n c]) X)(hy:LimI k w (.agg #[.bool b',.slice A' n' c']) Y)(hk:k≤100000)(hY:0<Y) :
 Calls Tryz.prog 43 #[(.agg #[.bool b,.slice A n c,.bool b',.slice A' n' c'])] w fun e w'=>RatPost w w' e (Rat.divInt X Y):=by
 obtain⟨E1,E2,hG⟩:=divInt_parts X hY
 have HG:=Lib.hid hG
 have BG:Hid (Int.gcd X Y<4294967296 ^ k):=by
  show _<_
  have:=hy.lt
  have h2:=Nat.le_of_dvd j0a (Nat.gcd_dvd_right X.natAbs Y.natAbs)
  unfold Int.gcd
  omega
 have hsx:=hx.sgn
 have q1:X.natAbs / Int.gcd X Y=(Rat.divInt X Y).num.natAbs:=by
  have:X.natAbs=(Rat.divInt X Y).num.natAbs*Int.gcd X Y:=by
   have e:=congrArg Int.natAbs E1
   rw [Int.natAbs_mul,Int.natAbs_natCast] at e
   exact e.symm
  exact Nat.div_eq_of_eq_mul_left hG this
 have q2:Y.natAbs / Int.gcd X Y=(Rat.divInt X Y).den:=by
  have:((Rat.divInt X Y).den*Int.gcd X Y:Nat)=Y:=by rw [Int.natCast_mul];exact E2
  exact Nat.div_eq_of_eq_mul_left hG j0a
 have q3:sg b (Rat.divInt X Y).num.natAbs=(Rat.divInt X Y).num:=by
  generalize (Rat.divInt X Y).num=a at *
  have hG':(0:Int)<(Int.gcd X Y:Int) := j0a
  cases b
  ·have e:X=(X.natAbs:Int):=hsx
   have:0≤a:=by
    rcases Int.lt_or_le a 0 with h | h
    ·have:=Int.mul_neg_of_neg_of_pos h hG';omega
    ·exact h
   show(a.natAbs:Int)=a
   omega
  ·have e:X = -(X.natAbs:Int):=hsx
   have:a≤0:=by
    rcases Int.lt_or_le 0 a with h | h
    ·have:=Int.mul_pos h hG';omega
    ·exact h
   show -(a.natAbs:Int)=a
   omega
 have Q1:=Lib.hid q1
 have Q2:=Lib.hid q2
 have Q3:=Lib.hid q3
 have BQ1:Hid ((Rat.divInt X Y).num.natAbs<4294967296 ^ k):=(divInt_bq hY hx.lt hy.lt (Nat.le_refl _) (Nat.le_refl _)).1
 have HY:=Lib.hid hY
 have m_0:=Lib.hid hx.mag
 have o_0:=Lib.hid hy.mag
 have x_0:=Lib.hid hx
 have y_0:=Lib.hid hy
 clear hx hy hY E1 E2 hG hsx q1 q2 q3
 go_enter Tryz.func43,Tryz.ntmps43
 go_wp2_with fail
 refine Calls.mono (rmay_t _ _ _ _ _ _ _ _ _ k Y ((y_0.out.alloc_ _).alloc_ _) j0a HY.out) ?_
 rintro e w1 ⟨rfl,hb⟩
 have hB:=bun (bun (hb))
 have m_1:=Lib.hid (m_0.out.below hB)
 have o_1:=Lib.hid (o_0.out.below hB)
 have Ka_1:=Lib.hid (show Blk w1 (w.heap.size) 36 #[.bool b,.slice A n c,.bool b',.slice A' n' c'] from((Blk.new _ _ j0b _ _).alloc_ _).below hb)
 have Kr_1:=Lib.hid (show Blk w1 (w.heap.size+1) 36 #[.bool false,.slice none 0 0,.bool false,.slice none 0 0] from(Blk.new _ _ j0b _ _).below hb)
 have HB_1:=Lib.hid (hB)
 have hs_1:w.heap.size≤w1.heap.size:=HB_1.out.size
 have hz_1:w.heap.size+2≤w1.heap.size := j0d
 clear hB hb x_0 y_0 m_0 o_0
 obtain⟨p10,p11,p12,p13,l1⟩:=Ka_1.out.use4
 go_wp2_with fail
 refine Calls.mono (rGcd m_1.out o_1.out hk hk) ?_
 rintro e w2 ⟨v,rfl,h,hb⟩
 obtain⟨A2,n2,c2,rfl,-,h⟩:=isNat_form h
 have hgg:Nat.gcd X.natAbs Y.natAbs=Int.gcd X Y:=rfl
 rw [hgg] at h
 clear hgg
 have hB:=hb
 have m_2:=Lib.hid (m_1.out.below hB)
 have o_2:=Lib.hid (o_1.out.below hB)
 have Ka_2:=Lib.hid (Ka_1.out.below hB)
 have Kr_2:=Lib.hid (Kr_1.out.below hB)
 have g_2:=Lib.hid (h)
 have HB_2:=Lib.hid (below_trans HB_1.out hB)
 have hs_2:w.heap.size≤w2.heap.size:=HB_2.out.size
 have hz_2:w1.heap.size+0≤w2.heap.size := j0d
 clear hB hb m_1 o_1 Ka_1 Kr_1 HB_1 p10 p11 p12 p13 l1
 obtain⟨p20,p21,p22,p23,l2⟩:=Ka_2.out.use4
 go_wp2_with fail
 refine Calls.mono ((rDiv m_2.out (g_2.out.lim BG.out) hk hk).mono fun e w' h=>h.yes HG.out) ?_
 rintro e w3 ⟨vq,vr,rfl,h,h2,hb⟩
 obtain⟨A3,n3,c3,rfl,-,h⟩:=isNat_form h
 obtain⟨B3,m3,k3,rfl,-,h2⟩:=isNat_form h2
 clear h2
 rw [Q1.out] at h
 have hB:=hb
 have o_3:=Lib.hid (o_2.out.below hB)
 have g_3:=Lib.hid (g_2.out.below hB)
 have Ka_3:=Lib.hid (Ka_2.out.below hB)
 have Kr_3:=Lib.hid (Kr_2.out.below hB)
 have u_3:=Lib.hid (h)
 have HB_3:=Lib.hid (below_trans HB_2.out hB)
 have hs_3:w.heap.size≤w3.heap.size:=HB_3.out.size
 have hz_3:w2.heap.size+0≤w3.heap.size := j0d
 clear hB hb m_2 o_2 g_2 Ka_2 Kr_2 HB_2 p20 p21 p22 p23 l2
 obtain⟨p30,p31,p32,p33,l3⟩:=Ka_3.out.use4
 go_wp2_with fail
 refine Calls.mono ((rDiv o_3.out (g_3.out.lim BG.out) hk hk).mono fun e w' h=>h.yes HG.out) ?_
 rintro e w4 ⟨vq,vr,rfl,h,h2,hb⟩
 obtain⟨A4,n4,c4,rfl,-,h⟩:=isNat_form h
 obtain⟨B4,m4,k4,rfl,-,h2⟩:=isNat_form h2
 clear h2
 rw [Q2.out] at h
 have hB:=hb
 have u_4:=Lib.hid (u_3.out.below hB)
 have Ka_4:=Lib.hid (Ka_3.out.below hB)
 have Kr_4:=Lib.hid (Kr_3.out.below hB)
 have v_4:=Lib.hid (h)
 have HB_4:=Lib.hid (below_trans HB_3.out hB)
 have hs_4:w.heap.size≤w4.heap.size:=HB_4.out.size
 have hz_4:w3.heap.size+0≤w4.heap.size := j0d
 clear hB hb o_3 g_3 u_3 Ka_3 Kr_3 HB_3 p30 p31 p32 p33 l3
 obtain⟨p40,p41,p42,p43,l4⟩:=Ka_4.out.use4
 go_wp2_with fail
 refine Calls.mono (li_rplain (limI_mk (b:=b) (u_4.out.lim BQ1.out)) j0a) ?_
 rintro e w5 ⟨v,rfl,h,hb⟩
 rw [Q3.out] at h
 obtain⟨b5,A5,n5,c5,rfl,-,-,h⟩:=h.form
 have hB:=hb
 have v_5:=Lib.hid (v_4.out.below hB)
 have Ka_5:=Lib.hid (Ka_4.out.below hB)
 have Kr_5:=Lib.hid (Kr_4.out.below hB)
 have z_5:=Lib.hid (h)
 have HB_5:=Lib.hid (below_trans HB_4.out hB)
 have hs_5:w.heap.size≤w5.heap.size:=HB_5.out.size
 have hz_5:w4.heap.size+0≤w5.heap.size := j0d
 clear hB hb u_4 v_4 Ka_4 Kr_4 HB_4 p40 p41 p42 p43 l4
 obtain⟨p50,p51,p52,p53,l5⟩:=Kr_5.out.use4
 obtain⟨r50,r51,r52,r53⟩:=Kr_5.out.into4
 go_wp2
 obtain⟨WF,hWF⟩ : ∃W,W=((((w5.setCell ⟨w.heap.size+1,0,none⟩ (.bool b5)).setCell ⟨w.heap.size+1,1,none⟩ (.slice A5 n5 c5)).setCell ⟨w.heap.size+1,2,none⟩ (.bool false)).setCell ⟨w.heap.size+1,3,none⟩ (.slice A4 n4 c4)):=⟨_,rfl⟩
 rw [← hWF]
 have kq:Blk WF (w.heap.size+1) 36 #[.bool b5,.slice A5 n5 c5,.bool false,.slice A4 n4 c4] := jbk
 have hBF:Below w.heap.size w WF := jdd
 have f1:IsInt WF (.agg #[.bool b5,.slice A5 n5 c5]) (Rat.divInt X Y).num := jbt
 have f2:IsNat WF (.slice A4 n4 c4) (Rat.divInt X Y).den:=by rw [hWF];exact v_5.out.other4 Kr_5.out nu nu nu nu
 have HE:Hid (RatPost w WF (Ending.returned (.agg #[.bool b5,.slice A5 n5 c5,.bool false,.slice A4 n4 c4])) (Rat.divInt X Y)):=⟨_,rfl,⟨_,_,_,_,rfl,f1,isInt_nat f2⟩,hBF⟩
 obtain⟨e0,e1,e2,e3⟩:=kq.cells4
 clear hWF
 exact bodyPost_ret (v := .agg #[.bool b5,.slice A5 n5 c5,.bool false,.slice A4 n4 c4]) jcb rfl HE.out
theorem r_plain {k:Nat} {w:World} {v:Value} {q:Rat}(h:LimQ k w v q)(hk:k≤100000):Calls Tryz.prog 43 #[v] w fun e w'=>RatPost w w' e q:=by
 obtain⟨X,Y,h,rfl⟩:=h
 obtain⟨b,A,n,c,b',A',n',c',rfl,h1,h2⟩:=h.form
 unfold ratOf
 rcases Int.lt_trichotomy Y 0 with hY | hY | hY
 ·rw [if_neg j0a];exact rplain_qn b A n c b' A' n' c' w k X Y h1 h2 hk hY
 ·rw [if_neg j0a];exact rplain_qz b A n c b' A' n' c' w k X Y h1 h2 hk hY
 ·rw [if_pos hY];exact rplain_qp b A n c b' A' n' c' w k X Y h1 h2 hk hY
end Go.Proofs.YtgilnmhejjpleaaGreat
namespace Go.Proofs.YtgilnmhejjpleaaGreat
open Go.RowKit
attribute [local go_sem ↓] Go.wp_at_zero Go.wp_at_succ
set_option linter.unusedVariables false
theorem limQ_mk {k:Nat} {w:World} {b b':Bool} {m m':Value} {X Y:Int} {q:Rat}(h1:LimI k w (.agg #[.bool b,m]) X)(h2:LimI k w (.agg #[.bool b',m']) Y)(hY:0<Y)(hq:Rat.divInt X Y=q):LimQ k w (.agg #[.bool b,m,.bool b',m']) q :=
 ⟨X,Y,limR_mk h1 h2,by unfold ratOf;rw [if_pos hY,hq]⟩
set_option maxRecDepth 100000 in
set_option maxHeartbeats 1000000 in
theorem same_q0(b:Bool)(A:Option Addr)(n c:Nat)(b':Bool)(A':Option Addr)(n' c':Nat)(p:Bool)(P:Option Addr)(m d:Nat)(p':Bool)(P':Option Addr)(m' d':Nat)(w:World)(k l:Nat)(x:Rat)(hx:IsRat w (.agg #[.bool b,.slice A n c,.bool b',.slice A' n' c']) x)(hy:IsRat w (.agg #[.bool p,.slice P m d,.bool p',.slice P' m' d']) x)(hb:BQ k x)(hk:k≤100000) :
 Calls Tryz.prog 14 #[(.agg #[.bool b,.slice A n c,.bool b',.slice A' n' c']),(.agg #[.bool p,.slice P m d,.bool p',.slice P' m' d'])] w fun e w'=>e = .returned (.bool true)∧Below w.heap.size w w':=by
 obtain⟨_,_,_,_,e0,s1,s2⟩:=hx
 injection e0 with e0
 injection e0 with e0
 simp at e0
 obtain⟨rfl,rfl,rfl,rfl⟩:=e0
 obtain⟨_,_,_,_,e0,s3,s4⟩:=hy
 injection e0 with e0
 injection e0 with e0
 simp at e0
 obtain⟨rfl,rfl,rfl,rfl⟩:=e0
 have BN:=Lib.hid hb.1
 have BD:=Lib.hid (show((x.den:Int)).natAbs<4294967296 ^ k from hb.2)
 have x_0:=Lib.hid s1
 have y_0:=Lib.hid s2
 have u_0:=Lib.hid s3
 have v_0:=Lib.hid s4
 clear s1 s2 s3 s4 hb
 go_enter Tryz.func14,Tryz.ntmps14
 go_wp2_with fail
 refine Calls.mono (isInt_same ((x_0.out.alloc_ _).alloc_ _) ((u_0.out.alloc_ _).alloc_ _) BN.out j0a) ?_
 rintro e w1 ⟨rfl,hb⟩
 have hB:=bun (bun (hb))
 have y_1:=Lib.hid (y_0.out.below hB)
 have v_1:=Lib.hid (v_0.out.below hB)
 have Ka_1:=Lib.hid (show Blk w1 (w.heap.size) 36 #[.bool b,.slice A n c,.bool b',.slice A' n' c'] from((Blk.new _ _ j0b _ _).alloc_ _).below hb)
 have Kb_1:=Lib.hid (show Blk w1 (w.heap.size+1) 36 #[.bool p,.slice P m d,.bool p',.slice P' m' d'] from(Blk.new _ _ j0b _ _).below hb)
 have HB_1:=Lib.hid (hB)
 have hs_1:w.heap.size≤w1.heap.size:=HB_1.out.size
 have hz_1:w.heap.size+2≤w1.heap.size := j0d
 clear hB hb x_0 y_0 u_0 v_0
 obtain⟨p10,p11,p12,p13,l1⟩:=Ka_1.out.use4
 obtain⟨p20,p21,p22,p23,l2⟩:=Kb_1.out.use4
 go_wp2_with fail
 refine Calls.mono (isInt_same y_1.out v_1.out BD.out j0a) ?_
 rintro e w2 ⟨rfl,hb⟩
 have hB:=hb
 have y_2:=Lib.hid (y_1.out.below hB)
 have v_2:=Lib.hid (v_1.out.below hB)
 have Ka_2:=Lib.hid (Ka_1.out.below hB)
 have Kb_2:=Lib.hid (Kb_1.out.below hB)
 have HB_2:=Lib.hid (below_trans HB_1.out hB)
 have hs_2:w.heap.size≤w2.heap.size:=HB_2.out.size
 have hz_2:w1.heap.size+0≤w2.heap.size := j0d
 clear hB hb y_1 v_1 Ka_1 Kb_1 HB_1 p10 p11 p12 p13 l1 p20 p21 p22 p23 l2
 go_wp2
 go_ret
 exact⟨rfl,HB_2.out⟩
theorem rat_same {k:Nat} {w:World} {v v':Value} {x:Rat}(hx:IsRat w v x)(hy:IsRat w v' x)(hb:BQ k x)(hk:k≤100000):Calls Tryz.prog 14 #[v,v'] w fun e w'=>e = .returned (.bool true)∧Below w.heap.size w w':=by
 have Hx:=hx
 have Hy:=hy
 obtain⟨b,A,n,c,b',A',n',c',rfl,-⟩:=hx.form
 obtain⟨p,P,m,d,p',P',m',d',rfl,-⟩:=hy.form
 exact same_q0 b A n c b' A' n' c' p P m d p' P' m' d' w k 0 x Hx Hy hb hk
end Go.Proofs.YtgilnmhejjpleaaGreat
