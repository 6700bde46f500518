/- FormSizes. -/
import Derived.Test.YtgilnmhejjpleaaGreatPMin
import Derived.Test.YtgilnmhejjpleaaGreatPFw
import Derived.Test.YtgilnmhejjpleaaGreatPGc
import Derived.Test.YtgilnmhejjpleaaGreatPGn
import Derived.Test.YtgilnmhejjpleaaGreatPFg
import Derived.Test.YtgilnmhejjpleaaGreatPZb
namespace Go.Proofs.YtgilnmhejjpleaaGreat
open Go.RowKit
attribute [local go_sem ↓] Go.wp_at_zero Go.wp_at_succ
set_option linter.unusedVariables false
set_option linter.unusedSimpArgs false
theorem j5p3 {P:Prop}(h:P:=by (first | (and_intros <;> (first | with_reducible assumption | ((with_reducible refine Eq.trans (cell_drew _ _) ?_); with_reducible assumption) | go_keep)) | go_keep)):P:=h
theorem jiut {P:Prop}(h:P:=by simp only [beq_eq_false_iff_ne, beq_iff_eq, ne_eq]; omega):P:=h
theorem LpC.alloc_ {w:World} {v:Value} {D:LpY}(h:LpC w v D)(o:Obj):LpC (w.alloc o) v D:=h.below (below_new w o)
end Go.Proofs.YtgilnmhejjpleaaGreat
namespace Go.Proofs.YtgilnmhejjpleaaGreat
open Go.RowKit
attribute [local go_sem ↓] Go.wp_at_zero Go.wp_at_succ
set_option linter.unusedVariables false
set_option linter.unusedSimpArgs false
theorem rmay_is {k:Nat} {w:World} {v:Value} {X Y:Int} {r:Bool}(hr:decide (0<Y)=r)(h:LimR k w v X Y)(hk:k≤1000000):Calls Tryz.prog 53 #[v] w fun e w'=>e = .returned (.bool r)∧Below w.heap.size w w':=by
 obtain⟨b,A,n,c,b',A',n',c',rfl,ha,hb⟩:=h.form
 by_cases hY:0<Y
 ·rw [← hr,decide_eq_true hY]
  exact rmay_t _ _ _ _ _ _ _ _ _ k Y hb hk hY
 ·rw [← hr,decide_eq_false hY]
  by_cases h0:Y=0
  ·exact rmay_z _ _ _ _ _ _ _ _ _ k Y hb hk h0
  ·exact rmay_n _ _ _ _ _ _ _ _ _ k Y hb hk j0i3
set_option maxRecDepth 100000 in
set_option maxHeartbeats 2000000 in
theorem rall {k:Nat} {w:World} {v:Value} {r:RowX}(h:RowN k w v r)(hk:k≤1000000) :
 Calls Tryz.prog 52 #[v] w fun e w'=>YesPost w w' e r.mays:=by
 obtain⟨A,c,rfl,hc,hm⟩:=h.len
 have H:=Lib.hid h
 clear h
 go_enter Tryz.func52,Tryz.ntmps52
 go_wp2
 go_loopw [3] (fun v3 wr => ∃ (i:Nat),v3 = .int .i64 (i:Nat)∧i≤r.n∧Below w.heap.size w wr∧∀j,j<i→0<r.b j) (fun v3 _=>r.n - (intOf v3).toNat)
 case atStart=>exact⟨0,rfl,Nat.zero_le _,Below.refl _ _,fun j hj=>absurd hj j0i3⟩
 case round =>
  obtain⟨i,rfl,hi,hbw,hinv⟩:=hrel
  have HB:=Lib.hid hbw
  have HI:=Lib.hid hinv
  clear hinv hbw
  by_cases hlt:i<r.n
  ·have hi0:(0:Int)≤(i:Int):=by omega
   have hik:(i:Int)<(r.n:Int) := j0i3
   obtain⟨ad,c1,⟨xb,xA,xn,xc,xd,xB,xm,xk⟩,e1,_,_,⟨a0,a1,a2,a3,a4⟩,hE⟩:=(H.out.below HB.out).at_ hlt
   simp only [Value.slice.injEq] at e1
   obtain⟨rfl,_,rfl⟩:=e1
   have HE:=Lib.hid hE
   clear hE
   by_cases hM:0<r.b i
   ·go_wp2_with fail
    refine Calls.mono (rmay_is (decide_eq_true hM) (by first | exact HE.out | exact HE.out.drew_) hk) ?_
    rintro e w3 ⟨rfl,hb3⟩
    have HB3:=Lib.hid (below_trans HB.out (by first | exact hb3 | exact bundrew hb3))
    clear hb3
    go_wp2
    go_roundw
    case rel=>exact⟨i+1,by go_num,by omega,HB3.out,fun q hq=>by
     by_cases hqj:q=i
     ·subst hqj;exact hM
     ·exact HI.out q j0i3⟩
    case measure=>simp [intOf];omega
   ·go_wp2_with fail
    refine Calls.mono (rmay_is (Y:=r.b i) (decide_eq_false j0i3) (by first | exact HE.out | exact HE.out.drew_) hk) ?_
    rintro e w3 ⟨rfl,hb3⟩
    have HB3:=Lib.hid (below_trans HB.out (by first | exact hb3 | exact bundrew hb3))
    clear hb3
    go_wp2
    go_ret
    exact⟨⟨_,rfl,fun h => j40t,fun h=>absurd (h i hlt) j0i3⟩,HB3.out⟩
  ·obtain rfl:i=r.n:=by omega
   go_wp2
   go_ret
   exact⟨⟨_,rfl,fun _=>HI.out,fun _=>rfl⟩,HB.out⟩
theorem rall_is {k:Nat} {w:World} {v:Value} {r:RowX} {b:Bool}(h:RowN k w v r)(hk:k≤1000000)(hr:b=true↔r.mays) :
 Calls Tryz.prog 52 #[v] w fun e w'=>e = .returned (.bool b)∧Below w.heap.size w w':=(rall h hk).mono fun e w' ⟨⟨c,e1,h1⟩,h2⟩=>⟨by rw [e1,Bool.eq_iff_iff.2 (h1.trans hr.symm)],h2⟩
theorem bool_iff(P:Prop) : ∃b:Bool,b=true↔P:=by
 by_cases h:P
 ·exact⟨true,fun _=>h,fun _=>rfl⟩
 ·exact⟨false,fun e => j4vm,fun e=>absurd e h⟩
set_option maxRecDepth 100000 in
set_option maxHeartbeats 8000000 in
theorem rMay {k:Nat} {w:World} {v:Value} {p:LpX}(h:LpQ k w v p)(hk:k≤20000)(h1:1≤k) :
 Calls Tryz.prog 16 #[v] w fun e w'=>e = .returned (.bool (mayB p))∧Below w.heap.size w w':=by
 obtain⟨Ac,cc,Ar,cr,Al,cl,Ah,ch,Ao,co,rfl,hqc,hqr,hql,hqh,hqo,g1,g2,g3,g4,g5⟩:=h.form
 clear h
 have HP:=Lib.hid (show LpQ k w (.agg #[.slice Ac p.cost.n cc,.slice Ar p.m cr,.slice Al p.lo.n cl,.slice Ah p.hi.n ch,.slice Ao p.no co]) p from⟨_,_,_,_,_,rfl,hqc,hqr,hql,hqh,hqo⟩)
 have HCq:=Lib.hid hqc
 have HRq:=Lib.hid hqr
 have HLq:=Lib.hid hql
 have HHq:=Lib.hid hqh
 have HOq:=Lib.hid hqo
 clear hqc hqr hql hqh hqo
 go_enter Tryz.func16,Tryz.ntmps16
 by_cases c1:p.cost.n<1
 ·have hm : ¬MayX p:=fun hm=>by have:=hm.1.1;omega
  have d1:decide ((p.cost.n:Int)<1)=true:=decide_eq_true j0i3
  have n1:((p.cost.n:Int)<1)=True:=eq_true j0i3
  go_wp2
  go_ret
  exact⟨by rw [mayB_false.2 hm];rfl,below_new _ _⟩
 have d1:decide ((p.cost.n:Int)<1)=false:=decide_eq_false j0i3
 have n1:((p.cost.n:Int)<1)=False:=eq_false j0i3
 by_cases c2:24<p.cost.n
 ·have hm : ¬MayX p:=fun hm=>by have:=hm.1.2.1;omega
  have d2:decide ((24:Int)<(p.cost.n:Int))=true:=decide_eq_true j0i3
  have n2:((24:Int)<(p.cost.n:Int))=True:=eq_true j0i3
  go_wp2
  go_ret
  exact⟨by rw [mayB_false.2 hm];rfl,below_new _ _⟩
 have d2:decide ((24:Int)<(p.cost.n:Int))=false:=decide_eq_false j0i3
 have n2:((24:Int)<(p.cost.n:Int))=False:=eq_false j0i3
 by_cases c3:p.lo.n≠p.cost.n
 ·have hm : ¬MayX p:=fun hm=>c3 hm.1.2.2.2.1
  have b3:((p.lo.n:Int) == (p.cost.n:Int))=false := jiut
  have n3 : ¬ ((p.lo.n:Int)=(p.cost.n:Int)) := j0i3
  go_wp2
  go_ret
  exact⟨by rw [mayB_false.2 hm];rfl,below_new _ _⟩
 have b3:((p.lo.n:Int) == (p.cost.n:Int))=true := jiut
 have n3:(p.lo.n:Int)=(p.cost.n:Int) := j0i3
 by_cases c4:p.hi.n≠p.cost.n
 ·have hm : ¬MayX p:=fun hm=>c4 hm.1.2.2.2.2.1
  have b4:((p.hi.n:Int) == (p.cost.n:Int))=false := jiut
  have n4 : ¬ ((p.hi.n:Int)=(p.cost.n:Int)) := j0i3
  go_wp2
  go_ret
  exact⟨by rw [mayB_false.2 hm];rfl,below_new _ _⟩
 have b4:((p.hi.n:Int) == (p.cost.n:Int))=true := jiut
 have n4:(p.hi.n:Int)=(p.cost.n:Int) := j0i3
 by_cases c5:p.no≠p.cost.n
 ·have hm : ¬MayX p:=fun hm=>c5 hm.1.2.2.1
  have b5:((p.no:Int) == (p.cost.n:Int))=false := jiut
  have n5 : ¬ ((p.no:Int)=(p.cost.n:Int)) := j0i3
  go_wp2
  go_ret
  exact⟨by rw [mayB_false.2 hm];rfl,below_new _ _⟩
 have b5:((p.no:Int) == (p.cost.n:Int))=true := jiut
 have n5:(p.no:Int)=(p.cost.n:Int) := j0i3
 by_cases c6:24<p.m
 ·have hm : ¬MayX p:=fun hm=>by have:=hm.1.2.2.2.2.2;omega
  have d6:decide ((24:Int)<(p.m:Int))=true:=decide_eq_true j0i3
  have n6:((24:Int)<(p.m:Int))=True:=eq_true j0i3
  go_wp2
  go_ret
  exact⟨by rw [mayB_false.2 hm];rfl,below_new _ _⟩
 have d6:decide ((24:Int)<(p.m:Int))=false:=decide_eq_false j0i3
 have n6:((24:Int)<(p.m:Int))=False:=eq_false j0i3
 have HLO:Hid (p.lo.n=p.cost.n) := jkha
 have HHI:Hid (p.hi.n=p.cost.n) := jkha
 have HNO:Hid (p.no=p.cost.n) := jkha
 have hn1:1≤p.cost.n := j0i3
 have hn2:p.cost.n≤24 := j0i3
 have hm24:p.m≤24 := j0i3
 clear c3 c4 c5
 obtain⟨ba,ha⟩:=bool_iff p.cost.mays
 have HAa:=Lib.hid ha
 clear ha
 go_wp2_with fail
 refine Calls.mono (rall_is (b:=ba) (HCq.out.below (below_new _ _)) j0i3 HAa.out) ?_
 rintro e wa ⟨rfl,hb⟩
 have HBa:=Lib.hid (below_trans (below_new _ _) jc22)
 have KPa:=Lib.hid (Blk.below (Blk.new _ _ rfl _ _) jc22)
 clear hb
 obtain⟨k0,k1,k2,k3,k4,kl⟩:=KPa.out.use5
 cases ba
 ·have hm : ¬MayX p:=fun hm=>by cases HAa.out.2 hm.2.1.1
  go_wp2
  go_ret
  exact⟨by rw [mayB_false.2 hm];rfl,HBa.out⟩
 have Ma:=Lib.hid (HAa.out.1 rfl)
 clear HAa
 obtain⟨bb,hb⟩:=bool_iff p.lo.mays
 have HAb:=Lib.hid hb
 clear hb
 go_wp2_with fail
 refine Calls.mono (rall_is (b:=bb) (HLq.out.below HBa.out) j0i3 HAb.out) ?_
 rintro e wb ⟨rfl,hb⟩
 have HBb:=Lib.hid (below_trans HBa.out jc22)
 have KPb:=Lib.hid (Blk.below KPa.out jc22)
 clear hb k0 k1 k2 k3 k4 kl HBa KPa
 obtain⟨k0,k1,k2,k3,k4,kl⟩:=KPb.out.use5
 cases bb
 ·have hm : ¬MayX p:=fun hm=>by cases HAb.out.2 hm.2.1.2.1
  go_wp2
  go_ret
  exact⟨by rw [mayB_false.2 hm];rfl,HBb.out⟩
 have Mb:=Lib.hid (HAb.out.1 rfl)
 clear HAb
 obtain⟨bc,hc⟩:=bool_iff p.hi.mays
 have HAc:=Lib.hid hc
 clear hc
 go_wp2_with fail
 refine Calls.mono (rall_is (b:=bc) (HHq.out.below HBb.out) j0i3 HAc.out) ?_
 rintro e wc ⟨rfl,hb⟩
 have HBc:=Lib.hid (below_trans HBb.out jc22)
 have KPc:=Lib.hid (Blk.below KPb.out jc22)
 clear hb k0 k1 k2 k3 k4 kl HBb KPb
 obtain⟨k0,k1,k2,k3,k4,kl⟩:=KPc.out.use5
 cases bc
 ·have hm : ¬MayX p:=fun hm=>by cases HAc.out.2 hm.2.1.2.2
  go_wp2
  go_ret
  exact⟨by rw [mayB_false.2 hm];rfl,HBc.out⟩
 have Mc:=Lib.hid (HAc.out.1 rfl)
 clear HAc
 go_wp2
 go_loopw [4] (fun v4 wr => ∃ (i:Nat),v4 = .int .i64 (i:Nat)∧i≤p.m∧Below wc.heap.size wc wr∧∀q,q<i→(p.row q).coef.n=p.cost.n∧((p.row q).s=0∨(p.row q).s=1∨(p.row q).s=2)∧(p.row q).coef.mays∧0<(p.row q).hb) (fun v4 _=>p.m - (intOf v4).toNat)
 case atStart=>exact⟨0,rfl,Nat.zero_le _,Below.refl _ _,fun q hq=>absurd hq j0i3⟩
 case round =>
  clear k0 k1 k2 k3 k4 kl
  obtain⟨i,rfl,hi,hbw,hinv⟩:=hrel
  have HB1:=Lib.hid hbw
  have HI:=Lib.hid hinv
  clear hinv hbw
  have HBw:=Lib.hid (below_trans HBc.out HB1.out)
  have KP1:=Lib.hid (KPc.out.below HB1.out)
  obtain⟨k0,k1,k2,k3,k4,kl⟩:=KP1.out.use5
  by_cases hlt:i<p.m
  ·have hi0:(0:Int)≤(i:Int):=by omega
   have hik:(i:Int)<(p.m:Int) := j0i3
   obtain⟨ad,c1,⟨xA0,xn0,xc0,xs,⟨xb,xA,xn,xc,xb',xA',xn',xc'⟩⟩,e1,_,_,hat,hRw⟩:=HRq.out.at_ hlt
   obtain⟨x0,x1,x2,x3,x4,x5,x6⟩:=hat.below HBw.out
   simp only [Value.slice.injEq] at e1
   obtain⟨rfl,_,rfl⟩:=e1
   have hxb:=hRw.2.1
   have HX:Hid (xn0=(p.row i).coef.n):=hRw.len
   have HS:Hid (xs=(p.row i).s):=hRw.1
   rw [← HS.out] at hxb
   have HRw:=Lib.hid hRw
   clear hRw
   by_cases e7:xn0≠p.cost.n
   ·have hm : ¬MayX p:=fun hm=>e7 (HX.out.trans (hm.2.2.1 i hlt).1)
    have b7:((xn0:Int) == (p.cost.n:Int))=false := jiut
    have n7 : ¬ ((xn0:Int)=(p.cost.n:Int)) := j0i3
    go_wp2
    go_ret
    exact⟨by rw [mayB_false.2 hm];rfl,below_trans HBw.out (below_new _ _)⟩
   have b7:((xn0:Int) == (p.cost.n:Int))=true := jiut
   have n7:(xn0:Int)=(p.cost.n:Int) := j0i3
   by_cases e8:xs<0
   ·have hm : ¬MayX p:=fun hm=>by have:=(hm.2.2.1 i hlt).2.1;rw [← HS.out] at this;omega
    have d8:decide ((xs:Int)<0)=true:=decide_eq_true j0i3
    have n8:((xs:Int)<0)=True:=eq_true j0i3
    go_wp2
    go_ret
    exact⟨by rw [mayB_false.2 hm];rfl,below_trans HBw.out (below_new _ _)⟩
   have d8:decide ((xs:Int)<0)=false:=decide_eq_false j0i3
   have n8:((xs:Int)<0)=False:=eq_false j0i3
   by_cases e9:2<xs
   ·have hm : ¬MayX p:=fun hm=>by have:=(hm.2.2.1 i hlt).2.1;rw [← HS.out] at this;omega
    have d9:decide ((2:Int)<xs)=true:=decide_eq_true j0i3
    have n9:((2:Int)<xs)=True:=eq_true j0i3
    go_wp2
    go_ret
    exact⟨by rw [mayB_false.2 hm];rfl,below_trans HBw.out (below_new _ _)⟩
   have d9:decide ((2:Int)<xs)=false:=decide_eq_false j0i3
   have n9:((2:Int)<xs)=False:=eq_false j0i3
   obtain⟨bd,hd⟩:=bool_iff ((p.row i).coef.mays)
   have HAd:=Lib.hid hd
   clear hd
   go_wp2_with fail
   refine Calls.mono (rall_is (b:=bd) (HRw.out.2.2.1.below (below_trans HBw.out (below_new _ _))) j0i3 HAd.out) ?_
   rintro e we ⟨rfl,hb⟩
   have HBd:=Lib.hid (below_trans (below_trans HB1.out (below_new _ _)) jc22)
   have K6d:=Lib.hid (Blk.below (Blk.new _ _ rfl _ _) jc22)
   clear hb x0 x1 x2 x3 x4 x5 x6
   obtain⟨y0,y1,y2,y3,y4,y5,yl⟩:=K6d.out.use6
   cases bd
   ·have hm : ¬MayX p:=fun hm=>by cases HAd.out.2 (hm.2.2.1 i hlt).2.2.1
    go_wp2
    go_ret
    exact⟨by rw [mayB_false.2 hm];rfl,below_trans HBc.out HBd.out⟩
   have Md:=Lib.hid (HAd.out.1 rfl)
   clear HAd
   obtain⟨be,he⟩:=bool_iff (0<(p.row i).hb)
   have HAe:=Lib.hid he
   clear he
   go_wp2_with fail
   refine Calls.mono (rmay_is (r:=be) (Bool.eq_iff_iff.2 (decide_eq_true_iff.trans HAe.out.symm)) (HRw.out.2.2.2.below (below_trans HBc.out HBd.out)) j0i3) ?_
   rintro e wf ⟨rfl,hb⟩
   have HBe:=Lib.hid (below_trans HBd.out jc22)
   have K6e:=Lib.hid (Blk.below K6d.out jc22)
   clear hb y0 y1 y2 y3 y4 y5 yl K6d HBd
   obtain⟨y0,y1,y2,y3,y4,y5,yl⟩:=K6e.out.use6
   cases be
   ·have hm : ¬MayX p:=fun hm=>by cases HAe.out.2 (hm.2.2.1 i hlt).2.2.2
    go_wp2
    go_ret
    exact⟨by rw [mayB_false.2 hm];rfl,below_trans HBc.out HBe.out⟩
   have Me:=Lib.hid (HAe.out.1 rfl)
   clear HAe
   go_wp2
   go_roundw
   case rel=>exact⟨i+1,by go_num,by omega,HBe.out,fun q hq=>by
    by_cases hqi:q=i
    ·subst hqi;exact⟨by rw [← HX.out];omega,by rw [← HS.out];omega,Md.out,Me.out⟩
    ·exact HI.out q j0i3⟩
   case measure=>simp [intOf];omega
  ·obtain rfl:i=p.m:=by omega
   obtain⟨wd,rfl⟩ : ∃x,x=wr:=⟨_,rfl⟩
   have HR1:=Lib.hid HI.out
   have HBs:=Lib.hid HBw.out
   have KPs:=Lib.hid KP1.out
   clear HI HB1 HBw KP1
   go_wp2
   go_loopw [6] (fun v6 wr => ∃ (j:Nat),v6 = .int .i64 (j:Nat)∧j≤p.cost.n∧Below wd.heap.size wd wr∧∀q,q<j→p.op q=false→p.lo.q q≤p.hi.q q) (fun v6 _=>p.cost.n - (intOf v6).toNat)
   case atStart=>exact⟨0,rfl,Nat.zero_le _,Below.refl _ _,fun q hq=>absurd hq j0i3⟩
   case round =>
    clear k0 k1 k2 k3 k4 kl
    obtain⟨j,rfl,hj,hbw,hinv⟩:=hrel
    have HB1:=Lib.hid hbw
    have HI:=Lib.hid hinv
    clear hinv hbw
    have HBw:=Lib.hid (below_trans HBs.out HB1.out)
    have KP1:=Lib.hid (KPs.out.below HB1.out)
    obtain⟨k0,k1,k2,k3,k4,kl⟩:=KP1.out.use5
    by_cases hlt:j<p.cost.n
    ·have hj0:(0:Int)≤(j:Int):=by omega
     have hjk:(j:Int)<(p.cost.n:Int) := j0i3
     obtain⟨od,c0,e1,_,_,hob,hoc⟩:=(HOq.out.below HBw.out).at_ (show j<p.no by rw [HNO.out];exact hlt)
     simp only [Value.slice.injEq] at e1
     obtain⟨rfl,_,rfl⟩:=e1
     obtain⟨ld,c1,⟨b5,A5,n5,c5,d5,B5,m5,k5⟩,e1,_,_,hatl,hEl⟩:=(HLq.out.below HBw.out).at_ (show j<p.lo.n by rw [HLO.out];exact hlt)
     simp only [Value.slice.injEq] at e1
     obtain⟨rfl,_,rfl⟩:=e1
     obtain⟨hd,c2,⟨b6,A6,n6,c6,d6,B6,m6,k6⟩,e1,_,_,hath,hEh⟩:=(HHq.out.below HBw.out).at_ (show j<p.hi.n by rw [HHI.out];exact hlt)
     simp only [Value.slice.injEq] at e1
     obtain⟨rfl,_,rfl⟩:=e1
     have hjl:(j:Int)<(p.lo.n:Int) := j3af
     have hjh:(j:Int)<(p.hi.n:Int) := jrze
     have hjo:(j:Int)<(p.no:Int):=by rw [HNO.out];exact hjk
     have HAL:=Lib.hid hatl
     have HAH:=Lib.hid hath
     obtain⟨x0,x1,x2,x3,x4⟩:=hatl
     obtain⟨y0,y1,y2,y3,y4⟩:=hath
     have HEL:=Lib.hid (show LimQ k wr (.agg #[.bool b5,.slice A5 n5 c5,.bool d5,.slice B5 m5 k5]) (p.lo.q j) from⟨_,_,hEl,rfl⟩)
     have HEH:=Lib.hid (show LimQ k wr (.agg #[.bool b6,.slice A6 n6 c6,.bool d6,.slice B6 m6 k6]) (p.hi.q j) from⟨_,_,hEh,rfl⟩)
     clear hEl hEh
     cases hop:p.op j
     ·rw [hop] at hoc
      have HOP:=Lib.hid hop
      clear hop
      rcases cmpQ_cases (p.hi.q j) (p.lo.q j) with ⟨h2,h3⟩ | ⟨h2,h3⟩ | ⟨h2,h3⟩
      ·have H3:=Lib.hid h3
       have HQ:=Lib.hid h2
       clear h2 h3
       go_wp2
       refine wp_region_held_drew (S:=(fun w'=>w'.cell? ⟨w.heap.size,2,none⟩=some (.slice (some ld) p.lo.n cl)∧w'.cell? ⟨w.heap.size,3,none⟩=some (.slice (some hd) p.hi.n ch)∧w'.cell? ⟨w.heap.size,4,none⟩=some (.slice (some od) p.no co)∧w'.cell? (od.add j)=some (.bool false)∧w'.cell? (ld.add (j*4))=some (.bool b5)∧w'.cell? ⟨(ld.add (j*4)).block,(ld.add (j*4)).off+1,none⟩=some (.slice A5 n5 c5)∧w'.cell? ⟨(ld.add (j*4)).block,(ld.add (j*4)).off+2,none⟩=some (.bool d5)∧w'.cell? ⟨(ld.add (j*4)).block,(ld.add (j*4)).off+3,none⟩=some (.slice B5 m5 k5)∧w'.cell? (hd.add (j*4))=some (.bool b6)∧w'.cell? ⟨(hd.add (j*4)).block,(hd.add (j*4)).off+1,none⟩=some (.slice A6 n6 c6)∧w'.cell? ⟨(hd.add (j*4)).block,(hd.add (j*4)).off+2,none⟩=some (.bool d6)∧w'.cell? ⟨(hd.add (j*4)).block,(hd.add (j*4)).off+3,none⟩=some (.slice B6 m6 k6))) jo0f j5p3 (fun hHeld=>?_)
       refine jtk 0 ?_
       refine jtk 1 ?_
       refine jtk 2 ?_
       refine jtk 3 ?_
       refine jtk 4 ?_
       refine jtk 5 ?_
       refine jtk 6 ?_
       refine jtk 7 ?_
       refine jtk 8 ?_
       refine jtk 9 ?_
       refine jtk 10 ?_
       refine jtk 11 ?_
       refine jtk 12 ?_
       refine jtk 13 ?_
       refine jtk 14 ?_
       refine jtk 15 ?_
       refine jtk 16 ?_
       refine jrd 17 fun Kz hKz=>?_
       go_simp
       ((with_reducible refine Calls.mono (rcmp_is (-1) H3.out HEH.out.drew_ HEL.out.drew_ j0i3 j0i3 h1 h1) ?_));rintro e w3 ⟨rfl,hb⟩;have hBw:=(show Below wr.heap.size wr w3 from jc22);have HB3:=Lib.hid (below_trans HBw.out hBw);have HB13:=Lib.hid (below_trans HB1.out hBw);have KP3:=Lib.hid (KP1.out.below hBw);obtain⟨q0,q1,q2,q3,q4,ql⟩:=KP3.out.use5;obtain⟨z0,z1,z2,z3,z4⟩:=HAL.out.below hBw;obtain⟨u0,u1,u2,u3,u4⟩:=HAH.out.below hBw;have hoc3:=(hBw.cell (p:=od.add j) (by rw [add_block];exact hob)).trans hoc;clear hb hBw hoc HEL HEH KP1 HB1 HBw k0 k1 k2 k3 k4 kl x0 x1 x2 x3 x4 y0 y1 y2 y3 y4
       refine hKz.out _ _ jq0d (fun hHeld=>?_)
       clear hKz Kz
       refine jsp ?_
       refine jtk 18 ?_
       refine jtk 19 ?_
       refine wpAnyH_done jo0f ?_ _
       go_wp2
       go_ret
       exact⟨by rw [mayB_false.2 fun hm=>absurd (hm.2.2.2 j (by rw [HNO.out];exact hlt) HOP.out) (Rat.not_le.2 HQ.out)];rfl,HB3.out⟩
      ·have H3:=Lib.hid h3
       have HQ:=Lib.hid (show p.lo.q j≤p.hi.q j from jrot)
       clear h2 h3
       go_wp2
       refine wp_region_held_drew (S:=(fun w'=>w'.cell? ⟨w.heap.size,2,none⟩=some (.slice (some ld) p.lo.n cl)∧w'.cell? ⟨w.heap.size,3,none⟩=some (.slice (some hd) p.hi.n ch)∧w'.cell? ⟨w.heap.size,4,none⟩=some (.slice (some od) p.no co)∧w'.cell? (od.add j)=some (.bool false)∧w'.cell? (ld.add (j*4))=some (.bool b5)∧w'.cell? ⟨(ld.add (j*4)).block,(ld.add (j*4)).off+1,none⟩=some (.slice A5 n5 c5)∧w'.cell? ⟨(ld.add (j*4)).block,(ld.add (j*4)).off+2,none⟩=some (.bool d5)∧w'.cell? ⟨(ld.add (j*4)).block,(ld.add (j*4)).off+3,none⟩=some (.slice B5 m5 k5)∧w'.cell? (hd.add (j*4))=some (.bool b6)∧w'.cell? ⟨(hd.add (j*4)).block,(hd.add (j*4)).off+1,none⟩=some (.slice A6 n6 c6)∧w'.cell? ⟨(hd.add (j*4)).block,(hd.add (j*4)).off+2,none⟩=some (.bool d6)∧w'.cell? ⟨(hd.add (j*4)).block,(hd.add (j*4)).off+3,none⟩=some (.slice B6 m6 k6))) jo0f j5p3 (fun hHeld=>?_)
       refine jtk 0 ?_
       refine jtk 1 ?_
       refine jtk 2 ?_
       refine jtk 3 ?_
       refine jtk 4 ?_
       refine jtk 5 ?_
       refine jtk 6 ?_
       refine jtk 7 ?_
       refine jtk 8 ?_
       refine jtk 9 ?_
       refine jtk 10 ?_
       refine jtk 11 ?_
       refine jtk 12 ?_
       refine jtk 13 ?_
       refine jtk 14 ?_
       refine jtk 15 ?_
       refine jtk 16 ?_
       refine jrd 17 fun Kz hKz=>?_
       go_simp
       ((with_reducible refine Calls.mono (rcmp_is 0 H3.out HEH.out.drew_ HEL.out.drew_ j0i3 j0i3 h1 h1) ?_));rintro e w3 ⟨rfl,hb⟩;have hBw:=(show Below wr.heap.size wr w3 from jc22);have HB3:=Lib.hid (below_trans HBw.out hBw);have HB13:=Lib.hid (below_trans HB1.out hBw);have KP3:=Lib.hid (KP1.out.below hBw);obtain⟨q0,q1,q2,q3,q4,ql⟩:=KP3.out.use5;obtain⟨z0,z1,z2,z3,z4⟩:=HAL.out.below hBw;obtain⟨u0,u1,u2,u3,u4⟩:=HAH.out.below hBw;have hoc3:=(hBw.cell (p:=od.add j) (by rw [add_block];exact hob)).trans hoc;clear hb hBw hoc HEL HEH KP1 HB1 HBw k0 k1 k2 k3 k4 kl x0 x1 x2 x3 x4 y0 y1 y2 y3 y4
       refine hKz.out _ _ jq0d (fun hHeld=>?_)
       clear hKz Kz
       refine jsp ?_
       refine jtk 18 ?_
       refine jtk 19 ?_
       refine wpAnyH_done jo0f ?_ _
       go_wp2
       go_roundw
       case rel=>exact⟨j+1,by go_num,by omega,HB13.out,fun q hq ho=>by
        by_cases hqj:q=j
        ·subst hqj;exact HQ.out
        ·exact HI.out q j0i3 ho⟩
       case measure=>simp [intOf];omega
      ·have H3:=Lib.hid h3
       have HQ:=Lib.hid (show p.lo.q j≤p.hi.q j from Rat.le_of_lt h2)
       clear h2 h3
       go_wp2
       refine wp_region_held_drew (S:=(fun w'=>w'.cell? ⟨w.heap.size,2,none⟩=some (.slice (some ld) p.lo.n cl)∧w'.cell? ⟨w.heap.size,3,none⟩=some (.slice (some hd) p.hi.n ch)∧w'.cell? ⟨w.heap.size,4,none⟩=some (.slice (some od) p.no co)∧w'.cell? (od.add j)=some (.bool false)∧w'.cell? (ld.add (j*4))=some (.bool b5)∧w'.cell? ⟨(ld.add (j*4)).block,(ld.add (j*4)).off+1,none⟩=some (.slice A5 n5 c5)∧w'.cell? ⟨(ld.add (j*4)).block,(ld.add (j*4)).off+2,none⟩=some (.bool d5)∧w'.cell? ⟨(ld.add (j*4)).block,(ld.add (j*4)).off+3,none⟩=some (.slice B5 m5 k5)∧w'.cell? (hd.add (j*4))=some (.bool b6)∧w'.cell? ⟨(hd.add (j*4)).block,(hd.add (j*4)).off+1,none⟩=some (.slice A6 n6 c6)∧w'.cell? ⟨(hd.add (j*4)).block,(hd.add (j*4)).off+2,none⟩=some (.bool d6)∧w'.cell? ⟨(hd.add (j*4)).block,(hd.add (j*4)).off+3,none⟩=some (.slice B6 m6 k6))) jo0f j5p3 (fun hHeld=>?_)
       refine jtk 0 ?_
       refine jtk 1 ?_
       refine jtk 2 ?_
       refine jtk 3 ?_
       refine jtk 4 ?_
       refine jtk 5 ?_
       refine jtk 6 ?_
       refine jtk 7 ?_
       refine jtk 8 ?_
       refine jtk 9 ?_
       refine jtk 10 ?_
       refine jtk 11 ?_
       refine jtk 12 ?_
       refine jtk 13 ?_
       refine jtk 14 ?_
       refine jtk 15 ?_
       refine jtk 16 ?_
       refine jrd 17 fun Kz hKz=>?_
       go_simp
       ((with_reducible refine Calls.mono (rcmp_is 1 H3.out HEH.out.drew_ HEL.out.drew_ j0i3 j0i3 h1 h1) ?_));rintro e w3 ⟨rfl,hb⟩;have hBw:=(show Below wr.heap.size wr w3 from jc22);have HB3:=Lib.hid (below_trans HBw.out hBw);have HB13:=Lib.hid (below_trans HB1.out hBw);have KP3:=Lib.hid (KP1.out.below hBw);obtain⟨q0,q1,q2,q3,q4,ql⟩:=KP3.out.use5;obtain⟨z0,z1,z2,z3,z4⟩:=HAL.out.below hBw;obtain⟨u0,u1,u2,u3,u4⟩:=HAH.out.below hBw;have hoc3:=(hBw.cell (p:=od.add j) (by rw [add_block];exact hob)).trans hoc;clear hb hBw hoc HEL HEH KP1 HB1 HBw k0 k1 k2 k3 k4 kl x0 x1 x2 x3 x4 y0 y1 y2 y3 y4
       refine hKz.out _ _ jq0d (fun hHeld=>?_)
       clear hKz Kz
       refine jsp ?_
       refine jtk 18 ?_
       refine jtk 19 ?_
       refine wpAnyH_done jo0f ?_ _
       go_wp2
       go_roundw
       case rel=>exact⟨j+1,by go_num,by omega,HB13.out,fun q hq ho=>by
        by_cases hqj:q=j
        ·subst hqj;exact HQ.out
        ·exact HI.out q j0i3 ho⟩
       case measure=>simp [intOf];omega
     ·rw [hop] at hoc
      have HOP:=Lib.hid hop
      clear hop
      go_wp2
      refine wp_region_held_drew (S:=(fun w'=>w'.cell? ⟨w.heap.size,4,none⟩=some (.slice (some od) p.no co)∧w'.cell? (od.add j)=some (.bool true))) jo0f j5p3 (fun hHeld=>?_)
      refine jtk 0 ?_
      refine jtk 1 ?_
      refine jtk 2 ?_
      refine jtk 3 ?_
      refine jtk 4 ?_
      refine jtk 5 ?_
      refine jtk 6 ?_
      refine jsk 7 ?_
      refine jsk 8 ?_
      refine jsk 9 ?_
      refine jsk 10 ?_
      refine jsk 11 ?_
      refine jsk 12 ?_
      refine jsk 13 ?_
      refine jsk 14 ?_
      refine jsk 15 ?_
      refine jsk 16 ?_
      refine jsk 17 ?_
      refine jsk 18 ?_
      refine jtk 19 ?_
      refine wpAnyH_done jo0f ?_ _
      go_wp2
      go_roundw
      case rel=>exact⟨j+1,by go_num,by omega,HB1.out.drew,fun q hq ho=>by
       by_cases hqj:q=j
       ·subst hqj;rw [HOP.out] at ho;cases ho
       ·exact HI.out q j0i3 ho⟩
      case measure=>simp [intOf];omega
    ·obtain rfl:j=p.cost.n:=by omega
     go_wp2
     go_ret
     exact⟨by rw [mayB_true.2 ⟨⟨hn1,hn2,HNO.out,HLO.out,HHI.out,hm24⟩,⟨Ma.out,Mb.out,Mc.out⟩,HR1.out,fun q hq=>HI.out q (by rw [← HNO.out];exact hq)⟩];rfl,HBw.out⟩
end Go.Proofs.YtgilnmhejjpleaaGreat
namespace Go.Proofs.YtgilnmhejjpleaaGreat
open Go.RowKit
attribute [local go_sem ↓] Go.wp_at_zero Go.wp_at_succ
set_option linter.unusedVariables false
set_option linter.unusedSimpArgs false
theorem LpQ.rows {k:Nat} {w:World} {a b c d e:Value} {p:LpX}(h:LpQ k w (.agg #[a,b,c,d,e]) p):RowN k w a p.cost∧RwsN k w b p.m p.row∧RowN k w c p.lo∧RowN k w d p.hi∧BoolsN w e p.no p.op:=by
 obtain⟨vc,vr,vl,vh,vo,he,h⟩:=h
 obtain⟨rfl,rfl,rfl,rfl,rfl⟩:a=vc∧b=vr∧c=vl∧d=vh∧e=vo:=by simpa using he
 exact h
end Go.Proofs.YtgilnmhejjpleaaGreat
namespace Go.Proofs.YtgilnmhejjpleaaGreat
open Go.RowKit
set_option linter.unusedSimpArgs false
set_option linter.unusedVariables false
set_option maxRecDepth 100000
def rw6Z:Rw6:=⟨none,0,0,0,ratZ⟩
theorem row_info:(Tryz.prog.info? 60).map (fun i=>(i.zero,i.size,i.bytes))=some (some rw6Z.val,6,96):=by kernel_rfl
theorem rw6L_len(x:Rw6):(rw6L x).length=6:=rfl
theorem rw6L_nu(x:Rw6) : ∀u∈rw6L x,Nu u:=fun u hu=>by
 simp [rw6L,ratL] at hu
 rcases hu with rfl | rfl | rfl | rfl | rfl | rfl <;> exact nu
theorem rw6L_one(x:Rw6) : ∀u∈rw6L x,u.oneCell'=true:=fun u hu=>by
 simp [rw6L,ratL] at hu
 rcases hu with rfl | rfl | rfl | rfl | rfl | rfl <;> rfl
def flat6(L:List Rw6):List Value:=L.flatMap rw6L
theorem flat6_get {j:Nat}(hj:j<6) : ∀ (L:List Rw6) (i:Nat),i<L.length→(flat6 L)[i*6+j]? = (rw6L (L[i]?.getD rw6Z))[j]?
 | [],i,h=>absurd h (Nat.not_lt_zero i)
 |x :: L,0,_=>by
  rw [flat6,List.flatMap_cons,List.getElem?_append_left (by rw [rw6L_len];omega)]
  simp
 |x :: L,i+1,h=>by
  have h':i<L.length:=by simpa using h
  have:=flat6_get hj L i h'
  rw [flat6] at this
  rw [flat6,List.flatMap_cons,List.getElem?_append_right (by rw [rw6L_len];omega),rw6L_len,show(i+1)*6+j - 6=i*6+j by omega,this]
  simp
def Own6(base:Nat)(w:World)(v:Value)(L:List Rw6):Prop:=OwnN w base 60 6 v L.length (flat6 L)
section
variable {base:Nat} {w w' W W':World} {v:Value} {L:List Rw6}
theorem Own6.nil:Own6 base w (.slice none 0 0) []:=OwnN.nil
theorem Own6.below(h:Own6 base w v L)(hb:Below w.heap.size w w'):Own6 base w' v L:=OwnN.below h hb
theorem Own6.at_(h:Own6 base w v L) : ∃A c,v = .slice A L.length c∧Fits A L.length c∧∀i,i<L.length→∃ad,A=some ad∧Rw6At w (ad.add (i*6)) (L[i]?.getD rw6Z):=by
 rcases h.2 with ⟨e,e2⟩ | ⟨g,cap,cur,e,_,h3,h4,_,h6,h7,_⟩
 ·exact⟨none,0,by rw [e,e2],⟨by omega,fun _=>rfl⟩,fun i hi=>absurd hi j0i3⟩
 ·refine⟨some ⟨g,0,none⟩,cap,e,⟨h4,fun e=>by cases e⟩,fun i hi=>⟨_,rfl,?_⟩⟩
  have hc : ∀j,j<6→w.cell? ⟨g,i*6+j,none⟩=(rw6L (L[i]?.getD rw6Z))[j]? := fun j hj=>by
   rw [h3.cell,← flat6_get hj L i hi,← h7,List.getElem?_take_of_lt j0i3,← Array.getElem?_toList]
  rw [add_mk,Nat.zero_add]
  exact⟨h3.lt,hc 0 j0i3,hc 1 j0i3,hc 2 j0i3,hc 3 j0i3,hc 4 j0i3,hc 5 j0i3⟩
variable {P:Program} {Q:Exit→Act→World→Prop} {ops:Array Oper} {rest:List Oper} {o:Oper} {a:Act}
theorem wpList_app6(hP:P=Tryz.prog)(hgd:o.guard=none)(s x:Operand)(ho:o.op = .call { callee := .builtin .append,args := #[s,x],argTypes := #[23,23] })
 {g:Nat} {A:Option Addr} {n c:Nat} {z:Int} {b b':Bool} {B B':Option Addr} {m d m' d':Nat} (hs:a.eval s=v) (hown:Own6 base w v L) (hx:a.eval x = .slice (some ⟨g,0,none⟩) 1 1) (hg:g=w.heap.size) (hl:L.length≤1000) (hbase:base≤w.heap.size)
 (h : ∀v' w',Own6 base w' v' (L ++ [⟨A,n,c,z,⟨b,B,m,d,b',B',m',d'⟩⟩])→Fz base 60 (w.alloc (.cells #[.slice A n c,.int .i64 z,.bool b,.slice B m d,.bool b',.slice B' m' d'] 60)) w'→wpList P ops Q rest (a.put o.dst v') w') :
 wpList P ops Q (o :: rest) a (w.alloc (.cells #[.slice A n c,.int .i64 z,.bool b,.slice B m d,.bool b',.slice B' m' d'] 60)):=by
 subst hP
 obtain⟨y,hy⟩ : ∃y:Rw6,y=⟨A,n,c,z,⟨b,B,m,d,b',B',m',d'⟩⟩:=⟨_,rfl⟩
 have hk:=Blk.new w g hg 60 #[.slice A n c,.int .i64 z,.bool b,.slice B m d,.bool b',.slice B' m' d']
 obtain⟨i,hi,hz,hs',hby⟩:=info_parts row_info
 have news : ∀j u,(rw6L y)[j]? = some u→(w.alloc (.cells #[.slice A n c,.int .i64 z,.bool b,.slice B m d,.bool b',.slice B' m' d'] 60)).cell? ((⟨g,0,none⟩:Addr).add j)=some u:=fun j u hj=>by
  rw [add_mk,Nat.zero_add,hk.cell,← hj,hy,← Array.getElem?_toList]
  rfl
 obtain⟨v',w',h1,h2,h3⟩:=run_append_ownN (P:=Tryz.prog) o.type 23 60 i rw6Z.val 6 96 Tryz.underlying23 hi hz hs' hby rfl j0i3 (rw6L_nu rw6Z) (OwnN.below hown (below_new _ _)) ⟨g,0,none⟩ 1 1 (rw6L y) rfl news (rw6L_one y) (rw6L_nu y) j22u j0i3 jb6b
 refine Go.Lib.wpList_append_run _ hgd s x _ _ ho v _ hs hx v' w' h1 (h v' w' ?_ h3)
 have e:flat6 (L ++ [y])=flat6 L ++ rw6L y:=by simp [flat6]
 rw [← hy]
 show OwnN w' base 60 6 v' (L ++ [y]).length (flat6 (L ++ [y]))
 rw [e,List.length_append]
 exact h2
def ShI(w W:World)(p:LpX)(y:Nat→Rat)(L:List Rw6):Prop := ∀i,i<L.length→(L[i]?.getD rw6Z).s=(p.row i).s∧RowN 1 w (.slice (L[i]?.getD rw6Z).A (L[i]?.getD rw6Z).n (L[i]?.getD rw6Z).c) (p.row i).coef∧LimR 75 W (L[i]?.getD rw6Z).r.val (shR p y i).num ((shR p y i).den:Int)
variable {p:LpX} {y:Nat→Rat}
theorem ShI.nil:ShI w W p y []:=fun i hi=>absurd hi (Nat.not_lt_zero i)
theorem ShI.below(h:ShI w W p y L)(hb:Below W.heap.size W W'):ShI w W' p y L:=fun i hi=>⟨(h i hi).1,(h i hi).2.1,(h i hi).2.2.below hb⟩
theorem ShI.kp(h:ShI w W p y L)(hk:Kp W W'):ShI w W' p y L:=fun i hi=>⟨(h i hi).1,(h i hi).2.1,(h i hi).2.2.kp hk⟩
theorem ShI.app {z:Rw6}(h:ShI w W p y L)(hs:z.s=(p.row L.length).s)(hc:RowN 1 w (.slice z.A z.n z.c) (p.row L.length).coef)(hr:LimR 75 W z.r.val (shR p y L.length).num ((shR p y L.length).den:Int)):ShI w W p y (L ++ [z]):=fun i hi=>by
 by_cases h1:i<L.length
 ·rw [List.getElem?_append_left h1];exact h i h1
 ·obtain rfl:i=L.length:=by simp at hi;omega
  rw [List.getElem?_append_right (Nat.le_refl _),Nat.sub_self]
  exact⟨hs,hc,hr⟩
theorem ShI.rws(h:ShI w W p y L)(hm:MayX p)(ho:Own6 base W v L)(hL:L.length=p.m)(hb:Below w.heap.size w W):RwsN 75 W v p.m (shP p y).row:=by
 obtain⟨A,c,e,hf,hat⟩:=ho.at_
 refine⟨A,c,fun i=>L[i]?.getD rw6Z,by rw [e,hL],hL▸hf,by have:=hm.1.2.2.2.2.2;omega,fun i hi=>hat i j0i3,fun i hi=>?_⟩
 obtain⟨h1,h2,h3⟩:=h i j0i3
 have hs:=(hm.2.2.1 i hi).2.1
 exact⟨h1,⟨by show -9223372036854775808≤(p.row i).s;omega,by show(p.row i).s≤9223372036854775807;omega⟩,(h2.below hb).more j0i3,h3⟩
end
end Go.Proofs.YtgilnmhejjpleaaGreat
