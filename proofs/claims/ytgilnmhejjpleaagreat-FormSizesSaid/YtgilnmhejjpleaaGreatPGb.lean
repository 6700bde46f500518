/- Contract of the document: Few of a problem. -/
import Derived.Test.YtgilnmhejjpleaaGreatPGa
import Derived.Test.YtgilnmhejjpleaaGreatPFe
namespace Go.Proofs.YtgilnmhejjpleaaGreat
open Go.RowKit
attribute [local go_sem ↓] Go.wp_at_zero Go.wp_at_succ
set_option linter.unusedVariables false
set_option linter.unusedSimpArgs false
def YesIf(w w':World)(e:Ending)(P:Prop):Prop:=(∃b,e = .returned (.bool b)∧(b=true→P))∧Below w.heap.size w w'
theorem one_rowR(w:World)(x:RatD) {X Y:Int}(h:x.n≤1→x.n'≤1→LimR 1 w x.val X Y):RowR (w.alloc (.cells #[.bool x.b,.slice x.A x.n x.c,.bool x.b',.slice x.A' x.n' x.c'] 36)) (.slice (some ⟨w.heap.size,0,none⟩) 1 1) 1 (fun _=>x) (fun _=>ratOf X Y) :=
 ⟨_,1,rfl,⟨Nat.le_refl _,fun e=>by cases e⟩,by omega,rowAt_one w _ rfl x,fun i hi g g'=>⟨_,_,(h g g').below (below_new _ _),rfl⟩⟩
set_option maxRecDepth 100000 in
set_option maxHeartbeats 4000000 in
theorem rfew11 {w:World} {v:Value} {D:LpY} {N:Nat}(h:LpC w v D)(hN:N≤1000) :
 Calls Tryz.prog 10 #[v,.int .i64 (N:Nat)] w fun e w'=>YesIf w w' e (FewL D N):=by
 obtain⟨vc,vr,vl,vh,vo,rfl,hc,hr,hl,hh,ho⟩:=h
 obtain⟨Ac,cc,rfl,_,nc0,_⟩:=id hc
 obtain⟨Ar,cr,rfl,_,nm0,hr1,hr2⟩:=id hr
 obtain⟨Al,cl,rfl,_,nl0,_⟩:=id hl
 obtain⟨Ah,ch,rfl,_,nh0,_⟩:=id hh
 obtain⟨Ao,co,rfl,_,no0,_⟩:=id ho
 have HC:=Lib.hid hc.rowR
 have HLo:=Lib.hid hl.rowR
 have HHi:=Lib.hid hh.rowR
 have HR1:=Lib.hid hr1
 have HR2:=Lib.hid hr2
 clear hc hr hl hh ho hr1 hr2
 go_enter Tryz.func10,Tryz.ntmps10
 go_wp2_with fail
 refine Calls.mono (rfew (HC.out.alloc_ _) hN) ?_
 rintro e wq ⟨⟨b,rfl,hb⟩,hw⟩
 have hw':=hw.symm
 subst hw'
 clear hw
 cases b
 ·clear hb
  go_wp2
  go_ret
  exact⟨⟨_,rfl,fun h => j0n⟩,below_new _ _⟩
 have F1:=Lib.hid (hb.1 rfl)
 clear hb
 go_wp2_with fail
 refine Calls.mono (rfew (HLo.out.alloc_ _) hN) ?_
 rintro e wq ⟨⟨b,rfl,hb⟩,hw⟩
 have hw':=hw.symm
 subst hw'
 clear hw
 cases b
 ·clear hb
  go_wp2
  go_ret
  exact⟨⟨_,rfl,fun h => j0n⟩,below_new _ _⟩
 have F2:=Lib.hid (hb.1 rfl)
 clear hb
 go_wp2_with fail
 refine Calls.mono (rfew (HHi.out.alloc_ _) hN) ?_
 rintro e wq ⟨⟨b,rfl,hb⟩,hw⟩
 have hw':=hw.symm
 subst hw'
 clear hw
 cases b
 ·clear hb
  go_wp2
  go_ret
  exact⟨⟨_,rfl,fun h => j0n⟩,below_new _ _⟩
 have F3:=Lib.hid (hb.1 rfl)
 clear hb
 by_cases h100:100<D.no
 ·have d1:(100:Int)<(D.no:Int):=by omega
  go_wp2
  go_ret
  exact⟨⟨_,rfl,fun h => j0n⟩,below_new _ _⟩
 have d1 : ¬ ((100:Int)<(D.no:Int)) := j0a
 have d2:decide ((100:Int)<(D.no:Int))=false:=decide_eq_false d1
 by_cases hmN:N<D.m
 ·have d3:(N:Int)<(D.m:Int):=by omega
  go_wp2
  go_ret
  exact⟨⟨_,rfl,fun h => j0n⟩,below_new _ _⟩
 have d3 : ¬ ((N:Int)<(D.m:Int)) := j0a
 have d4:decide ((N:Int)<(D.m:Int))=false:=decide_eq_false d3
 have HB1:=Lib.hid (show Below w.heap.size w (w.alloc (.cells #[.slice Ac D.cost.n cc,.slice Ar D.m cr,.slice Al D.lo.n cl,.slice Ah D.hi.n ch,.slice Ao D.no co] 26)) from below_new _ _)
 have KP1:=Lib.hid (show Blk (w.alloc (.cells #[.slice Ac D.cost.n cc,.slice Ar D.m cr,.slice Al D.lo.n cl,.slice Ah D.hi.n ch,.slice Ao D.no co] 26)) w.heap.size 26 #[.slice Ac D.cost.n cc,.slice Ar D.m cr,.slice Al D.lo.n cl,.slice Ah D.hi.n ch,.slice Ao D.no co] from Blk.new _ _ rfl _ _)
 go_wp2
 generalize (w.alloc (.cells #[.slice Ac D.cost.n cc,.slice Ar D.m cr,.slice Al D.lo.n cl,.slice Ah D.hi.n ch,.slice Ao D.no co] 26))=w1 at *
 go_loopw [5] (fun v5 wr => ∃ (i:Nat),v5 = .int .i64 (i:Nat)∧i≤D.m∧Below w1.heap.size w1 wr∧∀q,q<i→FewP (D.Y q).n (D.X q) N∧(D.Y q).r.n≤1∧(D.Y q).r.n'≤1) (fun v5 _=>D.m - (intOf v5).toNat)
 case atStart=>exact⟨0,rfl,Nat.zero_le _,Below.refl _ _,fun q hq=>absurd hq j0a⟩
 case round =>
  obtain⟨i,rfl,hi,hbw,hinv⟩:=hrel
  have HB2:=Lib.hid hbw
  have HI:=Lib.hid hinv
  clear hbw hinv
  have HBw:=Lib.hid (below_trans HB1.out HB2.out)
  have KP2:=Lib.hid (KP1.out.below HB2.out)
  obtain⟨k0,k1,k2,k3,k4,kl⟩:=KP2.out.use5
  by_cases hlt:i<D.m
  ·have hi0:(0:Int)≤(i:Int):=by omega
   have hik:(i:Int)<(D.m:Int) := j0a
   obtain⟨ad,e1,hat⟩:=HR1.out i hlt
   have h2:=HR2.out i hlt
   subst e1
   obtain⟨⟨xA0,xn0,xc0,xs,⟨b9,A9,n9,c9,d9,B9,m9,k9⟩⟩,hY⟩ : ∃z,D.Y i=z:=⟨_,rfl⟩
   rw [hY] at hat h2
   obtain⟨x0,x1,x2,x3,x4,x5,x6⟩:=hat.below HBw.out
   have HY:=Lib.hid hY
   have HRc:=Lib.hid (h2.2.1.rowR.below HBw.out)
   have HRh:=Lib.hid (fun g g'=>(h2.2.2 g g').below HBw.out)
   clear hY hat h2
   go_wp2_with fail
   refine Calls.mono (rfew HRc.out hN) ?_
   rintro e wq ⟨⟨b,rfl,hb⟩,hw⟩
   have hw':=hw.symm
   subst hw'
   clear hw
   cases b
   ·clear hb
    go_wp2
    go_ret
    exact⟨⟨_,rfl,fun h => j0n⟩,HBw.out⟩
   have F4:=Lib.hid (hb.1 rfl)
   clear hb
   go_wp2_with fail
   refine Calls.mono (rfew (N:=1) (one_rowR wr ⟨b9,A9,n9,c9,d9,B9,m9,k9⟩ HRh.out) j0a) ?_
   rintro e wq ⟨⟨b,rfl,hb⟩,hw⟩
   have hw':=hw.symm
   subst hw'
   clear hw
   cases b
   ·clear hb
    go_wp2
    go_ret
    exact⟨⟨_,rfl,fun h => j0n⟩,below_trans HBw.out (below_new _ _)⟩
   have F5:=Lib.hid ((hb.1 rfl).2 0 j0a)
   clear hb
   have HB3:=Lib.hid (below_trans HB2.out (below_new wr (.cells #[.bool b9,.slice A9 n9 c9,.bool d9,.slice B9 m9 k9] 36)))
   go_wp2
   go_roundw
   case rel=>exact⟨i+1,by go_num,by omega,HB3.out,fun q hq=>by
    by_cases hqi:q=i
    ·subst hqi;rw [HY.out];exact⟨F4.out,F5.out⟩
    ·exact HI.out q j0a⟩
   case measure=>simp [intOf];omega
  ·obtain rfl:i=D.m:=by omega
   go_wp2
   go_ret
   exact⟨⟨_,rfl,fun _=>⟨⟨F1.out,F2.out,F3.out,by omega,by omega⟩,HI.out⟩⟩,HBw.out⟩
end Go.Proofs.YtgilnmhejjpleaaGreat
