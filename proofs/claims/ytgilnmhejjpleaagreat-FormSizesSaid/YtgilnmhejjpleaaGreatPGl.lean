/- Mathematics: what numbers fulfil a problem, and the columns' numbers of it. Nothing of memory is in here. -/
import Derived.Test.YtgilnmhejjpleaaGreatPFk
import Derived.Test.YtgilnmhejjpleaaGreatPFg
import Derived.Test.YtgilnmhejjpleaaGreatPGb
import Derived.Test.YtgilnmhejjpleaaGreatPGc
import Derived.Test.YtgilnmhejjpleaaGreatPGa
namespace Go.Proofs.YtgilnmhejjpleaaGreat
open Go.RowKit
set_option linter.unusedSimpArgs false
set_option linter.unusedVariables false
def scnt(p:LpX):Nat→Nat
 | 0=>0
 |i+1=>scnt p i+(if (p.row i).s=1 then 0 else 1)
theorem slkL_len2(p:LpX) : ∀n,(slkL p n).length=scnt p n
 | 0=>rfl
 |n+1=>by
  rw [slkL,List.length_append,slkL_len2 p n,scnt]
  split <;> simp
theorem colL_len2(p:LpX):(colL p).length=p.no+scnt p p.m+cntF p.op p.no:=by rw [colL,List.length_append,List.length_append,varL_len,endL_len,slkL_len2]
section
variable {p:LpX} {x:Nat→Rat} {i:Nat}
end
end Go.Proofs.YtgilnmhejjpleaaGreat
namespace Go.Proofs.YtgilnmhejjpleaaGreat
open Go.RowKit
attribute [local go_sem ↓] Go.wp_at_zero Go.wp_at_succ
set_option linter.unusedVariables false
set_option linter.unusedSimpArgs false
theorem LpC.alloc_ {w:World} {v:Value} {D:LpY}(h:LpC w v D)(o:Obj):LpC (w.alloc o) v D:=h.below (below_new w o)
theorem stdB_nn(p:LpX)(i:Nat):0≤stdB p i:=by
 unfold stdB sgnF
 split
 ·grind
 ·grind
theorem few_std {w:World} {v:Value} {p:LpX}(h:LpQ 1 w v p)(hm:MayX p):rowsC p≤48∧(colL p).length≤72:=by
 have h1:=colL_len p
 have h2:=cntF_le p.op p.no
 have h3:=hm.1
 unfold rowsC
 omega
set_option maxRecDepth 100000 in
set_option maxHeartbeats 8000000 in
theorem form_sizes {w:World} {v:Value} {D:LpY}(h:LpC w v D) :
 Calls Tryz.prog 7 #[v] w fun e w'=>e = .returned (.bool true)∧Below w.heap.size w w':=by
 obtain⟨vc,vr,vl,vh,vo,rfl,hc,hr,hl,hh,ho⟩:=h
 obtain⟨Ac,cc,rfl,_,nc0,_⟩:=id hc
 obtain⟨Ar,cr,rfl,_,nm0,hr1,hr2⟩:=id hr
 obtain⟨Al,cl,rfl,_,nl0,_⟩:=id hl
 obtain⟨Ah,ch,rfl,_,nh0,_⟩:=id hh
 obtain⟨Ao,co,rfl,_,no0,ho1⟩:=id ho
 have c_0:=Lib.hid (show LpC w (.agg #[.slice Ac D.cost.n cc,.slice Ar D.m cr,.slice Al D.lo.n cl,.slice Ah D.hi.n ch,.slice Ao D.no co]) D from⟨_,_,_,_,_,rfl,hc,hr,hl,hh,ho⟩)
 clear hc hr hl hh ho hr1 hr2 ho1
 go_enter Tryz.func7,Tryz.ntmps7
 go_wp2_with fail
 generalize hW:w.alloc (.cells #[.slice Ac D.cost.n cc,.slice Ar D.m cr,.slice Al D.lo.n cl,.slice Ah D.hi.n ch,.slice Ao D.no co] 26)=w1
 have hz_1:=Lib.hid (show w1.heap.size=w.heap.size+1 from j0i)
 have c_1:=Lib.hid (hW▸c_0.out.alloc_ _)
 have kp_1:Hid (Blk w1 w.heap.size 26 #[.slice Ac D.cost.n cc,.slice Ar D.m cr,.slice Al D.lo.n cl,.slice Ah D.hi.n ch,.slice Ao D.no co]) := j0z
 have HB_1:=Lib.hid (show Below w.heap.size w w1 from hW▸halloc (Below.refl _ _))
 clear hW c_0
 refine Calls.mono (awake11 _) ?_
 rintro e w2 ⟨rfl,hb⟩
 have hBw:=(show Below w1.heap.size w1 w2 from j0g)
 have c_2:=Lib.hid (c_1.out.below hBw)
 have kp_2:=Lib.hid (kp_1.out.below hBw)
 have HB_2:=Lib.hid (below_trans HB_1.out hBw)
 clear hBw hb c_1 kp_1 HB_1
 obtain⟨u0,u1,u2,u3,u4,ul⟩:=kp_2.out.use5
 go_wp2_with fail
 refine Calls.mono (rfew11 (N:=5) c_2.out j0a) ?_
 rintro e w3 ⟨⟨b,rfl,hf⟩,hb⟩
 have hBw:=(show Below w2.heap.size w2 w3 from j0g)
 have c_3:=Lib.hid (c_2.out.below hBw)
 have kp_3:=Lib.hid (kp_2.out.below hBw)
 have HB_3:=Lib.hid (below_trans HB_2.out hBw)
 clear hBw hb c_2 kp_2 HB_2
 clear u0 u1 u2 u3 u4 ul
 cases b
 ·clear hf
  go_wp2
  go_ret
  exact⟨rfl,HB_3.out⟩
 have HF:=Lib.hid (hf rfl)
 clear hf
 have lp_3:=Lib.hid (c_3.out.few HF.out j0a)
 obtain⟨u0,u1,u2,u3,u4,ul⟩:=kp_3.out.use5
 by_cases hm:MayX D.lp
 rotate_left 1
 ·go_wp2_with fail
  refine Calls.mono (pstd_no lp_3.out hm j0a j0a) ?_
  rintro e w4 ⟨vr,rfl,hR,hb⟩
  obtain⟨b4,A4,n4,c4,d4,B4,m4,k4,rfl,-,-,-,-,-⟩:=id hR.form
  have hBw:=(show Below w3.heap.size w3 w4 from j0g)
  have c_4:=Lib.hid (c_3.out.below hBw)
  have kp_4:=Lib.hid (kp_3.out.below hBw)
  have lp_4:=Lib.hid (lp_3.out.below hBw)
  have HB_4:=Lib.hid (below_trans HB_3.out hBw)
  clear hBw hb c_3 kp_3 lp_3 HB_3
  clear hR u0 u1 u2 u3 u4 ul
  go_upto_region 6 with fail
  generalize hW:w4.alloc (.cells #[.slice none 0 0,.slice none 0 0,.slice none 0 0] 31)=w5
  have hz_5:=Lib.hid (show w5.heap.size=w4.heap.size+1 from j0i)
  have c_5:=Lib.hid (hW▸c_4.out.alloc_ _)
  have kp_5:=Lib.hid (hW▸kp_4.out.alloc_ _)
  have lp_5:=Lib.hid (hW▸lp_4.out.alloc_ _)
  have ks_5:Hid (Blk w5 w4.heap.size 31 #[.slice none 0 0,.slice none 0 0,.slice none 0 0]) := j0z
  have HB_5:=Lib.hid (show Below w.heap.size w w5 from hW▸halloc HB_4.out)
  clear hW c_4 kp_4 lp_4 HB_4
  generalize hW:w5.alloc (.cells #[.bool b4,.slice A4 n4 c4,.bool d4,.slice B4 m4 k4] 36)=w6
  have hz_6:=Lib.hid (show w6.heap.size=w5.heap.size+1 from j0i)
  have c_6:=Lib.hid (hW▸c_5.out.alloc_ _)
  have kp_6:=Lib.hid (hW▸kp_5.out.alloc_ _)
  have lp_6:=Lib.hid (hW▸lp_5.out.alloc_ _)
  have ks_6:=Lib.hid (hW▸ks_5.out.alloc_ _)
  have HB_6:=Lib.hid (show Below w.heap.size w w6 from hW▸halloc HB_5.out)
  clear hW c_5 kp_5 lp_5 ks_5 HB_5
  obtain⟨x0,x1,x2,xl⟩:=ks_6.out.use3
  go_wp2
  go_ret
  exact⟨rfl,HB_6.out⟩
 go_wp2_with fail
 refine Calls.mono (pstd lp_3.out hm j0a j0a) ?_
 rintro e w4 ⟨vs,vr,rfl,⟨va,vb,vc,rfl,hA,hB2,hC⟩,hR,hb⟩
 obtain⟨b4,A4,n4,c4,d4,B4,m4,k4,rfl,-,-,-,-,-⟩:=id hR.form
 obtain⟨SA,SAc,rfl,_,_⟩:=hA.len
 obtain⟨SB,SBc,rfl,_,_⟩:=hB2.len
 obtain⟨SC,SCc,rfl,_,_⟩:=hC.len
 have hBw:=(show Below w3.heap.size w3 w4 from j0g)
 have c_4:=Lib.hid (c_3.out.below hBw)
 have kp_4:=Lib.hid (kp_3.out.below hBw)
 have lp_4:=Lib.hid (lp_3.out.below hBw)
 have sa_4:=Lib.hid (hA)
 have sb_4:=Lib.hid (hB2)
 have sc_4:=Lib.hid (hC)
 have HB_4:=Lib.hid (below_trans HB_3.out hBw)
 clear hBw hb c_3 kp_3 lp_3 HB_3
 clear hA hB2 hC hR u0 u1 u2 u3 u4 ul
 go_upto_region 6 with fail
 generalize hW:w4.alloc (.cells #[.slice SA (rowsC D.lp) SAc,.slice SB (rowsC D.lp) SBc,.slice SC (colL D.lp).length SCc] 31)=w5
 have hz_5:=Lib.hid (show w5.heap.size=w4.heap.size+1 from j0i)
 have c_5:=Lib.hid (hW▸c_4.out.alloc_ _)
 have kp_5:=Lib.hid (hW▸kp_4.out.alloc_ _)
 have lp_5:=Lib.hid (hW▸lp_4.out.alloc_ _)
 have sa_5:=Lib.hid (hW▸sa_4.out.alloc_ _)
 have sb_5:=Lib.hid (hW▸sb_4.out.alloc_ _)
 have sc_5:=Lib.hid (hW▸sc_4.out.alloc_ _)
 have ks_5:Hid (Blk w5 w4.heap.size 31 #[.slice SA (rowsC D.lp) SAc,.slice SB (rowsC D.lp) SBc,.slice SC (colL D.lp).length SCc]) := j0z
 have HB_5:=Lib.hid (show Below w.heap.size w w5 from hW▸halloc HB_4.out)
 clear hW c_4 kp_4 lp_4 sa_4 sb_4 sc_4 HB_4
 generalize hW:w5.alloc (.cells #[.bool b4,.slice A4 n4 c4,.bool d4,.slice B4 m4 k4] 36)=w6
 have hz_6:=Lib.hid (show w6.heap.size=w5.heap.size+1 from j0i)
 have c_6:=Lib.hid (hW▸c_5.out.alloc_ _)
 have kp_6:=Lib.hid (hW▸kp_5.out.alloc_ _)
 have lp_6:=Lib.hid (hW▸lp_5.out.alloc_ _)
 have sa_6:=Lib.hid (hW▸sa_5.out.alloc_ _)
 have sb_6:=Lib.hid (hW▸sb_5.out.alloc_ _)
 have sc_6:=Lib.hid (hW▸sc_5.out.alloc_ _)
 have ks_6:=Lib.hid (hW▸ks_5.out.alloc_ _)
 have HB_6:=Lib.hid (show Below w.heap.size w w6 from hW▸halloc HB_5.out)
 clear hW c_5 kp_5 lp_5 sa_5 sb_5 sc_5 ks_5 HB_5
 have HM:=Lib.hid hm
 have hMN:=few_std lp_6.out hm
 have hno:D.no≤100:=HF.out.1.2.2.2.1
 have hmm:D.m≤5:=HF.out.1.2.2.2.2
 clear hm
 obtain⟨hM,hN⟩:=hMN
 obtain⟨u0,u1,u2,u3,u4,ul⟩:=kp_6.out.use5
 obtain⟨x0,x1,x2,xl⟩:=ks_6.out.use3
 obtain⟨vc,vr,vl,vh,vo,ev,_,hr,_,_,ho⟩:=id c_6.out
 obtain⟨rfl,rfl,rfl,rfl,rfl⟩:vc = .slice Ac D.cost.n cc∧vr = .slice Ar D.m cr∧vl = .slice Al D.lo.n cl∧vh = .slice Ah D.hi.n ch∧vo = .slice Ao D.no co:=by simpa using ev.symm
 clear ev
 obtain⟨Ar',cr',er,_,_,hr1,hr2⟩:=hr
 obtain⟨rfl,_,rfl⟩:Ar=Ar'∧D.m=D.m∧cr=cr':=by simpa using er
 obtain⟨Ao',co',eo,_,_,ho1⟩:=ho
 obtain⟨rfl,_,rfl⟩:Ao=Ao'∧D.no=D.no∧co=co':=by simpa using eo
 have HR:=Lib.hid hr1
 have HO:=Lib.hid ho1
 clear er eo hr1 hr2 ho1
 go_wp2
 go_loopw [6,7] (fun v6 v7 wr => ∃ (j:Nat),v6 = .int .i64 (cntF D.op j:Nat)∧v7 = .int .i64 (j:Nat)∧j≤D.no∧wr=w6) (fun v6 v7 _=>D.no - (intOf v7).toNat)
 case atStart=>exact⟨0,rfl,rfl,Nat.zero_le _,rfl⟩
 case round =>
  obtain⟨j,rfl,rfl,hj,hwr⟩:=hrel
  have hwr':=hwr.symm
  subst hwr'
  clear hwr
  have hcj:=cntF_le D.op j
  by_cases hlt:j<D.no
  ·have hj0:(0:Int)≤(j:Int):=by omega
   have hjk:(j:Int)<(D.no:Int) := j0a
   obtain⟨od,rfl,hob,hoc⟩:=HO.out j hlt
   cases hop:D.op j
   ·rw [hop] at hoc
    have hcs:cntF D.op (j+1)=cntF D.op j+1:=by simp [cntF,hop]
    go_wp2
    go_roundw
    case rel=>exact⟨j+1,by rw [hcs];go_num,by go_num,by omega,by trivial⟩
    case measure=>simp [intOf];omega
   ·rw [hop] at hoc
    have hcs:cntF D.op (j+1)=cntF D.op j:=by simp [cntF,hop]
    go_wp2
    go_roundw
    case rel=>exact⟨j+1,by rw [hcs],by go_num,by omega,by trivial⟩
    case measure=>simp [intOf];omega
  ·obtain rfl:j=D.no:=by omega
   go_wp2
   go_loopw [8,9] (fun v8 v9 wr => ∃ (i:Nat),v8 = .int .i64 (scnt D.lp i:Nat)∧v9 = .int .i64 (i:Nat)∧i≤D.m∧wr=w6) (fun v8 v9 _=>D.m - (intOf v9).toNat)
   case atStart=>exact⟨0,rfl,rfl,Nat.zero_le _,rfl⟩
   case round =>
    obtain⟨i,rfl,rfl,hi,hwr⟩:=hrel
    have hwr':=hwr.symm
    subst hwr'
    clear hwr
    have hci:scnt D.lp i≤i:=by rw [← slkL_len2];exact slkL_len D.lp i
    by_cases hlt:i<D.m
    ·have hj0:(0:Int)≤(i:Int):=by omega
     have hjk:(i:Int)<(D.m:Int) := j0a
     obtain⟨rd,rfl,hat⟩:=HR.out i hlt
     obtain⟨⟨xA0,xn0,xc0,xs,⟨b9,A9,n9,c9,d9,B9,m9,k9⟩⟩,hY⟩ : ∃z,D.Y i=z:=⟨_,rfl⟩
     have hs:(D.lp.row i).s=xs:=by show(D.Y i).s=xs;rw [hY]
     rw [hY] at hat
     obtain⟨q0,q1,q2,q3,q4,q5,q6⟩:=hat
     clear hY
     by_cases h1:xs=1
     ·subst h1
      have hcs:scnt D.lp (i+1)=scnt D.lp i:=by simp [scnt,hs]
      go_wp2
      go_roundw
      case rel=>exact⟨i+1,by rw [hcs],by go_num,by omega,by trivial⟩
      case measure=>simp [intOf];omega
     ·have hcs:scnt D.lp (i+1)=scnt D.lp i+1:=by simp [scnt,hs,h1]
      go_wp2
      go_roundw
      case rel=>exact⟨i+1,by rw [hcs];go_num,by go_num,by omega,by trivial⟩
      case measure=>simp [intOf];omega
    ·obtain rfl:i=D.m:=by omega
     have hlen:(colL D.lp).length=D.no+scnt D.lp D.m+cntF D.op D.no:=colL_len2 _
     have hrow:rowsC D.lp=D.m+cntF D.op D.no:=rfl
     have hcn:D.no=D.cost.n:=HM.out.1.2.2.1
     have hcN:=cntF_le D.op D.no
     have e1:((rowsC D.lp:Nat):Int)=(D.m:Int)+(cntF D.op D.no:Int) := j0a
     have e2:(((colL D.lp).length:Nat):Int)=(D.cost.n:Int)+(scnt D.lp D.m:Int)+(cntF D.op D.no:Int) := j0a
     clear hlen hrow hcn
     go_wp2_with fail
     refine Calls.mono (pright ⟨_,_,_,rfl,sa_6.out,sb_6.out,sc_6.out⟩ j0a j0a j0a j0a (fun i _=>stdB_nn _ i)) ?_
     rintro e wq ⟨rfl,hb⟩
     go_wp2
     go_ret
     exact⟨rfl,below_trans HB_6.out hb⟩
end Go.Proofs.YtgilnmhejjpleaaGreat
namespace Go.Proofs.YtgilnmhejjpleaaGreat
open Go.RowKit
set_option maxRecDepth 100000
theorem lp_openC {H:Type} {enc:TypeId × Value→H} {W:World} {base b0:Nat} {held:Bool} {r:Reach} {v:Value} {d:DataW H} {p:List MemPlace}(hv:Value.okWide Tryz.prog W r b0 26 v)(h:DataW.Trod enc Tryz.prog W base (fun _=>true) held 26 v d p) : ∃D,LpC W v D:=by
 obtain⟨vc,vr,vl,vh,vo,nc,Xc,ac,bc,m,Y,X,a,b,ha,hb,nl,Xl,al,bl,nh,Xh,ah,bh,no,f,e,h1,h2,h3,h4,h5⟩:=lp_open hv h
 exact⟨⟨⟨nc,Xc,ac,bc⟩,m,Y,X,a,b,ha,hb,⟨nl,Xl,al,bl⟩,⟨nh,Xh,ah,bh⟩,no,f⟩,vc,vr,vl,vh,vo,e,h1,h2,h3,h4,h5⟩
end Go.Proofs.YtgilnmhejjpleaaGreat
