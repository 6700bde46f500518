/- FormShifts. -/
import Derived.Test.YtgilnmhejjpleaaGreatPMin
import Derived.Test.YtgilnmhejjpleaaGreatPGo
import Derived.Test.YtgilnmhejjpleaaGreatPFs
import Derived.Test.YtgilnmhejjpleaaGreatPFw
namespace Go.Proofs.YtgilnmhejjpleaaGreat
open Go.RowKit
attribute [local go_sem ↓] Go.wp_at_zero Go.wp_at_succ
set_option linter.unusedVariables false
set_option linter.unusedSimpArgs false
theorem jvto {P:Prop}(h:P:=by (try dsimp only); exact HK.out.cells):P:=h
section
variable {p:Bool} {k n base:Nat} {t:TypeId} {w w':World} {v:Value} {f:Nat→Rat}
theorem RowT.fz_(h:RowT p k w v n f)(hf:Fz base t w w')(ht:36≠t):RowT p k w' v n f:=by
 obtain⟨A,c,X,h0,h1,h2,h3,h4,h5⟩:=h
 have hk : ∀a,A=some a→w'.heap[a.block]? = w.heap[a.block]? := fun a e=>by
  obtain⟨cs,m,hc⟩:=h5 a e
  rw [hc]
  exact hf.other _ _ hc (fun cs m e=>by injection e with _ e _;exact absurd e ht)
 refine⟨A,c,X,h0,h1,h2,fun i hi=>?_,fun i hi=>(h4 i hi).kp hf.keep,fun a e=>?_⟩
 ·obtain⟨ad,e,ha⟩:=h3 i hi
  exact⟨ad,e,ha.of_block (by rw [add_block];exact hk ad e)⟩
 ·obtain⟨cs,m,hc⟩:=h5 a e
  exact⟨cs,m,(hk a e).trans hc⟩
theorem fz_lp {g i:Nat} {C0 C1 C2 C3 C4 u:Value}(h:Blk w g 26 #[C0,C1,C2,C3,C4])(h0:Nu C0)(h1:Nu C1)(h2:Nu C2)(h3:Nu C3)(h4:Nu C4)(hu:Nu u):Fz g 26 w (w.setCell ⟨g,i,none⟩ u):=by
 have ho:OwnN w g 26 5 (.slice (some ⟨g,0,none⟩) 1 1) 1 [C0,C1,C2,C3,C4]:=⟨rfl,.inr ⟨g,1,_,rfl,Nat.le_refl _,h,Nat.le_refl _,by simp [maxLen],rfl,rfl,fun x hx=>by simp at hx;rcases hx with rfl | rfl | rfl | rfl | rfl <;> assumption⟩⟩
 exact(OwnN.stored ho i u hu).2
theorem rowQ_as {A:Option Addr} {c m:Nat}(h:RowQ p k w (.slice A m c) m f)(e:n=m):RowQ p k w (.slice A m c) n f:=by
 subst e
 exact h
theorem rowN_num {A:Option Addr} {c m:Nat}(h:RowT true k w (.slice A n c) n f)(e:m=n):RowN k w (.slice A n c) (numX m f):=by
 subst e
 exact h.rowQ.rowN
end
theorem StdQ.alloc_ {p:Bool} {k M N:Nat} {w:World} {v:Value} {A:Nat→Nat→Rat} {B C:Nat→Rat}(h:StdQ p k w v M N A B C)(o:Obj):StdQ p k (w.alloc o) v M N A B C:=h.below (below_new _ _)
theorem StdQ.drew_ {p:Bool} {k M N:Nat} {w:World} {v:Value} {A:Nat→Nat→Rat} {B C:Nat→Rat}(h:StdQ p k w v M N A B C):StdQ p k w.drew v M N A B C:=h.below (Below.refl _ _).drew
def C19(W:World)(a b c d e:Nat)(A B C D E:Array Value):Prop:=Blk W a 31 A∧Blk W b 31 B∧Blk W c 36 C∧Blk W d 36 D∧Blk W e 36 E
theorem C19.below {W W':World} {a b c d e:Nat} {A B C D E:Array Value}(h:C19 W a b c d e A B C D E)(hb:Below W.heap.size W W'):C19 W' a b c d e A B C D E:=⟨h.1.below hb,h.2.1.below hb,h.2.2.1.below hb,h.2.2.2.1.below hb,h.2.2.2.2.below hb⟩
theorem C19.cells {w:World} {a b c d e:Nat} {A0 A1 A2 B0 B1 B2 C0 C1 C2 C3 D0 D1 D2 D3 E0 E1 E2 E3:Value}(h:C19 w a b c d e #[A0,A1,A2] #[B0,B1,B2] #[C0,C1,C2,C3] #[D0,D1,D2,D3] #[E0,E1,E2,E3]) :
 w.cell? ⟨a,0,none⟩=some A0∧w.cell? ⟨a,1,none⟩=some A1∧w.cell? ⟨a,2,none⟩=some A2∧w.cell? ⟨b,0,none⟩=some B0∧w.cell? ⟨b,1,none⟩=some B1∧w.cell? ⟨b,2,none⟩=some B2∧w.cell? ⟨c,0,none⟩=some C0∧w.cell? ⟨c,1,none⟩=some C1∧w.cell? ⟨c,2,none⟩=some C2∧w.cell? ⟨c,3,none⟩=some C3∧w.cell? ⟨d,0,none⟩=some D0∧w.cell? ⟨d,1,none⟩=some D1∧w.cell? ⟨d,2,none⟩=some D2∧w.cell? ⟨d,3,none⟩=some D3∧w.cell? ⟨e,0,none⟩=some E0∧w.cell? ⟨e,1,none⟩=some E1∧w.cell? ⟨e,2,none⟩=some E2∧w.cell? ⟨e,3,none⟩=some E3 :=
 ⟨h.1.cell 0,h.1.cell 1,h.1.cell 2,h.2.1.cell 0,h.2.1.cell 1,h.2.1.cell 2,h.2.2.1.cell 0,h.2.2.1.cell 1,h.2.2.1.cell 2,h.2.2.1.cell 3,h.2.2.2.1.cell 0,h.2.2.2.1.cell 1,h.2.2.2.1.cell 2,h.2.2.2.1.cell 3,h.2.2.2.2.cell 0,h.2.2.2.2.cell 1,h.2.2.2.2.cell 2,h.2.2.2.2.cell 3⟩
set_option maxRecDepth 100000 in
set_option maxHeartbeats 8000000 in
theorem form_shifts {w:World} {v:Value} {D:LpY}(h:LpC w v D)(Ax:Option Addr)(cx nx:Nat)(X:Nat→RatD)(x:Nat→Rat)(hx:RowR w (.slice Ax nx cx) nx X x) :
 Calls Tryz.prog 8 #[v,.slice Ax nx cx] w fun e w'=>e = .returned (.bool true)∧Below w.heap.size w w':=by
 obtain⟨vc,vr,vl,vh,vo,rfl,hc,hr,hl,hh,ho⟩:=h
 obtain⟨Ac,cc,rfl,_,nc0,_⟩:=id hc
 obtain⟨Ar,cr,rfl,_,nm0,hr1,hr2⟩:=id hr
 obtain⟨Al,cl,rfl,_,nl0,_⟩:=id hl
 obtain⟨Ah,ch,rfl,_,nh0,_⟩:=id hh
 obtain⟨Ao,co,rfl,_,no0,ho1⟩:=id ho
 have c_0:=Lib.hid (show LpC w (.agg #[.slice Ac D.cost.n cc,.slice Ar D.m cr,.slice Al D.lo.n cl,.slice Ah D.hi.n ch,.slice Ao D.no co]) D from⟨_,_,_,_,_,rfl,hc,hr,hl,hh,ho⟩)
 clear hc hr hl hh ho hr1 hr2 ho1
 have x_0:=Lib.hid hx
 clear hx
 go_enter Tryz.func8,Tryz.ntmps8
 go_wp2_with fail
 generalize hW:w.alloc (.cells #[.slice Ac D.cost.n cc,.slice Ar D.m cr,.slice Al D.lo.n cl,.slice Ah D.hi.n ch,.slice Ao D.no co] 26)=w1
 have hz_1:=Lib.hid (show w1.heap.size=w.heap.size+1 from j59e)
 have c_1:=Lib.hid (hW▸c_0.out.alloc_ _)
 have x_1:=Lib.hid (hW▸x_0.out.alloc_ _)
 have kp_1:Hid (Blk w1 w.heap.size 26 #[.slice Ac D.cost.n cc,.slice Ar D.m cr,.slice Al D.lo.n cl,.slice Ah D.hi.n ch,.slice Ao D.no co]) := jytn
 have HB_1:=Lib.hid (show Below w.heap.size w w1 from hW▸halloc (Below.refl _ _))
 clear hW c_0 x_0
 refine Calls.mono (awake11 _) ?_
 rintro e w2 ⟨rfl,hb⟩
 have hBw:=(show Below w1.heap.size w1 w2 from jc22)
 have c_2:=Lib.hid (c_1.out.below hBw)
 have x_2:=Lib.hid (x_1.out.below hBw)
 have kp_2:=Lib.hid (kp_1.out.below hBw)
 have HB_2:=Lib.hid (below_trans HB_1.out hBw)
 clear hBw hb c_1 x_1 kp_1 HB_1
 obtain⟨u0,u1,u2,u3,u4,ul⟩:=kp_2.out.use5
 go_wp2_with fail
 refine Calls.mono (rfew11 (N:=4) c_2.out j0i3) ?_
 rintro e w3 ⟨⟨b,rfl,hf⟩,hb⟩
 have hBw:=(show Below w2.heap.size w2 w3 from jc22)
 have c_3:=Lib.hid (c_2.out.below hBw)
 have x_3:=Lib.hid (x_2.out.below hBw)
 have kp_3:=Lib.hid (kp_2.out.below hBw)
 have HB_3:=Lib.hid (below_trans HB_2.out hBw)
 clear hBw hb c_2 x_2 kp_2 HB_2
 clear u0 u1 u2 u3 u4 ul
 cases b
 ·clear hf
  go_wp2
  go_ret
  exact⟨rfl,HB_3.out⟩
 have HF:=Lib.hid (hf rfl)
 clear hf
 have lp_3:=Lib.hid (c_3.out.few HF.out j0i3)
 obtain⟨u0,u1,u2,u3,u4,ul⟩:=kp_3.out.use5
 go_wp2_with fail
 refine Calls.mono (rfew (N:=4) x_3.out j0i3) ?_
 rintro e wq ⟨⟨b,rfl,hf⟩,hw⟩
 have hw':=hw.symm
 subst hw'
 clear hw
 cases b
 ·clear hf
  go_wp2
  go_ret
  exact⟨rfl,HB_3.out⟩
 have HF2:=Lib.hid (hf.1 rfl)
 clear hf
 have xq_3:=Lib.hid (x_3.out.few HF2.out j0i3)
 clear x_3
 go_wp2_with fail
 refine Calls.mono (rMay lp_3.out j0i3 j0i3) ?_
 rintro e w4 ⟨rfl,hb⟩
 have hBw:=(show Below w3.heap.size w3 w4 from jc22)
 have c_4:=Lib.hid (c_3.out.below hBw)
 have kp_4:=Lib.hid (kp_3.out.below hBw)
 have lp_4:=Lib.hid (lp_3.out.below hBw)
 have xq_4:=Lib.hid (xq_3.out.below hBw)
 have HB_4:=Lib.hid (below_trans HB_3.out hBw)
 clear hBw hb c_3 kp_3 lp_3 xq_3 HB_3
 clear u0 u1 u2 u3 u4 ul
 obtain⟨u0,u1,u2,u3,u4,ul⟩:=kp_4.out.use5
 by_cases hm : ¬MayX D.lp
 ·have HMB:=Lib.hid (mayB_false.2 hm)
  rw [HMB.out]
  go_wp2
  go_ret
  exact⟨rfl,HB_4.out⟩
 have hm:=Classical.not_not.1 hm
 have HM:=Lib.hid hm
 clear hm
 rw [mayB_true.2 HM.out]
 by_cases hn:nx≠D.cost.n
 ·have n1:((nx:Int)=(D.cost.n:Int))=False:=eq_false j0i3
  have b1:((nx:Int) == (D.cost.n:Int))=false := jyif
  go_wp2
  go_ret
  exact⟨rfl,HB_4.out⟩
 have n1:((nx:Int)=(D.cost.n:Int))=True:=eq_true j0i3
 have b1:((nx:Int) == (D.cost.n:Int))=true:=by rw [beq_iff_eq];omega
 have hnx:nx=D.cost.n := j0i3
 have HN:=Lib.hid hnx
 clear hn hnx
 have hnx:=HN.out
 subst hnx
 clear HN n1 b1
 have HLO:Hid (D.cost.n=D.lo.n):=HM.out.1.2.2.2.1.symm
 have HHI:Hid (D.cost.n=D.hi.n):=HM.out.1.2.2.2.2.1.symm
 obtain⟨u0,u1,u2,u3,u4,ul⟩:=kp_4.out.use5
 go_upto_region 6 with fail
 have HP:=Lib.hid kp_4.out
 have HL:=Lib.hid lp_4.out
 have HX:=Lib.hid xq_4.out
 have HB5:=Lib.hid HB_4.out
 clear c_4 kp_4 lp_4 xq_4 HB_4 u0 u1 u2 u3 u4 ul
 generalize hW:w4.alloc (.cells #[.slice Ac D.cost.n cc,.slice Ar D.m cr,.slice Al D.lo.n cl,.slice Ah D.hi.n ch,.slice Ao D.no co] 26)=wa
 have K5:=Lib.hid (show Blk wa w4.heap.size 26 #[.slice Ac D.cost.n cc,.slice Ar D.m cr,.slice Al D.lo.n cl,.slice Ah D.hi.n ch,.slice Ao D.no co] from hW▸Blk.new _ _ rfl _ _)
 have HB:=Lib.hid (show Below w4.heap.size w4 wa from hW▸below_new _ _)
 clear hW
 have HPc:=Lib.hid (HP.out.below HB.out)
 refine wp_region_held_drew (S:=(fun w'=>w'.cell? ⟨w.heap.size,0,none⟩=some (.slice Ac D.cost.n cc)∧w'.cell? ⟨w.heap.size,1,none⟩=some (.slice Ar D.m cr)∧w'.cell? ⟨w.heap.size,2,none⟩=some (.slice Al D.lo.n cl)∧w'.cell? ⟨w.heap.size,3,none⟩=some (.slice Ah D.hi.n ch)∧w'.cell? ⟨w.heap.size,4,none⟩=some (.slice Ao D.no co))) jo0f (by exact⟨HPc.out.cell 0,HPc.out.cell 1,HPc.out.cell 2,HPc.out.cell 3,HPc.out.cell 4⟩) (fun hHeld=>?_)
 refine jtk 0 ?_
 refine jtk 1 ?_
 refine jtk 2 ?_
 refine jrd 3 fun Kz hKz=>?_
 go_simp
 refine Calls.mono (of11_is law_d1 _ j0i3 j0i3) ?_;rintro e wba ⟨v,rfl,h,hb⟩;have hBw:=(show Below wa.heap.size wa wba from jc22);have HB:=Lib.hid (below_trans HB.out hBw);have K5n:=Lib.hid (K5.out.below hBw);clear K5;have K5:=K5n;clear K5n;have HPc:=Lib.hid (HPc.out.below hBw);have HZ:=Lib.hid (h.limQ bq1);clear h hb hBw
 refine hKz.out _ _ (by (try dsimp only);exact⟨HPc.out.cell 0,HPc.out.cell 1,HPc.out.cell 2,HPc.out.cell 3,HPc.out.cell 4⟩) (fun hHeld=>?_)
 clear hKz Kz
 refine jsp ?_
 refine jrd 4 fun Kz hKz=>?_
 go_simp
 refine Calls.mono (raddTimes (K:=4) (n:=D.cost.n) (rowQ_as (HL.out.rows.2.2.1.rowQ.below HB.out) HLO.out) (HX.out.below HB.out) HZ.out j0i3 j0i3 j0i3 j0i3 j0i3 j0i3 j0i3) ?_;rintro e wca ⟨v,rfl,h,hb⟩;obtain⟨Lq,lq,rfl,_,_⟩:=h.rowQ.len;have hBw:=(show Below wba.heap.size wba wca from jc22);have HB:=Lib.hid (below_trans HB.out hBw);have K5n:=Lib.hid (K5.out.below hBw);clear K5;have K5:=K5n;clear K5n;have HPc:=Lib.hid (HPc.out.below hBw);have HRL:=Lib.hid h;clear h hb hBw
 refine hKz.out _ _ (by (try dsimp only);exact⟨HPc.out.cell 0,HPc.out.cell 1,HPc.out.cell 2,HPc.out.cell 3,HPc.out.cell 4⟩) (fun hHeld=>?_)
 clear hKz Kz
 refine jsp ?_
 refine jtk 5 ?_
 refine jtk 6 ?_
 refine jtk 7 ?_
 refine jtk 8 ?_
 refine jrd 9 fun Kz hKz=>?_
 obtain⟨y0,y1,y2,y3,y4,yl⟩:=K5.out.use5;have fr:=K5.out.frozen 2;go_simp;clear y0 y1 y2 y3 y4 yl fr;have hfz:=fz_lp (i:=2) (u := .slice Lq D.cost.n lq) K5.out nu nu nu nu nu nu;have K5n:=Lib.hid (show Blk _ _ _ #[.slice Ac D.cost.n cc,.slice Ar D.m cr,.slice Lq D.cost.n lq,.slice Ah D.hi.n ch,.slice Ao D.no co] from K5.out.set_ 2 _);clear K5;have K5:=K5n;clear K5n;have HB:=Lib.hid (HB.out.trans hfz.below);have HPc:=Lib.hid (HPc.out.low hfz.below (by have:=HP.out.lt;omega));have HRL:=Lib.hid (HRL.out.fz_ hfz jpu1);clear hfz
 refine hKz.out _ _ (by (try dsimp only);exact⟨HPc.out.cell 0,HPc.out.cell 1,HPc.out.cell 2,HPc.out.cell 3,HPc.out.cell 4⟩) (fun hHeld=>?_)
 clear hKz Kz
 refine jsp ?_
 refine wpAnyH_done jo0f ?_ _
 generalize hW:wca.setCell ⟨w4.heap.size,2,none⟩ (.slice Lq D.cost.n lq)=w6 at K5 HB HPc HRL hHeld ⊢
 clear hW hHeld
 go_upto_region 7 with fail
 have HPc:=Lib.hid (HP.out.below HB.out)
 refine wp_region_held_drew (S:=(fun w'=>w'.cell? ⟨w.heap.size,0,none⟩=some (.slice Ac D.cost.n cc)∧w'.cell? ⟨w.heap.size,1,none⟩=some (.slice Ar D.m cr)∧w'.cell? ⟨w.heap.size,2,none⟩=some (.slice Al D.lo.n cl)∧w'.cell? ⟨w.heap.size,3,none⟩=some (.slice Ah D.hi.n ch)∧w'.cell? ⟨w.heap.size,4,none⟩=some (.slice Ao D.no co))) jo0f (by exact⟨HPc.out.cell 0,HPc.out.cell 1,HPc.out.cell 2,HPc.out.cell 3,HPc.out.cell 4⟩) (fun hHeld=>?_)
 refine jtk 0 ?_
 refine jtk 1 ?_
 refine jtk 2 ?_
 refine jrd 3 fun Kz hKz=>?_
 go_simp
 refine Calls.mono (of11_is law_d1 _ j0i3 j0i3) ?_;rintro e wbb ⟨v,rfl,h,hb⟩;have hBw:=(show Below w6.heap.size w6 wbb from jc22);have HB:=Lib.hid (below_trans HB.out hBw);have K5n:=Lib.hid (K5.out.below hBw);clear K5;have K5:=K5n;clear K5n;have HPc:=Lib.hid (HPc.out.below hBw);have HRL:=Lib.hid (HRL.out.below hBw);have HZ:=Lib.hid (h.limQ bq1);clear h hb hBw
 refine hKz.out _ _ (by (try dsimp only);exact⟨HPc.out.cell 0,HPc.out.cell 1,HPc.out.cell 2,HPc.out.cell 3,HPc.out.cell 4⟩) (fun hHeld=>?_)
 clear hKz Kz
 refine jsp ?_
 refine jrd 4 fun Kz hKz=>?_
 go_simp
 refine Calls.mono (raddTimes (K:=4) (n:=D.cost.n) (rowQ_as (HL.out.rows.2.2.2.1.rowQ.below HB.out) HHI.out) (HX.out.below HB.out) HZ.out j0i3 j0i3 j0i3 j0i3 j0i3 j0i3 j0i3) ?_;rintro e wcb ⟨v,rfl,h,hb⟩;obtain⟨Hq,hq,rfl,_,_⟩:=h.rowQ.len;have hBw:=(show Below wbb.heap.size wbb wcb from jc22);have HB:=Lib.hid (below_trans HB.out hBw);have K5n:=Lib.hid (K5.out.below hBw);clear K5;have K5:=K5n;clear K5n;have HPc:=Lib.hid (HPc.out.below hBw);have HRL:=Lib.hid (HRL.out.below hBw);have HRH:=Lib.hid h;clear h hb hBw
 refine hKz.out _ _ (by (try dsimp only);exact⟨HPc.out.cell 0,HPc.out.cell 1,HPc.out.cell 2,HPc.out.cell 3,HPc.out.cell 4⟩) (fun hHeld=>?_)
 clear hKz Kz
 refine jsp ?_
 refine jtk 5 ?_
 refine jtk 6 ?_
 refine jtk 7 ?_
 refine jtk 8 ?_
 refine jrd 9 fun Kz hKz=>?_
 obtain⟨y0,y1,y2,y3,y4,yl⟩:=K5.out.use5;have fr:=K5.out.frozen 3;go_simp;clear y0 y1 y2 y3 y4 yl fr;have hfz:=fz_lp (i:=3) (u := .slice Hq D.cost.n hq) K5.out nu nu nu nu nu nu;have K5n:=Lib.hid (show Blk _ _ _ #[.slice Ac D.cost.n cc,.slice Ar D.m cr,.slice Lq D.cost.n lq,.slice Hq D.cost.n hq,.slice Ao D.no co] from K5.out.set_ 3 _);clear K5;have K5:=K5n;clear K5n;have HB:=Lib.hid (HB.out.trans hfz.below);have HPc:=Lib.hid (HPc.out.low hfz.below (by have:=HP.out.lt;omega));have HRH:=Lib.hid (HRH.out.fz_ hfz jpu1);have HRL:=Lib.hid (HRL.out.fz_ hfz jpu1);clear hfz
 refine hKz.out _ _ (by (try dsimp only);exact⟨HPc.out.cell 0,HPc.out.cell 1,HPc.out.cell 2,HPc.out.cell 3,HPc.out.cell 4⟩) (fun hHeld=>?_)
 clear hKz Kz
 refine jsp ?_
 refine wpAnyH_done jo0f ?_ _
 generalize hW:wcb.setCell ⟨w4.heap.size,3,none⟩ (.slice Hq D.cost.n hq)=w7 at K5 HB HPc HRL HRH hHeld ⊢
 clear hW hHeld
 obtain⟨y0,y1,y2,y3,y4,yl⟩:=K5.out.use5
 have fr:=K5.out.frozen 1
 go_wp2
 clear y0 y1 y2 y3 y4 yl fr
 have hfz:=fz_lp (i:=1) (u := .slice none 0 0) K5.out nu nu nu nu nu nu
 have K5n:=Lib.hid (show Blk _ _ _ #[.slice Ac D.cost.n cc,.slice none 0 0,.slice Lq D.cost.n lq,.slice Hq D.cost.n hq,.slice Ao D.no co] from K5.out.set_ 1 _)
 clear K5
 have K5:=K5n
 clear K5n
 have HB:=Lib.hid (HB.out.trans hfz.below)
 have HPc:=Lib.hid (HPc.out.low hfz.below (by have:=HP.out.lt;omega))
 have HRL:=Lib.hid (HRL.out.fz_ hfz jpu1)
 have HRH:=Lib.hid (HRH.out.fz_ hfz jpu1)
 clear hfz
 generalize hW:w7.setCell ⟨w4.heap.size,1,none⟩ (.slice none 0 0)=w8 at K5 HB HPc HRL HRH ⊢
 clear hW
 go_loopw [6] (fun v6 wr => ∃ (L:List Rw6) (vr:Value),v6 = .int .i64 (L.length:Nat)∧L.length≤D.m∧Blk wr w4.heap.size 26 #[.slice Ac D.cost.n cc,vr,.slice Lq D.cost.n lq,.slice Hq D.cost.n hq,.slice Ao D.no co]∧Own6 (w4.heap.size+1) wr (vr) (L)∧ShI w4 wr D.lp x (L)∧RowT true 4 wr (.slice Lq D.cost.n lq) D.cost.n (fun i=>D.lp.lo.q i+1*x i)∧RowT true 4 wr (.slice Hq D.cost.n hq) D.cost.n (fun i=>D.lp.hi.q i+1*x i)∧Below w4.heap.size w4 wr) (fun v6 _=>D.m - (intOf v6).toNat)
 case atStart=>exact⟨[],_,rfl,Nat.zero_le _,K5.out,Own6.nil,ShI.nil,HRL.out,HRH.out,HB.out⟩
 case round =>
  clear K5 HB HPc HRL HRH
  obtain⟨L,vr,rfl,hL,hk5,ho,hs,hrl,hrh,hbw⟩:=hrel
  obtain⟨Ar2,cr2,rfl,_,_⟩:=id ho.at_
  have HM4:D.m≤24:=HM.out.1.2.2.2.2.2
  have K5:=Lib.hid hk5
  have HO:=Lib.hid ho
  have HS:=Lib.hid hs
  have HRL:=Lib.hid hrl
  have HRH:=Lib.hid hrh
  have HB:=Lib.hid hbw
  clear hk5 ho hs hrl hrh hbw
  obtain⟨t0,t1,t2,t3,t4,tl⟩:=(HP.out.below HB.out).use5
  by_cases hlt:L.length<D.m
  ·have hj0:(0:Int)≤(L.length:Int):=by omega
   have hjk:(L.length:Int)<(D.m:Int) := j0i3
   obtain⟨rd,c1,⟨A0,n0,c0,s,⟨b9,A9,n9,c9,d9,B9,m9,k9⟩⟩,e1,_,_,hat,hRw⟩:=HL.out.rows.2.1.at_ hlt
   simp only [Value.slice.injEq] at e1
   obtain⟨rfl,_,rfl⟩:=e1
   obtain⟨x0,x1,x2,x3,x4,x5,x6⟩:=hat.below HB.out
   have HC:Hid (RowQ false 1 w4 (.slice A0 n0 c0) D.cost.n (D.lp.row L.length).coef.q):=by
    have:=hRw.2.2.1.rowQ
    rw [(HM.out.2.2.1 L.length hlt).1] at this
    exact this
   have BDA:Hid (∀q,q≤D.cost.n→BQ 73 (dotF (D.lp.row L.length).coef.q x q)):=row_dot (k:=1) (l:=1) HC.out HX.out (Nat.le_refl _) j0i3 j0i3 HM.out.1.2.1
   have BD:=Lib.hid (BDA.out D.cost.n (Nat.le_refl _))
   have HRh:=Lib.hid (show LimQ 1 w4 (.agg #[.bool b9,.slice A9 n9 c9,.bool d9,.slice B9 m9 k9]) (D.lp.row L.length).h from⟨_,_,hRw.2.2.2,rfl⟩)
   have B1:Hid (BQ 1 (D.lp.row L.length).h):=HRh.out.bq j0i3
   have HRW:=Lib.hid hRw
   clear hat hRw
   go_upto_region 13 with fail
   generalize hW:wr.alloc (.cells #[.slice A0 n0 c0,.int .i64 s,.bool b9,.slice A9 n9 c9,.bool d9,.slice B9 m9 k9] 60)=w9
   have K7:=Lib.hid (show Blk w9 wr.heap.size 60 #[.slice A0 n0 c0,.int .i64 s,.bool b9,.slice A9 n9 c9,.bool d9,.slice B9 m9 k9] from hW▸Blk.new _ _ rfl _ _)
   have HBr:=Lib.hid (show Below wr.heap.size wr w9 from hW▸below_new _ _)
   clear hW x0 x1 x2 x3 x4 x5 x6
   obtain⟨x0,x1,x2,x3,x4,x5,xl⟩:=K7.out.use6
   go_wp2_with fail
   refine Calls.mono (rdot (K:=73) (HC.out.below (below_trans HB.out HBr.out)) (HX.out.below (below_trans HB.out HBr.out)) j0i3 j0i3 j0i3 j0i3 BDA.out j0i3 j0i3) ?_
   rintro e w10 ⟨v,rfl,h,hb⟩
   obtain⟨b10,A10,n10,c10,d10,B10,m10,k10,rfl,-,-,-,-,-⟩:=id h.form
   have K7:=Lib.hid (K7.out.below hb)
   have HBr:=Lib.hid (below_trans HBr.out hb)
   have HD:=Lib.hid (h.limQ BD.out)
   clear h hb x0 x1 x2 x3 x4 x5 xl
   obtain⟨x0,x1,x2,x3,x4,x5,xl⟩:=K7.out.use6
   go_wp2_with fail
   generalize hW:w10.alloc (.cells #[.bool b10,.slice A10 n10 c10,.bool d10,.slice B10 m10 k10] 36)=w11
   have hBw:=(show Below w10.heap.size w10 w11 from hW▸below_new _ _)
   have K7:=Lib.hid (K7.out.below hBw)
   have HBr:=Lib.hid (below_trans HBr.out hBw)
   have HD:=Lib.hid (HD.out.below hBw)
   clear hW hBw x0 x1 x2 x3 x4 x5 xl
   refine Calls.mono (radd_q (HRh.out.below (below_trans HB.out HBr.out)) HD.out j0i3 j0i3 j0i3 j0i3) ?_
   rintro e w12 ⟨v,rfl,h,hb⟩
   obtain⟨b12,A12,n12,c12,d12,B12,m12,k12,rfl,-,-,-,-,-⟩:=id h.form
   have K7:=Lib.hid (K7.out.below hb)
   have HBr:=Lib.hid (below_trans HBr.out hb)
   have HR:=Lib.hid (show LimR 75 w12 (.agg #[.bool b12,.slice A12 n12 c12,.bool d12,.slice B12 m12 k12]) (shR D.lp x L.length).num ((shR D.lp x L.length).den:Int) from h.limR (BQ.add B1.out BD.out j0i3))
   clear h hb
   obtain⟨x0,x1,x2,x3,x4,x5,xl⟩:=K7.out.use6
   have f2:=K7.out.frozen 2
   have f3:=K7.out.frozen 3
   have f4:=K7.out.frozen 4
   have f5:=K7.out.frozen 5
   go_upto_region 15 with fail
   generalize hW:((((w12.setCell ⟨wr.heap.size,2,none⟩ (.bool b12)).setCell ⟨wr.heap.size,3,none⟩ (.slice A12 n12 c12)).setCell ⟨wr.heap.size,4,none⟩ (.bool d12)).setCell ⟨wr.heap.size,5,none⟩ (.slice B12 m12 k12))=w13
   have HR:=Lib.hid (show LimR 75 w13 (.agg #[.bool b12,.slice A12 n12 c12,.bool d12,.slice B12 m12 k12]) _ _ from hW▸(LimR.one (LimR.one (LimR.one (LimR.one HR.out K7.out (i:=2) (x := .bool b9) (y := .bool b12) rfl nu) (K7.out.set_ 2 (.bool b12)) (i:=3) (x := .slice A9 n9 c9) (y := .slice A12 n12 c12) rfl nu) ((K7.out.set_ 2 (.bool b12)).set_ 3 (.slice A12 n12 c12)) (i:=4) (x := .bool d9) (y := .bool d12) rfl nu) (((K7.out.set_ 2 (.bool b12)).set_ 3 (.slice A12 n12 c12)).set_ 4 (.bool d12)) (i:=5) (x := .slice B9 m9 k9) (y := .slice B12 m12 k12) rfl nu))
   have K7:=Lib.hid (show Blk w13 wr.heap.size 60 #[.slice A0 n0 c0,.int .i64 s,.bool b12,.slice A12 n12 c12,.bool d12,.slice B12 m12 k12] from hW▸((((K7.out.set_ 2 (.bool b12)).set_ 3 (.slice A12 n12 c12)).set_ 4 (.bool d12)).set_ 5 (.slice B12 m12 k12)))
   have HBr:=Lib.hid (show Below wr.heap.size wr w13 from hW▸(Below.setCell (Below.setCell (Below.setCell (Below.setCell HBr.out (Nat.le_refl _) _) (Nat.le_refl _) _) (Nat.le_refl _) _) (Nat.le_refl _) _))
   clear hW x0 x1 x2 x3 x4 x5 xl f2 f3 f4 f5
   have K5:=Lib.hid (K5.out.below HBr.out)
   have HO:=Lib.hid (HO.out.below HBr.out)
   have HS:=Lib.hid (HS.out.below HBr.out)
   have HRL:=Lib.hid (HRL.out.below HBr.out)
   have HRH:=Lib.hid (HRH.out.below HBr.out)
   have HB:=Lib.hid (below_trans HB.out HBr.out)
   obtain⟨x0,x1,x2,x3,x4,x5,xl⟩:=K7.out.use6
   obtain⟨y0,y1,y2,y3,y4,yl⟩:=K5.out.use5
   go_wp2_with (at_builtin;refine wpList_app6 rfl rfl (.tmp 86) (.tmp 88) rfl rfl HO.out rfl rfl j0i3 K5.out.lt ?_;intro v14 w14 ho hf;obtain⟨Aq,cq,rfl,_,_⟩:=ho.at_;have K5:=Lib.hid (Blk.fz (K5.out.alloc_ _) hf jpu1);have HO:=Lib.hid ho;have HS:=Lib.hid (ShI.app (z:=(⟨A0,n0,c0,s,⟨b12,A12,n12,c12,d12,B12,m12,k12⟩⟩:Rw6)) ((HS.out.below (below_new _ _)).kp hf.keep) HRW.out.1 HRW.out.2.2.1 ((HR.out.below (below_new _ _)).kp hf.keep));have HRL:=Lib.hid ((HRL.out.below (below_new _ _)).fz_ hf jpu1);have HRH:=Lib.hid ((HRH.out.below (below_new _ _)).fz_ hf jpu1);have HB:=Lib.hid ((HB.out.trans ((below_new _ _).mono HB.out.size)).trans (hf.below.mono (Nat.le_succ _)));clear ho hf x0 x1 x2 x3 x4 x5 xl y0 y1 y2 y3 y4 yl;obtain⟨y0,y1,y2,y3,y4,yl⟩:=K5.out.use5;have fr:=K5.out.frozen 1)
   have hfz:=fz_lp (i:=1) (u := .slice Aq (L ++ [(⟨A0,n0,c0,s,⟨b12,A12,n12,c12,d12,B12,m12,k12⟩⟩:Rw6)]).length cq) K5.out nu nu nu nu nu nu
   have HINV:Hid (Blk (w14.setCell ⟨w4.heap.size,1,none⟩ (.slice Aq (L ++ [(⟨A0,n0,c0,s,⟨b12,A12,n12,c12,d12,B12,m12,k12⟩⟩:Rw6)]).length cq)) w4.heap.size 26 #[.slice Ac D.cost.n cc,.slice Aq (L ++ [(⟨A0,n0,c0,s,⟨b12,A12,n12,c12,d12,B12,m12,k12⟩⟩:Rw6)]).length cq,.slice Lq D.cost.n lq,.slice Hq D.cost.n hq,.slice Ao D.no co]∧Own6 (w4.heap.size+1) (w14.setCell ⟨w4.heap.size,1,none⟩ (.slice Aq (L ++ [(⟨A0,n0,c0,s,⟨b12,A12,n12,c12,d12,B12,m12,k12⟩⟩:Rw6)]).length cq)) (.slice Aq (L ++ [(⟨A0,n0,c0,s,⟨b12,A12,n12,c12,d12,B12,m12,k12⟩⟩:Rw6)]).length cq) (L ++ [(⟨A0,n0,c0,s,⟨b12,A12,n12,c12,d12,B12,m12,k12⟩⟩:Rw6)])∧ShI w4 (w14.setCell ⟨w4.heap.size,1,none⟩ (.slice Aq (L ++ [(⟨A0,n0,c0,s,⟨b12,A12,n12,c12,d12,B12,m12,k12⟩⟩:Rw6)]).length cq)) D.lp x (L ++ [(⟨A0,n0,c0,s,⟨b12,A12,n12,c12,d12,B12,m12,k12⟩⟩:Rw6)])∧RowT true 4 (w14.setCell ⟨w4.heap.size,1,none⟩ (.slice Aq (L ++ [(⟨A0,n0,c0,s,⟨b12,A12,n12,c12,d12,B12,m12,k12⟩⟩:Rw6)]).length cq)) (.slice Lq D.cost.n lq) D.cost.n (fun i=>D.lp.lo.q i+1*x i)∧RowT true 4 (w14.setCell ⟨w4.heap.size,1,none⟩ (.slice Aq (L ++ [(⟨A0,n0,c0,s,⟨b12,A12,n12,c12,d12,B12,m12,k12⟩⟩:Rw6)]).length cq)) (.slice Hq D.cost.n hq) D.cost.n (fun i=>D.lp.hi.q i+1*x i)∧Below w4.heap.size w4 (w14.setCell ⟨w4.heap.size,1,none⟩ (.slice Aq (L ++ [(⟨A0,n0,c0,s,⟨b12,A12,n12,c12,d12,B12,m12,k12⟩⟩:Rw6)]).length cq))):=⟨K5.out.set_ 1 _,OwnN.fz HO.out hfz jpu1,HS.out.kp hfz.keep,HRL.out.fz_ hfz jpu1,HRH.out.fz_ hfz jpu1,HB.out.trans hfz.below⟩
   have hl:(L ++ [(⟨A0,n0,c0,s,⟨b12,A12,n12,c12,d12,B12,m12,k12⟩⟩:Rw6)]).length=L.length+1:=by rw [List.length_append];rfl
   have HINW:Hid (Blk (w14.setCell ⟨w4.heap.size,1,none⟩ (.slice Aq (L.length+1) cq)) w4.heap.size 26 #[.slice Ac D.cost.n cc,.slice Aq (L.length+1) cq,.slice Lq D.cost.n lq,.slice Hq D.cost.n hq,.slice Ao D.no co]∧Own6 (w4.heap.size+1) (w14.setCell ⟨w4.heap.size,1,none⟩ (.slice Aq (L.length+1) cq)) (.slice Aq (L.length+1) cq) (L ++ [(⟨A0,n0,c0,s,⟨b12,A12,n12,c12,d12,B12,m12,k12⟩⟩:Rw6)])∧ShI w4 (w14.setCell ⟨w4.heap.size,1,none⟩ (.slice Aq (L.length+1) cq)) D.lp x (L ++ [(⟨A0,n0,c0,s,⟨b12,A12,n12,c12,d12,B12,m12,k12⟩⟩:Rw6)])∧RowT true 4 (w14.setCell ⟨w4.heap.size,1,none⟩ (.slice Aq (L.length+1) cq)) (.slice Lq D.cost.n lq) D.cost.n (fun i=>D.lp.lo.q i+1*x i)∧RowT true 4 (w14.setCell ⟨w4.heap.size,1,none⟩ (.slice Aq (L.length+1) cq)) (.slice Hq D.cost.n hq) D.cost.n (fun i=>D.lp.hi.q i+1*x i)∧Below w4.heap.size w4 (w14.setCell ⟨w4.heap.size,1,none⟩ (.slice Aq (L.length+1) cq))):=by
    have h:=HINV.out
    rw [hl] at h
    exact h
   clear HINV
   clear hfz
   go_wp2
   go_roundw
   case rel=>(repeat apply Exists.intro);refine⟨?_,rfl⟩;exact⟨L ++ [(⟨A0,n0,c0,s,⟨b12,A12,n12,c12,d12,B12,m12,k12⟩⟩:Rw6)],_,by rw [List.length_append];go_num,by rw [List.length_append];show L.length+1≤D.m;omega,HINW.out⟩
   case measure=>simp [intOf];omega
  ·have hL:L.length=D.m:=by omega
   have hjk : ¬ ((L.length:Int)<(D.m:Int)) := j0i3
   obtain⟨w20,rfl⟩ : ∃z,z=wr:=⟨_,rfl⟩
   have lq_20:=Lib.hid (show LpQ 75 w20 (.agg #[.slice Ac D.cost.n cc,.slice Ar2 D.m cr2,.slice Lq D.cost.n lq,.slice Hq D.cost.n hq,.slice Ao D.no co]) (shP D.lp x) from⟨_,_,_,_,_,rfl,(HL.out.rows.1.below HB.out).more j0i3,hL▸HS.out.rws HM.out HO.out hL HB.out,(rowN_num HRL.out (HM.out.1.2.2.2.1)).more j0i3,(rowN_num HRH.out (HM.out.1.2.2.2.2.1)).more j0i3,HL.out.rows.2.2.2.2.below HB.out⟩)
   have kp_20:=Lib.hid (HP.out.below HB.out)
   have k5_20:=Lib.hid (show Blk w20 w4.heap.size 26 #[.slice Ac D.cost.n cc,.slice Ar2 D.m cr2,.slice Lq D.cost.n lq,.slice Hq D.cost.n hq,.slice Ao D.no co] from hL▸K5.out)
   have lp_20:=Lib.hid (HL.out.below HB.out)
   have xq_20:=Lib.hid (HX.out.below HB.out)
   have HB_20:=Lib.hid (below_trans HB5.out HB.out)
   clear HO HS HRL HRH HB K5 hL t0 t1 t2 t3 t4 tl
   obtain⟨u0,u1,u2,u3,u4,ul⟩:=kp_20.out.use5
   go_wp2_with fail
   refine Calls.mono (pstd lp_20.out HM.out j0i3 j0i3) ?_
   rintro e w21 ⟨vs,vr,rfl,⟨va,vb,vc,rfl,hA,hB2,hC⟩,hR,hb⟩
   obtain⟨M,hM⟩ : ∃M,M=rowsC D.lp:=⟨_,rfl⟩
   obtain⟨N,hN⟩ : ∃N,N=(colL D.lp).length:=⟨_,rfl⟩
   rw [← hM] at hA hB2
   rw [← hN] at hA hC
   obtain⟨b21,A21,n21,c21,d21,B21,m21,k21,rfl,-,-,-,-,-⟩:=id hR.form
   obtain⟨SA,SAc,rfl,_,_⟩:=hA.len
   obtain⟨SB,SBc,rfl,_,_⟩:=hB2.len
   obtain⟨SC,SCc,rfl,_,_⟩:=hC.len
   have hBw:=(show Below w20.heap.size w20 w21 from jc22)
   have kp_21:=Lib.hid (kp_20.out.below hBw)
   have k5_21:=Lib.hid (k5_20.out.below hBw)
   have lp_21:=Lib.hid (lp_20.out.below hBw)
   have lq_21:=Lib.hid (lq_20.out.below hBw)
   have xq_21:=Lib.hid (xq_20.out.below hBw)
   have sa_21:=Lib.hid ((show StdQ true 75 w21 (.agg #[.slice SA M SAc,.slice SB M SBc,.slice SC N SCc]) M N (stdA D.lp) (stdB D.lp) (stdC D.lp) from⟨_,_,_,rfl,hA,hB2,hC⟩))
   have ra_21:=Lib.hid (hR)
   have HB_21:=Lib.hid (below_trans HB_20.out hBw)
   clear hBw hb kp_20 k5_20 lp_20 lq_20 xq_20 HB_20
   clear hA hB2 hC hR u0 u1 u2 u3 u4 ul
   have HMM:=Lib.hid hM
   have HNN:=Lib.hid hN
   clear hM hN
   obtain⟨q0,q1,q2,q3,q4,ql⟩:=k5_21.out.use5
   go_upto_region 17 with fail
   generalize hW:w21.alloc (.cells #[.slice SA M SAc,.slice SB M SBc,.slice SC N SCc] 31)=w22
   have hz_22:=Lib.hid (show w22.heap.size=w21.heap.size+1 from j59e)
   have kp_22:=Lib.hid (hW▸kp_21.out.alloc_ _)
   have k5_22:=Lib.hid (hW▸k5_21.out.alloc_ _)
   have lp_22:=Lib.hid (hW▸lp_21.out.alloc_ _)
   have lq_22:=Lib.hid (hW▸lq_21.out.alloc_ _)
   have xq_22:=Lib.hid (hW▸xq_21.out.alloc_ _)
   have sa_22:=Lib.hid (hW▸sa_21.out.alloc_ _)
   have ra_22:=Lib.hid (hW▸ra_21.out.alloc_ _)
   have ks_22:Hid (Blk w22 w21.heap.size 31 #[.slice SA M SAc,.slice SB M SBc,.slice SC N SCc]) := jytn
   have HB_22:=Lib.hid (show Below w.heap.size w w22 from hW▸halloc HB_21.out)
   clear hW kp_21 k5_21 lp_21 lq_21 xq_21 sa_21 ra_21 HB_21
   generalize hW:w22.alloc (.cells #[.bool b21,.slice A21 n21 c21,.bool d21,.slice B21 m21 k21] 36)=w23
   have hz_23:=Lib.hid (show w23.heap.size=w22.heap.size+1 from j59e)
   have kp_23:=Lib.hid (hW▸kp_22.out.alloc_ _)
   have k5_23:=Lib.hid (hW▸k5_22.out.alloc_ _)
   have lp_23:=Lib.hid (hW▸lp_22.out.alloc_ _)
   have lq_23:=Lib.hid (hW▸lq_22.out.alloc_ _)
   have xq_23:=Lib.hid (hW▸xq_22.out.alloc_ _)
   have sa_23:=Lib.hid (hW▸sa_22.out.alloc_ _)
   have ra_23:=Lib.hid (hW▸ra_22.out.alloc_ _)
   have ks_23:=Lib.hid (hW▸ks_22.out.alloc_ _)
   have k11_23:Hid (Blk w23 (w21.heap.size+1) 36 #[.bool b21,.slice A21 n21 c21,.bool d21,.slice B21 m21 k21]):=by rw [← hW];exact Blk.new _ _ (by have:=hz_22.out;omega) _ _
   have HB_23:=Lib.hid (show Below w.heap.size w w23 from hW▸halloc HB_22.out)
   clear hW kp_22 k5_22 lp_22 lq_22 xq_22 sa_22 ra_22 ks_22 HB_22
   clear q0 q1 q2 q3 q4 ql
   obtain⟨q0,q1,q2,q3,q4,ql⟩:=k5_23.out.use5
   go_wp2_with fail
   refine Calls.mono (pstd lq_23.out (sh_may HM.out) j0i3 j0i3) ?_
   rintro e w24 ⟨vs,vr,rfl,⟨va,vb,vc,rfl,hA,hB2,hC⟩,hR,hb⟩
   rw [sh_rows,← HMM.out] at hA hB2
   rw [sh_col,← HNN.out] at hA hC
   obtain⟨b24,A24,n24,c24,d24,B24,m24,k24,rfl,-,-,-,-,-⟩:=id hR.form
   obtain⟨TA,TAc,rfl,_,_⟩:=hA.len
   obtain⟨TB,TBc,rfl,_,_⟩:=hB2.len
   obtain⟨TC,TCc,rfl,_,_⟩:=hC.len
   have hBw:=(show Below w23.heap.size w23 w24 from jc22)
   have kp_24:=Lib.hid (kp_23.out.below hBw)
   have lp_24:=Lib.hid (lp_23.out.below hBw)
   have xq_24:=Lib.hid (xq_23.out.below hBw)
   have sa_24:=Lib.hid (sa_23.out.below hBw)
   have ra_24:=Lib.hid (ra_23.out.below hBw)
   have ks_24:=Lib.hid (ks_23.out.below hBw)
   have k11_24:=Lib.hid (k11_23.out.below hBw)
   have sb_24:=Lib.hid ((show StdQ true 3701 w24 (.agg #[.slice TA M TAc,.slice TB M TBc,.slice TC N TCc]) M N (stdA (shP D.lp x)) (stdB (shP D.lp x)) (stdC (shP D.lp x)) from⟨_,_,_,rfl,hA,hB2,hC⟩))
   have rb_24:=Lib.hid (hR)
   have HB_24:=Lib.hid (below_trans HB_23.out hBw)
   clear hBw hb kp_23 k5_23 lp_23 lq_23 xq_23 sa_23 ra_23 ks_23 k11_23 HB_23
   clear hA hB2 hC hR q0 q1 q2 q3 q4 ql
   obtain⟨u0,u1,u2,u3,u4,ul⟩:=kp_24.out.use5
   go_upto_region 18 with fail
   generalize hW:w24.alloc (.cells #[.slice TA M TAc,.slice TB M TBc,.slice TC N TCc] 31)=w25
   have hz_25:=Lib.hid (show w25.heap.size=w24.heap.size+1 from j59e)
   have kp_25:=Lib.hid (hW▸kp_24.out.alloc_ _)
   have lp_25:=Lib.hid (hW▸lp_24.out.alloc_ _)
   have xq_25:=Lib.hid (hW▸xq_24.out.alloc_ _)
   have sa_25:=Lib.hid (hW▸sa_24.out.alloc_ _)
   have ra_25:=Lib.hid (hW▸ra_24.out.alloc_ _)
   have ks_25:=Lib.hid (hW▸ks_24.out.alloc_ _)
   have k11_25:=Lib.hid (hW▸k11_24.out.alloc_ _)
   have sb_25:=Lib.hid (hW▸sb_24.out.alloc_ _)
   have rb_25:=Lib.hid (hW▸rb_24.out.alloc_ _)
   have kt_25:Hid (Blk w25 w24.heap.size 31 #[.slice TA M TAc,.slice TB M TBc,.slice TC N TCc]) := jytn
   have HB_25:=Lib.hid (show Below w.heap.size w w25 from hW▸halloc HB_24.out)
   clear hW kp_24 lp_24 xq_24 sa_24 ra_24 ks_24 k11_24 sb_24 rb_24 HB_24
   generalize hW:w25.alloc (.cells #[.bool b24,.slice A24 n24 c24,.bool d24,.slice B24 m24 k24] 36)=w26
   have hz_26:=Lib.hid (show w26.heap.size=w25.heap.size+1 from j59e)
   have kp_26:=Lib.hid (hW▸kp_25.out.alloc_ _)
   have lp_26:=Lib.hid (hW▸lp_25.out.alloc_ _)
   have xq_26:=Lib.hid (hW▸xq_25.out.alloc_ _)
   have sa_26:=Lib.hid (hW▸sa_25.out.alloc_ _)
   have ra_26:=Lib.hid (hW▸ra_25.out.alloc_ _)
   have ks_26:=Lib.hid (hW▸ks_25.out.alloc_ _)
   have k11_26:=Lib.hid (hW▸k11_25.out.alloc_ _)
   have sb_26:=Lib.hid (hW▸sb_25.out.alloc_ _)
   have rb_26:=Lib.hid (hW▸rb_25.out.alloc_ _)
   have kt_26:=Lib.hid (hW▸kt_25.out.alloc_ _)
   have k14_26:Hid (Blk w26 (w24.heap.size+1) 36 #[.bool b24,.slice A24 n24 c24,.bool d24,.slice B24 m24 k24]):=by rw [← hW];exact Blk.new _ _ (by have:=hz_25.out;omega) _ _
   have HB_26:=Lib.hid (show Below w.heap.size w w26 from hW▸halloc HB_25.out)
   clear hW kp_25 lp_25 xq_25 sa_25 ra_25 ks_25 k11_25 sb_25 rb_25 kt_25 HB_25
   clear u0 u1 u2 u3 u4 ul
   obtain⟨u0,u1,u2,u3,u4,ul⟩:=kp_26.out.use5
   have HBD:Hid (∀i,i≤D.cost.n→BQ 73 (dotF D.lp.cost.q x i)):=row_dot (k:=1) (l:=1) lp_26.out.rows.1.rowQ xq_26.out (Nat.le_refl D.cost.n) j0i3 j0i3 HM.out.1.2.1
   go_wp2_with fail
   refine Calls.mono (rdot (K:=73) (n:=D.cost.n) lp_26.out.rows.1.rowQ xq_26.out j0i3 j0i3 j0i3 j0i3 HBD.out j0i3 j0i3) ?_
   rintro e w27 ⟨v,rfl,h,hb⟩
   obtain⟨b27,A27,n27,c27,d27,B27,m27,k27,rfl,-,-,-,-,-⟩:=id h.form
   have hBw:=(show Below w26.heap.size w26 w27 from jc22)
   have kp_27:=Lib.hid (kp_26.out.below hBw)
   have lp_27:=Lib.hid (lp_26.out.below hBw)
   have xq_27:=Lib.hid (xq_26.out.below hBw)
   have sa_27:=Lib.hid (sa_26.out.below hBw)
   have ra_27:=Lib.hid (ra_26.out.below hBw)
   have ks_27:=Lib.hid (ks_26.out.below hBw)
   have k11_27:=Lib.hid (k11_26.out.below hBw)
   have sb_27:=Lib.hid (sb_26.out.below hBw)
   have rb_27:=Lib.hid (rb_26.out.below hBw)
   have kt_27:=Lib.hid (kt_26.out.below hBw)
   have k14_27:=Lib.hid (k14_26.out.below hBw)
   have rc_27:=Lib.hid (h)
   have HB_27:=Lib.hid (below_trans HB_26.out hBw)
   clear hBw hb kp_26 lp_26 xq_26 sa_26 ra_26 ks_26 k11_26 sb_26 rb_26 kt_26 k14_26 HB_26
   clear h u0 u1 u2 u3 u4 ul
   go_upto_region 19 with fail
   generalize hW:w27.alloc (.cells #[.bool b27,.slice A27 n27 c27,.bool d27,.slice B27 m27 k27] 36)=w28
   have hz_28:=Lib.hid (show w28.heap.size=w27.heap.size+1 from j59e)
   have kp_28:=Lib.hid (hW▸kp_27.out.alloc_ _)
   have lp_28:=Lib.hid (hW▸lp_27.out.alloc_ _)
   have xq_28:=Lib.hid (hW▸xq_27.out.alloc_ _)
   have sa_28:=Lib.hid (hW▸sa_27.out.alloc_ _)
   have ra_28:=Lib.hid (hW▸ra_27.out.alloc_ _)
   have ks_28:=Lib.hid (hW▸ks_27.out.alloc_ _)
   have k11_28:=Lib.hid (hW▸k11_27.out.alloc_ _)
   have sb_28:=Lib.hid (hW▸sb_27.out.alloc_ _)
   have rb_28:=Lib.hid (hW▸rb_27.out.alloc_ _)
   have kt_28:=Lib.hid (hW▸kt_27.out.alloc_ _)
   have k14_28:=Lib.hid (hW▸k14_27.out.alloc_ _)
   have rc_28:=Lib.hid (hW▸rc_27.out.alloc_ _)
   have k16_28:Hid (Blk w28 w27.heap.size 36 #[.bool b27,.slice A27 n27 c27,.bool d27,.slice B27 m27 k27]) := jytn
   have HB_28:=Lib.hid (show Below w.heap.size w w28 from hW▸halloc HB_27.out)
   clear hW kp_27 lp_27 xq_27 sa_27 ra_27 ks_27 k11_27 sb_27 rb_27 kt_27 k14_27 rc_27 HB_27
   have HBL:Hid (BQ 73 (dotF D.lp.cost.q D.lp.lo.q D.cost.n)):=row_dot (k:=1) (l:=1) lp_28.out.rows.1.rowQ lp_28.out.rows.2.2.1.rowQ (Nat.le_of_eq HM.out.1.2.2.2.1.symm) j0i3 j0i3 HM.out.1.2.1 D.cost.n (Nat.le_refl _)
   have HBS:=Lib.hid (BQ.add HBL.out (HBD.out D.cost.n (Nat.le_refl _)) (Nat.le_refl 147))
   have HK:=Lib.hid (show C19 w28 (w21.heap.size) (w24.heap.size) (w24.heap.size+1) (w21.heap.size+1) (w27.heap.size) #[.slice SA M SAc,.slice SB M SBc,.slice SC N SCc] #[.slice TA M TAc,.slice TB M TBc,.slice TC N TCc] #[.bool b24,.slice A24 n24 c24,.bool d24,.slice B24 m24 k24] #[.bool b21,.slice A21 n21 c21,.bool d21,.slice B21 m21 k21] #[.bool b27,.slice A27 n27 c27,.bool d27,.slice B27 m27 k27] from⟨ks_28.out,kt_28.out,k14_28.out,k11_28.out,k16_28.out⟩)
   have HSA:=Lib.hid sa_28.out
   have HSB:=Lib.hid sb_28.out
   have HRA:=Lib.hid ((show IsRat w28 (.agg #[.bool b21,.slice A21 n21 c21,.bool d21,.slice B21 m21 k21]) (dotF D.lp.cost.q D.lp.lo.q D.cost.n) from ra_28.out).limQ HBL.out)
   have HRC_:=Lib.hid (rc_28.out.limQ (HBD.out D.cost.n (Nat.le_refl _)))
   have HRB:=Lib.hid ((show IsRat w28 (.agg #[.bool b24,.slice A24 n24 c24,.bool d24,.slice B24 m24 k24]) (dotF D.lp.cost.q D.lp.lo.q D.cost.n+dotF D.lp.cost.q x D.cost.n) from sh_dot D.lp.cost.q D.cost.n▸rb_28.out).limQ HBS.out)
   have HB:=Lib.hid HB_28.out
   clear kp_28 lp_28 xq_28 sa_28 ra_28 ks_28 k11_28 sb_28 rb_28 kt_28 k14_28 rc_28 k16_28 HB_28
   go_wp2
   refine wp_region_held_drew (S:=(fun w'=>w'.cell? ⟨w21.heap.size,0,none⟩=some (.slice SA M SAc)∧w'.cell? ⟨w21.heap.size,1,none⟩=some (.slice SB M SBc)∧w'.cell? ⟨w21.heap.size,2,none⟩=some (.slice SC N SCc)∧w'.cell? ⟨w24.heap.size,0,none⟩=some (.slice TA M TAc)∧w'.cell? ⟨w24.heap.size,1,none⟩=some (.slice TB M TBc)∧w'.cell? ⟨w24.heap.size,2,none⟩=some (.slice TC N TCc)∧w'.cell? ⟨w24.heap.size+1,0,none⟩=some (.bool b24)∧w'.cell? ⟨w24.heap.size+1,1,none⟩=some (.slice A24 n24 c24)∧w'.cell? ⟨w24.heap.size+1,2,none⟩=some (.bool d24)∧w'.cell? ⟨w24.heap.size+1,3,none⟩=some (.slice B24 m24 k24)∧w'.cell? ⟨w21.heap.size+1,0,none⟩=some (.bool b21)∧w'.cell? ⟨w21.heap.size+1,1,none⟩=some (.slice A21 n21 c21)∧w'.cell? ⟨w21.heap.size+1,2,none⟩=some (.bool d21)∧w'.cell? ⟨w21.heap.size+1,3,none⟩=some (.slice B21 m21 k21)∧w'.cell? ⟨w27.heap.size,0,none⟩=some (.bool b27)∧w'.cell? ⟨w27.heap.size,1,none⟩=some (.slice A27 n27 c27)∧w'.cell? ⟨w27.heap.size,2,none⟩=some (.bool d27)∧w'.cell? ⟨w27.heap.size,3,none⟩=some (.slice B27 m27 k27))) jo0f (by exact HK.out.cells) (fun hHeld=>?_)
   refine jtk 0 ?_
   refine jtk 1 ?_
   refine jtk 2 ?_
   refine jtk 3 ?_
   refine jtk 4 ?_
   refine jtk 5 ?_
   refine jtk 6 ?_
   refine jtk 7 ?_
   refine jtk 8 ?_
   refine jrd 9 fun Kz hKz=>?_
   go_simp
   refine Calls.mono (rsame11 HSA.out.drew_ HSB.out.drew_ (fun i _ j _=>sh_A i j) (fun i _=>sh_B i) (fun j _=>sh_C j) j0i3) ?_;rintro e w29 ⟨rfl,hb⟩;have hBw:=(show Below w28.heap.size w28 w29 from jc22);have HK:=Lib.hid (HK.out.below hBw);have HRA:=Lib.hid (HRA.out.below hBw);have HRB:=Lib.hid (HRB.out.below hBw);have HRC_:=Lib.hid (HRC_.out.below hBw);have HB:=Lib.hid (below_trans HB.out hBw);clear hb hBw
   refine hKz.out _ _ jvto (fun hHeld=>?_)
   clear hKz Kz
   refine jsp ?_
   refine jtk 10 ?_
   refine jtk 11 ?_
   refine jtk 12 ?_
   refine jtk 13 ?_
   refine jtk 14 ?_
   refine jrd 15 fun Kz hKz=>?_
   go_simp
   refine Calls.mono (radd_q HRA.out HRC_.out j0i3 j0i3 j0i3 j0i3) ?_;rintro e w30 ⟨v,rfl,h,hb⟩;have hBw:=(show Below w29.heap.size w29 w30 from jc22);have HK:=Lib.hid (HK.out.below hBw);have HRB:=Lib.hid (HRB.out.below hBw);have HB:=Lib.hid (below_trans HB.out hBw);have HSM:=Lib.hid (h.limQ HBS.out);clear h;clear hb hBw
   refine hKz.out _ _ jvto (fun hHeld=>?_)
   clear hKz Kz
   refine jsp ?_
   refine jrd 16 fun Kz hKz=>?_
   go_simp
   refine Calls.mono (rcmp_is 0 (cmpQ_self _) HRB.out HSM.out j0i3 j0i3 j0i3 j0i3) ?_;rintro e w31 ⟨rfl,hb⟩;have hBw:=(show Below w30.heap.size w30 w31 from jc22);have HK:=Lib.hid (HK.out.below hBw);have HB:=Lib.hid (below_trans HB.out hBw);clear hb hBw
   refine hKz.out _ _ jvto (fun hHeld=>?_)
   clear hKz Kz
   refine jsp ?_
   refine jtk 17 ?_
   refine jtk 18 ?_
   refine jtk 19 ?_
   refine wpAnyH_done jo0f ?_ _
   go_wp2
   go_ret
   exact⟨rfl,HB.out⟩
end Go.Proofs.YtgilnmhejjpleaaGreat
namespace Go.Proofs.YtgilnmhejjpleaaGreat
open Go.RowKit
set_option maxRecDepth 100000
theorem lp_openC {H:Type} {enc:TypeId × Value→H} {W:World} {base b0:Nat} {held:Bool} {r:Reach} {v:Value} {d:DataW H} {p:List MemPlace}(hv:Value.okWide Tryz.prog W r b0 26 v)(h:DataW.Trod enc Tryz.prog W base (fun _=>true) held 26 v d p) : ∃D,LpC W v D:=by
 obtain⟨vc,vr,vl,vh,vo,nc,Xc,ac,bc,m,Y,X,a,b,ha,hb,nl,Xl,al,bl,nh,Xh,ah,bh,no,f,e,h1,h2,h3,h4,h5⟩:=lp_open hv h
 exact⟨⟨⟨nc,Xc,ac,bc⟩,m,Y,X,a,b,ha,hb,⟨nl,Xl,al,bl⟩,⟨nh,Xh,ah,bh⟩,no,f⟩,vc,vr,vl,vh,vo,e,h1,h2,h3,h4,h5⟩
end Go.Proofs.YtgilnmhejjpleaaGreat
