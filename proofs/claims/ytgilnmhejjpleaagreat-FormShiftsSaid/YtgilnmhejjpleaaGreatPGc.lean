/- The laws' first question: is the program awake? -/
import Derived.Test.YtgilnmhejjpleaaGreatPMin
import Derived.Test.YtgilnmhejjpleaaGreatPFw
import Derived.Test.YtgilnmhejjpleaaGreatPGn
import Derived.Test.YtgilnmhejjpleaaGreatPFt
import Derived.Test.YtgilnmhejjpleaaGreatPFv
import Derived.Test.YtgilnmhejjpleaaGreatPZb
import Derived.Deep.DeepCutAuto
namespace Go.Proofs.YtgilnmhejjpleaaGreat
open Go.RowKit
attribute [local go_sem ↓] Go.wp_at_zero Go.wp_at_succ
set_option linter.unusedVariables false
set_option linter.unusedSimpArgs false
theorem jc53 {P:Prop}(h:P:=by first | exact hne):P:=h
theorem jxzy {P:Prop}(h:P:=by show ¬ i < 0; omega):P:=h
theorem jsd5 {P:Prop}(h:P:=by (try dsimp only); (first | (and_intros <;> (first | with_reducible assumption | ((with_reducible refine Eq.trans (cell_drew _ _) ?_); with_reducible assumption) | ((repeat rw [World.cell?_setCell_far _ _ _ _ jc53]); with_reducible assumption) | go_keep)) | go_keep)):P:=h
theorem row1 {p:Bool} {k:Nat} {w:World} {g:Nat}(hg:g=w.heap.size) {b1:Bool} {A1:Option Addr} {n1 c1:Nat} {d1:Bool} {B1:Option Addr} {m1 k1:Nat} {q:Rat}
 (h1:EQ p k w (.agg #[.bool b1,.slice A1 n1 c1,.bool d1,.slice B1 m1 k1]) q) :
 RowT p k (w.alloc (.cells #[.bool b1,.slice A1 n1 c1,.bool d1,.slice B1 m1 k1] 36)) (.slice (some ⟨g,0,none⟩) 1 1) 1 (fun _=>q):=by
 have hk:=Blk.new w g hg 36 #[.bool b1,.slice A1 n1 c1,.bool d1,.slice B1 m1 k1]
 refine⟨_,1,fun i=>⟨b1,A1,n1,c1,d1,B1,m1,k1⟩,rfl,⟨Nat.le_refl _,fun e=>by cases e⟩,by omega,fun i hi=>⟨_,rfl,?_⟩,fun i hi=>h1.alloc_ _,fun a e=>by injection e with e;subst e;exact⟨_,_,hk⟩⟩
 obtain rfl:i=0 := j0i3
 exact⟨hk.lt,hk.cell 0,hk.cell 1,hk.cell 2,hk.cell 3⟩
theorem rws1 {k:Nat} {w:World} {g:Nat}(hg:g=w.heap.size) {A:Option Addr} {n c:Nat} {s ha hb:Int} {r:RowX} {b1:Bool} {A1:Option Addr} {n1 c1:Nat} {d1:Bool} {B1:Option Addr} {m1 k1:Nat}
 (hc:RowN k w (.slice A n c) r) (hs : -9223372036854775808≤s∧s≤9223372036854775807) (hr:LimR k w (.agg #[.bool b1,.slice A1 n1 c1,.bool d1,.slice B1 m1 k1]) ha hb) :
 RwsN k (w.alloc (.cells #[.slice A n c,.int .i64 s,.bool b1,.slice A1 n1 c1,.bool d1,.slice B1 m1 k1] 60)) (.slice (some ⟨g,0,none⟩) 1 1) 1 (fun _=>⟨r,s,ha,hb⟩):=by
 have hk:=Blk.new w g hg 60 #[.slice A n c,.int .i64 s,.bool b1,.slice A1 n1 c1,.bool d1,.slice B1 m1 k1]
 refine⟨_,1,fun i=>⟨A,n,c,s,⟨b1,A1,n1,c1,d1,B1,m1,k1⟩⟩,rfl,⟨Nat.le_refl _,fun e=>by cases e⟩,by omega,fun i hi=>⟨_,rfl,?_⟩,fun i hi=>⟨rfl,hs,hc.alloc_ _,hr.alloc_ _⟩⟩
 obtain rfl:i=0 := j0i3
 exact⟨hk.lt,hk.cell 0,hk.cell 1,hk.cell 2,hk.cell 3,hk.cell 4,hk.cell 5⟩
theorem bools1 {w:World} {g:Nat}(hg:g=w.heap.size)(b:Bool):BoolsN (w.alloc (.cells #[.bool b] 4)) (.slice (some ⟨g,0,none⟩) 1 1) 1 (fun _=>b):=by
 have hk:=Blk.new w g hg 4 #[.bool b]
 refine⟨_,1,rfl,⟨Nat.le_refl _,fun e=>by cases e⟩,by omega,fun i hi=>⟨_,rfl,hk.lt,?_⟩⟩
 obtain rfl:i=0 := j0i3
 exact hk.cell 0
theorem tab1 {p:Bool} {k n:Nat} {w:World} {g:Nat}(hg:g=w.heap.size) {v1:Value} {F:Nat→Rat}(h1:RowQ p k w v1 n F) :
 TabQ p k (w.alloc (.cells #[v1] 22)) (.slice (some ⟨g,0,none⟩) 1 1) 1 (fun _=>n) (fun _=>F):=by
 have hk:=Blk.new w g hg 22 #[v1]
 refine⟨_,1,rfl,⟨Nat.le_refl _,fun e=>by cases e⟩,by omega,fun i hi=>?_⟩
 obtain rfl:i=0 := j0i3
 exact⟨_,_,rfl,hk.lt,hk.cell 0,h1.alloc_ _⟩
theorem EQ.limR_ {k:Nat} {w:World} {v:Value} {q:Rat}(h:EQ true k w v q):LimR k w v q.num q.den:=(h.1 rfl).1.limR (h.1 rfl).2
abbrev lpA:LpX:=⟨numX 1 (fun _=>1),1,fun _=>⟨numX 1 (fun _=>1),2,(2:Rat).num,(2:Rat).den⟩,numX 1 (fun _=>0),numX 1 (fun _=>0),1,fun _=>true⟩
theorem lpA_may:MayX lpA:=by
 refine⟨⟨by decide,by decide,rfl,rfl,rfl,by decide⟩,⟨numX_mays _ _,numX_mays _ _,numX_mays _ _⟩,fun i hi=>⟨rfl,.inr (.inr rfl),numX_mays _ _,by show(0:Int)<((2:Rat).den:Int);decide⟩,fun j hj h=>by cases h⟩
abbrev lpZ:LpX:=⟨⟨0,fun _=>0,fun _=>0⟩,0,fun _=>⟨⟨0,fun _=>0,fun _=>0⟩,0,0,0⟩,⟨0,fun _=>0,fun _=>0⟩,⟨0,fun _=>0,fun _=>0⟩,0,fun _=>false⟩
theorem lpZ_no : ¬MayX lpZ:=fun h=>absurd h.1.1 jpu1
theorem rowN_nil(w:World):RowN 1 w (.slice none 0 0) ⟨0,fun _=>0,fun _=>0⟩:=⟨none,0,fun _=>ratZ,rfl,⟨Nat.le_refl _,fun _=>rfl⟩,by decide,fun i hi=>absurd hi jxzy,fun i hi=>absurd hi jxzy⟩
theorem lpZ_q(w:World):LpQ 1 w (.agg #[.slice none 0 0,.slice none 0 0,.slice none 0 0,.slice none 0 0,.slice none 0 0]) lpZ :=
 ⟨_,_,_,_,_,rfl,rowN_nil w,⟨none,0,fun _=>⟨none,0,0,0,ratZ⟩,rfl,⟨Nat.le_refl _,fun _=>rfl⟩,by decide,fun i hi=>absurd hi jxzy,fun i hi=>absurd hi jxzy⟩,rowN_nil w,rowN_nil w,⟨none,0,rfl,⟨Nat.le_refl _,fun _=>rfl⟩,by decide,fun i hi=>absurd hi jxzy⟩⟩
theorem stdA_A : ∀i,i<1→∀j,j<2→stdA lpA i j=twoR 1 (-1) j:=fun i hi j hj=>by
 obtain rfl:i=0 := j0i3
 have:j=0∨j=1 := j0i3
 rcases this with rfl | rfl
 ·show stdA lpA 0 0=1;exact of_decide_eq_true jo0f
 ·show stdA lpA 0 1 = -1;exact of_decide_eq_true jo0f
theorem stdB_A : ∀i,i<1→stdB lpA i=2:=fun i hi=>by
 obtain rfl:i=0 := j0i3
 exact of_decide_eq_true jo0f
theorem stdC_A : ∀j,j<2→stdC lpA j=twoR 1 0 j:=fun j hj=>by
 have:j=0∨j=1 := j0i3
 rcases this with rfl | rfl
 ·show stdC lpA 0=1;exact of_decide_eq_true jo0f
 ·show stdC lpA 1=0;exact of_decide_eq_true jo0f
theorem restA:dotF lpA.cost.q lpA.lo.q lpA.cost.n=0:=by
 show dotF lpA.cost.q lpA.lo.q 1=0
 exact of_decide_eq_true jo0f
theorem fulA_yes:fulB lpA 1 (fun _=>3)=true:=fulB_true.2 ⟨lpA_may,rfl,fun j hj=>⟨by
 obtain rfl:j=0 := j0i3
 show lpA.lo.q 0≤3;exact of_decide_eq_true jo0f,fun h=>by cases h⟩,fun i hi=>by
 show(if (2:Int)=0 then _ else if (2:Int)=2 then (lpA.row i).h≤dotF (lpA.row i).coef.q (fun _=>3) 1 else _)
 rw [if_neg jpu1,if_pos rfl]
 show(lpA.row 0).h≤dotF (lpA.row 0).coef.q (fun _=>3) 1
 exact of_decide_eq_true jo0f⟩
theorem fulA_no:fulB lpA 1 (fun _=>1)=false:=fulB_false.2 fun h=>by
 have h1:(if (2:Int)=0 then dotF (lpA.row 0).coef.q (fun _=>1) 1≤(lpA.row 0).h else if (2:Int)=2 then (lpA.row 0).h≤dotF (lpA.row 0).coef.q (fun _=>1) 1 else dotF (lpA.row 0).coef.q (fun _=>1) 1=(lpA.row 0).h):=h.2.2.2 0 jpu1
 rw [if_neg jpu1,if_pos rfl] at h1
 exact absurd h1 (of_decide_eq_false jo0f)
theorem costA_b:costB lpA 1=true:=costB_true.2 ⟨lpA_may,rfl⟩
theorem costA_q:costQ lpA 1 (fun _=>3)=3:=by
 unfold costQ
 rw [if_pos ⟨lpA_may,rfl⟩]
 show dotF lpA.cost.q (fun _=>3) 1=3
 exact of_decide_eq_true jo0f
theorem pstdA {w:World} {v:Value}(h:LpQ 1 w v lpA):Calls Tryz.prog 11 #[v] w fun e w' => ∃va vb vc vr,e = .returned (.tuple #[.agg #[va,vb,vc],vr,.int .i64 0])∧TabQ true 75 w' va 1 (fun _=>2) (fun _=>twoR 1 (-1))∧RowQ true 75 w' vb 1 (fun _=>2)∧RowQ true 75 w' vc 2 (twoR 1 0)∧IsRat w' vr 0∧Below w.heap.size w w':=by
 refine(pstd h lpA_may j0i3 j0i3).mono ?_
 rintro e w' ⟨vs,vr,rfl,⟨va,vb,vc,rfl,h1,h2,h3⟩,hr,hb⟩
 exact⟨va,vb,vc,vr,rfl,TabQ.congr h1 (fun _ _=>rfl) stdA_A,RowQ.congr h2 stdB_A,RowQ.congr h3 stdC_A,restA▸hr,hb⟩
theorem pbackA {w:World} {v vy:Value}(h:LpQ 1 w v lpA)(hy:RowQ true 1 w vy 2 (twoR 3 1)):Calls Tryz.prog 20 #[v,vy] w fun e w' => ∃vx,e = .returned (.tuple #[vx,.int .i64 0])∧RowQ true 3 w' vx 1 (fun _=>3)∧Below w.heap.size w w':=by
 refine(pback h hy lpA_may j0i3 j0i3 j0i3 j0i3).mono ?_
 rintro e w' ⟨vx,h | h,hb⟩
 ·refine⟨vx,h.2.1,h.2.2.rowQ.congr fun i hi=>?_,hb⟩
  obtain rfl:i=0:=by have:i<1:=hi;omega
  show lpA.lo.q 0+3=3
  exact of_decide_eq_true jo0f
 ·exact absurd rfl h.1
theorem pcostA {w:World} {v vx:Value}(h:LpQ 1 w v lpA)(hx:RowQ true 1 w vx 1 (fun _=>3)):Calls Tryz.prog 22 #[v,vx] w fun e w' => ∃v,e = .returned (.tuple #[v,.bool true])∧IsRat w' v 3∧Below w.heap.size w w':=by
 refine(pcost h hx j0i3 j0i3 j0i3 j0i3).mono ?_
 rintro e w' ⟨v,rfl,hv,hb⟩
 rw [costA_b]
 exact⟨v,rfl,costA_q▸hv,hb⟩
def Bw(w w':World):Prop:=Below w.heap.size w w'
theorem Bw.below {w w' w'':World}(h:Bw w w')(hb:Below w'.heap.size w' w''):Bw w w'':=below_trans h hb
theorem Bw.alloc_ {w w':World}(h:Bw w w')(o:Obj):Bw w (w'.alloc o):=below_trans h (below_new _ _)
def CutC(wN:World)(s10 s11:Value)(wx:World):Prop := ∃g b A n c d B m k,s10 = .pointer (some ⟨g,0,none⟩)∧s11 = .bool true∧Blk wx g 36 #[.bool b,.slice A n c,.bool d,.slice B m k]∧IsRat wx (.agg #[.bool b,.slice A n c,.bool d,.slice B m k]) 3∧Bw wN wx
set_option maxRecDepth 100000 in
set_option maxHeartbeats 1000000 in
theorem of11 {N:Int}(w:World)(h1 : -9223372036854775808≤N)(h2:N≤9223372036854775807) :
 Calls Tryz.prog 29 #[.int .i64 N] w fun e w'=>RatPost w w' e (Rat.divInt N 1):=by
 go_enter Tryz.func29,Tryz.ntmps29
 go_wp2_with fail
 refine Calls.mono (lawOf _ h1 h2) ?_
 rintro e w1 ⟨v,rfl,h,hb⟩
 obtain⟨b1,A1,n1,c1,d1,B1,m1,k1,rfl,-,-,-,-,-⟩:=id h.form
 have hB:=bun (hb)
 have Kr_1:=Lib.hid (show Blk w1 (w.heap.size) 36 #[.bool false,.slice none 0 0,.bool false,.slice none 0 0] from(Blk.new _ _ jupy _ _).below hb)
 have z_1:=Lib.hid (h)
 have HB_1:=Lib.hid (hB)
 have hs_1:w.heap.size≤w1.heap.size:=HB_1.out.size
 have hz_1:w.heap.size+1≤w1.heap.size := jrv7
 clear hB hb
 obtain⟨p10,p11,p12,p13,l1⟩:=Kr_1.out.use4
 obtain⟨r10,r11,r12,r13⟩:=Kr_1.out.into4
 go_wp2
 obtain⟨WF,hWF⟩ : ∃W,W=((((w1.setCell ⟨w.heap.size,0,none⟩ (.bool b1)).setCell ⟨w.heap.size,1,none⟩ (.slice A1 n1 c1)).setCell ⟨w.heap.size,2,none⟩ (.bool d1)).setCell ⟨w.heap.size,3,none⟩ (.slice B1 m1 k1)):=⟨_,rfl⟩
 rw [← hWF]
 have kq:Blk WF (w.heap.size) 36 #[.bool b1,.slice A1 n1 c1,.bool d1,.slice B1 m1 k1] := jvku
 have hBF:Below w.heap.size w WF:=by rw [hWF];exact Below.set4 (HB_1.out) jvm6
 have f1:IsRat WF (.agg #[.bool b1,.slice A1 n1 c1,.bool d1,.slice B1 m1 k1]) (Rat.divInt N 1) := jgdd
 have HE:Hid (RatPost w WF (Ending.returned (.agg #[.bool b1,.slice A1 n1 c1,.bool d1,.slice B1 m1 k1])) (Rat.divInt N 1)):=⟨_,rfl,f1,hBF⟩
 obtain⟨e0,e1,e2,e3⟩:=kq.cells4
 clear hWF
 exact bodyPost_ret (v := .agg #[.bool b1,.slice A1 n1 c1,.bool d1,.slice B1 m1 k1]) (by simp [results,Tryz.results29,go_sem,e0,e1,e2,e3] <;> omega) rfl HE.out
theorem of11_is {N:Int} {q:Rat}(hq:Rat.divInt N 1=q)(w:World)(h1 : -9223372036854775808≤N)(h2:N≤9223372036854775807):Calls Tryz.prog 29 #[.int .i64 N] w fun e w'=>RatPost w w' e q:=hq▸of11 w h1 h2
set_option maxRecDepth 100000 in
set_option maxHeartbeats 8000000 in
theorem awake11(w:World) :
 Calls Tryz.prog 9 #[] w fun e w'=>e = .returned (.bool true)∧Below w.heap.size w w':=by
 go_enter Tryz.func9,Tryz.ntmps9
 go_wp2_with fail
 refine Calls.mono (of11_is law_d1 _ j0i3 j0i3) ?_
 rintro e w1 ⟨v,rfl,h,hb⟩
 obtain⟨b1,A1,n1,c1,d1,B1,m1,k1,rfl,-,-,-,-,-⟩:=h.form
 have hE:=EQ.of (p:=true) h bq1
 have hBw:=(show Below w.heap.size w w1 from jc22)
 have p_1:=Lib.hid (hE)
 have HB_1:=Lib.hid (hBw)
 clear hBw hb
 clear h hE
 go_wp2_with fail
 generalize hW:w1.alloc (.cells #[.bool b1,.slice A1 n1 c1,.bool d1,.slice B1 m1 k1] 36)=w2
 have hz_2:=Lib.hid (show w2.heap.size=w1.heap.size+1 from j59e)
 have p_2:=Lib.hid (hW▸p_1.out.alloc_ _)
 have rc_2:Hid (RowT true 1 w2 (.slice (some ⟨w1.heap.size,0,none⟩) 1 1) 1 (fun _=>1)):=by rw [← hW];exact row1 rfl p_1.out
 have HB_2:=Lib.hid (show Below w.heap.size w w2 from hW▸halloc HB_1.out)
 clear hW p_1 HB_1
 refine Calls.mono (of11_is law_d1 _ j0i3 j0i3) ?_
 rintro e w3 ⟨v,rfl,h,hb⟩
 obtain⟨b3,A3,n3,c3,d3,B3,m3,k3,rfl,-,-,-,-,-⟩:=h.form
 have hE:=EQ.of (p:=true) h bq1
 have hBw:=(show Below w2.heap.size w2 w3 from jc22)
 have p_3:=Lib.hid (p_2.out.below hBw)
 have rc_3:=Lib.hid (rc_2.out.below hBw)
 have q_3:=Lib.hid (hE)
 have HB_3:=Lib.hid (below_trans HB_2.out hBw)
 clear hBw hb p_2 rc_2 HB_2
 clear h hE
 go_wp2_with fail
 generalize hW:w3.alloc (.cells #[.bool b3,.slice A3 n3 c3,.bool d3,.slice B3 m3 k3] 36)=w4
 have hz_4:=Lib.hid (show w4.heap.size=w3.heap.size+1 from j59e)
 have p_4:=Lib.hid (hW▸p_3.out.alloc_ _)
 have rc_4:=Lib.hid (hW▸rc_3.out.alloc_ _)
 have q_4:=Lib.hid (hW▸q_3.out.alloc_ _)
 have rk_4:Hid (RowT true 1 w4 (.slice (some ⟨w3.heap.size,0,none⟩) 1 1) 1 (fun _=>1)):=by rw [← hW];exact row1 rfl q_3.out
 have HB_4:=Lib.hid (show Below w.heap.size w w4 from hW▸halloc HB_3.out)
 clear hW p_3 rc_3 q_3 HB_3
 refine Calls.mono (of11_is law_d2 _ j0i3 j0i3) ?_
 rintro e w5 ⟨v,rfl,h,hb⟩
 obtain⟨b5,A5,n5,c5,d5,B5,m5,k5,rfl,-,-,-,-,-⟩:=h.form
 have hE:=EQ.of (p:=true) h bq2
 have hBw:=(show Below w4.heap.size w4 w5 from jc22)
 have p_5:=Lib.hid (p_4.out.below hBw)
 have rc_5:=Lib.hid (rc_4.out.below hBw)
 have q_5:=Lib.hid (q_4.out.below hBw)
 have rk_5:=Lib.hid (rk_4.out.below hBw)
 have r_5:=Lib.hid (hE)
 have HB_5:=Lib.hid (below_trans HB_4.out hBw)
 clear hBw hb p_4 rc_4 q_4 rk_4 HB_4
 clear h hE
 go_wp2_with fail
 generalize hW:w5.alloc (.cells #[.slice (some ⟨w3.heap.size,0,none⟩) 1 1,.int .i64 2,.bool b5,.slice A5 n5 c5,.bool d5,.slice B5 m5 k5] 60)=w6
 have hz_6:=Lib.hid (show w6.heap.size=w5.heap.size+1 from j59e)
 have p_6:=Lib.hid (hW▸p_5.out.alloc_ _)
 have rc_6:=Lib.hid (hW▸rc_5.out.alloc_ _)
 have q_6:=Lib.hid (hW▸q_5.out.alloc_ _)
 have rk_6:=Lib.hid (hW▸rk_5.out.alloc_ _)
 have r_6:=Lib.hid (hW▸r_5.out.alloc_ _)
 have rw_6:Hid (RwsN 1 w6 (.slice (some ⟨w5.heap.size,0,none⟩) 1 1) 1 lpA.row):=by rw [← hW];exact rws1 rfl rk_5.out.rowQ.rowN j0i3 r_5.out.limR_
 have HB_6:=Lib.hid (show Below w.heap.size w w6 from hW▸halloc HB_5.out)
 clear hW p_5 rc_5 q_5 rk_5 r_5 HB_5
 refine Calls.mono (of11_is law_d0 _ j0i3 j0i3) ?_
 rintro e w7 ⟨v,rfl,h,hb⟩
 obtain⟨b7,A7,n7,c7,d7,B7,m7,k7,rfl,-,-,-,-,-⟩:=h.form
 have hE:=EQ.of (p:=true) h bq0
 have hBw:=(show Below w6.heap.size w6 w7 from jc22)
 have p_7:=Lib.hid (p_6.out.below hBw)
 have rc_7:=Lib.hid (rc_6.out.below hBw)
 have q_7:=Lib.hid (q_6.out.below hBw)
 have rk_7:=Lib.hid (rk_6.out.below hBw)
 have r_7:=Lib.hid (r_6.out.below hBw)
 have rw_7:=Lib.hid (rw_6.out.below hBw)
 have s_7:=Lib.hid (hE)
 have HB_7:=Lib.hid (below_trans HB_6.out hBw)
 clear hBw hb p_6 rc_6 q_6 rk_6 r_6 rw_6 HB_6
 clear h hE
 go_wp2_with fail
 generalize hW:w7.alloc (.cells #[.bool b7,.slice A7 n7 c7,.bool d7,.slice B7 m7 k7] 36)=w8
 have hz_8:=Lib.hid (show w8.heap.size=w7.heap.size+1 from j59e)
 have p_8:=Lib.hid (hW▸p_7.out.alloc_ _)
 have rc_8:=Lib.hid (hW▸rc_7.out.alloc_ _)
 have q_8:=Lib.hid (hW▸q_7.out.alloc_ _)
 have rk_8:=Lib.hid (hW▸rk_7.out.alloc_ _)
 have r_8:=Lib.hid (hW▸r_7.out.alloc_ _)
 have rw_8:=Lib.hid (hW▸rw_7.out.alloc_ _)
 have s_8:=Lib.hid (hW▸s_7.out.alloc_ _)
 have rl_8:Hid (RowT true 1 w8 (.slice (some ⟨w7.heap.size,0,none⟩) 1 1) 1 (fun _=>0)):=by rw [← hW];exact row1 rfl s_7.out
 have HB_8:=Lib.hid (show Below w.heap.size w w8 from hW▸halloc HB_7.out)
 clear hW p_7 rc_7 q_7 rk_7 r_7 rw_7 s_7 HB_7
 refine Calls.mono (of11_is law_d0 _ j0i3 j0i3) ?_
 rintro e w9 ⟨v,rfl,h,hb⟩
 obtain⟨b9,A9,n9,c9,d9,B9,m9,k9,rfl,-,-,-,-,-⟩:=h.form
 have hE:=EQ.of (p:=true) h bq0
 have hBw:=(show Below w8.heap.size w8 w9 from jc22)
 have p_9:=Lib.hid (p_8.out.below hBw)
 have rc_9:=Lib.hid (rc_8.out.below hBw)
 have q_9:=Lib.hid (q_8.out.below hBw)
 have rk_9:=Lib.hid (rk_8.out.below hBw)
 have r_9:=Lib.hid (r_8.out.below hBw)
 have rw_9:=Lib.hid (rw_8.out.below hBw)
 have s_9:=Lib.hid (s_8.out.below hBw)
 have rl_9:=Lib.hid (rl_8.out.below hBw)
 have t_9:=Lib.hid (hE)
 have HB_9:=Lib.hid (below_trans HB_8.out hBw)
 clear hBw hb p_8 rc_8 q_8 rk_8 r_8 rw_8 s_8 rl_8 HB_8
 clear h hE
 go_wp2_with fail
 generalize hW:w9.alloc (.cells #[.bool b9,.slice A9 n9 c9,.bool d9,.slice B9 m9 k9] 36)=w10
 have hz_10:=Lib.hid (show w10.heap.size=w9.heap.size+1 from j59e)
 have p_10:=Lib.hid (hW▸p_9.out.alloc_ _)
 have rc_10:=Lib.hid (hW▸rc_9.out.alloc_ _)
 have q_10:=Lib.hid (hW▸q_9.out.alloc_ _)
 have rk_10:=Lib.hid (hW▸rk_9.out.alloc_ _)
 have r_10:=Lib.hid (hW▸r_9.out.alloc_ _)
 have rw_10:=Lib.hid (hW▸rw_9.out.alloc_ _)
 have s_10:=Lib.hid (hW▸s_9.out.alloc_ _)
 have rl_10:=Lib.hid (hW▸rl_9.out.alloc_ _)
 have t_10:=Lib.hid (hW▸t_9.out.alloc_ _)
 have rh_10:Hid (RowT true 1 w10 (.slice (some ⟨w9.heap.size,0,none⟩) 1 1) 1 (fun _=>0)):=by rw [← hW];exact row1 rfl t_9.out
 have HB_10:=Lib.hid (show Below w.heap.size w w10 from hW▸halloc HB_9.out)
 clear hW p_9 rc_9 q_9 rk_9 r_9 rw_9 s_9 rl_9 t_9 HB_9
 generalize hW:w10.alloc (.cells #[.bool true] 4)=w11
 have hz_11:=Lib.hid (show w11.heap.size=w10.heap.size+1 from j59e)
 have p_11:=Lib.hid (hW▸p_10.out.alloc_ _)
 have rc_11:=Lib.hid (hW▸rc_10.out.alloc_ _)
 have q_11:=Lib.hid (hW▸q_10.out.alloc_ _)
 have rk_11:=Lib.hid (hW▸rk_10.out.alloc_ _)
 have r_11:=Lib.hid (hW▸r_10.out.alloc_ _)
 have rw_11:=Lib.hid (hW▸rw_10.out.alloc_ _)
 have s_11:=Lib.hid (hW▸s_10.out.alloc_ _)
 have rl_11:=Lib.hid (hW▸rl_10.out.alloc_ _)
 have t_11:=Lib.hid (hW▸t_10.out.alloc_ _)
 have rh_11:=Lib.hid (hW▸rh_10.out.alloc_ _)
 have rb_11:Hid (BoolsN w11 (.slice (some ⟨w9.heap.size+1,0,none⟩) 1 1) 1 lpA.op):=by rw [← hW];exact bools1 (by have:=hz_10.out;omega) true
 have HB_11:=Lib.hid (show Below w.heap.size w w11 from hW▸halloc HB_10.out)
 clear hW p_10 rc_10 q_10 rk_10 r_10 rw_10 s_10 rl_10 t_10 rh_10 HB_10
 generalize hW:w11.alloc (.cells #[.slice (some ⟨w1.heap.size,0,none⟩) 1 1,.slice (some ⟨w5.heap.size,0,none⟩) 1 1,.slice (some ⟨w7.heap.size,0,none⟩) 1 1,.slice (some ⟨w9.heap.size,0,none⟩) 1 1,.slice (some ⟨w9.heap.size+1,0,none⟩) 1 1] 26)=w12
 have hz_12:=Lib.hid (show w12.heap.size=w11.heap.size+1 from j59e)
 have p_12:=Lib.hid (hW▸p_11.out.alloc_ _)
 have rc_12:=Lib.hid (hW▸rc_11.out.alloc_ _)
 have q_12:=Lib.hid (hW▸q_11.out.alloc_ _)
 have rk_12:=Lib.hid (hW▸rk_11.out.alloc_ _)
 have r_12:=Lib.hid (hW▸r_11.out.alloc_ _)
 have rw_12:=Lib.hid (hW▸rw_11.out.alloc_ _)
 have s_12:=Lib.hid (hW▸s_11.out.alloc_ _)
 have rl_12:=Lib.hid (hW▸rl_11.out.alloc_ _)
 have t_12:=Lib.hid (hW▸t_11.out.alloc_ _)
 have rh_12:=Lib.hid (hW▸rh_11.out.alloc_ _)
 have rb_12:=Lib.hid (hW▸rb_11.out.alloc_ _)
 have kp_12:Hid (Blk w12 (w9.heap.size+1+1) 26 #[.slice (some ⟨w1.heap.size,0,none⟩) 1 1,.slice (some ⟨w5.heap.size,0,none⟩) 1 1,.slice (some ⟨w7.heap.size,0,none⟩) 1 1,.slice (some ⟨w9.heap.size,0,none⟩) 1 1,.slice (some ⟨w9.heap.size+1,0,none⟩) 1 1]):=by rw [← hW];exact Blk.new _ _ (by have:=hz_11.out;have:=hz_10.out;omega) _ _
 have lp_12:Hid (LpQ 1 w12 (.agg #[.slice (some ⟨w1.heap.size,0,none⟩) 1 1,.slice (some ⟨w5.heap.size,0,none⟩) 1 1,.slice (some ⟨w7.heap.size,0,none⟩) 1 1,.slice (some ⟨w9.heap.size,0,none⟩) 1 1,.slice (some ⟨w9.heap.size+1,0,none⟩) 1 1]) lpA):=by rw [← hW];exact LpQ.alloc_ ⟨_,_,_,_,_,rfl,rc_11.out.rowQ.rowN,rw_11.out,rl_11.out.rowQ.rowN,rh_11.out.rowQ.rowN,rb_11.out⟩ _
 have HB_12:=Lib.hid (show Below w.heap.size w w12 from hW▸halloc HB_11.out)
 clear hW p_11 rc_11 q_11 rk_11 r_11 rw_11 s_11 rl_11 t_11 rh_11 rb_11 HB_11
 refine Calls.mono (pstdA lp_12.out) ?_
 rintro e w13 ⟨va,vb,vc,vr,rfl,hA,hB2,hC,hR,hb⟩
 obtain⟨b13,A13,n13,c13,d13,B13,m13,k13,rfl,-,-,-,-,-⟩:=id hR.form
 obtain⟨SA,SAc,rfl,_,_⟩:=hA.len
 obtain⟨SB,SBc,rfl,_,_⟩:=hB2.len
 obtain⟨SC,SCc,rfl,_,_⟩:=hC.len
 have hBw:=(show Below w12.heap.size w12 w13 from jc22)
 have kp_13:=Lib.hid (kp_12.out.below hBw)
 have lp_13:=Lib.hid (lp_12.out.below hBw)
 have sa_13:=Lib.hid (hA)
 have sb_13:=Lib.hid (hB2)
 have sc_13:=Lib.hid (hC)
 have sr_13:=Lib.hid (hR)
 have HB_13:=Lib.hid (below_trans HB_12.out hBw)
 clear hBw hb p_12 rc_12 q_12 rk_12 r_12 rw_12 s_12 rl_12 t_12 rh_12 rb_12 kp_12 lp_12 HB_12
 clear hA hB2 hC hR
 go_wp2_with fail
 generalize hW:w13.alloc (.cells #[.slice SA 1 SAc,.slice SB 1 SBc,.slice SC 2 SCc] 31)=w14
 have hz_14:=Lib.hid (show w14.heap.size=w13.heap.size+1 from j59e)
 have kp_14:=Lib.hid (hW▸kp_13.out.alloc_ _)
 have lp_14:=Lib.hid (hW▸lp_13.out.alloc_ _)
 have sa_14:=Lib.hid (hW▸sa_13.out.alloc_ _)
 have sb_14:=Lib.hid (hW▸sb_13.out.alloc_ _)
 have sc_14:=Lib.hid (hW▸sc_13.out.alloc_ _)
 have sr_14:=Lib.hid (hW▸sr_13.out.alloc_ _)
 have k2_14:Hid (Blk w14 (w13.heap.size) 31 #[.slice SA 1 SAc,.slice SB 1 SBc,.slice SC 2 SCc]) := jytn
 have HB_14:=Lib.hid (show Below w.heap.size w w14 from hW▸halloc HB_13.out)
 clear hW kp_13 lp_13 sa_13 sb_13 sc_13 sr_13 HB_13
 generalize hW:w14.alloc (.cells #[.bool b13,.slice A13 n13 c13,.bool d13,.slice B13 m13 k13] 36)=w15
 have hz_15:=Lib.hid (show w15.heap.size=w14.heap.size+1 from j59e)
 have kp_15:=Lib.hid (hW▸kp_14.out.alloc_ _)
 have lp_15:=Lib.hid (hW▸lp_14.out.alloc_ _)
 have sa_15:=Lib.hid (hW▸sa_14.out.alloc_ _)
 have sb_15:=Lib.hid (hW▸sb_14.out.alloc_ _)
 have sc_15:=Lib.hid (hW▸sc_14.out.alloc_ _)
 have sr_15:=Lib.hid (hW▸sr_14.out.alloc_ _)
 have k2_15:=Lib.hid (hW▸k2_14.out.alloc_ _)
 have k3_15:Hid (Blk w15 (w13.heap.size+1) 36 #[.bool b13,.slice A13 n13 c13,.bool d13,.slice B13 m13 k13]):=by rw [← hW];exact Blk.new _ _ (by have:=hz_14.out;omega) _ _
 have HB_15:=Lib.hid (show Below w.heap.size w w15 from hW▸halloc HB_14.out)
 clear hW kp_14 lp_14 sa_14 sb_14 sc_14 sr_14 k2_14 HB_14
 refine Calls.mono (pstd_no (lpZ_q _) lpZ_no j0i3 j0i3) ?_
 rintro e w16 ⟨vr,rfl,hR,hb⟩
 obtain⟨b16,A16,n16,c16,d16,B16,m16,k16,rfl,-,-,-,-,-⟩:=id hR.form
 have hBw:=(show Below w15.heap.size w15 w16 from jc22)
 have kp_16:=Lib.hid (kp_15.out.below hBw)
 have lp_16:=Lib.hid (lp_15.out.below hBw)
 have sa_16:=Lib.hid (sa_15.out.below hBw)
 have sb_16:=Lib.hid (sb_15.out.below hBw)
 have sc_16:=Lib.hid (sc_15.out.below hBw)
 have sr_16:=Lib.hid (sr_15.out.below hBw)
 have k2_16:=Lib.hid (k2_15.out.below hBw)
 have k3_16:=Lib.hid (k3_15.out.below hBw)
 have HB_16:=Lib.hid (below_trans HB_15.out hBw)
 clear hBw hb kp_15 lp_15 sa_15 sb_15 sc_15 sr_15 k2_15 k3_15 HB_15
 clear hR
 go_upto_region 4 with fail
 generalize hW:w16.alloc (.cells #[.slice none 0 0,.slice none 0 0,.slice none 0 0] 31)=w17
 have hz_17:=Lib.hid (show w17.heap.size=w16.heap.size+1 from j59e)
 have kp_17:=Lib.hid (hW▸kp_16.out.alloc_ _)
 have lp_17:=Lib.hid (hW▸lp_16.out.alloc_ _)
 have sa_17:=Lib.hid (hW▸sa_16.out.alloc_ _)
 have sb_17:=Lib.hid (hW▸sb_16.out.alloc_ _)
 have sc_17:=Lib.hid (hW▸sc_16.out.alloc_ _)
 have sr_17:=Lib.hid (hW▸sr_16.out.alloc_ _)
 have k2_17:=Lib.hid (hW▸k2_16.out.alloc_ _)
 have k3_17:=Lib.hid (hW▸k3_16.out.alloc_ _)
 have HB_17:=Lib.hid (show Below w.heap.size w w17 from hW▸halloc HB_16.out)
 clear hW kp_16 lp_16 sa_16 sb_16 sc_16 sr_16 k2_16 k3_16 HB_16
 generalize hW:w17.alloc (.cells #[.bool b16,.slice A16 n16 c16,.bool d16,.slice B16 m16 k16] 36)=w18
 have hz_18:=Lib.hid (show w18.heap.size=w17.heap.size+1 from j59e)
 have kp_18:=Lib.hid (hW▸kp_17.out.alloc_ _)
 have lp_18:=Lib.hid (hW▸lp_17.out.alloc_ _)
 have sa_18:=Lib.hid (hW▸sa_17.out.alloc_ _)
 have sb_18:=Lib.hid (hW▸sb_17.out.alloc_ _)
 have sc_18:=Lib.hid (hW▸sc_17.out.alloc_ _)
 have sr_18:=Lib.hid (hW▸sr_17.out.alloc_ _)
 have k2_18:=Lib.hid (hW▸k2_17.out.alloc_ _)
 have k3_18:=Lib.hid (hW▸k3_17.out.alloc_ _)
 have HB_18:=Lib.hid (show Below w.heap.size w w18 from hW▸halloc HB_17.out)
 clear hW kp_17 lp_17 sa_17 sb_17 sc_17 sr_17 k2_17 k3_17 HB_17
 obtain⟨x18_kp_0,x18_kp_1,x18_kp_2,x18_kp_3,x18_kp_4,x18_kp_l⟩:=kp_18.out.use5
 refine wp_region_held_drew (S:=(fun w'=>w'.cell? ⟨w9.heap.size+1+1,0,none⟩=some (.slice (some ⟨w1.heap.size,0,none⟩) 1 1)∧w'.cell? ⟨w9.heap.size+1+1,1,none⟩=some (.slice (some ⟨w5.heap.size,0,none⟩) 1 1)∧w'.cell? ⟨w9.heap.size+1+1,2,none⟩=some (.slice (some ⟨w7.heap.size,0,none⟩) 1 1)∧w'.cell? ⟨w9.heap.size+1+1,3,none⟩=some (.slice (some ⟨w9.heap.size,0,none⟩) 1 1)∧w'.cell? ⟨w9.heap.size+1+1,4,none⟩=some (.slice (some ⟨w9.heap.size+1,0,none⟩) 1 1))) jo0f ?_ (fun hHeld=>?_)
 ·(first | (refine⟨?_,?_,?_,?_,?_⟩ <;> (first | with_reducible assumption | ((with_reducible refine Eq.trans (cell_drew _ _) ?_);with_reducible assumption) | go_keep)) | go_keep)
 refine jtk 0 ?_
 refine jrd 1 fun Kz hKz=>?_
 go_simp
 refine Calls.mono (of11_is law_d3 _ j0i3 j0i3) ?_
 rintro e w19 ⟨v,rfl,h,hb⟩
 obtain⟨b19,A19,n19,c19,d19,B19,m19,k19,rfl,-,-,-,-,-⟩:=h.form
 have hE:=EQ.of (p:=true) h bq3
 have hBw:=(show Below w18.heap.size w18 w19 from jc22)
 have kp_19:=Lib.hid (kp_18.out.below hBw)
 have lp_19:=Lib.hid (lp_18.out.below hBw)
 have sa_19:=Lib.hid (sa_18.out.below hBw)
 have sb_19:=Lib.hid (sb_18.out.below hBw)
 have sc_19:=Lib.hid (sc_18.out.below hBw)
 have sr_19:=Lib.hid (sr_18.out.below hBw)
 have k2_19:=Lib.hid (k2_18.out.below hBw)
 have k3_19:=Lib.hid (k3_18.out.below hBw)
 have u_19:=Lib.hid (hE)
 have HB_19:=Lib.hid (below_trans HB_18.out hBw)
 clear hBw hb kp_18 lp_18 sa_18 sb_18 sc_18 sr_18 k2_18 k3_18 HB_18
 clear h hE
 obtain⟨x19_kp_0,x19_kp_1,x19_kp_2,x19_kp_3,x19_kp_4,x19_kp_l⟩:=kp_19.out.use5
 clear x18_kp_0 x18_kp_1 x18_kp_2 x18_kp_3 x18_kp_4 x18_kp_l
 refine hKz.out _ _ jq0d (fun hHeld=>?_)
 clear hKz Kz
 refine jsp ?_
 refine jrd 2 fun Kz hKz=>?_
 go_simp
 refine Calls.mono (of11_is law_d1 _ j0i3 j0i3) ?_
 rintro e w20 ⟨v,rfl,h,hb⟩
 obtain⟨b20,A20,n20,c20,d20,B20,m20,k20,rfl,-,-,-,-,-⟩:=h.form
 have hE:=EQ.of (p:=true) h bq1
 have hBw:=(show Below w19.heap.size w19 w20 from jc22)
 have kp_20:=Lib.hid (kp_19.out.below hBw)
 have lp_20:=Lib.hid (lp_19.out.below hBw)
 have sa_20:=Lib.hid (sa_19.out.below hBw)
 have sb_20:=Lib.hid (sb_19.out.below hBw)
 have sc_20:=Lib.hid (sc_19.out.below hBw)
 have sr_20:=Lib.hid (sr_19.out.below hBw)
 have k2_20:=Lib.hid (k2_19.out.below hBw)
 have k3_20:=Lib.hid (k3_19.out.below hBw)
 have u_20:=Lib.hid (u_19.out.below hBw)
 have v_20:=Lib.hid (hE)
 have HB_20:=Lib.hid (below_trans HB_19.out hBw)
 clear hBw hb kp_19 lp_19 sa_19 sb_19 sc_19 sr_19 k2_19 k3_19 u_19 HB_19
 clear h hE
 obtain⟨x20_kp_0,x20_kp_1,x20_kp_2,x20_kp_3,x20_kp_4,x20_kp_l⟩:=kp_20.out.use5
 clear x19_kp_0 x19_kp_1 x19_kp_2 x19_kp_3 x19_kp_4 x19_kp_l
 refine hKz.out _ _ jq0d (fun hHeld=>?_)
 clear hKz Kz
 refine jsp ?_
 refine jrd 3 fun Kz hKz=>?_
 go_simp
 generalize hW:w20.alloc (.cells #[.bool b19,.slice A19 n19 c19,.bool d19,.slice B19 m19 k19,.bool b20,.slice A20 n20 c20,.bool d20,.slice B20 m20 k20] 36)=w21
 have hz_21:=Lib.hid (show w21.heap.size=w20.heap.size+1 from j59e)
 have kp_21:=Lib.hid (hW▸kp_20.out.alloc_ _)
 have lp_21:=Lib.hid (hW▸lp_20.out.alloc_ _)
 have sa_21:=Lib.hid (hW▸sa_20.out.alloc_ _)
 have sb_21:=Lib.hid (hW▸sb_20.out.alloc_ _)
 have sc_21:=Lib.hid (hW▸sc_20.out.alloc_ _)
 have sr_21:=Lib.hid (hW▸sr_20.out.alloc_ _)
 have k2_21:=Lib.hid (hW▸k2_20.out.alloc_ _)
 have k3_21:=Lib.hid (hW▸k3_20.out.alloc_ _)
 have u_21:=Lib.hid (hW▸u_20.out.alloc_ _)
 have v_21:=Lib.hid (hW▸v_20.out.alloc_ _)
 have ry_21:Hid (RowT true 1 w21 (.slice (some ⟨w20.heap.size,0,none⟩) 2 2) 2 (twoR 3 1)):=by rw [← hW];exact row2 rfl u_20.out v_20.out
 have HB_21:=Lib.hid (show Below w.heap.size w w21 from hW▸halloc HB_20.out)
 clear hW kp_20 lp_20 sa_20 sb_20 sc_20 sr_20 k2_20 k3_20 u_20 v_20 HB_20
 obtain⟨x21_kp_0,x21_kp_1,x21_kp_2,x21_kp_3,x21_kp_4,x21_kp_l⟩:=kp_21.out.use5
 clear x20_kp_0 x20_kp_1 x20_kp_2 x20_kp_3 x20_kp_4 x20_kp_l
 refine hKz.out _ _ jq0d (fun hHeld=>?_)
 clear hKz Kz
 refine jsp ?_
 refine jrd 4 fun Kz hKz=>?_
 go_simp
 refine Calls.mono (pbackA lp_21.out ry_21.out.rowQ) ?_
 rintro e w22 ⟨vx,rfl,hX,hb⟩
 obtain⟨XA,XC,rfl,_,_⟩:=hX.len
 have hBw:=(show Below w21.heap.size w21 w22 from jc22)
 have kp_22:=Lib.hid (kp_21.out.below hBw)
 have lp_22:=Lib.hid (lp_21.out.below hBw)
 have sa_22:=Lib.hid (sa_21.out.below hBw)
 have sb_22:=Lib.hid (sb_21.out.below hBw)
 have sc_22:=Lib.hid (sc_21.out.below hBw)
 have sr_22:=Lib.hid (sr_21.out.below hBw)
 have k2_22:=Lib.hid (k2_21.out.below hBw)
 have k3_22:=Lib.hid (k3_21.out.below hBw)
 have u_22:=Lib.hid (u_21.out.below hBw)
 have v_22:=Lib.hid (v_21.out.below hBw)
 have ry_22:=Lib.hid (ry_21.out.below hBw)
 have bx_22:=Lib.hid (hX)
 have HB_22:=Lib.hid (below_trans HB_21.out hBw)
 clear hBw hb kp_21 lp_21 sa_21 sb_21 sc_21 sr_21 k2_21 k3_21 u_21 v_21 ry_21 HB_21
 clear hX
 obtain⟨x22_kp_0,x22_kp_1,x22_kp_2,x22_kp_3,x22_kp_4,x22_kp_l⟩:=kp_22.out.use5
 clear x21_kp_0 x21_kp_1 x21_kp_2 x21_kp_3 x21_kp_4 x21_kp_l
 refine hKz.out _ _ jq0d (fun hHeld=>?_)
 clear hKz Kz
 refine jsp ?_
 refine jtk 5 ?_
 refine jtk 6 ?_
 refine jtk 7 ?_
 refine jtk 8 ?_
 refine jtk 9 ?_
 refine wpAnyH_done jo0f ?_ _
 go_upto_region 5 with fail
 have hw_22:Hid (Bw w22 w22):=Lib.hid (Below.refl _ _)
 go_cut [10,11] (fun s10 s11 wx=>CutC w22 s10 s11 wx)
 case first =>
  obtain⟨x22_kp_0,x22_kp_1,x22_kp_2,x22_kp_3,x22_kp_4,x22_kp_l⟩:=kp_22.out.use5
  refine wp_region_held_drew (S:=(fun w'=>w'.cell? ⟨w9.heap.size+1+1,0,none⟩=some (.slice (some ⟨w1.heap.size,0,none⟩) 1 1)∧w'.cell? ⟨w9.heap.size+1+1,1,none⟩=some (.slice (some ⟨w5.heap.size,0,none⟩) 1 1)∧w'.cell? ⟨w9.heap.size+1+1,2,none⟩=some (.slice (some ⟨w7.heap.size,0,none⟩) 1 1)∧w'.cell? ⟨w9.heap.size+1+1,3,none⟩=some (.slice (some ⟨w9.heap.size,0,none⟩) 1 1)∧w'.cell? ⟨w9.heap.size+1+1,4,none⟩=some (.slice (some ⟨w9.heap.size+1,0,none⟩) 1 1))) jo0f ?_ (fun hHeld=>?_)
  ·(first | (refine⟨?_,?_,?_,?_,?_⟩ <;> (first | with_reducible assumption | ((with_reducible refine Eq.trans (cell_drew _ _) ?_);with_reducible assumption) | ((repeat rw [World.cell?_setCell_far _ _ _ _ jc53]);with_reducible assumption) | go_keep)) | go_keep)
  refine jtk 0 ?_
  refine wpAnyH_ready (rs := [1,7]) jo0f jupy ?_
  refine AllReadyH.cons rfl (fun Kz hKz=>?_) (AllReadyH.cons rfl (fun Kz hKz=>?_) AllReadyH.nil)
  ·go_simp
   refine Calls.mono (of11_is law_d3 _ j0i3 j0i3) ?_
   rintro e w23 ⟨v,rfl,h,hb⟩
   obtain⟨b23,A23,n23,c23,d23,B23,m23,k23,rfl,-,-,-,-,-⟩:=h.form
   have hE:=EQ.of (p:=true) h bq3
   have hBw:=(show Below w22.heap.size w22 w23 from jc22)
   have lp_23:=Lib.hid (lp_22.out.below hBw)
   have kp_23:=Lib.hid (kp_22.out.below hBw)
   have hw_23:=Lib.hid (hw_22.out.below hBw)
   have u_23:=Lib.hid (hE)
   have HB_23:=Lib.hid (below_trans HB_22.out hBw)
   clear hBw hb lp_22 kp_22 hw_22 HB_22
   clear h hE
   obtain⟨x23_kp_0,x23_kp_1,x23_kp_2,x23_kp_3,x23_kp_4,x23_kp_l⟩:=kp_23.out.use5
   clear x22_kp_0 x22_kp_1 x22_kp_2 x22_kp_3 x22_kp_4 x22_kp_l
   refine hKz.out _ _ jsd5 (fun hHeld=>?_)
   clear hKz Kz
   refine jsp ?_
   refine wpAnyH_ready (rs := [2,7]) jo0f jupy ?_
   refine AllReadyH.cons rfl (fun Kz hKz=>?_) (AllReadyH.cons rfl (fun Kz hKz=>?_) AllReadyH.nil)
   ·go_simp
    generalize hW:w23.alloc (.cells #[.bool b23,.slice A23 n23 c23,.bool d23,.slice B23 m23 k23] 36)=w24
    have hz_24:=Lib.hid (show w24.heap.size=w23.heap.size+1 from j59e)
    have lp_24:=Lib.hid (hW▸lp_23.out.alloc_ _)
    have kp_24:=Lib.hid (hW▸kp_23.out.alloc_ _)
    have hw_24:=Lib.hid (hW▸hw_23.out.alloc_ _)
    have u_24:=Lib.hid (hW▸u_23.out.alloc_ _)
    have ru_24:Hid (RowT true 1 w24 (.slice (some ⟨w23.heap.size,0,none⟩) 1 1) 1 (fun _=>3)):=by rw [← hW];exact row1 rfl u_23.out
    have HB_24:=Lib.hid (show Below w.heap.size w w24 from hW▸halloc HB_23.out)
    clear hW lp_23 kp_23 hw_23 u_23 HB_23
    obtain⟨x24_kp_0,x24_kp_1,x24_kp_2,x24_kp_3,x24_kp_4,x24_kp_l⟩:=kp_24.out.use5
    clear x23_kp_0 x23_kp_1 x23_kp_2 x23_kp_3 x23_kp_4 x23_kp_l
    refine hKz.out _ _ jsd5 (fun hHeld=>?_)
    clear hKz Kz
    refine jsp ?_
    refine wpAnyH_ready (rs := [3,7]) jo0f jupy ?_
    refine AllReadyH.cons rfl (fun Kz hKz=>?_) (AllReadyH.cons rfl (fun Kz hKz=>?_) AllReadyH.nil)
    ·go_simp
     refine Calls.mono (pcostA lp_24.out ru_24.out.rowQ) ?_
     rintro e w25 ⟨v,rfl,hR,hb⟩
     obtain⟨b25,A25,n25,c25,d25,B25,m25,k25,rfl,-,-,-,-,-⟩:=id hR.form
     have hBw:=(show Below w24.heap.size w24 w25 from jc22)
     have lp_25:=Lib.hid (lp_24.out.below hBw)
     have kp_25:=Lib.hid (kp_24.out.below hBw)
     have hw_25:=Lib.hid (hw_24.out.below hBw)
     have u_25:=Lib.hid (u_24.out.below hBw)
     have ru_25:=Lib.hid (ru_24.out.below hBw)
     have c3_25:=Lib.hid (hR)
     have HB_25:=Lib.hid (below_trans HB_24.out hBw)
     clear hBw hb lp_24 kp_24 hw_24 u_24 ru_24 HB_24
     clear hR
     obtain⟨x25_kp_0,x25_kp_1,x25_kp_2,x25_kp_3,x25_kp_4,x25_kp_l⟩:=kp_25.out.use5
     clear x24_kp_0 x24_kp_1 x24_kp_2 x24_kp_3 x24_kp_4 x24_kp_l
     refine hKz.out _ _ jsd5 (fun hHeld=>?_)
     clear hKz Kz
     refine jsp ?_
     refine jtk 4 ?_
     refine jtk 5 ?_
     refine jtk 6 ?_
     refine jrd 7 fun Kz hKz=>?_
     go_simp
     have hlt_kp:w9.heap.size+1+1<w25.heap.size:=kp_25.out.lt
     have hwz:Below w22.heap.size w22 w25:=hw_25.out
     generalize hW:w25.alloc (.cells #[.bool false,.slice none 0 0,.bool false,.slice none 0 0] 36)=w26
     have hz_26:=Lib.hid (show w26.heap.size=w25.heap.size+1 from j59e)
     have lp_26:=Lib.hid (hW▸lp_25.out.alloc_ _)
     have kp_26:=Lib.hid (hW▸kp_25.out.alloc_ _)
     have hw_26:=Lib.hid (hW▸hw_25.out.alloc_ _)
     have u_26:=Lib.hid (hW▸u_25.out.alloc_ _)
     have ru_26:=Lib.hid (hW▸ru_25.out.alloc_ _)
     have c3_26:=Lib.hid (hW▸c3_25.out.alloc_ _)
     have kc_26:Hid (Blk w26 (w25.heap.size) 36 #[.bool false,.slice none 0 0,.bool false,.slice none 0 0]) := jytn
     have HB_26:=Lib.hid (show Below w.heap.size w w26 from hW▸halloc HB_25.out)
     clear hW lp_25 kp_25 hw_25 u_25 ru_25 c3_25 HB_25
     have hne:w25.heap.size≠w9.heap.size+1+1:=Nat.ne_of_gt hlt_kp
     obtain⟨x26_kp_0,x26_kp_1,x26_kp_2,x26_kp_3,x26_kp_4,x26_kp_l⟩:=kp_26.out.use5
     clear x25_kp_0 x25_kp_1 x25_kp_2 x25_kp_3 x25_kp_4 x25_kp_l
     refine hKz.out _ _ jsd5 (fun hHeld=>?_)
     clear hKz Kz
     refine jsp ?_
     refine jrd 8 fun Kz hKz=>?_
     go_simp
     obtain⟨i0,i1,i2,i3⟩:=kc_26.out.into4
     obtain⟨g0,g1,g2,g3,gl⟩:=kc_26.out.use4
     go_simp
     refine hKz.out _ _ jsd5 (fun hHeld=>?_)
     clear hKz Kz
     refine jsp ?_
     refine jtk 9 ?_
     refine wpAnyH_done jo0f ?_ _
     go_wp2_with fail
     go_meet
     exact⟨_,_,_,_,_,_,_,_,_,rfl,rfl,kc_26.out.own4,IsRat.other4 c3_26.out kc_26.out nu nu nu nu,Below.set4 hw_26.out hwz.size⟩
    ·go_simp
     have hlt_kp:w9.heap.size+1+1<w24.heap.size:=kp_24.out.lt
     have hwz:Below w22.heap.size w22 w24:=hw_24.out
     generalize hW:w24.alloc (.cells #[.bool false,.slice none 0 0,.bool false,.slice none 0 0] 36)=w25
     have hz_25:=Lib.hid (show w25.heap.size=w24.heap.size+1 from j59e)
     have lp_25:=Lib.hid (hW▸lp_24.out.alloc_ _)
     have kp_25:=Lib.hid (hW▸kp_24.out.alloc_ _)
     have hw_25:=Lib.hid (hW▸hw_24.out.alloc_ _)
     have u_25:=Lib.hid (hW▸u_24.out.alloc_ _)
     have ru_25:=Lib.hid (hW▸ru_24.out.alloc_ _)
     have kc_25:Hid (Blk w25 (w24.heap.size) 36 #[.bool false,.slice none 0 0,.bool false,.slice none 0 0]) := jytn
     have HB_25:=Lib.hid (show Below w.heap.size w w25 from hW▸halloc HB_24.out)
     clear hW lp_24 kp_24 hw_24 u_24 ru_24 HB_24
     have hne:w24.heap.size≠w9.heap.size+1+1:=Nat.ne_of_gt hlt_kp
     obtain⟨x25_kp_0,x25_kp_1,x25_kp_2,x25_kp_3,x25_kp_4,x25_kp_l⟩:=kp_25.out.use5
     clear x24_kp_0 x24_kp_1 x24_kp_2 x24_kp_3 x24_kp_4 x24_kp_l
     refine hKz.out _ _ jsd5 (fun hHeld=>?_)
     clear hKz Kz
     refine jsp ?_
     refine jrd 3 fun Kz hKz=>?_
     go_simp
     refine Calls.mono (pcostA lp_25.out ru_25.out.rowQ) ?_
     rintro e w26 ⟨v,rfl,hR,hb⟩
     obtain⟨b26,A26,n26,c26,d26,B26,m26,k26,rfl,-,-,-,-,-⟩:=id hR.form
     have hBw:=(show Below w25.heap.size w25 w26 from jc22)
     have lp_26:=Lib.hid (lp_25.out.below hBw)
     have kp_26:=Lib.hid (kp_25.out.below hBw)
     have hw_26:=Lib.hid (hw_25.out.below hBw)
     have u_26:=Lib.hid (u_25.out.below hBw)
     have ru_26:=Lib.hid (ru_25.out.below hBw)
     have kc_26:=Lib.hid (kc_25.out.below hBw)
     have c3_26:=Lib.hid (hR)
     have HB_26:=Lib.hid (below_trans HB_25.out hBw)
     clear hBw hb lp_25 kp_25 hw_25 u_25 ru_25 kc_25 HB_25
     clear hR
     obtain⟨x26_kp_0,x26_kp_1,x26_kp_2,x26_kp_3,x26_kp_4,x26_kp_l⟩:=kp_26.out.use5
     clear x25_kp_0 x25_kp_1 x25_kp_2 x25_kp_3 x25_kp_4 x25_kp_l
     refine hKz.out _ _ jsd5 (fun hHeld=>?_)
     clear hKz Kz
     refine jsp ?_
     refine jtk 4 ?_
     refine jtk 5 ?_
     refine jtk 6 ?_
     refine jrd 8 fun Kz hKz=>?_
     go_simp
     obtain⟨i0,i1,i2,i3⟩:=kc_26.out.into4
     obtain⟨g0,g1,g2,g3,gl⟩:=kc_26.out.use4
     go_simp
     refine hKz.out _ _ jsd5 (fun hHeld=>?_)
     clear hKz Kz
     refine jsp ?_
     refine jtk 9 ?_
     refine wpAnyH_done jo0f ?_ _
     go_wp2_with fail
     go_meet
     exact⟨_,_,_,_,_,_,_,_,_,rfl,rfl,kc_26.out.own4,IsRat.other4 c3_26.out kc_26.out nu nu nu nu,Below.set4 hw_26.out hwz.size⟩
   ·go_simp
    have hlt_kp:w9.heap.size+1+1<w23.heap.size:=kp_23.out.lt
    have hwz:Below w22.heap.size w22 w23:=hw_23.out
    generalize hW:w23.alloc (.cells #[.bool false,.slice none 0 0,.bool false,.slice none 0 0] 36)=w24
    have hz_24:=Lib.hid (show w24.heap.size=w23.heap.size+1 from j59e)
    have lp_24:=Lib.hid (hW▸lp_23.out.alloc_ _)
    have kp_24:=Lib.hid (hW▸kp_23.out.alloc_ _)
    have hw_24:=Lib.hid (hW▸hw_23.out.alloc_ _)
    have u_24:=Lib.hid (hW▸u_23.out.alloc_ _)
    have kc_24:Hid (Blk w24 (w23.heap.size) 36 #[.bool false,.slice none 0 0,.bool false,.slice none 0 0]) := jytn
    have HB_24:=Lib.hid (show Below w.heap.size w w24 from hW▸halloc HB_23.out)
    clear hW lp_23 kp_23 hw_23 u_23 HB_23
    have hne:w23.heap.size≠w9.heap.size+1+1:=Nat.ne_of_gt hlt_kp
    obtain⟨x24_kp_0,x24_kp_1,x24_kp_2,x24_kp_3,x24_kp_4,x24_kp_l⟩:=kp_24.out.use5
    clear x23_kp_0 x23_kp_1 x23_kp_2 x23_kp_3 x23_kp_4 x23_kp_l
    refine hKz.out _ _ jsd5 (fun hHeld=>?_)
    clear hKz Kz
    refine jsp ?_
    refine jrd 2 fun Kz hKz=>?_
    go_simp
    generalize hW:w24.alloc (.cells #[.bool b23,.slice A23 n23 c23,.bool d23,.slice B23 m23 k23] 36)=w25
    have hz_25:=Lib.hid (show w25.heap.size=w24.heap.size+1 from j59e)
    have lp_25:=Lib.hid (hW▸lp_24.out.alloc_ _)
    have kp_25:=Lib.hid (hW▸kp_24.out.alloc_ _)
    have hw_25:=Lib.hid (hW▸hw_24.out.alloc_ _)
    have u_25:=Lib.hid (hW▸u_24.out.alloc_ _)
    have kc_25:=Lib.hid (hW▸kc_24.out.alloc_ _)
    have ru_25:Hid (RowT true 1 w25 (.slice (some ⟨w24.heap.size,0,none⟩) 1 1) 1 (fun _=>3)):=by rw [← hW];exact row1 rfl u_24.out
    have HB_25:=Lib.hid (show Below w.heap.size w w25 from hW▸halloc HB_24.out)
    clear hW lp_24 kp_24 hw_24 u_24 kc_24 HB_24
    obtain⟨x25_kp_0,x25_kp_1,x25_kp_2,x25_kp_3,x25_kp_4,x25_kp_l⟩:=kp_25.out.use5
    clear x24_kp_0 x24_kp_1 x24_kp_2 x24_kp_3 x24_kp_4 x24_kp_l
    refine hKz.out _ _ jsd5 (fun hHeld=>?_)
    clear hKz Kz
    refine jsp ?_
    refine jrd 3 fun Kz hKz=>?_
    go_simp
    refine Calls.mono (pcostA lp_25.out ru_25.out.rowQ) ?_
    rintro e w26 ⟨v,rfl,hR,hb⟩
    obtain⟨b26,A26,n26,c26,d26,B26,m26,k26,rfl,-,-,-,-,-⟩:=id hR.form
    have hBw:=(show Below w25.heap.size w25 w26 from jc22)
    have lp_26:=Lib.hid (lp_25.out.below hBw)
    have kp_26:=Lib.hid (kp_25.out.below hBw)
    have hw_26:=Lib.hid (hw_25.out.below hBw)
    have u_26:=Lib.hid (u_25.out.below hBw)
    have kc_26:=Lib.hid (kc_25.out.below hBw)
    have ru_26:=Lib.hid (ru_25.out.below hBw)
    have c3_26:=Lib.hid (hR)
    have HB_26:=Lib.hid (below_trans HB_25.out hBw)
    clear hBw hb lp_25 kp_25 hw_25 u_25 kc_25 ru_25 HB_25
    clear hR
    obtain⟨x26_kp_0,x26_kp_1,x26_kp_2,x26_kp_3,x26_kp_4,x26_kp_l⟩:=kp_26.out.use5
    clear x25_kp_0 x25_kp_1 x25_kp_2 x25_kp_3 x25_kp_4 x25_kp_l
    refine hKz.out _ _ jsd5 (fun hHeld=>?_)
    clear hKz Kz
    refine jsp ?_
    refine jtk 4 ?_
    refine jtk 5 ?_
    refine jtk 6 ?_
    refine jrd 8 fun Kz hKz=>?_
    go_simp
    obtain⟨i0,i1,i2,i3⟩:=kc_26.out.into4
    obtain⟨g0,g1,g2,g3,gl⟩:=kc_26.out.use4
    go_simp
    refine hKz.out _ _ jsd5 (fun hHeld=>?_)
    clear hKz Kz
    refine jsp ?_
    refine jtk 9 ?_
    refine wpAnyH_done jo0f ?_ _
    go_wp2_with fail
    go_meet
    exact⟨_,_,_,_,_,_,_,_,_,rfl,rfl,kc_26.out.own4,IsRat.other4 c3_26.out kc_26.out nu nu nu nu,Below.set4 hw_26.out hwz.size⟩
  ·go_simp
   have hlt_kp:w9.heap.size+1+1<w22.heap.size:=kp_22.out.lt
   have hwz:Below w22.heap.size w22 w22:=hw_22.out
   generalize hW:w22.alloc (.cells #[.bool false,.slice none 0 0,.bool false,.slice none 0 0] 36)=w23
   have hz_23:=Lib.hid (show w23.heap.size=w22.heap.size+1 from j59e)
   have lp_23:=Lib.hid (hW▸lp_22.out.alloc_ _)
   have kp_23:=Lib.hid (hW▸kp_22.out.alloc_ _)
   have hw_23:=Lib.hid (hW▸hw_22.out.alloc_ _)
   have kc_23:Hid (Blk w23 (w22.heap.size) 36 #[.bool false,.slice none 0 0,.bool false,.slice none 0 0]) := jytn
   have HB_23:=Lib.hid (show Below w.heap.size w w23 from hW▸halloc HB_22.out)
   clear hW lp_22 kp_22 hw_22 HB_22
   have hne:w22.heap.size≠w9.heap.size+1+1:=Nat.ne_of_gt hlt_kp
   obtain⟨x23_kp_0,x23_kp_1,x23_kp_2,x23_kp_3,x23_kp_4,x23_kp_l⟩:=kp_23.out.use5
   clear x22_kp_0 x22_kp_1 x22_kp_2 x22_kp_3 x22_kp_4 x22_kp_l
   refine hKz.out _ _ jsd5 (fun hHeld=>?_)
   clear hKz Kz
   refine jsp ?_
   refine jrd 1 fun Kz hKz=>?_
   go_simp
   refine Calls.mono (of11_is law_d3 _ j0i3 j0i3) ?_
   rintro e w24 ⟨v,rfl,h,hb⟩
   obtain⟨b24,A24,n24,c24,d24,B24,m24,k24,rfl,-,-,-,-,-⟩:=h.form
   have hE:=EQ.of (p:=true) h bq3
   have hBw:=(show Below w23.heap.size w23 w24 from jc22)
   have lp_24:=Lib.hid (lp_23.out.below hBw)
   have kp_24:=Lib.hid (kp_23.out.below hBw)
   have hw_24:=Lib.hid (hw_23.out.below hBw)
   have kc_24:=Lib.hid (kc_23.out.below hBw)
   have u_24:=Lib.hid (hE)
   have HB_24:=Lib.hid (below_trans HB_23.out hBw)
   clear hBw hb lp_23 kp_23 hw_23 kc_23 HB_23
   clear h hE
   obtain⟨x24_kp_0,x24_kp_1,x24_kp_2,x24_kp_3,x24_kp_4,x24_kp_l⟩:=kp_24.out.use5
   clear x23_kp_0 x23_kp_1 x23_kp_2 x23_kp_3 x23_kp_4 x23_kp_l
   refine hKz.out _ _ jsd5 (fun hHeld=>?_)
   clear hKz Kz
   refine jsp ?_
   refine jrd 2 fun Kz hKz=>?_
   go_simp
   generalize hW:w24.alloc (.cells #[.bool b24,.slice A24 n24 c24,.bool d24,.slice B24 m24 k24] 36)=w25
   have hz_25:=Lib.hid (show w25.heap.size=w24.heap.size+1 from j59e)
   have lp_25:=Lib.hid (hW▸lp_24.out.alloc_ _)
   have kp_25:=Lib.hid (hW▸kp_24.out.alloc_ _)
   have hw_25:=Lib.hid (hW▸hw_24.out.alloc_ _)
   have kc_25:=Lib.hid (hW▸kc_24.out.alloc_ _)
   have u_25:=Lib.hid (hW▸u_24.out.alloc_ _)
   have ru_25:Hid (RowT true 1 w25 (.slice (some ⟨w24.heap.size,0,none⟩) 1 1) 1 (fun _=>3)):=by rw [← hW];exact row1 rfl u_24.out
   have HB_25:=Lib.hid (show Below w.heap.size w w25 from hW▸halloc HB_24.out)
   clear hW lp_24 kp_24 hw_24 kc_24 u_24 HB_24
   obtain⟨x25_kp_0,x25_kp_1,x25_kp_2,x25_kp_3,x25_kp_4,x25_kp_l⟩:=kp_25.out.use5
   clear x24_kp_0 x24_kp_1 x24_kp_2 x24_kp_3 x24_kp_4 x24_kp_l
   refine hKz.out _ _ jsd5 (fun hHeld=>?_)
   clear hKz Kz
   refine jsp ?_
   refine jrd 3 fun Kz hKz=>?_
   go_simp
   refine Calls.mono (pcostA lp_25.out ru_25.out.rowQ) ?_
   rintro e w26 ⟨v,rfl,hR,hb⟩
   obtain⟨b26,A26,n26,c26,d26,B26,m26,k26,rfl,-,-,-,-,-⟩:=id hR.form
   have hBw:=(show Below w25.heap.size w25 w26 from jc22)
   have lp_26:=Lib.hid (lp_25.out.below hBw)
   have kp_26:=Lib.hid (kp_25.out.below hBw)
   have hw_26:=Lib.hid (hw_25.out.below hBw)
   have kc_26:=Lib.hid (kc_25.out.below hBw)
   have u_26:=Lib.hid (u_25.out.below hBw)
   have ru_26:=Lib.hid (ru_25.out.below hBw)
   have c3_26:=Lib.hid (hR)
   have HB_26:=Lib.hid (below_trans HB_25.out hBw)
   clear hBw hb lp_25 kp_25 hw_25 kc_25 u_25 ru_25 HB_25
   clear hR
   obtain⟨x26_kp_0,x26_kp_1,x26_kp_2,x26_kp_3,x26_kp_4,x26_kp_l⟩:=kp_26.out.use5
   clear x25_kp_0 x25_kp_1 x25_kp_2 x25_kp_3 x25_kp_4 x25_kp_l
   refine hKz.out _ _ jsd5 (fun hHeld=>?_)
   clear hKz Kz
   refine jsp ?_
   refine jtk 4 ?_
   refine jtk 5 ?_
   refine jtk 6 ?_
   refine jrd 8 fun Kz hKz=>?_
   go_simp
   obtain⟨i0,i1,i2,i3⟩:=kc_26.out.into4
   obtain⟨g0,g1,g2,g3,gl⟩:=kc_26.out.use4
   go_simp
   refine hKz.out _ _ jsd5 (fun hHeld=>?_)
   clear hKz Kz
   refine jsp ?_
   refine jtk 9 ?_
   refine wpAnyH_done jo0f ?_ _
   go_wp2_with fail
   go_meet
   exact⟨_,_,_,_,_,_,_,_,_,rfl,rfl,kc_26.out.own4,IsRat.other4 c3_26.out kc_26.out nu nu nu nu,Below.set4 hw_26.out hwz.size⟩
 case rest =>
  obtain⟨gc,bc,Ac,nc,cc,dc,Bc,mc,kc,rfl,rfl,hk,hR,hb⟩:=hcut
  obtain⟨w62,rfl⟩ : ∃W:World,W=wc:=⟨_,rfl⟩
  have kp_62:=Lib.hid (kp_22.out.below hb)
  have lp_62:=Lib.hid (lp_22.out.below hb)
  have sa_62:=Lib.hid (sa_22.out.below hb)
  have sb_62:=Lib.hid (sb_22.out.below hb)
  have sc_62:=Lib.hid (sc_22.out.below hb)
  have sr_62:=Lib.hid (sr_22.out.below hb)
  have k2_62:=Lib.hid (k2_22.out.below hb)
  have k3_62:=Lib.hid (k3_22.out.below hb)
  have bx_62:=Lib.hid (bx_22.out.below hb)
  have HB_62:=Lib.hid (below_trans HB_22.out hb)
  have c3_62:=Lib.hid hR
  have kc_62:=Lib.hid hk
  clear hk hR hb kp_22 lp_22 sa_22 sb_22 sc_22 sr_22 k2_22 k3_22 bx_22 HB_22 hw_22
  go_wp2_with fail
  refine Calls.mono (of11_is law_d1 _ j0i3 j0i3) ?_
  rintro e w63 ⟨v,rfl,h,hb⟩
  obtain⟨b63,A63,n63,c63,d63,B63,m63,k63,rfl,-,-,-,-,-⟩:=h.form
  have hE:=EQ.of (p:=true) h bq1
  have hBw:=(show Below w62.heap.size w62 w63 from jc22)
  have kp_63:=Lib.hid (kp_62.out.below hBw)
  have lp_63:=Lib.hid (lp_62.out.below hBw)
  have sa_63:=Lib.hid (sa_62.out.below hBw)
  have sb_63:=Lib.hid (sb_62.out.below hBw)
  have sc_63:=Lib.hid (sc_62.out.below hBw)
  have sr_63:=Lib.hid (sr_62.out.below hBw)
  have k2_63:=Lib.hid (k2_62.out.below hBw)
  have k3_63:=Lib.hid (k3_62.out.below hBw)
  have bx_63:=Lib.hid (bx_62.out.below hBw)
  have c3_63:=Lib.hid (c3_62.out.below hBw)
  have kc_63:=Lib.hid (kc_62.out.below hBw)
  have p_63:=Lib.hid (hE)
  have HB_63:=Lib.hid (below_trans HB_62.out hBw)
  clear hBw hb kp_62 lp_62 sa_62 sb_62 sc_62 sr_62 k2_62 k3_62 bx_62 c3_62 kc_62 HB_62
  clear h hE
  go_wp2_with fail
  refine Calls.mono (of11_is law_dm1 _ j0i3 j0i3) ?_
  rintro e w64 ⟨v,rfl,h,hb⟩
  obtain⟨b64,A64,n64,c64,d64,B64,m64,k64,rfl,-,-,-,-,-⟩:=h.form
  have hE:=EQ.of (p:=true) h bqm1
  have hBw:=(show Below w63.heap.size w63 w64 from jc22)
  have kp_64:=Lib.hid (kp_63.out.below hBw)
  have lp_64:=Lib.hid (lp_63.out.below hBw)
  have sa_64:=Lib.hid (sa_63.out.below hBw)
  have sb_64:=Lib.hid (sb_63.out.below hBw)
  have sc_64:=Lib.hid (sc_63.out.below hBw)
  have sr_64:=Lib.hid (sr_63.out.below hBw)
  have k2_64:=Lib.hid (k2_63.out.below hBw)
  have k3_64:=Lib.hid (k3_63.out.below hBw)
  have bx_64:=Lib.hid (bx_63.out.below hBw)
  have c3_64:=Lib.hid (c3_63.out.below hBw)
  have kc_64:=Lib.hid (kc_63.out.below hBw)
  have p_64:=Lib.hid (p_63.out.below hBw)
  have q_64:=Lib.hid (hE)
  have HB_64:=Lib.hid (below_trans HB_63.out hBw)
  clear hBw hb kp_63 lp_63 sa_63 sb_63 sc_63 sr_63 k2_63 k3_63 bx_63 c3_63 kc_63 p_63 HB_63
  clear h hE
  go_wp2_with fail
  generalize hW:w64.alloc (.cells #[.bool b63,.slice A63 n63 c63,.bool d63,.slice B63 m63 k63,.bool b64,.slice A64 n64 c64,.bool d64,.slice B64 m64 k64] 36)=w65
  have hz_65:=Lib.hid (show w65.heap.size=w64.heap.size+1 from j59e)
  have kp_65:=Lib.hid (hW▸kp_64.out.alloc_ _)
  have lp_65:=Lib.hid (hW▸lp_64.out.alloc_ _)
  have sa_65:=Lib.hid (hW▸sa_64.out.alloc_ _)
  have sb_65:=Lib.hid (hW▸sb_64.out.alloc_ _)
  have sc_65:=Lib.hid (hW▸sc_64.out.alloc_ _)
  have sr_65:=Lib.hid (hW▸sr_64.out.alloc_ _)
  have k2_65:=Lib.hid (hW▸k2_64.out.alloc_ _)
  have k3_65:=Lib.hid (hW▸k3_64.out.alloc_ _)
  have bx_65:=Lib.hid (hW▸bx_64.out.alloc_ _)
  have c3_65:=Lib.hid (hW▸c3_64.out.alloc_ _)
  have kc_65:=Lib.hid (hW▸kc_64.out.alloc_ _)
  have p_65:=Lib.hid (hW▸p_64.out.alloc_ _)
  have q_65:=Lib.hid (hW▸q_64.out.alloc_ _)
  have ra_65:Hid (RowT true 1 w65 (.slice (some ⟨w64.heap.size,0,none⟩) 2 2) 2 (twoR 1 (-1))):=by rw [← hW];exact row2 rfl p_64.out q_64.out
  have HB_65:=Lib.hid (show Below w.heap.size w w65 from hW▸halloc HB_64.out)
  clear hW kp_64 lp_64 sa_64 sb_64 sc_64 sr_64 k2_64 k3_64 bx_64 c3_64 kc_64 p_64 q_64 HB_64
  generalize hW:w65.alloc (.cells #[.slice (some ⟨w64.heap.size,0,none⟩) 2 2] 22)=w66
  have hz_66:=Lib.hid (show w66.heap.size=w65.heap.size+1 from j59e)
  have kp_66:=Lib.hid (hW▸kp_65.out.alloc_ _)
  have lp_66:=Lib.hid (hW▸lp_65.out.alloc_ _)
  have sa_66:=Lib.hid (hW▸sa_65.out.alloc_ _)
  have sb_66:=Lib.hid (hW▸sb_65.out.alloc_ _)
  have sc_66:=Lib.hid (hW▸sc_65.out.alloc_ _)
  have sr_66:=Lib.hid (hW▸sr_65.out.alloc_ _)
  have k2_66:=Lib.hid (hW▸k2_65.out.alloc_ _)
  have k3_66:=Lib.hid (hW▸k3_65.out.alloc_ _)
  have bx_66:=Lib.hid (hW▸bx_65.out.alloc_ _)
  have c3_66:=Lib.hid (hW▸c3_65.out.alloc_ _)
  have kc_66:=Lib.hid (hW▸kc_65.out.alloc_ _)
  have p_66:=Lib.hid (hW▸p_65.out.alloc_ _)
  have q_66:=Lib.hid (hW▸q_65.out.alloc_ _)
  have ra_66:=Lib.hid (hW▸ra_65.out.alloc_ _)
  have wa_66:Hid (TabQ true 1 w66 (.slice (some ⟨w64.heap.size+1,0,none⟩) 1 1) 1 (fun _=>2) (fun _=>twoR 1 (-1))):=by rw [← hW];exact tab1 (by have:=hz_65.out;omega) ra_65.out.rowQ
  have HB_66:=Lib.hid (show Below w.heap.size w w66 from hW▸halloc HB_65.out)
  clear hW kp_65 lp_65 sa_65 sb_65 sc_65 sr_65 k2_65 k3_65 bx_65 c3_65 kc_65 p_65 q_65 ra_65 HB_65
  refine Calls.mono (of11_is law_d2 _ j0i3 j0i3) ?_
  rintro e w67 ⟨v,rfl,h,hb⟩
  obtain⟨b67,A67,n67,c67,d67,B67,m67,k67,rfl,-,-,-,-,-⟩:=h.form
  have hE:=EQ.of (p:=true) h bq2
  have hBw:=(show Below w66.heap.size w66 w67 from jc22)
  have kp_67:=Lib.hid (kp_66.out.below hBw)
  have lp_67:=Lib.hid (lp_66.out.below hBw)
  have sa_67:=Lib.hid (sa_66.out.below hBw)
  have sb_67:=Lib.hid (sb_66.out.below hBw)
  have sc_67:=Lib.hid (sc_66.out.below hBw)
  have sr_67:=Lib.hid (sr_66.out.below hBw)
  have k2_67:=Lib.hid (k2_66.out.below hBw)
  have k3_67:=Lib.hid (k3_66.out.below hBw)
  have bx_67:=Lib.hid (bx_66.out.below hBw)
  have c3_67:=Lib.hid (c3_66.out.below hBw)
  have kc_67:=Lib.hid (kc_66.out.below hBw)
  have p_67:=Lib.hid (p_66.out.below hBw)
  have q_67:=Lib.hid (q_66.out.below hBw)
  have ra_67:=Lib.hid (ra_66.out.below hBw)
  have wa_67:=Lib.hid (wa_66.out.below hBw)
  have r_67:=Lib.hid (hE)
  have HB_67:=Lib.hid (below_trans HB_66.out hBw)
  clear hBw hb kp_66 lp_66 sa_66 sb_66 sc_66 sr_66 k2_66 k3_66 bx_66 c3_66 kc_66 p_66 q_66 ra_66 wa_66 HB_66
  clear h hE
  go_wp2_with fail
  generalize hW:w67.alloc (.cells #[.bool b67,.slice A67 n67 c67,.bool d67,.slice B67 m67 k67] 36)=w68
  have hz_68:=Lib.hid (show w68.heap.size=w67.heap.size+1 from j59e)
  have kp_68:=Lib.hid (hW▸kp_67.out.alloc_ _)
  have lp_68:=Lib.hid (hW▸lp_67.out.alloc_ _)
  have sa_68:=Lib.hid (hW▸sa_67.out.alloc_ _)
  have sb_68:=Lib.hid (hW▸sb_67.out.alloc_ _)
  have sc_68:=Lib.hid (hW▸sc_67.out.alloc_ _)
  have sr_68:=Lib.hid (hW▸sr_67.out.alloc_ _)
  have k2_68:=Lib.hid (hW▸k2_67.out.alloc_ _)
  have k3_68:=Lib.hid (hW▸k3_67.out.alloc_ _)
  have bx_68:=Lib.hid (hW▸bx_67.out.alloc_ _)
  have c3_68:=Lib.hid (hW▸c3_67.out.alloc_ _)
  have kc_68:=Lib.hid (hW▸kc_67.out.alloc_ _)
  have p_68:=Lib.hid (hW▸p_67.out.alloc_ _)
  have q_68:=Lib.hid (hW▸q_67.out.alloc_ _)
  have ra_68:=Lib.hid (hW▸ra_67.out.alloc_ _)
  have wa_68:=Lib.hid (hW▸wa_67.out.alloc_ _)
  have r_68:=Lib.hid (hW▸r_67.out.alloc_ _)
  have wb_68:Hid (RowT true 1 w68 (.slice (some ⟨w67.heap.size,0,none⟩) 1 1) 1 (fun _=>2)):=by rw [← hW];exact row1 rfl r_67.out
  have HB_68:=Lib.hid (show Below w.heap.size w w68 from hW▸halloc HB_67.out)
  clear hW kp_67 lp_67 sa_67 sb_67 sc_67 sr_67 k2_67 k3_67 bx_67 c3_67 kc_67 p_67 q_67 ra_67 wa_67 r_67 HB_67
  refine Calls.mono (of11_is law_d1 _ j0i3 j0i3) ?_
  rintro e w69 ⟨v,rfl,h,hb⟩
  obtain⟨b69,A69,n69,c69,d69,B69,m69,k69,rfl,-,-,-,-,-⟩:=h.form
  have hE:=EQ.of (p:=true) h bq1
  have hBw:=(show Below w68.heap.size w68 w69 from jc22)
  have kp_69:=Lib.hid (kp_68.out.below hBw)
  have lp_69:=Lib.hid (lp_68.out.below hBw)
  have sa_69:=Lib.hid (sa_68.out.below hBw)
  have sb_69:=Lib.hid (sb_68.out.below hBw)
  have sc_69:=Lib.hid (sc_68.out.below hBw)
  have sr_69:=Lib.hid (sr_68.out.below hBw)
  have k2_69:=Lib.hid (k2_68.out.below hBw)
  have k3_69:=Lib.hid (k3_68.out.below hBw)
  have bx_69:=Lib.hid (bx_68.out.below hBw)
  have c3_69:=Lib.hid (c3_68.out.below hBw)
  have kc_69:=Lib.hid (kc_68.out.below hBw)
  have p_69:=Lib.hid (p_68.out.below hBw)
  have q_69:=Lib.hid (q_68.out.below hBw)
  have ra_69:=Lib.hid (ra_68.out.below hBw)
  have wa_69:=Lib.hid (wa_68.out.below hBw)
  have r_69:=Lib.hid (r_68.out.below hBw)
  have wb_69:=Lib.hid (wb_68.out.below hBw)
  have s_69:=Lib.hid (hE)
  have HB_69:=Lib.hid (below_trans HB_68.out hBw)
  clear hBw hb kp_68 lp_68 sa_68 sb_68 sc_68 sr_68 k2_68 k3_68 bx_68 c3_68 kc_68 p_68 q_68 ra_68 wa_68 r_68 wb_68 HB_68
  clear h hE
  go_wp2_with fail
  refine Calls.mono (of11_is law_d0 _ j0i3 j0i3) ?_
  rintro e w70 ⟨v,rfl,h,hb⟩
  obtain⟨b70,A70,n70,c70,d70,B70,m70,k70,rfl,-,-,-,-,-⟩:=h.form
  have hE:=EQ.of (p:=true) h bq0
  have hBw:=(show Below w69.heap.size w69 w70 from jc22)
  have kp_70:=Lib.hid (kp_69.out.below hBw)
  have lp_70:=Lib.hid (lp_69.out.below hBw)
  have sa_70:=Lib.hid (sa_69.out.below hBw)
  have sb_70:=Lib.hid (sb_69.out.below hBw)
  have sc_70:=Lib.hid (sc_69.out.below hBw)
  have sr_70:=Lib.hid (sr_69.out.below hBw)
  have k2_70:=Lib.hid (k2_69.out.below hBw)
  have k3_70:=Lib.hid (k3_69.out.below hBw)
  have bx_70:=Lib.hid (bx_69.out.below hBw)
  have c3_70:=Lib.hid (c3_69.out.below hBw)
  have kc_70:=Lib.hid (kc_69.out.below hBw)
  have p_70:=Lib.hid (p_69.out.below hBw)
  have q_70:=Lib.hid (q_69.out.below hBw)
  have ra_70:=Lib.hid (ra_69.out.below hBw)
  have wa_70:=Lib.hid (wa_69.out.below hBw)
  have r_70:=Lib.hid (r_69.out.below hBw)
  have wb_70:=Lib.hid (wb_69.out.below hBw)
  have s_70:=Lib.hid (s_69.out.below hBw)
  have t_70:=Lib.hid (hE)
  have HB_70:=Lib.hid (below_trans HB_69.out hBw)
  clear hBw hb kp_69 lp_69 sa_69 sb_69 sc_69 sr_69 k2_69 k3_69 bx_69 c3_69 kc_69 p_69 q_69 ra_69 wa_69 r_69 wb_69 s_69 HB_69
  clear h hE
  go_upto_region 7 with fail
  generalize hW:w70.alloc (.cells #[.bool b69,.slice A69 n69 c69,.bool d69,.slice B69 m69 k69,.bool b70,.slice A70 n70 c70,.bool d70,.slice B70 m70 k70] 36)=w71
  have hz_71:=Lib.hid (show w71.heap.size=w70.heap.size+1 from j59e)
  have kp_71:=Lib.hid (hW▸kp_70.out.alloc_ _)
  have lp_71:=Lib.hid (hW▸lp_70.out.alloc_ _)
  have sa_71:=Lib.hid (hW▸sa_70.out.alloc_ _)
  have sb_71:=Lib.hid (hW▸sb_70.out.alloc_ _)
  have sc_71:=Lib.hid (hW▸sc_70.out.alloc_ _)
  have sr_71:=Lib.hid (hW▸sr_70.out.alloc_ _)
  have k2_71:=Lib.hid (hW▸k2_70.out.alloc_ _)
  have k3_71:=Lib.hid (hW▸k3_70.out.alloc_ _)
  have bx_71:=Lib.hid (hW▸bx_70.out.alloc_ _)
  have c3_71:=Lib.hid (hW▸c3_70.out.alloc_ _)
  have kc_71:=Lib.hid (hW▸kc_70.out.alloc_ _)
  have p_71:=Lib.hid (hW▸p_70.out.alloc_ _)
  have q_71:=Lib.hid (hW▸q_70.out.alloc_ _)
  have ra_71:=Lib.hid (hW▸ra_70.out.alloc_ _)
  have wa_71:=Lib.hid (hW▸wa_70.out.alloc_ _)
  have r_71:=Lib.hid (hW▸r_70.out.alloc_ _)
  have wb_71:=Lib.hid (hW▸wb_70.out.alloc_ _)
  have s_71:=Lib.hid (hW▸s_70.out.alloc_ _)
  have t_71:=Lib.hid (hW▸t_70.out.alloc_ _)
  have wc_71:Hid (RowT true 1 w71 (.slice (some ⟨w70.heap.size,0,none⟩) 2 2) 2 (twoR 1 0)):=by rw [← hW];exact row2 rfl s_70.out t_70.out
  have HB_71:=Lib.hid (show Below w.heap.size w w71 from hW▸halloc HB_70.out)
  clear hW kp_70 lp_70 sa_70 sb_70 sc_70 sr_70 k2_70 k3_70 bx_70 c3_70 kc_70 p_70 q_70 ra_70 wa_70 r_70 wb_70 s_70 t_70 HB_70
  generalize hW:w71.alloc (.cells #[.slice (some ⟨w64.heap.size+1,0,none⟩) 1 1,.slice (some ⟨w67.heap.size,0,none⟩) 1 1,.slice (some ⟨w70.heap.size,0,none⟩) 2 2] 31)=w72
  have hz_72:=Lib.hid (show w72.heap.size=w71.heap.size+1 from j59e)
  have kp_72:=Lib.hid (hW▸kp_71.out.alloc_ _)
  have lp_72:=Lib.hid (hW▸lp_71.out.alloc_ _)
  have sa_72:=Lib.hid (hW▸sa_71.out.alloc_ _)
  have sb_72:=Lib.hid (hW▸sb_71.out.alloc_ _)
  have sc_72:=Lib.hid (hW▸sc_71.out.alloc_ _)
  have sr_72:=Lib.hid (hW▸sr_71.out.alloc_ _)
  have k2_72:=Lib.hid (hW▸k2_71.out.alloc_ _)
  have k3_72:=Lib.hid (hW▸k3_71.out.alloc_ _)
  have bx_72:=Lib.hid (hW▸bx_71.out.alloc_ _)
  have c3_72:=Lib.hid (hW▸c3_71.out.alloc_ _)
  have kc_72:=Lib.hid (hW▸kc_71.out.alloc_ _)
  have p_72:=Lib.hid (hW▸p_71.out.alloc_ _)
  have q_72:=Lib.hid (hW▸q_71.out.alloc_ _)
  have ra_72:=Lib.hid (hW▸ra_71.out.alloc_ _)
  have wa_72:=Lib.hid (hW▸wa_71.out.alloc_ _)
  have r_72:=Lib.hid (hW▸r_71.out.alloc_ _)
  have wb_72:=Lib.hid (hW▸wb_71.out.alloc_ _)
  have s_72:=Lib.hid (hW▸s_71.out.alloc_ _)
  have t_72:=Lib.hid (hW▸t_71.out.alloc_ _)
  have wc_72:=Lib.hid (hW▸wc_71.out.alloc_ _)
  have k12_72:Hid (Blk w72 (w70.heap.size+1) 31 #[.slice (some ⟨w64.heap.size+1,0,none⟩) 1 1,.slice (some ⟨w67.heap.size,0,none⟩) 1 1,.slice (some ⟨w70.heap.size,0,none⟩) 2 2]):=by rw [← hW];exact Blk.new _ _ (by have:=hz_71.out;omega) _ _
  have HB_72:=Lib.hid (show Below w.heap.size w w72 from hW▸halloc HB_71.out)
  clear hW kp_71 lp_71 sa_71 sb_71 sc_71 sr_71 k2_71 k3_71 bx_71 c3_71 kc_71 p_71 q_71 ra_71 wa_71 r_71 wb_71 s_71 t_71 wc_71 HB_71
  obtain⟨x72_kp_0,x72_kp_1,x72_kp_2,x72_kp_3,x72_kp_4,x72_kp_l⟩:=kp_72.out.use5
  obtain⟨x72_k2_0,x72_k2_1,x72_k2_2,x72_k2_l⟩:=k2_72.out.use3
  obtain⟨x72_k3_0,x72_k3_1,x72_k3_2,x72_k3_3,x72_k3_l⟩:=k3_72.out.use4
  obtain⟨x72_k12_0,x72_k12_1,x72_k12_2,x72_k12_l⟩:=k12_72.out.use3
  obtain⟨x72_kc_0,x72_kc_1,x72_kc_2,x72_kc_3,x72_kc_l⟩:=kc_72.out.use4
  refine wp_region_held_drew (S:=(fun w'=>w'.cell? ⟨w9.heap.size+1+1,0,none⟩=some (.slice (some ⟨w1.heap.size,0,none⟩) 1 1)∧w'.cell? ⟨w9.heap.size+1+1,1,none⟩=some (.slice (some ⟨w5.heap.size,0,none⟩) 1 1)∧w'.cell? ⟨w9.heap.size+1+1,2,none⟩=some (.slice (some ⟨w7.heap.size,0,none⟩) 1 1)∧w'.cell? ⟨w9.heap.size+1+1,3,none⟩=some (.slice (some ⟨w9.heap.size,0,none⟩) 1 1)∧w'.cell? ⟨w9.heap.size+1+1,4,none⟩=some (.slice (some ⟨w9.heap.size+1,0,none⟩) 1 1)∧w'.cell? ⟨w13.heap.size,0,none⟩=some (.slice SA 1 SAc)∧w'.cell? ⟨w13.heap.size,1,none⟩=some (.slice SB 1 SBc)∧w'.cell? ⟨w13.heap.size,2,none⟩=some (.slice SC 2 SCc)∧w'.cell? ⟨w13.heap.size+1,0,none⟩=some (.bool b13)∧w'.cell? ⟨w13.heap.size+1,1,none⟩=some (.slice A13 n13 c13)∧w'.cell? ⟨w13.heap.size+1,2,none⟩=some (.bool d13)∧w'.cell? ⟨w13.heap.size+1,3,none⟩=some (.slice B13 m13 k13)∧w'.cell? ⟨w70.heap.size+1,0,none⟩=some (.slice (some ⟨w64.heap.size+1,0,none⟩) 1 1)∧w'.cell? ⟨w70.heap.size+1,1,none⟩=some (.slice (some ⟨w67.heap.size,0,none⟩) 1 1)∧w'.cell? ⟨w70.heap.size+1,2,none⟩=some (.slice (some ⟨w70.heap.size,0,none⟩) 2 2)∧w'.cell? ⟨gc,0,none⟩=some (.bool bc)∧w'.cell? ⟨gc,1,none⟩=some (.slice Ac nc cc)∧w'.cell? ⟨gc,2,none⟩=some (.bool dc)∧w'.cell? ⟨gc,3,none⟩=some (.slice Bc mc kc))) jo0f ?_ (fun hHeld=>?_)
  ·(first | (refine⟨?_,?_,?_,?_,?_,?_,?_,?_,?_,?_,?_,?_,?_,?_,?_,?_,?_,?_,?_⟩ <;> (first | with_reducible assumption | ((with_reducible refine Eq.trans (cell_drew _ _) ?_);with_reducible assumption) | go_keep)) | go_keep)
  refine jtk 0 ?_
  refine jtk 1 ?_
  refine jtk 2 ?_
  refine jtk 3 ?_
  refine jtk 4 ?_
  refine jrd 5 fun Kz hKz=>?_
  go_simp
  refine Calls.mono (rsame11 ⟨_,_,_,rfl,sa_72.out,sb_72.out,sc_72.out⟩ ⟨_,_,_,rfl,wa_72.out,wb_72.out.rowQ,wc_72.out.rowQ⟩ (fun _ _ _ _=>rfl) (fun _ _=>rfl) (fun _ _=>rfl) j0i3) ?_
  rintro e w73 ⟨rfl,hb⟩
  have hBw:=(show Below w72.heap.size w72 w73 from jc22)
  have kp_73:=Lib.hid (kp_72.out.below hBw)
  have lp_73:=Lib.hid (lp_72.out.below hBw)
  have sa_73:=Lib.hid (sa_72.out.below hBw)
  have sb_73:=Lib.hid (sb_72.out.below hBw)
  have sc_73:=Lib.hid (sc_72.out.below hBw)
  have sr_73:=Lib.hid (sr_72.out.below hBw)
  have k2_73:=Lib.hid (k2_72.out.below hBw)
  have k3_73:=Lib.hid (k3_72.out.below hBw)
  have bx_73:=Lib.hid (bx_72.out.below hBw)
  have c3_73:=Lib.hid (c3_72.out.below hBw)
  have kc_73:=Lib.hid (kc_72.out.below hBw)
  have wa_73:=Lib.hid (wa_72.out.below hBw)
  have wb_73:=Lib.hid (wb_72.out.below hBw)
  have wc_73:=Lib.hid (wc_72.out.below hBw)
  have k12_73:=Lib.hid (k12_72.out.below hBw)
  have HB_73:=Lib.hid (below_trans HB_72.out hBw)
  clear hBw hb kp_72 lp_72 sa_72 sb_72 sc_72 sr_72 k2_72 k3_72 bx_72 c3_72 kc_72 wa_72 wb_72 wc_72 k12_72 HB_72
  obtain⟨x73_kp_0,x73_kp_1,x73_kp_2,x73_kp_3,x73_kp_4,x73_kp_l⟩:=kp_73.out.use5
  obtain⟨x73_k2_0,x73_k2_1,x73_k2_2,x73_k2_l⟩:=k2_73.out.use3
  obtain⟨x73_k3_0,x73_k3_1,x73_k3_2,x73_k3_3,x73_k3_l⟩:=k3_73.out.use4
  obtain⟨x73_k12_0,x73_k12_1,x73_k12_2,x73_k12_l⟩:=k12_73.out.use3
  obtain⟨x73_kc_0,x73_kc_1,x73_kc_2,x73_kc_3,x73_kc_l⟩:=kc_73.out.use4
  clear x72_kp_0 x72_kp_1 x72_kp_2 x72_kp_3 x72_kp_4 x72_kp_l x72_k2_0 x72_k2_1 x72_k2_2 x72_k2_l x72_k3_0 x72_k3_1 x72_k3_2 x72_k3_3 x72_k3_l x72_k12_0 x72_k12_1 x72_k12_2 x72_k12_l x72_kc_0 x72_kc_1 x72_kc_2 x72_kc_3 x72_kc_l
  refine hKz.out _ _ jq0d (fun hHeld=>?_)
  clear hKz Kz
  refine jsp ?_
  refine jtk 6 ?_
  refine jtk 7 ?_
  refine jtk 8 ?_
  refine jrd 9 fun Kz hKz=>?_
  go_simp
  refine Calls.mono (of11_is law_d0 _ j0i3 j0i3) ?_
  rintro e w74 ⟨v,rfl,h,hb⟩
  obtain⟨b74,A74,n74,c74,d74,B74,m74,k74,rfl,-,-,-,-,-⟩:=h.form
  have hE:=EQ.of (p:=true) h bq0
  have hBw:=(show Below w73.heap.size w73 w74 from jc22)
  have kp_74:=Lib.hid (kp_73.out.below hBw)
  have lp_74:=Lib.hid (lp_73.out.below hBw)
  have sa_74:=Lib.hid (sa_73.out.below hBw)
  have sb_74:=Lib.hid (sb_73.out.below hBw)
  have sc_74:=Lib.hid (sc_73.out.below hBw)
  have sr_74:=Lib.hid (sr_73.out.below hBw)
  have k2_74:=Lib.hid (k2_73.out.below hBw)
  have k3_74:=Lib.hid (k3_73.out.below hBw)
  have bx_74:=Lib.hid (bx_73.out.below hBw)
  have c3_74:=Lib.hid (c3_73.out.below hBw)
  have kc_74:=Lib.hid (kc_73.out.below hBw)
  have wa_74:=Lib.hid (wa_73.out.below hBw)
  have wb_74:=Lib.hid (wb_73.out.below hBw)
  have wc_74:=Lib.hid (wc_73.out.below hBw)
  have k12_74:=Lib.hid (k12_73.out.below hBw)
  have z_74:=Lib.hid (hE)
  have HB_74:=Lib.hid (below_trans HB_73.out hBw)
  clear hBw hb kp_73 lp_73 sa_73 sb_73 sc_73 sr_73 k2_73 k3_73 bx_73 c3_73 kc_73 wa_73 wb_73 wc_73 k12_73 HB_73
  clear h hE
  obtain⟨x74_kp_0,x74_kp_1,x74_kp_2,x74_kp_3,x74_kp_4,x74_kp_l⟩:=kp_74.out.use5
  obtain⟨x74_k2_0,x74_k2_1,x74_k2_2,x74_k2_l⟩:=k2_74.out.use3
  obtain⟨x74_k3_0,x74_k3_1,x74_k3_2,x74_k3_3,x74_k3_l⟩:=k3_74.out.use4
  obtain⟨x74_k12_0,x74_k12_1,x74_k12_2,x74_k12_l⟩:=k12_74.out.use3
  obtain⟨x74_kc_0,x74_kc_1,x74_kc_2,x74_kc_3,x74_kc_l⟩:=kc_74.out.use4
  clear x73_kp_0 x73_kp_1 x73_kp_2 x73_kp_3 x73_kp_4 x73_kp_l x73_k2_0 x73_k2_1 x73_k2_2 x73_k2_l x73_k3_0 x73_k3_1 x73_k3_2 x73_k3_3 x73_k3_l x73_k12_0 x73_k12_1 x73_k12_2 x73_k12_l x73_kc_0 x73_kc_1 x73_kc_2 x73_kc_3 x73_kc_l
  refine hKz.out _ _ jq0d (fun hHeld=>?_)
  clear hKz Kz
  refine jsp ?_
  refine jrd 10 fun Kz hKz=>?_
  go_simp
  refine Calls.mono (rat_same sr_74.out (z_74.out.1 rfl).1 bq0 j0i3) ?_
  rintro e w75 ⟨rfl,hb⟩
  have hBw:=(show Below w74.heap.size w74 w75 from jc22)
  have kp_75:=Lib.hid (kp_74.out.below hBw)
  have lp_75:=Lib.hid (lp_74.out.below hBw)
  have sa_75:=Lib.hid (sa_74.out.below hBw)
  have sb_75:=Lib.hid (sb_74.out.below hBw)
  have sc_75:=Lib.hid (sc_74.out.below hBw)
  have sr_75:=Lib.hid (sr_74.out.below hBw)
  have k2_75:=Lib.hid (k2_74.out.below hBw)
  have k3_75:=Lib.hid (k3_74.out.below hBw)
  have bx_75:=Lib.hid (bx_74.out.below hBw)
  have c3_75:=Lib.hid (c3_74.out.below hBw)
  have kc_75:=Lib.hid (kc_74.out.below hBw)
  have wa_75:=Lib.hid (wa_74.out.below hBw)
  have wb_75:=Lib.hid (wb_74.out.below hBw)
  have wc_75:=Lib.hid (wc_74.out.below hBw)
  have k12_75:=Lib.hid (k12_74.out.below hBw)
  have z_75:=Lib.hid (z_74.out.below hBw)
  have HB_75:=Lib.hid (below_trans HB_74.out hBw)
  clear hBw hb kp_74 lp_74 sa_74 sb_74 sc_74 sr_74 k2_74 k3_74 bx_74 c3_74 kc_74 wa_74 wb_74 wc_74 k12_74 z_74 HB_74
  obtain⟨x75_kp_0,x75_kp_1,x75_kp_2,x75_kp_3,x75_kp_4,x75_kp_l⟩:=kp_75.out.use5
  obtain⟨x75_k2_0,x75_k2_1,x75_k2_2,x75_k2_l⟩:=k2_75.out.use3
  obtain⟨x75_k3_0,x75_k3_1,x75_k3_2,x75_k3_3,x75_k3_l⟩:=k3_75.out.use4
  obtain⟨x75_k12_0,x75_k12_1,x75_k12_2,x75_k12_l⟩:=k12_75.out.use3
  obtain⟨x75_kc_0,x75_kc_1,x75_kc_2,x75_kc_3,x75_kc_l⟩:=kc_75.out.use4
  clear x74_kp_0 x74_kp_1 x74_kp_2 x74_kp_3 x74_kp_4 x74_kp_l x74_k2_0 x74_k2_1 x74_k2_2 x74_k2_l x74_k3_0 x74_k3_1 x74_k3_2 x74_k3_3 x74_k3_l x74_k12_0 x74_k12_1 x74_k12_2 x74_k12_l x74_kc_0 x74_kc_1 x74_kc_2 x74_kc_3 x74_kc_l
  refine hKz.out _ _ jq0d (fun hHeld=>?_)
  clear hKz Kz
  refine jsp ?_
  refine jtk 11 ?_
  refine jtk 12 ?_
  refine jtk 13 ?_
  refine jtk 14 ?_
  refine jtk 15 ?_
  refine jtk 16 ?_
  refine jtk 17 ?_
  refine jtk 18 ?_
  refine jtk 19 ?_
  refine jtk 20 ?_
  refine jtk 21 ?_
  refine jrd 22 fun Kz hKz=>?_
  go_simp
  refine Calls.mono (of11_is law_d3 _ j0i3 j0i3) ?_
  rintro e w76 ⟨v,rfl,h,hb⟩
  obtain⟨b76,A76,n76,c76,d76,B76,m76,k76,rfl,-,-,-,-,-⟩:=h.form
  have hE:=EQ.of (p:=true) h bq3
  have hBw:=(show Below w75.heap.size w75 w76 from jc22)
  have kp_76:=Lib.hid (kp_75.out.below hBw)
  have lp_76:=Lib.hid (lp_75.out.below hBw)
  have sa_76:=Lib.hid (sa_75.out.below hBw)
  have sb_76:=Lib.hid (sb_75.out.below hBw)
  have sc_76:=Lib.hid (sc_75.out.below hBw)
  have sr_76:=Lib.hid (sr_75.out.below hBw)
  have k2_76:=Lib.hid (k2_75.out.below hBw)
  have k3_76:=Lib.hid (k3_75.out.below hBw)
  have bx_76:=Lib.hid (bx_75.out.below hBw)
  have c3_76:=Lib.hid (c3_75.out.below hBw)
  have kc_76:=Lib.hid (kc_75.out.below hBw)
  have wa_76:=Lib.hid (wa_75.out.below hBw)
  have wb_76:=Lib.hid (wb_75.out.below hBw)
  have wc_76:=Lib.hid (wc_75.out.below hBw)
  have k12_76:=Lib.hid (k12_75.out.below hBw)
  have z_76:=Lib.hid (z_75.out.below hBw)
  have u_76:=Lib.hid (hE)
  have HB_76:=Lib.hid (below_trans HB_75.out hBw)
  clear hBw hb kp_75 lp_75 sa_75 sb_75 sc_75 sr_75 k2_75 k3_75 bx_75 c3_75 kc_75 wa_75 wb_75 wc_75 k12_75 z_75 HB_75
  clear h hE
  obtain⟨x76_kp_0,x76_kp_1,x76_kp_2,x76_kp_3,x76_kp_4,x76_kp_l⟩:=kp_76.out.use5
  obtain⟨x76_k2_0,x76_k2_1,x76_k2_2,x76_k2_l⟩:=k2_76.out.use3
  obtain⟨x76_k3_0,x76_k3_1,x76_k3_2,x76_k3_3,x76_k3_l⟩:=k3_76.out.use4
  obtain⟨x76_k12_0,x76_k12_1,x76_k12_2,x76_k12_l⟩:=k12_76.out.use3
  obtain⟨x76_kc_0,x76_kc_1,x76_kc_2,x76_kc_3,x76_kc_l⟩:=kc_76.out.use4
  clear x75_kp_0 x75_kp_1 x75_kp_2 x75_kp_3 x75_kp_4 x75_kp_l x75_k2_0 x75_k2_1 x75_k2_2 x75_k2_l x75_k3_0 x75_k3_1 x75_k3_2 x75_k3_3 x75_k3_l x75_k12_0 x75_k12_1 x75_k12_2 x75_k12_l x75_kc_0 x75_kc_1 x75_kc_2 x75_kc_3 x75_kc_l
  refine hKz.out _ _ jq0d (fun hHeld=>?_)
  clear hKz Kz
  refine jsp ?_
  refine jrd 23 fun Kz hKz=>?_
  go_simp
  generalize hW:w76.alloc (.cells #[.bool b76,.slice A76 n76 c76,.bool d76,.slice B76 m76 k76] 36)=w77
  have hz_77:=Lib.hid (show w77.heap.size=w76.heap.size+1 from j59e)
  have kp_77:=Lib.hid (hW▸kp_76.out.alloc_ _)
  have lp_77:=Lib.hid (hW▸lp_76.out.alloc_ _)
  have sa_77:=Lib.hid (hW▸sa_76.out.alloc_ _)
  have sb_77:=Lib.hid (hW▸sb_76.out.alloc_ _)
  have sc_77:=Lib.hid (hW▸sc_76.out.alloc_ _)
  have sr_77:=Lib.hid (hW▸sr_76.out.alloc_ _)
  have k2_77:=Lib.hid (hW▸k2_76.out.alloc_ _)
  have k3_77:=Lib.hid (hW▸k3_76.out.alloc_ _)
  have bx_77:=Lib.hid (hW▸bx_76.out.alloc_ _)
  have c3_77:=Lib.hid (hW▸c3_76.out.alloc_ _)
  have kc_77:=Lib.hid (hW▸kc_76.out.alloc_ _)
  have wa_77:=Lib.hid (hW▸wa_76.out.alloc_ _)
  have wb_77:=Lib.hid (hW▸wb_76.out.alloc_ _)
  have wc_77:=Lib.hid (hW▸wc_76.out.alloc_ _)
  have k12_77:=Lib.hid (hW▸k12_76.out.alloc_ _)
  have z_77:=Lib.hid (hW▸z_76.out.alloc_ _)
  have u_77:=Lib.hid (hW▸u_76.out.alloc_ _)
  have ru_77:Hid (RowT true 1 w77 (.slice (some ⟨w76.heap.size,0,none⟩) 1 1) 1 (fun _=>3)):=by rw [← hW];exact row1 rfl u_76.out
  have HB_77:=Lib.hid (show Below w.heap.size w w77 from hW▸halloc HB_76.out)
  clear hW kp_76 lp_76 sa_76 sb_76 sc_76 sr_76 k2_76 k3_76 bx_76 c3_76 kc_76 wa_76 wb_76 wc_76 k12_76 z_76 u_76 HB_76
  obtain⟨x77_kp_0,x77_kp_1,x77_kp_2,x77_kp_3,x77_kp_4,x77_kp_l⟩:=kp_77.out.use5
  obtain⟨x77_k2_0,x77_k2_1,x77_k2_2,x77_k2_l⟩:=k2_77.out.use3
  obtain⟨x77_k3_0,x77_k3_1,x77_k3_2,x77_k3_3,x77_k3_l⟩:=k3_77.out.use4
  obtain⟨x77_k12_0,x77_k12_1,x77_k12_2,x77_k12_l⟩:=k12_77.out.use3
  obtain⟨x77_kc_0,x77_kc_1,x77_kc_2,x77_kc_3,x77_kc_l⟩:=kc_77.out.use4
  clear x76_kp_0 x76_kp_1 x76_kp_2 x76_kp_3 x76_kp_4 x76_kp_l x76_k2_0 x76_k2_1 x76_k2_2 x76_k2_l x76_k3_0 x76_k3_1 x76_k3_2 x76_k3_3 x76_k3_l x76_k12_0 x76_k12_1 x76_k12_2 x76_k12_l x76_kc_0 x76_kc_1 x76_kc_2 x76_kc_3 x76_kc_l
  refine hKz.out _ _ jq0d (fun hHeld=>?_)
  clear hKz Kz
  refine jsp ?_
  refine jrd 24 fun Kz hKz=>?_
  go_simp
  refine Calls.mono (rsame bx_77.out ru_77.out.rowQ (fun _ _=>rfl) j0i3) ?_
  rintro e w78 ⟨rfl,hb⟩
  have hBw:=(show Below w77.heap.size w77 w78 from jc22)
  have kp_78:=Lib.hid (kp_77.out.below hBw)
  have lp_78:=Lib.hid (lp_77.out.below hBw)
  have sa_78:=Lib.hid (sa_77.out.below hBw)
  have sb_78:=Lib.hid (sb_77.out.below hBw)
  have sc_78:=Lib.hid (sc_77.out.below hBw)
  have sr_78:=Lib.hid (sr_77.out.below hBw)
  have k2_78:=Lib.hid (k2_77.out.below hBw)
  have k3_78:=Lib.hid (k3_77.out.below hBw)
  have bx_78:=Lib.hid (bx_77.out.below hBw)
  have c3_78:=Lib.hid (c3_77.out.below hBw)
  have kc_78:=Lib.hid (kc_77.out.below hBw)
  have wa_78:=Lib.hid (wa_77.out.below hBw)
  have wb_78:=Lib.hid (wb_77.out.below hBw)
  have wc_78:=Lib.hid (wc_77.out.below hBw)
  have k12_78:=Lib.hid (k12_77.out.below hBw)
  have z_78:=Lib.hid (z_77.out.below hBw)
  have u_78:=Lib.hid (u_77.out.below hBw)
  have ru_78:=Lib.hid (ru_77.out.below hBw)
  have HB_78:=Lib.hid (below_trans HB_77.out hBw)
  clear hBw hb kp_77 lp_77 sa_77 sb_77 sc_77 sr_77 k2_77 k3_77 bx_77 c3_77 kc_77 wa_77 wb_77 wc_77 k12_77 z_77 u_77 ru_77 HB_77
  obtain⟨x78_kp_0,x78_kp_1,x78_kp_2,x78_kp_3,x78_kp_4,x78_kp_l⟩:=kp_78.out.use5
  obtain⟨x78_k2_0,x78_k2_1,x78_k2_2,x78_k2_l⟩:=k2_78.out.use3
  obtain⟨x78_k3_0,x78_k3_1,x78_k3_2,x78_k3_3,x78_k3_l⟩:=k3_78.out.use4
  obtain⟨x78_k12_0,x78_k12_1,x78_k12_2,x78_k12_l⟩:=k12_78.out.use3
  obtain⟨x78_kc_0,x78_kc_1,x78_kc_2,x78_kc_3,x78_kc_l⟩:=kc_78.out.use4
  clear x77_kp_0 x77_kp_1 x77_kp_2 x77_kp_3 x77_kp_4 x77_kp_l x77_k2_0 x77_k2_1 x77_k2_2 x77_k2_l x77_k3_0 x77_k3_1 x77_k3_2 x77_k3_3 x77_k3_l x77_k12_0 x77_k12_1 x77_k12_2 x77_k12_l x77_kc_0 x77_kc_1 x77_kc_2 x77_kc_3 x77_kc_l
  refine hKz.out _ _ jq0d (fun hHeld=>?_)
  clear hKz Kz
  refine jsp ?_
  refine jtk 25 ?_
  refine jtk 26 ?_
  refine jtk 27 ?_
  refine jrd 28 fun Kz hKz=>?_
  go_simp
  refine Calls.mono (pMay_is (mayB_true.2 lpA_may) lp_78.out j0i3 j0i3) ?_
  rintro e w79 ⟨rfl,hb⟩
  have hBw:=(show Below w78.heap.size w78 w79 from jc22)
  have kp_79:=Lib.hid (kp_78.out.below hBw)
  have lp_79:=Lib.hid (lp_78.out.below hBw)
  have sa_79:=Lib.hid (sa_78.out.below hBw)
  have sb_79:=Lib.hid (sb_78.out.below hBw)
  have sc_79:=Lib.hid (sc_78.out.below hBw)
  have sr_79:=Lib.hid (sr_78.out.below hBw)
  have k2_79:=Lib.hid (k2_78.out.below hBw)
  have k3_79:=Lib.hid (k3_78.out.below hBw)
  have bx_79:=Lib.hid (bx_78.out.below hBw)
  have c3_79:=Lib.hid (c3_78.out.below hBw)
  have kc_79:=Lib.hid (kc_78.out.below hBw)
  have wa_79:=Lib.hid (wa_78.out.below hBw)
  have wb_79:=Lib.hid (wb_78.out.below hBw)
  have wc_79:=Lib.hid (wc_78.out.below hBw)
  have k12_79:=Lib.hid (k12_78.out.below hBw)
  have z_79:=Lib.hid (z_78.out.below hBw)
  have u_79:=Lib.hid (u_78.out.below hBw)
  have ru_79:=Lib.hid (ru_78.out.below hBw)
  have HB_79:=Lib.hid (below_trans HB_78.out hBw)
  clear hBw hb kp_78 lp_78 sa_78 sb_78 sc_78 sr_78 k2_78 k3_78 bx_78 c3_78 kc_78 wa_78 wb_78 wc_78 k12_78 z_78 u_78 ru_78 HB_78
  obtain⟨x79_kp_0,x79_kp_1,x79_kp_2,x79_kp_3,x79_kp_4,x79_kp_l⟩:=kp_79.out.use5
  obtain⟨x79_k2_0,x79_k2_1,x79_k2_2,x79_k2_l⟩:=k2_79.out.use3
  obtain⟨x79_k3_0,x79_k3_1,x79_k3_2,x79_k3_3,x79_k3_l⟩:=k3_79.out.use4
  obtain⟨x79_k12_0,x79_k12_1,x79_k12_2,x79_k12_l⟩:=k12_79.out.use3
  obtain⟨x79_kc_0,x79_kc_1,x79_kc_2,x79_kc_3,x79_kc_l⟩:=kc_79.out.use4
  clear x78_kp_0 x78_kp_1 x78_kp_2 x78_kp_3 x78_kp_4 x78_kp_l x78_k2_0 x78_k2_1 x78_k2_2 x78_k2_l x78_k3_0 x78_k3_1 x78_k3_2 x78_k3_3 x78_k3_l x78_k12_0 x78_k12_1 x78_k12_2 x78_k12_l x78_kc_0 x78_kc_1 x78_kc_2 x78_kc_3 x78_kc_l
  refine hKz.out _ _ jq0d (fun hHeld=>?_)
  clear hKz Kz
  refine jsp ?_
  refine jtk 29 ?_
  refine jtk 30 ?_
  refine jtk 31 ?_
  refine jrd 32 fun Kz hKz=>?_
  go_simp
  refine Calls.mono (pright ⟨_,_,_,rfl,sa_79.out,sb_79.out,sc_79.out⟩ j0i3 j0i3 j0i3 j0i3 (fun _ _=>of_decide_eq_true jo0f)) ?_
  rintro e w80 ⟨rfl,hb⟩
  have hBw:=(show Below w79.heap.size w79 w80 from jc22)
  have kp_80:=Lib.hid (kp_79.out.below hBw)
  have lp_80:=Lib.hid (lp_79.out.below hBw)
  have sa_80:=Lib.hid (sa_79.out.below hBw)
  have sb_80:=Lib.hid (sb_79.out.below hBw)
  have sc_80:=Lib.hid (sc_79.out.below hBw)
  have sr_80:=Lib.hid (sr_79.out.below hBw)
  have k2_80:=Lib.hid (k2_79.out.below hBw)
  have k3_80:=Lib.hid (k3_79.out.below hBw)
  have bx_80:=Lib.hid (bx_79.out.below hBw)
  have c3_80:=Lib.hid (c3_79.out.below hBw)
  have kc_80:=Lib.hid (kc_79.out.below hBw)
  have wa_80:=Lib.hid (wa_79.out.below hBw)
  have wb_80:=Lib.hid (wb_79.out.below hBw)
  have wc_80:=Lib.hid (wc_79.out.below hBw)
  have k12_80:=Lib.hid (k12_79.out.below hBw)
  have z_80:=Lib.hid (z_79.out.below hBw)
  have u_80:=Lib.hid (u_79.out.below hBw)
  have ru_80:=Lib.hid (ru_79.out.below hBw)
  have HB_80:=Lib.hid (below_trans HB_79.out hBw)
  clear hBw hb kp_79 lp_79 sa_79 sb_79 sc_79 sr_79 k2_79 k3_79 bx_79 c3_79 kc_79 wa_79 wb_79 wc_79 k12_79 z_79 u_79 ru_79 HB_79
  obtain⟨x80_kp_0,x80_kp_1,x80_kp_2,x80_kp_3,x80_kp_4,x80_kp_l⟩:=kp_80.out.use5
  obtain⟨x80_k2_0,x80_k2_1,x80_k2_2,x80_k2_l⟩:=k2_80.out.use3
  obtain⟨x80_k3_0,x80_k3_1,x80_k3_2,x80_k3_3,x80_k3_l⟩:=k3_80.out.use4
  obtain⟨x80_k12_0,x80_k12_1,x80_k12_2,x80_k12_l⟩:=k12_80.out.use3
  obtain⟨x80_kc_0,x80_kc_1,x80_kc_2,x80_kc_3,x80_kc_l⟩:=kc_80.out.use4
  clear x79_kp_0 x79_kp_1 x79_kp_2 x79_kp_3 x79_kp_4 x79_kp_l x79_k2_0 x79_k2_1 x79_k2_2 x79_k2_l x79_k3_0 x79_k3_1 x79_k3_2 x79_k3_3 x79_k3_l x79_k12_0 x79_k12_1 x79_k12_2 x79_k12_l x79_kc_0 x79_kc_1 x79_kc_2 x79_kc_3 x79_kc_l
  refine hKz.out _ _ jq0d (fun hHeld=>?_)
  clear hKz Kz
  refine jsp ?_
  refine jtk 33 ?_
  refine jtk 34 ?_
  refine jtk 35 ?_
  refine jtk 36 ?_
  refine jrd 37 fun Kz hKz=>?_
  go_simp
  refine Calls.mono (pful_is fulA_yes lp_80.out bx_80.out j0i3 j0i3 j0i3 j0i3) ?_
  rintro e w81 ⟨rfl,hb⟩
  have hBw:=(show Below w80.heap.size w80 w81 from jc22)
  have kp_81:=Lib.hid (kp_80.out.below hBw)
  have lp_81:=Lib.hid (lp_80.out.below hBw)
  have sa_81:=Lib.hid (sa_80.out.below hBw)
  have sb_81:=Lib.hid (sb_80.out.below hBw)
  have sc_81:=Lib.hid (sc_80.out.below hBw)
  have sr_81:=Lib.hid (sr_80.out.below hBw)
  have k2_81:=Lib.hid (k2_80.out.below hBw)
  have k3_81:=Lib.hid (k3_80.out.below hBw)
  have bx_81:=Lib.hid (bx_80.out.below hBw)
  have c3_81:=Lib.hid (c3_80.out.below hBw)
  have kc_81:=Lib.hid (kc_80.out.below hBw)
  have wa_81:=Lib.hid (wa_80.out.below hBw)
  have wb_81:=Lib.hid (wb_80.out.below hBw)
  have wc_81:=Lib.hid (wc_80.out.below hBw)
  have k12_81:=Lib.hid (k12_80.out.below hBw)
  have z_81:=Lib.hid (z_80.out.below hBw)
  have u_81:=Lib.hid (u_80.out.below hBw)
  have ru_81:=Lib.hid (ru_80.out.below hBw)
  have HB_81:=Lib.hid (below_trans HB_80.out hBw)
  clear hBw hb kp_80 lp_80 sa_80 sb_80 sc_80 sr_80 k2_80 k3_80 bx_80 c3_80 kc_80 wa_80 wb_80 wc_80 k12_80 z_80 u_80 ru_80 HB_80
  obtain⟨x81_kp_0,x81_kp_1,x81_kp_2,x81_kp_3,x81_kp_4,x81_kp_l⟩:=kp_81.out.use5
  obtain⟨x81_k2_0,x81_k2_1,x81_k2_2,x81_k2_l⟩:=k2_81.out.use3
  obtain⟨x81_k3_0,x81_k3_1,x81_k3_2,x81_k3_3,x81_k3_l⟩:=k3_81.out.use4
  obtain⟨x81_k12_0,x81_k12_1,x81_k12_2,x81_k12_l⟩:=k12_81.out.use3
  obtain⟨x81_kc_0,x81_kc_1,x81_kc_2,x81_kc_3,x81_kc_l⟩:=kc_81.out.use4
  clear x80_kp_0 x80_kp_1 x80_kp_2 x80_kp_3 x80_kp_4 x80_kp_l x80_k2_0 x80_k2_1 x80_k2_2 x80_k2_l x80_k3_0 x80_k3_1 x80_k3_2 x80_k3_3 x80_k3_l x80_k12_0 x80_k12_1 x80_k12_2 x80_k12_l x80_kc_0 x80_kc_1 x80_kc_2 x80_kc_3 x80_kc_l
  refine hKz.out _ _ jq0d (fun hHeld=>?_)
  clear hKz Kz
  refine jsp ?_
  refine jtk 38 ?_
  refine jtk 39 ?_
  refine jtk 40 ?_
  refine jrd 41 fun Kz hKz=>?_
  go_simp
  refine Calls.mono (of11_is law_d1 _ j0i3 j0i3) ?_
  rintro e w82 ⟨v,rfl,h,hb⟩
  obtain⟨b82,A82,n82,c82,d82,B82,m82,k82,rfl,-,-,-,-,-⟩:=h.form
  have hE:=EQ.of (p:=true) h bq1
  have hBw:=(show Below w81.heap.size w81 w82 from jc22)
  have kp_82:=Lib.hid (kp_81.out.below hBw)
  have lp_82:=Lib.hid (lp_81.out.below hBw)
  have sa_82:=Lib.hid (sa_81.out.below hBw)
  have sb_82:=Lib.hid (sb_81.out.below hBw)
  have sc_82:=Lib.hid (sc_81.out.below hBw)
  have sr_82:=Lib.hid (sr_81.out.below hBw)
  have k2_82:=Lib.hid (k2_81.out.below hBw)
  have k3_82:=Lib.hid (k3_81.out.below hBw)
  have bx_82:=Lib.hid (bx_81.out.below hBw)
  have c3_82:=Lib.hid (c3_81.out.below hBw)
  have kc_82:=Lib.hid (kc_81.out.below hBw)
  have wa_82:=Lib.hid (wa_81.out.below hBw)
  have wb_82:=Lib.hid (wb_81.out.below hBw)
  have wc_82:=Lib.hid (wc_81.out.below hBw)
  have k12_82:=Lib.hid (k12_81.out.below hBw)
  have z_82:=Lib.hid (z_81.out.below hBw)
  have u_82:=Lib.hid (u_81.out.below hBw)
  have ru_82:=Lib.hid (ru_81.out.below hBw)
  have v_82:=Lib.hid (hE)
  have HB_82:=Lib.hid (below_trans HB_81.out hBw)
  clear hBw hb kp_81 lp_81 sa_81 sb_81 sc_81 sr_81 k2_81 k3_81 bx_81 c3_81 kc_81 wa_81 wb_81 wc_81 k12_81 z_81 u_81 ru_81 HB_81
  clear h hE
  obtain⟨x82_kp_0,x82_kp_1,x82_kp_2,x82_kp_3,x82_kp_4,x82_kp_l⟩:=kp_82.out.use5
  obtain⟨x82_k2_0,x82_k2_1,x82_k2_2,x82_k2_l⟩:=k2_82.out.use3
  obtain⟨x82_k3_0,x82_k3_1,x82_k3_2,x82_k3_3,x82_k3_l⟩:=k3_82.out.use4
  obtain⟨x82_k12_0,x82_k12_1,x82_k12_2,x82_k12_l⟩:=k12_82.out.use3
  obtain⟨x82_kc_0,x82_kc_1,x82_kc_2,x82_kc_3,x82_kc_l⟩:=kc_82.out.use4
  clear x81_kp_0 x81_kp_1 x81_kp_2 x81_kp_3 x81_kp_4 x81_kp_l x81_k2_0 x81_k2_1 x81_k2_2 x81_k2_l x81_k3_0 x81_k3_1 x81_k3_2 x81_k3_3 x81_k3_l x81_k12_0 x81_k12_1 x81_k12_2 x81_k12_l x81_kc_0 x81_kc_1 x81_kc_2 x81_kc_3 x81_kc_l
  refine hKz.out _ _ jq0d (fun hHeld=>?_)
  clear hKz Kz
  refine jsp ?_
  refine jrd 42 fun Kz hKz=>?_
  go_simp
  generalize hW:w82.alloc (.cells #[.bool b82,.slice A82 n82 c82,.bool d82,.slice B82 m82 k82] 36)=w83
  have hz_83:=Lib.hid (show w83.heap.size=w82.heap.size+1 from j59e)
  have kp_83:=Lib.hid (hW▸kp_82.out.alloc_ _)
  have lp_83:=Lib.hid (hW▸lp_82.out.alloc_ _)
  have sa_83:=Lib.hid (hW▸sa_82.out.alloc_ _)
  have sb_83:=Lib.hid (hW▸sb_82.out.alloc_ _)
  have sc_83:=Lib.hid (hW▸sc_82.out.alloc_ _)
  have sr_83:=Lib.hid (hW▸sr_82.out.alloc_ _)
  have k2_83:=Lib.hid (hW▸k2_82.out.alloc_ _)
  have k3_83:=Lib.hid (hW▸k3_82.out.alloc_ _)
  have bx_83:=Lib.hid (hW▸bx_82.out.alloc_ _)
  have c3_83:=Lib.hid (hW▸c3_82.out.alloc_ _)
  have kc_83:=Lib.hid (hW▸kc_82.out.alloc_ _)
  have wa_83:=Lib.hid (hW▸wa_82.out.alloc_ _)
  have wb_83:=Lib.hid (hW▸wb_82.out.alloc_ _)
  have wc_83:=Lib.hid (hW▸wc_82.out.alloc_ _)
  have k12_83:=Lib.hid (hW▸k12_82.out.alloc_ _)
  have z_83:=Lib.hid (hW▸z_82.out.alloc_ _)
  have u_83:=Lib.hid (hW▸u_82.out.alloc_ _)
  have ru_83:=Lib.hid (hW▸ru_82.out.alloc_ _)
  have v_83:=Lib.hid (hW▸v_82.out.alloc_ _)
  have rv_83:Hid (RowT true 1 w83 (.slice (some ⟨w82.heap.size,0,none⟩) 1 1) 1 (fun _=>1)):=by rw [← hW];exact row1 rfl v_82.out
  have HB_83:=Lib.hid (show Below w.heap.size w w83 from hW▸halloc HB_82.out)
  clear hW kp_82 lp_82 sa_82 sb_82 sc_82 sr_82 k2_82 k3_82 bx_82 c3_82 kc_82 wa_82 wb_82 wc_82 k12_82 z_82 u_82 ru_82 v_82 HB_82
  obtain⟨x83_kp_0,x83_kp_1,x83_kp_2,x83_kp_3,x83_kp_4,x83_kp_l⟩:=kp_83.out.use5
  obtain⟨x83_k2_0,x83_k2_1,x83_k2_2,x83_k2_l⟩:=k2_83.out.use3
  obtain⟨x83_k3_0,x83_k3_1,x83_k3_2,x83_k3_3,x83_k3_l⟩:=k3_83.out.use4
  obtain⟨x83_k12_0,x83_k12_1,x83_k12_2,x83_k12_l⟩:=k12_83.out.use3
  obtain⟨x83_kc_0,x83_kc_1,x83_kc_2,x83_kc_3,x83_kc_l⟩:=kc_83.out.use4
  clear x82_kp_0 x82_kp_1 x82_kp_2 x82_kp_3 x82_kp_4 x82_kp_l x82_k2_0 x82_k2_1 x82_k2_2 x82_k2_l x82_k3_0 x82_k3_1 x82_k3_2 x82_k3_3 x82_k3_l x82_k12_0 x82_k12_1 x82_k12_2 x82_k12_l x82_kc_0 x82_kc_1 x82_kc_2 x82_kc_3 x82_kc_l
  refine hKz.out _ _ jq0d (fun hHeld=>?_)
  clear hKz Kz
  refine jsp ?_
  refine jrd 43 fun Kz hKz=>?_
  go_simp
  refine Calls.mono (pful_is fulA_no lp_83.out rv_83.out.rowQ j0i3 j0i3 j0i3 j0i3) ?_
  rintro e w84 ⟨rfl,hb⟩
  have hBw:=(show Below w83.heap.size w83 w84 from jc22)
  have kp_84:=Lib.hid (kp_83.out.below hBw)
  have lp_84:=Lib.hid (lp_83.out.below hBw)
  have sa_84:=Lib.hid (sa_83.out.below hBw)
  have sb_84:=Lib.hid (sb_83.out.below hBw)
  have sc_84:=Lib.hid (sc_83.out.below hBw)
  have sr_84:=Lib.hid (sr_83.out.below hBw)
  have k2_84:=Lib.hid (k2_83.out.below hBw)
  have k3_84:=Lib.hid (k3_83.out.below hBw)
  have bx_84:=Lib.hid (bx_83.out.below hBw)
  have c3_84:=Lib.hid (c3_83.out.below hBw)
  have kc_84:=Lib.hid (kc_83.out.below hBw)
  have wa_84:=Lib.hid (wa_83.out.below hBw)
  have wb_84:=Lib.hid (wb_83.out.below hBw)
  have wc_84:=Lib.hid (wc_83.out.below hBw)
  have k12_84:=Lib.hid (k12_83.out.below hBw)
  have z_84:=Lib.hid (z_83.out.below hBw)
  have u_84:=Lib.hid (u_83.out.below hBw)
  have ru_84:=Lib.hid (ru_83.out.below hBw)
  have v_84:=Lib.hid (v_83.out.below hBw)
  have rv_84:=Lib.hid (rv_83.out.below hBw)
  have HB_84:=Lib.hid (below_trans HB_83.out hBw)
  clear hBw hb kp_83 lp_83 sa_83 sb_83 sc_83 sr_83 k2_83 k3_83 bx_83 c3_83 kc_83 wa_83 wb_83 wc_83 k12_83 z_83 u_83 ru_83 v_83 rv_83 HB_83
  obtain⟨x84_kp_0,x84_kp_1,x84_kp_2,x84_kp_3,x84_kp_4,x84_kp_l⟩:=kp_84.out.use5
  obtain⟨x84_k2_0,x84_k2_1,x84_k2_2,x84_k2_l⟩:=k2_84.out.use3
  obtain⟨x84_k3_0,x84_k3_1,x84_k3_2,x84_k3_3,x84_k3_l⟩:=k3_84.out.use4
  obtain⟨x84_k12_0,x84_k12_1,x84_k12_2,x84_k12_l⟩:=k12_84.out.use3
  obtain⟨x84_kc_0,x84_kc_1,x84_kc_2,x84_kc_3,x84_kc_l⟩:=kc_84.out.use4
  clear x83_kp_0 x83_kp_1 x83_kp_2 x83_kp_3 x83_kp_4 x83_kp_l x83_k2_0 x83_k2_1 x83_k2_2 x83_k2_l x83_k3_0 x83_k3_1 x83_k3_2 x83_k3_3 x83_k3_l x83_k12_0 x83_k12_1 x83_k12_2 x83_k12_l x83_kc_0 x83_kc_1 x83_kc_2 x83_kc_3 x83_kc_l
  refine hKz.out _ _ jq0d (fun hHeld=>?_)
  clear hKz Kz
  refine jsp ?_
  refine jtk 44 ?_
  refine jtk 45 ?_
  refine jtk 46 ?_
  refine jtk 47 ?_
  refine jtk 48 ?_
  refine jtk 49 ?_
  refine jtk 50 ?_
  refine jrd 51 fun Kz hKz=>?_
  go_simp
  refine Calls.mono (of11_is law_d3 _ j0i3 j0i3) ?_
  rintro e w85 ⟨v,rfl,h,hb⟩
  obtain⟨b85,A85,n85,c85,d85,B85,m85,k85,rfl,-,-,-,-,-⟩:=h.form
  have hE:=EQ.of (p:=true) h bq3
  have hBw:=(show Below w84.heap.size w84 w85 from jc22)
  have kp_85:=Lib.hid (kp_84.out.below hBw)
  have lp_85:=Lib.hid (lp_84.out.below hBw)
  have sa_85:=Lib.hid (sa_84.out.below hBw)
  have sb_85:=Lib.hid (sb_84.out.below hBw)
  have sc_85:=Lib.hid (sc_84.out.below hBw)
  have sr_85:=Lib.hid (sr_84.out.below hBw)
  have k2_85:=Lib.hid (k2_84.out.below hBw)
  have k3_85:=Lib.hid (k3_84.out.below hBw)
  have bx_85:=Lib.hid (bx_84.out.below hBw)
  have c3_85:=Lib.hid (c3_84.out.below hBw)
  have kc_85:=Lib.hid (kc_84.out.below hBw)
  have wa_85:=Lib.hid (wa_84.out.below hBw)
  have wb_85:=Lib.hid (wb_84.out.below hBw)
  have wc_85:=Lib.hid (wc_84.out.below hBw)
  have k12_85:=Lib.hid (k12_84.out.below hBw)
  have z_85:=Lib.hid (z_84.out.below hBw)
  have u_85:=Lib.hid (u_84.out.below hBw)
  have ru_85:=Lib.hid (ru_84.out.below hBw)
  have v_85:=Lib.hid (v_84.out.below hBw)
  have rv_85:=Lib.hid (rv_84.out.below hBw)
  have y_85:=Lib.hid (hE)
  have HB_85:=Lib.hid (below_trans HB_84.out hBw)
  clear hBw hb kp_84 lp_84 sa_84 sb_84 sc_84 sr_84 k2_84 k3_84 bx_84 c3_84 kc_84 wa_84 wb_84 wc_84 k12_84 z_84 u_84 ru_84 v_84 rv_84 HB_84
  clear h hE
  obtain⟨x85_kp_0,x85_kp_1,x85_kp_2,x85_kp_3,x85_kp_4,x85_kp_l⟩:=kp_85.out.use5
  obtain⟨x85_k2_0,x85_k2_1,x85_k2_2,x85_k2_l⟩:=k2_85.out.use3
  obtain⟨x85_k3_0,x85_k3_1,x85_k3_2,x85_k3_3,x85_k3_l⟩:=k3_85.out.use4
  obtain⟨x85_k12_0,x85_k12_1,x85_k12_2,x85_k12_l⟩:=k12_85.out.use3
  obtain⟨x85_kc_0,x85_kc_1,x85_kc_2,x85_kc_3,x85_kc_l⟩:=kc_85.out.use4
  clear x84_kp_0 x84_kp_1 x84_kp_2 x84_kp_3 x84_kp_4 x84_kp_l x84_k2_0 x84_k2_1 x84_k2_2 x84_k2_l x84_k3_0 x84_k3_1 x84_k3_2 x84_k3_3 x84_k3_l x84_k12_0 x84_k12_1 x84_k12_2 x84_k12_l x84_kc_0 x84_kc_1 x84_kc_2 x84_kc_3 x84_kc_l
  refine hKz.out _ _ jq0d (fun hHeld=>?_)
  clear hKz Kz
  refine jsp ?_
  refine jrd 52 fun Kz hKz=>?_
  go_simp
  refine Calls.mono (rat_same c3_85.out (y_85.out.1 rfl).1 bq3 j0i3) ?_
  rintro e w86 ⟨rfl,hb⟩
  have hBw:=(show Below w85.heap.size w85 w86 from jc22)
  have kp_86:=Lib.hid (kp_85.out.below hBw)
  have lp_86:=Lib.hid (lp_85.out.below hBw)
  have sa_86:=Lib.hid (sa_85.out.below hBw)
  have sb_86:=Lib.hid (sb_85.out.below hBw)
  have sc_86:=Lib.hid (sc_85.out.below hBw)
  have sr_86:=Lib.hid (sr_85.out.below hBw)
  have k2_86:=Lib.hid (k2_85.out.below hBw)
  have k3_86:=Lib.hid (k3_85.out.below hBw)
  have bx_86:=Lib.hid (bx_85.out.below hBw)
  have c3_86:=Lib.hid (c3_85.out.below hBw)
  have kc_86:=Lib.hid (kc_85.out.below hBw)
  have wa_86:=Lib.hid (wa_85.out.below hBw)
  have wb_86:=Lib.hid (wb_85.out.below hBw)
  have wc_86:=Lib.hid (wc_85.out.below hBw)
  have k12_86:=Lib.hid (k12_85.out.below hBw)
  have z_86:=Lib.hid (z_85.out.below hBw)
  have u_86:=Lib.hid (u_85.out.below hBw)
  have ru_86:=Lib.hid (ru_85.out.below hBw)
  have v_86:=Lib.hid (v_85.out.below hBw)
  have rv_86:=Lib.hid (rv_85.out.below hBw)
  have y_86:=Lib.hid (y_85.out.below hBw)
  have HB_86:=Lib.hid (below_trans HB_85.out hBw)
  clear hBw hb kp_85 lp_85 sa_85 sb_85 sc_85 sr_85 k2_85 k3_85 bx_85 c3_85 kc_85 wa_85 wb_85 wc_85 k12_85 z_85 u_85 ru_85 v_85 rv_85 y_85 HB_85
  obtain⟨x86_kp_0,x86_kp_1,x86_kp_2,x86_kp_3,x86_kp_4,x86_kp_l⟩:=kp_86.out.use5
  obtain⟨x86_k2_0,x86_k2_1,x86_k2_2,x86_k2_l⟩:=k2_86.out.use3
  obtain⟨x86_k3_0,x86_k3_1,x86_k3_2,x86_k3_3,x86_k3_l⟩:=k3_86.out.use4
  obtain⟨x86_k12_0,x86_k12_1,x86_k12_2,x86_k12_l⟩:=k12_86.out.use3
  obtain⟨x86_kc_0,x86_kc_1,x86_kc_2,x86_kc_3,x86_kc_l⟩:=kc_86.out.use4
  clear x85_kp_0 x85_kp_1 x85_kp_2 x85_kp_3 x85_kp_4 x85_kp_l x85_k2_0 x85_k2_1 x85_k2_2 x85_k2_l x85_k3_0 x85_k3_1 x85_k3_2 x85_k3_3 x85_k3_l x85_k12_0 x85_k12_1 x85_k12_2 x85_k12_l x85_kc_0 x85_kc_1 x85_kc_2 x85_kc_3 x85_kc_l
  refine hKz.out _ _ jq0d (fun hHeld=>?_)
  clear hKz Kz
  refine jsp ?_
  refine jtk 53 ?_
  refine jtk 54 ?_
  refine wpAnyH_done jo0f ?_ _
  go_wp2
  go_ret
  exact⟨rfl,HB_86.out⟩
end Go.Proofs.YtgilnmhejjpleaaGreat
