/- Contracts of ratio: words.lowest, the closures of Add and Mul. -/
import Derived.Test.YtgilnmhejjpleaaGreatPRe
namespace Go.Proofs.YtgilnmhejjpleaaGreat
open Go.RowKit
attribute [local go_sem ↓] Go.wp_at_zero Go.wp_at_succ
set_option linter.unusedVariables false
theorem j29s {P:Prop}(h:P:=by rw [hWF]; exact Kr_5.out.own4):P:=h
theorem j2om {P:Prop}(h:P:=by first | exact x_1.out | exact x_1.out.drew_ | exact x_1.out.alloc_ _ | exact (x_1.out.alloc_ _).drew_):P:=h
theorem j3iy {P:Prop}(h:P:=by first | exact v_4.out | exact v_4.out.drew_ | exact v_4.out.alloc_ _ | exact (v_4.out.alloc_ _).drew_):P:=h
theorem j59e {P:Prop}(h:P:=by rw [← hW]; simp):P:=h
theorem j845 {P:Prop}(h:P:=by first | exact g_3.out | exact g_3.out.drew_ | exact g_3.out.alloc_ _ | exact (g_3.out.alloc_ _).drew_):P:=h
theorem jfh7 {P:Prop}(h:P:=by first | exact hb | exact bundrew hb | exact bun hb | exact bundrew (bun hb) | exact bun (bundrew hb)):P:=h
theorem jkm1 {P:Prop}(h:P:=by rw [hWF]; exact halloc (halloc (halloc (Below.refl _ _)))):P:=h
theorem jkqe {P:Prop}(h:P:=by rw [← hW]; exact halloc (halloc (halloc (Below.refl _ _)))):P:=h
theorem js60 {P:Prop}(h:P:=by rw [hWF]; exact Kr_3.out.own4):P:=h
theorem jwyo {P:Prop}(h:P:=by first | exact y_2.out | exact y_2.out.drew_ | exact y_2.out.alloc_ _ | exact (y_2.out.alloc_ _).drew_):P:=h
theorem jc21 {P:Prop}(h:P:=by rw [← hW]; exact Blk.new _ _ jupy _ _):P:=h
theorem jl14 {P:Prop}(h:P:=by rw [← hW]; exact ((Blk.new _ _ jupy _ _).alloc_ _).alloc_ _):P:=h
theorem jtbf {P:Prop}(h:P:=by rw [← hW]; exact (Blk.new _ _ jupy _ _).alloc_ _):P:=h
set_option maxRecDepth 100000 in
set_option maxHeartbeats 1000000 in
theorem wlow_any(N D:Int)(w:World)(h1 : -9223372036854775807≤N)(h2:N≤9223372036854775807)(h3:0<D)(h4:D≤9223372036854775807) :
 Calls Tryz.prog 112 #[(.agg #[.int .i64 N,.int .i64 D])] w fun e w'=>RatPost w w' e (Rat.divInt N D):=by
 obtain⟨E1,E2,hG⟩:=divInt_parts N h3
 have hg:Int.gcd D N=Int.gcd N D:=Int.gcd_comm _ _
 have DV:=Lib.hid (fun w'=>divisor_any D N w' h3 h4 h1 h2)
 rw [hg] at DV
 have hp:=den_pos' (Rat.divInt N D)
 obtain⟨p,hpe⟩ : ∃p,p=(Rat.divInt N D).num:=⟨_,rfl⟩
 obtain⟨q,hqe⟩ : ∃q,q=((Rat.divInt N D).den:Int):=⟨_,rfl⟩
 rw [← hpe] at E1
 rw [← hqe] at E2 hp
 have HP:=Lib.hid hpe
 have HQ:=Lib.hid hqe
 clear hpe hqe hg
 obtain⟨G,hGe⟩ : ∃G,G=((Int.gcd N D:Nat):Int):=⟨_,rfl⟩
 rw [← hGe] at E1 E2 DV
 have hG':0<G := j0i3
 clear hGe hG
 have hq1:N.tdiv G=p:=by rw [← E1];exact Int.mul_tdiv_cancel _ j0i3
 have hq2:D.tdiv G=q:=by rw [← E2];exact Int.mul_tdiv_cancel _ j0i3
 have hq3:D / G=q:=by rw [← E2];exact Int.mul_ediv_cancel _ j0i3
 have hG0:(G == 0)=false := jyif
 have hG1:(G != 0)=true := jha1
 have hG2 : ¬G=0 := j0i3
 have a1:p.natAbs≤N.natAbs:=by rw [← E1,Int.natAbs_mul];exact Nat.le_mul_of_pos_right _ j0i3
 have a2:q.natAbs≤D.natAbs:=by rw [← E2,Int.natAbs_mul];exact Nat.le_mul_of_pos_right _ j0i3
 have hw1:IntKind.i64.wrap p=p:=IntWalk.i64_in _ j0i3
 have hw2:IntKind.i64.wrap q=q:=IntWalk.i64_in _ j0i3
 clear E1 E2
 go_enter Tryz.func112,Tryz.ntmps112
 go_wp2_with fail
 refine Calls.mono (DV.out _) ?_
 rintro e w1 ⟨rfl,hb⟩
 have hB:=bun (bun (hb))
 have Ka_1:=Lib.hid (show Blk w1 (w.heap.size) 105 #[.int .i64 N,.int .i64 D] from((Blk.new _ _ jupy _ _).alloc_ _).below hb)
 have Kr_1:=Lib.hid (show Blk w1 (w.heap.size+1) 36 #[.bool false,.slice none 0 0,.bool false,.slice none 0 0] from(Blk.new _ _ jupy _ _).below hb)
 have HB_1:=Lib.hid (hB)
 have hs_1:w.heap.size≤w1.heap.size:=HB_1.out.size
 have hz_1:w.heap.size+2≤w1.heap.size := jrv7
 clear hB hb
 go_wp2
 obtain⟨p10,p11,l1⟩:=Ka_1.out.use2
 have tok0:True:=trivial
 have tok1:True:=trivial
 go_region_held3 (fun w'=>w'.cell? ⟨w.heap.size,0,none⟩=some (.int .i64 N)∧w'.cell? ⟨w.heap.size,1,none⟩=some (.int .i64 D)) (first | (refine⟨?_,?_⟩ <;> (first | with_reducible assumption | ((with_reducible refine Eq.trans (cell_drew _ _) ?_);with_reducible assumption) | ((rw [cell_far4 _ _ _ _ _ _ _ _ j0i3]);with_reducible assumption) | ((rw [cell_far2 _ _ _ _ _ _ j0i3]);with_reducible assumption) | go_keep)) | trivial | go_keep)
  (first
   |(go_at_call 66;have _t:=tok0;clear _t tok0;((with_reducible refine Calls.mono (of_any p _ j0i3 j0i3) ?_));rintro e w2 ⟨v,rfl,h,hb⟩;obtain⟨b2,A2,n2,c2,rfl,-,-,h⟩:=h.form;have hB:=(show Below w1.heap.size w1 w2 from jfh7);have Ka_2:=Lib.hid (Ka_1.out.below hB);have Kr_2:=Lib.hid (Kr_1.out.below hB);have p_2:=Lib.hid (h);have HB_2:=Lib.hid (below_trans HB_1.out hB);have hs_2:w.heap.size≤w2.heap.size:=HB_2.out.size;have hz_2:w1.heap.size+0≤w2.heap.size := jrv7;clear hB hb Ka_1 Kr_1 HB_1 p10 p11 l1;obtain⟨p20,p21,l2⟩:=Ka_2.out.use2)
   |(go_at_call 66;have _t:=tok1;clear _t tok1;((with_reducible refine Calls.mono (of_any q _ j0i3 j0i3) ?_));rintro e w3 ⟨v,rfl,h,hb⟩;obtain⟨b3,A3,n3,c3,rfl,-,-,h⟩:=h.form;have hB:=(show Below w2.heap.size w2 w3 from jfh7);have p_3:=Lib.hid (p_2.out.below hB);have Ka_3:=Lib.hid (Ka_2.out.below hB);have Kr_3:=Lib.hid (Kr_2.out.below hB);have q_3:=Lib.hid (h);have HB_3:=Lib.hid (below_trans HB_2.out hB);have hs_3:w.heap.size≤w3.heap.size:=HB_3.out.size;have hz_3:w2.heap.size+0≤w3.heap.size := jrv7;clear hB hb p_2 Ka_2 Kr_2 HB_2 p20 p21 l2;obtain⟨p30,p31,l3⟩:=Ka_3.out.use2;obtain⟨p40,p41,p42,p43,l4⟩:=Kr_3.out.use4;obtain⟨r40,r41,r42,r43⟩:=Kr_3.out.into4))
 go_wp2
 obtain⟨WF,hWF⟩ : ∃W,W=((((w3.setCell ⟨w.heap.size+1,0,none⟩ (.bool b2)).setCell ⟨w.heap.size+1,1,none⟩ (.slice A2 n2 c2)).setCell ⟨w.heap.size+1,2,none⟩ (.bool b3)).setCell ⟨w.heap.size+1,3,none⟩ (.slice A3 n3 c3)):=⟨_,rfl⟩
 rw [← hWF]
 have kq:Blk WF (w.heap.size+1) 36 #[.bool b2,.slice A2 n2 c2,.bool b3,.slice A3 n3 c3] := js60
 have hBF:Below w.heap.size w WF:=by rw [hWF];exact Below.set4 (HB_3.out) jvm6
 have f1:IsInt WF (.agg #[.bool b2,.slice A2 n2 c2]) p:=by rw [hWF];exact p_3.out.other4 Kr_3.out nu nu nu nu
 have f2:IsInt WF (.agg #[.bool b3,.slice A3 n3 c3]) q:=by rw [hWF];exact q_3.out.other4 Kr_3.out nu nu nu nu
 have HE:Hid (RatPost w WF (Ending.returned (.agg #[.bool b2,.slice A2 n2 c2,.bool b3,.slice A3 n3 c3])) (Rat.divInt N D)):=⟨_,rfl,⟨_,_,_,_,rfl,by rw [← HP.out];exact f1,by rw [← HQ.out];exact f2⟩,hBF⟩
 obtain⟨e0,e1,e2,e3⟩:=kq.cells4
 clear hWF
 exact bodyPost_ret (v := .agg #[.bool b2,.slice A2 n2 c2,.bool b3,.slice A3 n3 c3]) (by simp [results,Tryz.results112,go_sem,e0,e1,e2,e3] <;> omega) rfl HE.out
theorem mul31 {a b:Int}(h1 : -2147483648<a)(h2:a<2147483648)(h3 : -2147483648<b)(h4:b<2147483648) : -4611686014132420609≤a*b∧a*b≤4611686014132420609:=by
 have n:(a*b).natAbs≤2147483647*2147483647:=by rw [Int.natAbs_mul];exact Nat.mul_le_mul j0i3 j0i3
 omega
set_option maxRecDepth 100000 in
set_option maxHeartbeats 1000000 in
theorem add_short(X Y X' Y':Int)(w:World)(h1 : -2147483648<X)(h2:X<2147483648)(h0:0<Y)(h3:Y<2147483648)(h1' : -2147483648<X')(h2':X'<2147483648)(h0':0<Y')(h3':Y'<2147483648) :
 Calls Tryz.prog 87 #[(.agg #[.int .i64 X,.int .i64 Y]),(.agg #[.int .i64 X',.int .i64 Y'])] w fun e w'=>e = .returned (.agg #[.int .i64 (X*Y'+X'*Y),.int .i64 (Y*Y')])∧Below w.heap.size w w':=by
 have m0:=mul31 (a:=X) (b:=Y') j0i3 j0i3 j0i3 j0i3
 obtain⟨m0a,m0b⟩:=m0
 have m1:=mul31 (a:=X') (b:=Y) j0i3 j0i3 j0i3 j0i3
 obtain⟨m1a,m1b⟩:=m1
 have m2:=mul31 (a:=Y) (b:=Y') j0i3 j0i3 j0i3 j0i3
 obtain⟨m2a,m2b⟩:=m2
 go_enter Tryz.func87,Tryz.ntmps87
 go_wp2
 obtain⟨WF,hWF⟩ : ∃W,W=(((w.alloc (.cells #[.int .i64 X,.int .i64 Y] 105)).alloc (.cells #[.int .i64 X',.int .i64 Y'] 105)).alloc (.cells #[.int .i64 (X*Y'+X'*Y),.int .i64 (Y*Y')] 105)):=⟨_,rfl⟩
 rw [← hWF]
 have kq:Blk WF (w.heap.size+1+1) 105 #[.int .i64 (X*Y'+X'*Y),.int .i64 (Y*Y')]:=by rw [hWF];exact Blk.new _ _ jupy _ _
 have hBF:Below w.heap.size w WF := jkm1
 have HE:Hid ((Ending.returned (.agg #[.int .i64 (X*Y'+X'*Y),.int .i64 (Y*Y')]))=Ending.returned (.agg #[.int .i64 (X*Y'+X'*Y),.int .i64 (Y*Y')])∧Below w.heap.size w WF):=⟨rfl,hBF⟩
 obtain⟨e0,e1⟩:=kq.cells2
 clear hWF
 exact bodyPost_ret (v := .agg #[.int .i64 (X*Y'+X'*Y),.int .i64 (Y*Y')]) (by simp [results,Tryz.results87,go_sem,e0,e1]) rfl HE.out
set_option maxRecDepth 100000 in
set_option maxHeartbeats 1000000 in
theorem mul_short(X Y X' Y':Int)(w:World)(h1 : -2147483648<X)(h2:X<2147483648)(h0:0<Y)(h3:Y<2147483648)(h1' : -2147483648<X')(h2':X'<2147483648)(h0':0<Y')(h3':Y'<2147483648) :
 Calls Tryz.prog 124 #[(.agg #[.int .i64 X,.int .i64 Y]),(.agg #[.int .i64 X',.int .i64 Y'])] w fun e w'=>e = .returned (.agg #[.int .i64 (X*X'),.int .i64 (Y*Y')])∧Below w.heap.size w w':=by
 have m0:=mul31 (a:=X) (b:=X') j0i3 j0i3 j0i3 j0i3
 obtain⟨m0a,m0b⟩:=m0
 have m1:=mul31 (a:=Y) (b:=Y') j0i3 j0i3 j0i3 j0i3
 obtain⟨m1a,m1b⟩:=m1
 go_enter Tryz.func124,Tryz.ntmps124
 go_wp2
 obtain⟨WF,hWF⟩ : ∃W,W=(((w.alloc (.cells #[.int .i64 X,.int .i64 Y] 105)).alloc (.cells #[.int .i64 X',.int .i64 Y'] 105)).alloc (.cells #[.int .i64 (X*X'),.int .i64 (Y*Y')] 105)):=⟨_,rfl⟩
 rw [← hWF]
 have kq:Blk WF (w.heap.size+1+1) 105 #[.int .i64 (X*X'),.int .i64 (Y*Y')]:=by rw [hWF];exact Blk.new _ _ jupy _ _
 have hBF:Below w.heap.size w WF := jkm1
 have HE:Hid ((Ending.returned (.agg #[.int .i64 (X*X'),.int .i64 (Y*Y')]))=Ending.returned (.agg #[.int .i64 (X*X'),.int .i64 (Y*Y')])∧Below w.heap.size w WF):=⟨rfl,hBF⟩
 obtain⟨e0,e1⟩:=kq.cells2
 clear hWF
 exact bodyPost_ret (v := .agg #[.int .i64 (X*X'),.int .i64 (Y*Y')]) (by simp [results,Tryz.results124,go_sem,e0,e1]) rfl HE.out
def LongPost3(k:Nat)(w w':World)(e:Ending)(X Y:Int):Prop := ∃v,e = .returned v∧LimR k w' v X Y∧Below w.heap.size w w'
def ACut(w:World)(k l:Nat)(b:Bool)(A:Option Addr)(n c:Nat)(b':Bool)(A':Option Addr)(n' c':Nat)(p:Bool)(P:Option Addr)(m d:Nat)(p':Bool)(P':Option Addr)(m' d':Nat)(X Y X' Y':Int)(s5:Value)(wx:World):Prop :=
 ∃g5 bs As ns cc,s5 = .pointer (some ⟨g5,0,none⟩)∧w.heap.size+2<g5∧Blk wx g5 34 #[.bool bs,.slice As ns cc]∧LimI (k+l+1) wx (.agg #[.bool bs,.slice As ns cc]) (X*Y'+X'*Y)∧LimI k wx (.agg #[.bool b',.slice A' n' c']) Y∧LimI l wx (.agg #[.bool p',.slice P' m' d']) Y'∧Blk wx w.heap.size 36 #[.bool b,.slice A n c,.bool b',.slice A' n' c']∧Blk wx (w.heap.size+1) 36 #[.bool p,.slice P m d,.bool p',.slice P' m' d']∧Blk wx (w.heap.size+1+1) 36 #[.bool false,.slice none 0 0,.bool false,.slice none 0 0]∧Below w.heap.size w wx
set_option maxRecDepth 100000 in
set_option maxHeartbeats 4000000 in
theorem add_long(b:Bool)(A:Option Addr)(n c:Nat)(b':Bool)(A':Option Addr)(n' c':Nat)(p:Bool)(P:Option Addr)(m d:Nat)(p':Bool)(P':Option Addr)(m' d':Nat)(w:World)(k l:Nat)(X Y X' Y':Int)(hx:LimI k w (.agg #[.bool b,.slice A n c]) X)(hy:LimI k w (.agg #[.bool b',.slice A' n' c']) Y)(hx':LimI l w (.agg #[.bool p,.slice P m d]) X')(hy':LimI l w (.agg #[.bool p',.slice P' m' d']) Y')(hk:k≤100000)(hl:l≤100000) :
 Calls Tryz.prog 88 #[(.agg #[.bool b,.slice A n c,.bool b',.slice A' n' c']),(.agg #[.bool p,.slice P m d,.bool p',.slice P' m' d'])] w fun e w'=>LongPost3 (k+l+1) w w' e (X*Y'+X'*Y) (Y*Y'):=by
 have x_0:=Lib.hid hx
 have Bx:=Lib.hid hx.lt
 have y_0:=Lib.hid hy
 have By:=Lib.hid hy.lt
 have u_0:=Lib.hid hx'
 have Bu:=Lib.hid hx'.lt
 have v_0:=Lib.hid hy'
 have Bv:=Lib.hid hy'.lt
 clear hx hy hx' hy'
 have BS:Hid ((X*Y'+X'*Y).natAbs<4294967296 ^ (k+l+1)):=i_add (i_mul Bx.out Bv.out (k+l) j0i3) (i_mul Bu.out By.out (k+l) j0i3) (k+l+1) j0i3 j0i3
 go_enter Tryz.func88,Tryz.ntmps88
 go_upto_region 1 with fail
 generalize hW:(((w.alloc (.cells #[.bool b,.slice A n c,.bool b',.slice A' n' c'] 36)).alloc (.cells #[.bool p,.slice P m d,.bool p',.slice P' m' d'] 36)).alloc (.cells #[.bool false,.slice none 0 0,.bool false,.slice none 0 0] 36))=w1
 have x_1:=Lib.hid (hW▸(((x_0.out.alloc_ _).alloc_ _).alloc_ _))
 have y_1:=Lib.hid (hW▸(((y_0.out.alloc_ _).alloc_ _).alloc_ _))
 have u_1:=Lib.hid (hW▸(((u_0.out.alloc_ _).alloc_ _).alloc_ _))
 have v_1:=Lib.hid (hW▸(((v_0.out.alloc_ _).alloc_ _).alloc_ _))
 have Ka_1:=Lib.hid (show Blk w1 (w.heap.size) 36 #[.bool b,.slice A n c,.bool b',.slice A' n' c'] from jl14)
 have Kb_1:=Lib.hid (show Blk w1 (w.heap.size+1) 36 #[.bool p,.slice P m d,.bool p',.slice P' m' d'] from jtbf)
 have Kr_1:=Lib.hid (show Blk w1 (w.heap.size+1+1) 36 #[.bool false,.slice none 0 0,.bool false,.slice none 0 0] from jc21)
 have HB_1:=Lib.hid (show Below w.heap.size w w1 from jkqe)
 have hs_1:w.heap.size≤w1.heap.size:=HB_1.out.size
 have hz_1:w.heap.size+3≤w1.heap.size := j59e
 clear hW x_0 y_0 u_0 v_0
 go_cut [5] (fun s5 wx=>ACut w k l b A n c b' A' n' c' p P m d p' P' m' d' X Y X' Y' s5 wx)
 case first =>
  obtain⟨p10,p11,p12,p13,l1⟩:=Ka_1.out.use4
  obtain⟨p20,p21,p22,p23,l2⟩:=Kb_1.out.use4
  have tok0:True:=trivial
  have tok1:True:=trivial
  have tok2:True:=trivial
  go_region_held3 (fun w'=>w'.cell? ⟨w.heap.size,0,none⟩=some (.bool b)∧w'.cell? ⟨w.heap.size,1,none⟩=some (.slice A n c)∧w'.cell? ⟨w.heap.size,2,none⟩=some (.bool b')∧w'.cell? ⟨w.heap.size,3,none⟩=some (.slice A' n' c')∧w'.cell? ⟨w.heap.size+1,0,none⟩=some (.bool p)∧w'.cell? ⟨w.heap.size+1,1,none⟩=some (.slice P m d)∧w'.cell? ⟨w.heap.size+1,2,none⟩=some (.bool p')∧w'.cell? ⟨w.heap.size+1,3,none⟩=some (.slice P' m' d')) (first | (refine⟨?_,?_,?_,?_,?_,?_,?_,?_⟩ <;> (first | with_reducible assumption | ((with_reducible refine Eq.trans (cell_drew _ _) ?_);with_reducible assumption) | ((rw [cell_far4 _ _ _ _ _ _ _ _ j0i3]);with_reducible assumption) | ((rw [cell_far2 _ _ _ _ _ _ j0i3]);with_reducible assumption) | go_keep)) | trivial | go_keep)
   (first
    |(go_at_call 90;have _t:=tok0;clear _t tok0;((with_reducible refine Calls.mono (li_mul j2om (by first | exact v_1.out | exact v_1.out.drew_ | exact v_1.out.alloc_ _ | exact(v_1.out.alloc_ _).drew_) j0i3 j0i3) ?_));rintro e w2 ⟨v,rfl,h,hb⟩;obtain⟨b2,A2,n2,c2,rfl,-,-,h⟩:=h.form;have hB:=(show Below w1.heap.size w1 w2 from jfh7);have x_2:=Lib.hid (x_1.out.below hB);have y_2:=Lib.hid (y_1.out.below hB);have u_2:=Lib.hid (u_1.out.below hB);have v_2:=Lib.hid (v_1.out.below hB);have Ka_2:=Lib.hid (Ka_1.out.below hB);have Kb_2:=Lib.hid (Kb_1.out.below hB);have Kr_2:=Lib.hid (Kr_1.out.below hB);have f_2:=Lib.hid (h);have HB_2:=Lib.hid (below_trans HB_1.out hB);have hs_2:w.heap.size≤w2.heap.size:=HB_2.out.size;have hz_2:w1.heap.size+0≤w2.heap.size := jrv7;(first | (have K5:=Lib.hid (K5.out.below hB)) | (have K5:=Lib.hid (Blk.below (Blk.new _ _ rfl _ _) hb)) | (have K5:=Lib.hid (Blk.below (Blk.new _ _ rfl _ _).drew_ hb)) | skip);(try (have hg5:=K5.out.lt));clear hB hb x_1 y_1 u_1 v_1 Ka_1 Kb_1 Kr_1 HB_1 p10 p11 p12 p13 l1 p20 p21 p22 p23 l2;obtain⟨p30,p31,p32,p33,l3⟩:=Ka_2.out.use4;obtain⟨p40,p41,p42,p43,l4⟩:=Kb_2.out.use4)
    |(go_at_call 90;have _t:=tok1;clear _t tok1;((with_reducible refine Calls.mono (li_mul (by first | exact u_2.out | exact u_2.out.drew_ | exact u_2.out.alloc_ _ | exact(u_2.out.alloc_ _).drew_) jwyo j0i3 j0i3) ?_));rintro e w3 ⟨v,rfl,h,hb⟩;obtain⟨b3,A3,n3,c3,rfl,-,-,h⟩:=h.form;have hB:=(show Below w2.heap.size w2 w3 from jfh7);have x_3:=Lib.hid (x_2.out.below hB);have y_3:=Lib.hid (y_2.out.below hB);have u_3:=Lib.hid (u_2.out.below hB);have v_3:=Lib.hid (v_2.out.below hB);have f_3:=Lib.hid (f_2.out.below hB);have Ka_3:=Lib.hid (Ka_2.out.below hB);have Kb_3:=Lib.hid (Kb_2.out.below hB);have Kr_3:=Lib.hid (Kr_2.out.below hB);have g_3:=Lib.hid (h);have HB_3:=Lib.hid (below_trans HB_2.out hB);have hs_3:w.heap.size≤w3.heap.size:=HB_3.out.size;have hz_3:w2.heap.size+0≤w3.heap.size := jrv7;(first | (have K5:=Lib.hid (K5.out.below hB)) | (have K5:=Lib.hid (Blk.below (Blk.new _ _ rfl _ _) hb)) | (have K5:=Lib.hid (Blk.below (Blk.new _ _ rfl _ _).drew_ hb)) | skip);(try (have hg5:=K5.out.lt));clear hB hb x_2 y_2 u_2 v_2 f_2 Ka_2 Kb_2 Kr_2 HB_2 p30 p31 p32 p33 l3 p40 p41 p42 p43 l4;obtain⟨p50,p51,p52,p53,l5⟩:=Ka_3.out.use4;obtain⟨p60,p61,p62,p63,l6⟩:=Kb_3.out.use4)
    |(go_at_call 89;have _t:=tok2;clear _t tok2;((with_reducible refine Calls.mono (li_add (IsInt.lim (k:=k+l) (by first | exact f_3.out | exact f_3.out.drew_ | exact f_3.out.alloc_ _ | exact(f_3.out.alloc_ _).drew_) (i_mul Bx.out Bv.out (k+l) j0i3)) (IsInt.lim (k:=k+l) j845 (i_mul Bu.out By.out (k+l) j0i3)) j0i3 j0i3) ?_));rintro e w4 ⟨v,rfl,h,hb⟩;obtain⟨b4,A4,n4,c4,rfl,-,-,h⟩:=h.form;have hB:=(show Below w3.heap.size w3 w4 from jfh7);have y_4:=Lib.hid (y_3.out.below hB);have v_4:=Lib.hid (v_3.out.below hB);have Ka_4:=Lib.hid (Ka_3.out.below hB);have Kb_4:=Lib.hid (Kb_3.out.below hB);have Kr_4:=Lib.hid (Kr_3.out.below hB);have s_4:=Lib.hid (h);have HB_4:=Lib.hid (below_trans HB_3.out hB);have hs_4:w.heap.size≤w4.heap.size:=HB_4.out.size;have hz_4:w3.heap.size+0≤w4.heap.size := jrv7;(first | (have K5:=Lib.hid (K5.out.below hB)) | (have K5:=Lib.hid (Blk.below (Blk.new _ _ rfl _ _) hb)) | (have K5:=Lib.hid (Blk.below (Blk.new _ _ rfl _ _).drew_ hb)) | skip);(try (have hg5:=K5.out.lt));clear hB hb x_3 y_3 u_3 v_3 f_3 g_3 Ka_3 Kb_3 Kr_3 HB_3 p50 p51 p52 p53 l5 p60 p61 p62 p63 l6;obtain⟨p70,p71,p72,p73,l7⟩:=Ka_4.out.use4;obtain⟨p80,p81,p82,p83,l8⟩:=Kb_4.out.use4;(try (obtain⟨q0,q1,q2⟩:=K5.out.use2;obtain⟨q3,q4⟩:=K5.out.into2))))
  all_goals
   go_wp2_with fail
   go_meet
   first
   |exact⟨_,_,_,_,_,rfl,by omega,Blk.new _ _ rfl _ _,(IsInt.lim (k:=k+l+1) s_4.out BS.out).alloc_ _,y_4.out.alloc_ _,v_4.out.alloc_ _,Ka_4.out.alloc_ _,Kb_4.out.alloc_ _,Kr_4.out.alloc_ _,halloc HB_4.out⟩
   |exact⟨_,_,_,_,_,rfl,by omega,K5.out.own2',(IsInt.lim (k:=k+l+1) s_4.out BS.out).otherW K5.out nu nu,y_4.out.otherW K5.out nu nu,v_4.out.otherW K5.out nu nu,Ka_4.out.other2 j0i3,Kb_4.out.other2 j0i3,Kr_4.out.other2 j0i3,bset (bset HB_4.out j0i3) j0i3⟩
 case rest =>
  obtain⟨g5,bs,As,ns,cc,rfl,hlt5,k1,k2,k3,k4,k5,k6,k7,k8⟩:=hcut
  have Kn_4:=Lib.hid k1
  have s_4:=Lib.hid k2
  have y_4:=Lib.hid k3
  have v_4:=Lib.hid k4
  have Ka_4:=Lib.hid k5
  have Kb_4:=Lib.hid k6
  have Kr_4:=Lib.hid k7
  have HB_4:=Lib.hid k8
  have hs_4:w.heap.size≤wc.heap.size:=k8.size
  clear k1 k2 k3 k4 k5 k6 k7 k8
  try clear x_1 y_1 u_1 v_1 Ka_1 Kb_1 Kr_1 HB_1 hs_1 hz_1
  go_wp2
  obtain⟨p10,p11,p12,p13,l1⟩:=Ka_4.out.use4
  obtain⟨p20,p21,p22,p23,l2⟩:=Kb_4.out.use4
  obtain⟨p30,p31,l3⟩:=Kn_4.out.use2
  have tok0:True:=trivial
  go_region_held3 (fun w'=>w'.cell? ⟨w.heap.size,0,none⟩=some (.bool b)∧w'.cell? ⟨w.heap.size,1,none⟩=some (.slice A n c)∧w'.cell? ⟨w.heap.size,2,none⟩=some (.bool b')∧w'.cell? ⟨w.heap.size,3,none⟩=some (.slice A' n' c')∧w'.cell? ⟨w.heap.size+1,0,none⟩=some (.bool p)∧w'.cell? ⟨w.heap.size+1,1,none⟩=some (.slice P m d)∧w'.cell? ⟨w.heap.size+1,2,none⟩=some (.bool p')∧w'.cell? ⟨w.heap.size+1,3,none⟩=some (.slice P' m' d')∧w'.cell? ⟨g5,0,none⟩=some (.bool bs)∧w'.cell? ⟨g5,1,none⟩=some (.slice As ns cc)) (first | (refine⟨?_,?_,?_,?_,?_,?_,?_,?_,?_,?_⟩ <;> (first | with_reducible assumption | ((with_reducible refine Eq.trans (cell_drew _ _) ?_);with_reducible assumption) | ((rw [cell_far4 _ _ _ _ _ _ _ _ j0i3]);with_reducible assumption) | ((rw [cell_far2 _ _ _ _ _ _ j0i3]);with_reducible assumption) | go_keep)) | trivial | go_keep)
   (first
    |(go_at_call 90;have _t:=tok0;clear _t tok0;((with_reducible refine Calls.mono (li_mul (by first | exact y_4.out | exact y_4.out.drew_ | exact y_4.out.alloc_ _ | exact(y_4.out.alloc_ _).drew_) j3iy j0i3 j0i3) ?_));rintro e w5 ⟨v,rfl,h,hb⟩;obtain⟨b5,A5,n5,c5,rfl,-,-,h⟩:=h.form;have hB:=(show Below wc.heap.size wc w5 from jfh7);have s_5:=Lib.hid (s_4.out.below hB);have y_5:=Lib.hid (y_4.out.below hB);have v_5:=Lib.hid (v_4.out.below hB);have Kn_5:=Lib.hid (Kn_4.out.below hB);have Ka_5:=Lib.hid (Ka_4.out.below hB);have Kb_5:=Lib.hid (Kb_4.out.below hB);have Kr_5:=Lib.hid (Kr_4.out.below hB);have t_5:=Lib.hid (h);have HB_5:=Lib.hid (below_trans HB_4.out hB);have hs_5:w.heap.size≤w5.heap.size:=HB_5.out.size;have hz_5:wc.heap.size+0≤w5.heap.size := jrv7;clear hB hb s_4 y_4 v_4 Kn_4 Ka_4 Kb_4 Kr_4 HB_4 p10 p11 p12 p13 l1 p20 p21 p22 p23 l2 p30 p31 l3;obtain⟨p40,p41,p42,p43,l4⟩:=Ka_5.out.use4;obtain⟨p50,p51,p52,p53,l5⟩:=Kb_5.out.use4;obtain⟨p60,p61,l6⟩:=Kn_5.out.use2;obtain⟨p70,p71,p72,p73,l7⟩:=Kr_5.out.use4;obtain⟨r70,r71,r72,r73⟩:=Kr_5.out.into4))
  go_wp2
  obtain⟨WF,hWF⟩ : ∃W,W=((((w5.setCell ⟨w.heap.size+1+1,0,none⟩ (.bool bs)).setCell ⟨w.heap.size+1+1,1,none⟩ (.slice As ns cc)).setCell ⟨w.heap.size+1+1,2,none⟩ (.bool b5)).setCell ⟨w.heap.size+1+1,3,none⟩ (.slice A5 n5 c5)):=⟨_,rfl⟩
  rw [← hWF]
  have kq:Blk WF (w.heap.size+1+1) 36 #[.bool bs,.slice As ns cc,.bool b5,.slice A5 n5 c5] := j29s
  have hBF:Below w.heap.size w WF:=by rw [hWF];exact Below.set4 (HB_5.out) jvm6
  have f1:LimI (k+l+1) WF (.agg #[.bool bs,.slice As ns cc]) (X*Y'+X'*Y):=by rw [hWF];exact s_5.out.other4 Kr_5.out nu nu nu nu
  have f2:IsInt WF (.agg #[.bool b5,.slice A5 n5 c5]) (Y*Y'):=by rw [hWF];exact t_5.out.other4 Kr_5.out nu nu nu nu
  have HE:Hid (LongPost3 (k+l+1) w WF (Ending.returned (.agg #[.bool bs,.slice As ns cc,.bool b5,.slice A5 n5 c5])) (X*Y'+X'*Y) (Y*Y')):=⟨_,rfl,limR_mk f1 (f2.lim (i_mul (X:=Y) (Y:=Y') By.out Bv.out (k+l+1) j0i3)),hBF⟩
  obtain⟨e0,e1,e2,e3⟩:=kq.cells4
  clear hWF
  exact bodyPost_ret (v := .agg #[.bool bs,.slice As ns cc,.bool b5,.slice A5 n5 c5]) (by simp [results,Tryz.results88,go_sem,e0,e1,e2,e3] <;> omega) rfl HE.out
set_option maxRecDepth 100000 in
set_option maxHeartbeats 4000000 in
theorem mul_long(b:Bool)(A:Option Addr)(n c:Nat)(b':Bool)(A':Option Addr)(n' c':Nat)(p:Bool)(P:Option Addr)(m d:Nat)(p':Bool)(P':Option Addr)(m' d':Nat)(w:World)(k l:Nat)(X Y X' Y':Int)(hx:LimI k w (.agg #[.bool b,.slice A n c]) X)(hy:LimI k w (.agg #[.bool b',.slice A' n' c']) Y)(hx':LimI l w (.agg #[.bool p,.slice P m d]) X')(hy':LimI l w (.agg #[.bool p',.slice P' m' d']) Y')(hk:k≤100000)(hl:l≤100000) :
 Calls Tryz.prog 125 #[(.agg #[.bool b,.slice A n c,.bool b',.slice A' n' c']),(.agg #[.bool p,.slice P m d,.bool p',.slice P' m' d'])] w fun e w'=>LongPost3 (k+l) w w' e (X*X') (Y*Y'):=by
 have x_0:=Lib.hid hx
 have Bx:=Lib.hid hx.lt
 have y_0:=Lib.hid hy
 have By:=Lib.hid hy.lt
 have u_0:=Lib.hid hx'
 have Bu:=Lib.hid hx'.lt
 have v_0:=Lib.hid hy'
 have Bv:=Lib.hid hy'.lt
 clear hx hy hx' hy'
 go_enter Tryz.func125,Tryz.ntmps125
 go_wp2
 generalize hW:(((w.alloc (.cells #[.bool b,.slice A n c,.bool b',.slice A' n' c'] 36)).alloc (.cells #[.bool p,.slice P m d,.bool p',.slice P' m' d'] 36)).alloc (.cells #[.bool false,.slice none 0 0,.bool false,.slice none 0 0] 36))=w1
 have x_1:=Lib.hid (hW▸(((x_0.out.alloc_ _).alloc_ _).alloc_ _))
 have y_1:=Lib.hid (hW▸(((y_0.out.alloc_ _).alloc_ _).alloc_ _))
 have u_1:=Lib.hid (hW▸(((u_0.out.alloc_ _).alloc_ _).alloc_ _))
 have v_1:=Lib.hid (hW▸(((v_0.out.alloc_ _).alloc_ _).alloc_ _))
 have Ka_1:=Lib.hid (show Blk w1 (w.heap.size) 36 #[.bool b,.slice A n c,.bool b',.slice A' n' c'] from jl14)
 have Kb_1:=Lib.hid (show Blk w1 (w.heap.size+1) 36 #[.bool p,.slice P m d,.bool p',.slice P' m' d'] from jtbf)
 have Kr_1:=Lib.hid (show Blk w1 (w.heap.size+1+1) 36 #[.bool false,.slice none 0 0,.bool false,.slice none 0 0] from jc21)
 have HB_1:=Lib.hid (show Below w.heap.size w w1 from jkqe)
 have hs_1:w.heap.size≤w1.heap.size:=HB_1.out.size
 have hz_1:w.heap.size+3≤w1.heap.size := j59e
 clear hW x_0 y_0 u_0 v_0
 obtain⟨p10,p11,p12,p13,l1⟩:=Ka_1.out.use4
 obtain⟨p20,p21,p22,p23,l2⟩:=Kb_1.out.use4
 have tok0:True:=trivial
 have tok1:True:=trivial
 go_region_held3 (fun w'=>w'.cell? ⟨w.heap.size,0,none⟩=some (.bool b)∧w'.cell? ⟨w.heap.size,1,none⟩=some (.slice A n c)∧w'.cell? ⟨w.heap.size,2,none⟩=some (.bool b')∧w'.cell? ⟨w.heap.size,3,none⟩=some (.slice A' n' c')∧w'.cell? ⟨w.heap.size+1,0,none⟩=some (.bool p)∧w'.cell? ⟨w.heap.size+1,1,none⟩=some (.slice P m d)∧w'.cell? ⟨w.heap.size+1,2,none⟩=some (.bool p')∧w'.cell? ⟨w.heap.size+1,3,none⟩=some (.slice P' m' d')) (first | (refine⟨?_,?_,?_,?_,?_,?_,?_,?_⟩ <;> (first | with_reducible assumption | ((with_reducible refine Eq.trans (cell_drew _ _) ?_);with_reducible assumption) | ((rw [cell_far4 _ _ _ _ _ _ _ _ j0i3]);with_reducible assumption) | ((rw [cell_far2 _ _ _ _ _ _ j0i3]);with_reducible assumption) | go_keep)) | trivial | go_keep)
  (first
   |(go_at_call 90;have _t:=tok0;clear _t tok0;((with_reducible refine Calls.mono (li_mul j2om (by first | exact u_1.out | exact u_1.out.drew_ | exact u_1.out.alloc_ _ | exact(u_1.out.alloc_ _).drew_) j0i3 j0i3) ?_));rintro e w2 ⟨v,rfl,h,hb⟩;obtain⟨b2,A2,n2,c2,rfl,-,-,h⟩:=h.form;have hB:=(show Below w1.heap.size w1 w2 from jfh7);have x_2:=Lib.hid (x_1.out.below hB);have y_2:=Lib.hid (y_1.out.below hB);have u_2:=Lib.hid (u_1.out.below hB);have v_2:=Lib.hid (v_1.out.below hB);have Ka_2:=Lib.hid (Ka_1.out.below hB);have Kb_2:=Lib.hid (Kb_1.out.below hB);have Kr_2:=Lib.hid (Kr_1.out.below hB);have f_2:=Lib.hid (h);have HB_2:=Lib.hid (below_trans HB_1.out hB);have hs_2:w.heap.size≤w2.heap.size:=HB_2.out.size;have hz_2:w1.heap.size+0≤w2.heap.size := jrv7;clear hB hb x_1 y_1 u_1 v_1 Ka_1 Kb_1 Kr_1 HB_1 p10 p11 p12 p13 l1 p20 p21 p22 p23 l2;obtain⟨p30,p31,p32,p33,l3⟩:=Ka_2.out.use4;obtain⟨p40,p41,p42,p43,l4⟩:=Kb_2.out.use4)
   |(go_at_call 90;have _t:=tok1;clear _t tok1;((with_reducible refine Calls.mono (li_mul jwyo (by first | exact v_2.out | exact v_2.out.drew_ | exact v_2.out.alloc_ _ | exact(v_2.out.alloc_ _).drew_) j0i3 j0i3) ?_));rintro e w3 ⟨v,rfl,h,hb⟩;obtain⟨b3,A3,n3,c3,rfl,-,-,h⟩:=h.form;have hB:=(show Below w2.heap.size w2 w3 from jfh7);have x_3:=Lib.hid (x_2.out.below hB);have y_3:=Lib.hid (y_2.out.below hB);have u_3:=Lib.hid (u_2.out.below hB);have v_3:=Lib.hid (v_2.out.below hB);have f_3:=Lib.hid (f_2.out.below hB);have Ka_3:=Lib.hid (Ka_2.out.below hB);have Kb_3:=Lib.hid (Kb_2.out.below hB);have Kr_3:=Lib.hid (Kr_2.out.below hB);have g_3:=Lib.hid (h);have HB_3:=Lib.hid (below_trans HB_2.out hB);have hs_3:w.heap.size≤w3.heap.size:=HB_3.out.size;have hz_3:w2.heap.size+0≤w3.heap.size := jrv7;clear hB hb x_2 y_2 u_2 v_2 f_2 Ka_2 Kb_2 Kr_2 HB_2 p30 p31 p32 p33 l3 p40 p41 p42 p43 l4;obtain⟨p50,p51,p52,p53,l5⟩:=Ka_3.out.use4;obtain⟨p60,p61,p62,p63,l6⟩:=Kb_3.out.use4;obtain⟨p70,p71,p72,p73,l7⟩:=Kr_3.out.use4;obtain⟨r70,r71,r72,r73⟩:=Kr_3.out.into4))
 go_wp2
 obtain⟨WF,hWF⟩ : ∃W,W=((((w3.setCell ⟨w.heap.size+1+1,0,none⟩ (.bool b2)).setCell ⟨w.heap.size+1+1,1,none⟩ (.slice A2 n2 c2)).setCell ⟨w.heap.size+1+1,2,none⟩ (.bool b3)).setCell ⟨w.heap.size+1+1,3,none⟩ (.slice A3 n3 c3)):=⟨_,rfl⟩
 rw [← hWF]
 have kq:Blk WF (w.heap.size+1+1) 36 #[.bool b2,.slice A2 n2 c2,.bool b3,.slice A3 n3 c3] := js60
 have hBF:Below w.heap.size w WF:=by rw [hWF];exact Below.set4 (HB_3.out) jvm6
 have f1:IsInt WF (.agg #[.bool b2,.slice A2 n2 c2]) (X*X'):=by rw [hWF];exact f_3.out.other4 Kr_3.out nu nu nu nu
 have f2:IsInt WF (.agg #[.bool b3,.slice A3 n3 c3]) (Y*Y'):=by rw [hWF];exact g_3.out.other4 Kr_3.out nu nu nu nu
 have HE:Hid (LongPost3 (k+l) w WF (Ending.returned (.agg #[.bool b2,.slice A2 n2 c2,.bool b3,.slice A3 n3 c3])) (X*X') (Y*Y')):=⟨_,rfl,limR_mk (f1.lim (i_mul (X:=X) (Y:=X') Bx.out Bu.out (k+l) j0i3)) (f2.lim (i_mul (X:=Y) (Y:=Y') By.out Bv.out (k+l) j0i3)),hBF⟩
 obtain⟨e0,e1,e2,e3⟩:=kq.cells4
 clear hWF
 exact bodyPost_ret (v := .agg #[.bool b2,.slice A2 n2 c2,.bool b3,.slice A3 n3 c3]) (by simp [results,Tryz.results125,go_sem,e0,e1,e2,e3] <;> omega) rfl HE.out
end Go.Proofs.YtgilnmhejjpleaaGreat
