/- Contracts of prob: zero, isBelow, opposite, isSense, slack, allMay. -/
import Derived.Test.YtgilnmhejjpleaaGreatPFb
import Derived.Deep.RegionHeld3
namespace Go.Proofs.YtgilnmhejjpleaaGreat
open Go.RowKit
attribute [local go_sem ↓] Go.wp_at_zero Go.wp_at_succ
set_option linter.unusedVariables false
theorem j3l4 {P:Prop}(h:P:=by rw [← hW]; exact halloc (Below.refl _ _)):P:=h
theorem jord {P:Prop}(h:P:=by first | exact x_2.out | exact x_2.out.drew_ | exact x_2.out.alloc_ _ | exact (x_2.out.alloc_ _).drew_):P:=h
theorem jsmx {P:Prop}(h:P:=by first | exact o_2.out | exact o_2.out.drew_ | exact o_2.out.alloc_ _ | exact (o_2.out.alloc_ _).drew_):P:=h
theorem qcmp_is {k l:Nat} {w:World} {v v':Value} {x y:Rat}(r:Int)(hr:cmpQ x y=r)(hx:LimQ k w v x)(hy:LimQ l w v' y)(hk:k≤40000)(hl:l≤40000)(h1:1≤k)(h1':1≤l):Calls Tryz.prog 57 #[v,v'] w fun e w'=>e = .returned (.int .i64 r)∧Below w.heap.size w w':=hr▸q_cmp hx hy hk hl h1 h1'
theorem cmpQ_cases(x y:Rat):(x<y∧cmpQ x y = -1)∨(x=y∧cmpQ x y=0)∨(y<x∧cmpQ x y=1):=by
 unfold cmpQ
 by_cases h:x<y
 ·exact .inl ⟨h,by rw [if_pos h]⟩
 ·by_cases h2:x=y
  ·exact .inr (.inl ⟨h2,by rw [if_neg h,if_pos h2]⟩)
  ·refine .inr (.inr ⟨?_,by rw [if_neg h,if_neg h2]⟩)
   have:=Rat.not_lt.1 h
   rcases Rat.le_iff_lt_or_eq.1 this with h3 | h3
   ·exact h3
   ·exact absurd h3.symm h2
theorem pmay_is {k:Nat} {w:World} {v:Value} {X Y:Int} {r:Bool}(hr:decide (0<Y)=r)(h:LimR k w v X Y)(hk:k≤1000000):Calls Tryz.prog 84 #[v] w fun e w'=>e = .returned (.bool r)∧Below w.heap.size w w':=by
 obtain⟨b,A,n,c,b',A',n',c',rfl,ha,hb⟩:=h.form
 by_cases hY:0<Y
 ·rw [← hr,decide_eq_true hY]
  exact may_true _ _ _ _ _ _ _ _ _ k Y hb hk hY
 ·rw [← hr,decide_eq_false hY]
  exact may_false _ _ _ _ _ _ _ _ _ k Y hb hk j0i3
set_option maxRecDepth 100000 in
set_option maxHeartbeats 1000000 in
theorem pzero(w:World) :
 Calls Tryz.prog 34 #[] w fun e w'=>RatPost w w' e 0:=by
 go_enter Tryz.func34,Tryz.ntmps34
 go_wp2_with fail
 refine Calls.mono (of_any 1 _ j0i3 j0i3) ?_
 rintro e w1 ⟨v,rfl,h,hb⟩
 obtain⟨b1,A1,n1,c1,rfl,-,-,h⟩:=h.form
 have hB:=bun (hb)
 have Kr_1:=Lib.hid (show Blk w1 (w.heap.size) 36 #[.bool false,.slice none 0 0,.bool false,.slice none 0 0] from(Blk.new _ _ jupy _ _).below hb)
 have z_1:=Lib.hid (h)
 have HB_1:=Lib.hid (hB)
 have hs_1:w.heap.size≤w1.heap.size:=HB_1.out.size
 have hz_1:w.heap.size+1≤w1.heap.size := jrv7
 clear hB hb
 obtain⟨p10,p11,p12,p13,l1⟩:=Kr_1.out.use4
 obtain⟨r10,r11,r12,r13⟩:=Kr_1.out.into4
 go_wp2
 obtain⟨WF,hWF⟩ : ∃W,W=((((w1.setCell ⟨w.heap.size,0,none⟩ (.bool false)).setCell ⟨w.heap.size,1,none⟩ (.slice none 0 0)).setCell ⟨w.heap.size,2,none⟩ (.bool b1)).setCell ⟨w.heap.size,3,none⟩ (.slice A1 n1 c1)):=⟨_,rfl⟩
 rw [← hWF]
 have kq:Blk WF (w.heap.size) 36 #[.bool false,.slice none 0 0,.bool b1,.slice A1 n1 c1] := jvku
 have hBF:Below w.heap.size w WF:=by rw [hWF];exact Below.set4 (HB_1.out) jvm6
 have f1:IsInt WF (.agg #[.bool b1,.slice A1 n1 c1]) 1 := jgdd
 have HE:Hid (RatPost w WF (Ending.returned (.agg #[.bool false,.slice none 0 0,.bool b1,.slice A1 n1 c1])) 0):=⟨_,rfl,⟨false,_,b1,_,rfl,⟨_,rfl,isNat_nil _⟩,f1⟩,hBF⟩
 obtain⟨e0,e1,e2,e3⟩:=kq.cells4
 clear hWF
 exact bodyPost_ret (v := .agg #[.bool false,.slice none 0 0,.bool b1,.slice A1 n1 c1]) (by simp [results,Tryz.results34,go_sem,e0,e1,e2,e3] <;> omega) rfl HE.out
set_option maxRecDepth 100000 in
set_option maxHeartbeats 1000000 in
theorem pbelow_m(b:Bool)(A:Option Addr)(n c:Nat)(b':Bool)(A':Option Addr)(n' c':Nat)(w:World)(k:Nat)(x:Rat)(hx:LimQ k w (.agg #[.bool b,.slice A n c,.bool b',.slice A' n' c']) x)(hr:cmpQ x 0=(-1))(hk:k≤20000)(h1:1≤k) :
 Calls Tryz.prog 55 #[(.agg #[.bool b,.slice A n c,.bool b',.slice A' n' c'])] w fun e w'=>e = .returned (.bool true)∧Below w.heap.size w w':=by
 have x_0:=Lib.hid hx
 have HR:=Lib.hid hr
 clear hx hr
 go_enter Tryz.func55,Tryz.ntmps55
 go_wp2
 generalize hW:(w.alloc (.cells #[.bool b,.slice A n c,.bool b',.slice A' n' c'] 36))=w1
 have x_1:=Lib.hid (hW▸(x_0.out.alloc_ _))
 have Ka_1:=Lib.hid (show Blk w1 (w.heap.size) 36 #[.bool b,.slice A n c,.bool b',.slice A' n' c'] from jc21)
 have HB_1:=Lib.hid (show Below w.heap.size w w1 from j3l4)
 have hs_1:w.heap.size≤w1.heap.size:=HB_1.out.size
 have hz_1:w.heap.size+1≤w1.heap.size := j59e
 clear hW x_0
 obtain⟨p10,p11,p12,p13,l1⟩:=Ka_1.out.use4
 have tok0:True:=trivial
 have tok1:True:=trivial
 go_region_held3 (fun w'=>w'.cell? ⟨w.heap.size,0,none⟩=some (.bool b)∧w'.cell? ⟨w.heap.size,1,none⟩=some (.slice A n c)∧w'.cell? ⟨w.heap.size,2,none⟩=some (.bool b')∧w'.cell? ⟨w.heap.size,3,none⟩=some (.slice A' n' c')) (first | (refine⟨?_,?_,?_,?_⟩ <;> (first | with_reducible assumption | ((with_reducible refine Eq.trans (cell_drew _ _) ?_);with_reducible assumption) | ((rw [cell_far4 _ _ _ _ _ _ _ _ j0i3]);with_reducible assumption) | ((repeat rw [cell_far2 _ _ _ _ _ _ j0i3]);with_reducible assumption) | go_keep)) | trivial | go_keep)
  (first
   |(go_at_call 34;have _t:=tok0;clear _t tok0;((with_reducible refine Calls.mono (pzero _) ?_));rintro e w2 ⟨v,rfl,h,hb⟩;obtain⟨b2,A2,n2,c2,d2,B2,m2,k2,rfl,-,-,-,-,-⟩:=h.form;have hB:=(show Below w1.heap.size w1 w2 from jfh7);have x_2:=Lib.hid (x_1.out.below hB);have Ka_2:=Lib.hid (Ka_1.out.below hB);have o_2:=Lib.hid (h.limQ (k:=1) (bq_zero j0i3));have HB_2:=Lib.hid (below_trans HB_1.out hB);have hs_2:w.heap.size≤w2.heap.size:=HB_2.out.size;have hz_2:w1.heap.size+0≤w2.heap.size := jrv7;clear hB hb x_1 Ka_1 HB_1 p10 p11 p12 p13 l1;obtain⟨p20,p21,p22,p23,l2⟩:=Ka_2.out.use4)
   |(go_at_call 57;have _t:=tok1;clear _t tok1;((with_reducible refine Calls.mono (qcmp_is (-1) HR.out jord jsmx j0i3 j0i3 h1 j0i3) ?_));rintro e w3 ⟨rfl,hb⟩;have hB:=(show Below w2.heap.size w2 w3 from jfh7);have x_3:=Lib.hid (x_2.out.below hB);have o_3:=Lib.hid (o_2.out.below hB);have Ka_3:=Lib.hid (Ka_2.out.below hB);have HB_3:=Lib.hid (below_trans HB_2.out hB);have hs_3:w.heap.size≤w3.heap.size:=HB_3.out.size;have hz_3:w2.heap.size+0≤w3.heap.size := jrv7;clear hB hb x_2 o_2 Ka_2 HB_2 p20 p21 p22 p23 l2;obtain⟨p30,p31,p32,p33,l3⟩:=Ka_3.out.use4))
 go_wp2
 go_ret
 exact⟨rfl,HB_3.out⟩
set_option maxRecDepth 100000 in
set_option maxHeartbeats 1000000 in
theorem pbelow_z(b:Bool)(A:Option Addr)(n c:Nat)(b':Bool)(A':Option Addr)(n' c':Nat)(w:World)(k:Nat)(x:Rat)(hx:LimQ k w (.agg #[.bool b,.slice A n c,.bool b',.slice A' n' c']) x)(hr:cmpQ x 0=0)(hk:k≤20000)(h1:1≤k) :
 Calls Tryz.prog 55 #[(.agg #[.bool b,.slice A n c,.bool b',.slice A' n' c'])] w fun e w'=>e = .returned (.bool false)∧Below w.heap.size w w':=by
 have x_0:=Lib.hid hx
 have HR:=Lib.hid hr
 clear hx hr
 go_enter Tryz.func55,Tryz.ntmps55
 go_wp2
 generalize hW:(w.alloc (.cells #[.bool b,.slice A n c,.bool b',.slice A' n' c'] 36))=w1
 have x_1:=Lib.hid (hW▸(x_0.out.alloc_ _))
 have Ka_1:=Lib.hid (show Blk w1 (w.heap.size) 36 #[.bool b,.slice A n c,.bool b',.slice A' n' c'] from jc21)
 have HB_1:=Lib.hid (show Below w.heap.size w w1 from j3l4)
 have hs_1:w.heap.size≤w1.heap.size:=HB_1.out.size
 have hz_1:w.heap.size+1≤w1.heap.size := j59e
 clear hW x_0
 obtain⟨p10,p11,p12,p13,l1⟩:=Ka_1.out.use4
 have tok0:True:=trivial
 have tok1:True:=trivial
 go_region_held3 (fun w'=>w'.cell? ⟨w.heap.size,0,none⟩=some (.bool b)∧w'.cell? ⟨w.heap.size,1,none⟩=some (.slice A n c)∧w'.cell? ⟨w.heap.size,2,none⟩=some (.bool b')∧w'.cell? ⟨w.heap.size,3,none⟩=some (.slice A' n' c')) (first | (refine⟨?_,?_,?_,?_⟩ <;> (first | with_reducible assumption | ((with_reducible refine Eq.trans (cell_drew _ _) ?_);with_reducible assumption) | ((rw [cell_far4 _ _ _ _ _ _ _ _ j0i3]);with_reducible assumption) | ((repeat rw [cell_far2 _ _ _ _ _ _ j0i3]);with_reducible assumption) | go_keep)) | trivial | go_keep)
  (first
   |(go_at_call 34;have _t:=tok0;clear _t tok0;((with_reducible refine Calls.mono (pzero _) ?_));rintro e w2 ⟨v,rfl,h,hb⟩;obtain⟨b2,A2,n2,c2,d2,B2,m2,k2,rfl,-,-,-,-,-⟩:=h.form;have hB:=(show Below w1.heap.size w1 w2 from jfh7);have x_2:=Lib.hid (x_1.out.below hB);have Ka_2:=Lib.hid (Ka_1.out.below hB);have o_2:=Lib.hid (h.limQ (k:=1) (bq_zero j0i3));have HB_2:=Lib.hid (below_trans HB_1.out hB);have hs_2:w.heap.size≤w2.heap.size:=HB_2.out.size;have hz_2:w1.heap.size+0≤w2.heap.size := jrv7;clear hB hb x_1 Ka_1 HB_1 p10 p11 p12 p13 l1;obtain⟨p20,p21,p22,p23,l2⟩:=Ka_2.out.use4)
   |(go_at_call 57;have _t:=tok1;clear _t tok1;((with_reducible refine Calls.mono (qcmp_is 0 HR.out jord jsmx j0i3 j0i3 h1 j0i3) ?_));rintro e w3 ⟨rfl,hb⟩;have hB:=(show Below w2.heap.size w2 w3 from jfh7);have x_3:=Lib.hid (x_2.out.below hB);have o_3:=Lib.hid (o_2.out.below hB);have Ka_3:=Lib.hid (Ka_2.out.below hB);have HB_3:=Lib.hid (below_trans HB_2.out hB);have hs_3:w.heap.size≤w3.heap.size:=HB_3.out.size;have hz_3:w2.heap.size+0≤w3.heap.size := jrv7;clear hB hb x_2 o_2 Ka_2 HB_2 p20 p21 p22 p23 l2;obtain⟨p30,p31,p32,p33,l3⟩:=Ka_3.out.use4))
 go_wp2
 go_ret
 exact⟨rfl,HB_3.out⟩
set_option maxRecDepth 100000 in
set_option maxHeartbeats 1000000 in
theorem pbelow_p(b:Bool)(A:Option Addr)(n c:Nat)(b':Bool)(A':Option Addr)(n' c':Nat)(w:World)(k:Nat)(x:Rat)(hx:LimQ k w (.agg #[.bool b,.slice A n c,.bool b',.slice A' n' c']) x)(hr:cmpQ x 0=1)(hk:k≤20000)(h1:1≤k) :
 Calls Tryz.prog 55 #[(.agg #[.bool b,.slice A n c,.bool b',.slice A' n' c'])] w fun e w'=>e = .returned (.bool false)∧Below w.heap.size w w':=by
 have x_0:=Lib.hid hx
 have HR:=Lib.hid hr
 clear hx hr
 go_enter Tryz.func55,Tryz.ntmps55
 go_wp2
 generalize hW:(w.alloc (.cells #[.bool b,.slice A n c,.bool b',.slice A' n' c'] 36))=w1
 have x_1:=Lib.hid (hW▸(x_0.out.alloc_ _))
 have Ka_1:=Lib.hid (show Blk w1 (w.heap.size) 36 #[.bool b,.slice A n c,.bool b',.slice A' n' c'] from jc21)
 have HB_1:=Lib.hid (show Below w.heap.size w w1 from j3l4)
 have hs_1:w.heap.size≤w1.heap.size:=HB_1.out.size
 have hz_1:w.heap.size+1≤w1.heap.size := j59e
 clear hW x_0
 obtain⟨p10,p11,p12,p13,l1⟩:=Ka_1.out.use4
 have tok0:True:=trivial
 have tok1:True:=trivial
 go_region_held3 (fun w'=>w'.cell? ⟨w.heap.size,0,none⟩=some (.bool b)∧w'.cell? ⟨w.heap.size,1,none⟩=some (.slice A n c)∧w'.cell? ⟨w.heap.size,2,none⟩=some (.bool b')∧w'.cell? ⟨w.heap.size,3,none⟩=some (.slice A' n' c')) (first | (refine⟨?_,?_,?_,?_⟩ <;> (first | with_reducible assumption | ((with_reducible refine Eq.trans (cell_drew _ _) ?_);with_reducible assumption) | ((rw [cell_far4 _ _ _ _ _ _ _ _ j0i3]);with_reducible assumption) | ((repeat rw [cell_far2 _ _ _ _ _ _ j0i3]);with_reducible assumption) | go_keep)) | trivial | go_keep)
  (first
   |(go_at_call 34;have _t:=tok0;clear _t tok0;((with_reducible refine Calls.mono (pzero _) ?_));rintro e w2 ⟨v,rfl,h,hb⟩;obtain⟨b2,A2,n2,c2,d2,B2,m2,k2,rfl,-,-,-,-,-⟩:=h.form;have hB:=(show Below w1.heap.size w1 w2 from jfh7);have x_2:=Lib.hid (x_1.out.below hB);have Ka_2:=Lib.hid (Ka_1.out.below hB);have o_2:=Lib.hid (h.limQ (k:=1) (bq_zero j0i3));have HB_2:=Lib.hid (below_trans HB_1.out hB);have hs_2:w.heap.size≤w2.heap.size:=HB_2.out.size;have hz_2:w1.heap.size+0≤w2.heap.size := jrv7;clear hB hb x_1 Ka_1 HB_1 p10 p11 p12 p13 l1;obtain⟨p20,p21,p22,p23,l2⟩:=Ka_2.out.use4)
   |(go_at_call 57;have _t:=tok1;clear _t tok1;((with_reducible refine Calls.mono (qcmp_is 1 HR.out jord jsmx j0i3 j0i3 h1 j0i3) ?_));rintro e w3 ⟨rfl,hb⟩;have hB:=(show Below w2.heap.size w2 w3 from jfh7);have x_3:=Lib.hid (x_2.out.below hB);have o_3:=Lib.hid (o_2.out.below hB);have Ka_3:=Lib.hid (Ka_2.out.below hB);have HB_3:=Lib.hid (below_trans HB_2.out hB);have hs_3:w.heap.size≤w3.heap.size:=HB_3.out.size;have hz_3:w2.heap.size+0≤w3.heap.size := jrv7;clear hB hb x_2 o_2 Ka_2 HB_2 p20 p21 p22 p23 l2;obtain⟨p30,p31,p32,p33,l3⟩:=Ka_3.out.use4))
 go_wp2
 go_ret
 exact⟨rfl,HB_3.out⟩
theorem pbelow_is {k:Nat} {w:World} {v:Value} {q:Rat} {r:Bool}(hr:decide (q<0)=r)(h:LimQ k w v q)(hk:k≤20000)(h1:1≤k):Calls Tryz.prog 55 #[v] w fun e w'=>e = .returned (.bool r)∧Below w.heap.size w w':=by
 obtain⟨⟨b,A,n,c,b',A',n',c'⟩,rfl⟩:=h.parts
 rcases cmpQ_cases q 0 with ⟨h2,h3⟩ | ⟨h2,h3⟩ | ⟨h2,h3⟩
 ·rw [← hr,decide_eq_true h2]
  exact pbelow_m _ _ _ _ _ _ _ _ _ k q h h3 hk h1
 ·rw [← hr,decide_eq_false (by rw [h2];exact Rat.lt_irrefl)]
  exact pbelow_z _ _ _ _ _ _ _ _ _ k q h h3 hk h1
 ·rw [← hr,decide_eq_false (Rat.not_lt.2 (Rat.le_of_lt h2))]
  exact pbelow_p _ _ _ _ _ _ _ _ _ k q h h3 hk h1
set_option maxRecDepth 100000 in
set_option maxHeartbeats 1000000 in
theorem popp0(b:Bool)(A:Option Addr)(n c:Nat)(b':Bool)(A':Option Addr)(n' c':Nat)(w:World)(k:Nat)(x:Rat)(hx:LimQ k w (.agg #[.bool b,.slice A n c,.bool b',.slice A' n' c']) x)(hk:k≤20000)(h1:1≤k) :
 Calls Tryz.prog 72 #[(.agg #[.bool b,.slice A n c,.bool b',.slice A' n' c'])] w fun e w'=>RatPost w w' e (0 - x):=by
 have x_0:=Lib.hid hx
 clear hx
 go_enter Tryz.func72,Tryz.ntmps72
 go_wp2
 generalize hW:((w.alloc (.cells #[.bool b,.slice A n c,.bool b',.slice A' n' c'] 36)).alloc (.cells #[.bool false,.slice none 0 0,.bool false,.slice none 0 0] 36))=w1
 have x_1:=Lib.hid (hW▸((x_0.out.alloc_ _).alloc_ _))
 have Ka_1:=Lib.hid (show Blk w1 (w.heap.size) 36 #[.bool b,.slice A n c,.bool b',.slice A' n' c'] from jtbf)
 have Kr_1:=Lib.hid (show Blk w1 (w.heap.size+1) 36 #[.bool false,.slice none 0 0,.bool false,.slice none 0 0] from jc21)
 have HB_1:=Lib.hid (show Below w.heap.size w w1 from j0v2)
 have hs_1:w.heap.size≤w1.heap.size:=HB_1.out.size
 have hz_1:w.heap.size+2≤w1.heap.size := j59e
 clear hW x_0
 obtain⟨p10,p11,p12,p13,l1⟩:=Ka_1.out.use4
 have tok0:True:=trivial
 have tok1:True:=trivial
 go_region_held3 (fun w'=>w'.cell? ⟨w.heap.size,0,none⟩=some (.bool b)∧w'.cell? ⟨w.heap.size,1,none⟩=some (.slice A n c)∧w'.cell? ⟨w.heap.size,2,none⟩=some (.bool b')∧w'.cell? ⟨w.heap.size,3,none⟩=some (.slice A' n' c')) (first | (refine⟨?_,?_,?_,?_⟩ <;> (first | with_reducible assumption | ((with_reducible refine Eq.trans (cell_drew _ _) ?_);with_reducible assumption) | ((rw [cell_far4 _ _ _ _ _ _ _ _ j0i3]);with_reducible assumption) | ((repeat rw [cell_far2 _ _ _ _ _ _ j0i3]);with_reducible assumption) | go_keep)) | trivial | go_keep)
  (first
   |(go_at_call 34;have _t:=tok0;clear _t tok0;((with_reducible refine Calls.mono (pzero _) ?_));rintro e w2 ⟨v,rfl,h,hb⟩;obtain⟨b2,A2,n2,c2,d2,B2,m2,k2,rfl,-,-,-,-,-⟩:=h.form;have hB:=(show Below w1.heap.size w1 w2 from jfh7);have x_2:=Lib.hid (x_1.out.below hB);have Ka_2:=Lib.hid (Ka_1.out.below hB);have Kr_2:=Lib.hid (Kr_1.out.below hB);have o_2:=Lib.hid (h.limQ (k:=1) (bq_zero j0i3));have HB_2:=Lib.hid (below_trans HB_1.out hB);have hs_2:w.heap.size≤w2.heap.size:=HB_2.out.size;have hz_2:w1.heap.size+0≤w2.heap.size := jrv7;clear hB hb x_1 Ka_1 Kr_1 HB_1 p10 p11 p12 p13 l1;obtain⟨p20,p21,p22,p23,l2⟩:=Ka_2.out.use4)
   |(go_at_call 67;have _t:=tok1;clear _t tok1;((with_reducible refine Calls.mono (q_sub jsmx jord j0i3 j0i3 j0i3 h1) ?_));rintro e w3 ⟨v,rfl,h,hb⟩;obtain⟨b3,A3,n3,c3,d3,B3,m3,k3,rfl,-,-,-,h1,h2⟩:=h.form;have hB:=(show Below w2.heap.size w2 w3 from jfh7);have x_3:=Lib.hid (x_2.out.below hB);have o_3:=Lib.hid (o_2.out.below hB);have Ka_3:=Lib.hid (Ka_2.out.below hB);have Kr_3:=Lib.hid (Kr_2.out.below hB);have z_3:=Lib.hid (h1);have z2_3:=Lib.hid (h2);have HB_3:=Lib.hid (below_trans HB_2.out hB);have hs_3:w.heap.size≤w3.heap.size:=HB_3.out.size;have hz_3:w2.heap.size+0≤w3.heap.size := jrv7;clear hB hb x_2 o_2 Ka_2 Kr_2 HB_2 p20 p21 p22 p23 l2;obtain⟨p30,p31,p32,p33,l3⟩:=Ka_3.out.use4;obtain⟨p40,p41,p42,p43,l4⟩:=Kr_3.out.use4;obtain⟨r40,r41,r42,r43⟩:=Kr_3.out.into4))
 go_wp2
 obtain⟨WF,hWF⟩ : ∃W,W=((((w3.setCell ⟨w.heap.size+1,0,none⟩ (.bool b3)).setCell ⟨w.heap.size+1,1,none⟩ (.slice A3 n3 c3)).setCell ⟨w.heap.size+1,2,none⟩ (.bool d3)).setCell ⟨w.heap.size+1,3,none⟩ (.slice B3 m3 k3)):=⟨_,rfl⟩
 rw [← hWF]
 have kq:Blk WF (w.heap.size+1) 36 #[.bool b3,.slice A3 n3 c3,.bool d3,.slice B3 m3 k3] := js60
 have hBF:Below w.heap.size w WF:=by rw [hWF];exact Below.set4 (HB_3.out) jvm6
 have f1:IsInt WF (.agg #[.bool b3,.slice A3 n3 c3]) (0 - x).num := jcr2
 have f2:IsInt WF (.agg #[.bool d3,.slice B3 m3 k3]) ((0 - x).den:Int) := jjr2
 have HE:Hid (RatPost w WF (Ending.returned (.agg #[.bool b3,.slice A3 n3 c3,.bool d3,.slice B3 m3 k3])) (0 - x)):=⟨_,rfl,⟨_,_,_,_,rfl,f1,f2⟩,hBF⟩
 obtain⟨e0,e1,e2,e3⟩:=kq.cells4
 clear hWF
 exact bodyPost_ret (v := .agg #[.bool b3,.slice A3 n3 c3,.bool d3,.slice B3 m3 k3]) (by simp [results,Tryz.results72,go_sem,e0,e1,e2,e3] <;> omega) rfl HE.out
theorem popp {k:Nat} {w:World} {v:Value} {x:Rat}(h:LimQ k w v x)(hk:k≤20000)(h1:1≤k):Calls Tryz.prog 72 #[v] w fun e w'=>RatPost w w' e (-x):=by
 obtain⟨⟨b,A,n,c,b',A',n',c'⟩,rfl⟩:=h.parts
 have:=popp0 b A n c b' A' n' c' w k x h hk h1
 rw [show(0:Rat) - x = -x by rw [Rat.sub_eq_add_neg,Rat.zero_add]] at this
 exact this
set_option maxRecDepth 100000 in
theorem psense_0(s:Int)(w:World)(h:s=0) :
 Calls Tryz.prog 49 #[.int .i64 s] w fun e w'=>e = .returned (.bool true)∧w'=w:=by
 subst h
 go_enter Tryz.func49,Tryz.ntmps49
 go_wp2
 go_ret
 exact⟨rfl,rfl⟩
set_option maxRecDepth 100000 in
theorem psense_1(s:Int)(w:World)(h:s=1) :
 Calls Tryz.prog 49 #[.int .i64 s] w fun e w'=>e = .returned (.bool true)∧w'=w:=by
 subst h
 go_enter Tryz.func49,Tryz.ntmps49
 go_wp2
 go_ret
 exact⟨rfl,rfl⟩
set_option maxRecDepth 100000 in
theorem psense_2(s:Int)(w:World)(h:s=2) :
 Calls Tryz.prog 49 #[.int .i64 s] w fun e w'=>e = .returned (.bool true)∧w'=w:=by
 subst h
 go_enter Tryz.func49,Tryz.ntmps49
 go_wp2
 go_ret
 exact⟨rfl,rfl⟩
set_option maxRecDepth 100000 in
theorem psense_n(s:Int)(w:World)(h0:s≠0)(h1:s≠1)(h2:s≠2) :
 Calls Tryz.prog 49 #[.int .i64 s] w fun e w'=>e = .returned (.bool false)∧w'=w:=by
 have e0:(s == 0)=false := jd4n
 have e1:(s == 1)=false:=by rw [beq_eq_false_iff_ne];exact h1
 have e2:(s == 2)=false:=by rw [beq_eq_false_iff_ne];exact h2
 go_enter Tryz.func49,Tryz.ntmps49
 go_wp2
 go_ret
 exact⟨by simp,rfl⟩
theorem psense_is {s:Int} {w:World} {r:Bool}(hr:decide (s=0∨s=1∨s=2)=r):Calls Tryz.prog 49 #[.int .i64 s] w fun e w'=>e = .returned (.bool r)∧w'=w:=by
 by_cases h0:s=0
 ·rw [← hr,decide_eq_true (.inl h0)];exact psense_0 s w h0
 ·by_cases h1:s=1
  ·rw [← hr,decide_eq_true (.inr (.inl h1))];exact psense_1 s w h1
  ·by_cases h2:s=2
   ·rw [← hr,decide_eq_true (.inr (.inr h2))];exact psense_2 s w h2
   ·rw [← hr,decide_eq_false j0i3];exact psense_n s w h0 h1 h2
set_option maxRecDepth 100000 in
theorem pslack_2(s:Int)(w:World)(h:s=2) :
 Calls Tryz.prog 70 #[.int .i64 s] w fun e w'=>e = .returned (.int .i64 (-1))∧w'=w:=by
 subst h
 go_enter Tryz.func70,Tryz.ntmps70
 go_wp2
 go_ret
 exact⟨rfl,rfl⟩
set_option maxRecDepth 100000 in
theorem pslack_n(s:Int)(w:World)(h:s≠2) :
 Calls Tryz.prog 70 #[.int .i64 s] w fun e w'=>e = .returned (.int .i64 (1))∧w'=w:=by
 go_enter Tryz.func70,Tryz.ntmps70
 go_wp2
 go_ret
 exact⟨rfl,rfl⟩
theorem pslack(s:Int)(w:World):Calls Tryz.prog 70 #[.int .i64 s] w fun e w'=>e = .returned (.int .i64 (slkU s))∧w'=w:=by
 by_cases h:s=2
 ·rw [show slkU s = -1 by unfold slkU;rw [if_pos h]];exact pslack_2 s w h
 ·rw [show slkU s=1 by unfold slkU;rw [if_neg h]];exact pslack_n s w h
def TabN(k:Nat)(w:World)(v:Value)(m:Nat)(R:Nat→RowX):Prop :=
 ∃A c,v = .slice A m c∧Fits A m c∧m≤1000000∧∀i,i<m→∃ad r,A=some ad∧ad.block<w.heap.size∧w.cell? (ad.add i)=some r∧RowN k w r (R i)
section
variable {k m:Nat} {w w':World} {v:Value} {R:Nat→RowX}
theorem TabN.below(h:TabN k w v m R)(hb:Below w.heap.size w w'):TabN k w' v m R:=by
 obtain⟨A,c,h0,h1,h2,h3⟩:=h
 refine⟨A,c,h0,h1,h2,fun i hi=>?_⟩
 obtain⟨ad,r,e,h4,h5,h6⟩:=h3 i hi
 exact⟨ad,r,e,Nat.lt_of_lt_of_le h4 hb.size,(hb.cell (p:=ad.add i) j74y).trans h5,h6.below hb⟩
theorem TabN.tabQ(h:TabN k w v m R):TabQ false k w v m (fun i=>(R i).n) (fun i=>(R i).q):=by
 obtain⟨A,c,h0,h1,h2,h3⟩:=h
 refine⟨A,c,h0,h1,h2,fun i hi=>?_⟩
 obtain⟨ad,r,e,h4,h5,h6⟩:=h3 i hi
 exact⟨ad,r,e,h4,h5,h6.rowQ⟩
theorem TabN.len(h:TabN k w v m R) : ∃A c,v = .slice A m c∧m≤c∧m≤1000000:=by
 obtain⟨A,c,h0,h1,h2,h3⟩:=h
 exact⟨A,c,h0,h1.1,h2⟩
theorem TabN.at_(h:TabN k w v m R) {i:Nat}(hi:i<m) : ∃ad c A' c',v = .slice (some ad) m c∧m≤1000000∧ad.block<w.heap.size∧w.cell? (ad.add i)=some (.slice A' (R i).n c')∧(R i).n≤c'∧(R i).n≤1000000∧RowN k w (.slice A' (R i).n c') (R i):=by
 obtain⟨A,c,rfl,h1,h2,h3⟩:=h
 obtain⟨ad,r,rfl,h4,h5,h6⟩:=h3 i hi
 obtain⟨A',c',rfl,h7,h8⟩:=h6.len
 exact⟨ad,c,A',c',rfl,h2,h4,h5,h7,h8,h6⟩
end
set_option maxRecDepth 100000 in
set_option maxHeartbeats 2000000 in
theorem pallMay {k m:Nat} {w:World} {v:Value} {R:Nat→RowX}(h:TabN k w v m R)(hk:k≤1000000) :
 Calls Tryz.prog 50 #[v] w fun e w'=>(∃b,e = .returned (.bool b)∧(b=true↔∀i,i<m→(R i).mays))∧Below w.heap.size w w':=by
 obtain⟨A,c,rfl,hc,hm⟩:=h.len
 have H:=Lib.hid h
 clear h
 go_enter Tryz.func50,Tryz.ntmps50
 go_wp2
 go_loopw [9] (fun v9 wr => ∃ (i:Nat),v9 = .int .i64 (i:Nat)∧i≤m∧Below w.heap.size w wr∧∀j,j<i→(R j).mays) (fun v9 _=>m - (intOf v9).toNat)
 case atStart=>exact⟨0,rfl,Nat.zero_le _,Below.refl _ _,fun j hj=>absurd hj j0i3⟩
 case round =>
  obtain⟨i,rfl,hi,hbw,hinv⟩:=hrel
  have HB:=Lib.hid hbw
  have HI:=Lib.hid hinv
  clear hinv hbw
  obtain⟨wo,rfl⟩ : ∃x,x=wr:=⟨_,rfl⟩
  by_cases hlt:i<m
  ·have hi0:(0:Int)≤(i:Int):=by omega
   have hik:(i:Int)<(m:Int) := j0i3
   obtain⟨ad,c1,A',c',e1,_,hb,hcell,hl1,hl2,hr⟩:=(H.out.below HB.out).at_ hlt
   simp only [Value.slice.injEq] at e1
   obtain⟨rfl,_,rfl⟩:=e1
   have HR:=Lib.hid hr
   clear hr
   obtain⟨ni,hni⟩ : ∃x,x=(R i).n:=⟨_,rfl⟩
   rw [← hni] at hcell hl1 hl2
   have HN:=Lib.hid hni
   clear hni
   go_wp2
   go_loopw [15] (fun v15 wr => ∃ (j:Nat),v15 = .int .i64 (j:Nat)∧j≤ni∧Below wo.heap.size wo wr∧∀q,q<j→0<(R i).b q) (fun v15 _=>ni - (intOf v15).toNat)
   case atStart=>exact⟨0,rfl,Nat.zero_le _,Below.refl _ _,fun j hj=>absurd hj j0i3⟩
   case round =>
    obtain⟨j,rfl,hj,hbw,hinv⟩:=hrel
    have HB2:=Lib.hid hbw
    have HI2:=Lib.hid hinv
    clear hinv hbw
    by_cases hlt2:j<ni
    ·have hj0:(0:Int)≤(j:Int):=by omega
     have hjk:(j:Int)<(ni:Int) := j0i3
     obtain⟨bd,c2,⟨xb,xA,xn,xc,xd,xB,xm,xk⟩,e1,_,_,⟨a0,a1,a2,a3,a4⟩,hE⟩:=(HR.out.below HB2.out).at_ (show j<(R i).n by rw [← HN.out];exact hlt2)
     simp only [Value.slice.injEq] at e1
     obtain⟨rfl,_,rfl⟩:=e1
     have HE:=Lib.hid hE
     clear hE
     by_cases hM:0<(R i).b j
     ·go_wp2_with fail
      refine Calls.mono (pmay_is (decide_eq_true hM) (HE.out.alloc_ _) hk) ?_
      rintro e w3 ⟨rfl,hb3⟩
      have HB3:=Lib.hid (below_trans HB2.out (bun hb3))
      clear hb3
      go_wp2
      go_roundw
      case rel=>exact⟨j+1,by go_num,by omega,HB3.out,fun q hq=>by
       by_cases hqj:q=j
       ·subst hqj;exact hM
       ·exact HI2.out q j0i3⟩
      case measure=>simp [intOf];omega
     ·go_wp2_with fail
      refine Calls.mono (pmay_is (decide_eq_false j0i3) (HE.out.alloc_ _) hk) ?_
      rintro e w3 ⟨rfl,hb3⟩
      have HB3:=Lib.hid (below_trans HB.out (below_trans HB2.out (bun hb3)))
      clear hb3
      go_wp2
      go_ret
      exact⟨⟨_,rfl,fun h => j40t,fun h=>absurd (h i hlt j (by rw [← HN.out];exact hlt2)) j0i3⟩,HB3.out⟩
    ·obtain rfl:j=ni:=by omega
     have HB3:=Lib.hid (below_trans HB.out HB2.out)
     go_wp2
     go_roundw
     case rel=>exact⟨i+1,by go_num,by omega,HB3.out,fun q hq=>by
      by_cases hqi:q=i
      ·subst hqi;exact fun j' hj'=>HI2.out j' (by rw [HN.out];exact hj')
      ·exact HI.out q j0i3⟩
     case measure=>simp [intOf];omega
  ·obtain rfl:i=m:=by omega
   go_wp2
   go_ret
   exact⟨⟨_,rfl,fun _=>HI.out,fun _=>rfl⟩,HB.out⟩
theorem pallMay_is {k m:Nat} {w:World} {v:Value} {R:Nat→RowX} {r:Bool}(h:TabN k w v m R)(hk:k≤1000000)(hr:r=true↔∀i,i<m→(R i).mays) :
 Calls Tryz.prog 50 #[v] w fun e w'=>e = .returned (.bool r)∧Below w.heap.size w w':=(pallMay h hk).mono fun e w' ⟨⟨b,e1,h1⟩,h2⟩=>⟨by rw [e1,Bool.eq_iff_iff.2 (h1.trans hr.symm)],h2⟩
end Go.Proofs.YtgilnmhejjpleaaGreat
